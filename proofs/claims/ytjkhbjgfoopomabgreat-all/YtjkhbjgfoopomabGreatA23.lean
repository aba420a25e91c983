import Derived.Test.YtjkhbjgfoopomabGreatA22
namespace Go.Proofs.YtjkhbjgfoopomabGreat
open Go.RowKit
set_option maxRecDepth 100000
set_option maxHeartbeats 1000000
set_option linter.unusedVariables false
set_option linter.unusedSimpArgs false
theorem rej_full (f t i l p g a : Nat) (m : List UInt8) (kk : Int) (hi : i < 4294967296) (hl : l < 256) (w : World) (B node : Nat) (ac : List Ac) (ls : List Lg) (va vl : Value) (hX : XB w B node ac ls va vl) (hap : Apart B va vl) (hokl : ∀ x, x ∈ ls → x.ok) (hlenl : 128 ≤ ls.length) (hlen2 : ls.length ≤ 1000000) (hj : ls.length ≤ findB i l ls) :
  Calls Tryz.prog 163 #[.pointer (some ⟨B, 0, none⟩), .agg #[.int .u8 kk, .int .u8 (f : Int), .int .u8 (t : Int), .int .u32 (i : Int), .int .u8 (l : Int), .int .u16 (p : Int), .int .u16 (g : Int), .int .u32 (a : Int), .string (bs m)]] w fun e w' =>
   e = .returned (.tuple #[.int .u8 0, .int .i64 10]) ∧ XBTo w w' B node ac ls va vl va vl := by
 have hF := hide (fun u (hu : XB u B node ac ls va vl) => find_any i l hi hl u B node ac ls va vl hu hokl hlen2)
 have hK := hide (fun u (hu : XB u B node ac ls va vl) => keep_full (bareLg i l) u B node ac ls va vl hu hlenl hlen2)
 generalize hb : bareLg i l = X0 at *
 have hXX : X0 = ⟨i, l, 4, 0, 0, 0, []⟩ := hb.symm
 clear hb
 generalize findB i l ls = j at *
 obtain ⟨ad, cap, hv, hev⟩ := hX.lrow.form Lg.cells_length
 subst hv
 clear hev
 have hc : ∀ o, _ = _ := fun o => cell_at hX.blk o
 have hBl := hX.lt
 have d1 : decide ((j : Int) ≥ (ls.length : Int)) = true := by simp; omega
 have d2 : decide ((ls.length : Int) ≤ (j : Int)) = true := by simp; omega
 have hK2 : Hid (∀ u, XB u B node ac ls va (.slice ad ls.length cap) → Calls Tryz.prog 168 #[.pointer (some ⟨B, 0, none⟩), .agg #[.int .u32 (i : Int), .int .u8 (l : Int), .int .u8 4, .int .u16 0, .int .u16 0, .int .u32 0, .string ⟨#[]⟩]] u fun e w' => e = .returned (.int .i64 10) ∧ Below u.heap.size u w') := hide (fun u hu => by
  have h := hK.out u hu;rw [hXX] at h
  exact h)
 clear hK hXX
 go_enter Tryz.func163, Tryz.ntmps163
 go_wp2_with fail
 refine (hF.out _ (hX.below ((Below.refl _ _).alloc (Nat.le_refl _) _))).mono ?_
 rintro e w1 ⟨rfl, rfl⟩
 clear hF
 go_wp2_with fail
 refine (hK2.out _ (hX.below ((Below.refl _ _).alloc (Nat.le_refl _) _))).mono ?_
 rintro e w2 ⟨rfl, hb2⟩
 have hB := all_kept hb2
 clear hK2 hc hb2
 go_wp2
 go_ret2
 exact ⟨rfl, XBTo.same hX hap hB⟩
theorem prep_full (f t i l p g a : Nat) (m : List UInt8) (hm : m.length ≤ 64) (kk : Int) (hi : i < 4294967296) (hl : l < 256) (hp : p < 65536) (hg : g < 65536) (ha : a < 4294967296) (w : World) (B node : Nat) (ac : List Ac) (ls : List Lg) (va vl : Value) (hX : XB w B node ac ls va vl) (hap : Apart B va vl) (hoka : ∀ x, x ∈ ac → x.ok) (hokl : ∀ x, x ∈ ls → x.ok) (hlena : ac.length ≤ 1000000) (hlenl : 128 ≤ ls.length) (hlen2 : ls.length ≤ 1000000)
  (hh : ∀ a, heldL a ls ≤ balL a ac) (hd : ∀ a, dueL a ls < 4294967296) (hj : ls.length ≤ findB i l ls) (st : Nat) (hst : st = if canX p g a ac ls then 1 else 2) :
  Calls Tryz.prog 161 #[.pointer (some ⟨B, 0, none⟩), .agg #[.int .u8 kk, .int .u8 (f : Int), .int .u8 (t : Int), .int .u32 (i : Int), .int .u8 (l : Int), .int .u16 (p : Int), .int .u16 (g : Int), .int .u32 (a : Int), .string (bs m)]] w fun e w' =>
   e = .returned (.tuple #[.int .u8 0, .int .i64 10]) ∧ XBTo w w' B node ac ls va vl va vl := by
 have hTm := hide (fun u => termsOf_any 0 f t i l p g a m hm kk u)
 have hF := hide (fun u (hu : XB u B node ac ls va vl) => find_any i l hi hl u B node ac ls va vl hu hokl hlen2)
 have hCn := hide (fun u (hu : XB u B node ac ls va vl) => canHold_any p g a m hp hg ha u B node ac ls va vl hu hoka hokl hlena hlen2 hh hd)
 have hst2 : st < 256 := by rw [hst]; split <;> omega
 have hK := hide (fun u (hu : XB u B node ac ls va vl) => keep_full ⟨i, l, st, p, g, a, m⟩ u B node ac ls va vl hu hlenl hlen2)
 clear hh hd
 generalize canX p g a ac ls = cx at *
 generalize findB i l ls = j at *
 simp only at hK
 obtain ⟨ad, cap, hv, hev⟩ := hX.lrow.form Lg.cells_length
 subst hv
 clear hev
 have hc : ∀ o, _ = _ := fun o => cell_at hX.blk o
 have hBl := hX.lt
 have d1 : decide ((j : Int) < (ls.length : Int)) = false := by simp; omega
 have main : ∀ (sn : Int), (st : Int) = sn → cx = decide (sn = 1) → (sn = 1 ∨ sn = 2) → Calls Tryz.prog 161 #[.pointer (some ⟨B, 0, none⟩), .agg #[.int .u8 kk, .int .u8 (f : Int), .int .u8 (t : Int), .int .u32 (i : Int), .int .u8 (l : Int), .int .u16 (p : Int), .int .u16 (g : Int), .int .u32 (a : Int), .string (bs m)]] w fun e w' =>
   e = .returned (.tuple #[.int .u8 0, .int .i64 10]) ∧ XBTo w w' B node ac ls va (.slice ad ls.length cap) va (.slice ad ls.length cap) := by
  intro sn hsn hcx hor;rw [hsn] at hK;clear hsn hst hst2;go_enter Tryz.func161, Tryz.ntmps161;go_wp2_with fail
  refine (hTm.out _).mono ?_;rintro e w1 ⟨rfl, hb1⟩;have B1 := (Box.mk0 _ _ _).below hb1;have hcm := B1.cell;have hltm := B1.lt;clear hTm hb1;go_wp2_with fail
  refine (hF.out _ (hX.below (B1.alloc _).bel)).mono ?_;rintro e w2 ⟨rfl, rfl⟩;have B2 := B1.alloc (.cells #[.int .u16 (p : Int), .int .u16 (g : Int), .int .u32 (a : Int), .string (bs m)] 149);have hXb := hX.below B2.bel;clear hF hc;have hc : ∀ o, _ = _ := fun o => cell_at hXb.blk o;go_wp2_with fail
  refine (hCn.out _ hXb).mono ?_;rintro e w3 ⟨rfl, hb3⟩;have B3 := B2.below hb3;have hct := fun o => cel_kept hb3 o;have hltt := lt_kept hb3;have hXc := hX.below B3.bel;clear hcm hltm hCn hb3 hc;have hcm := B3.cell;have hltm := B3.lt;rcases hor with rfl | rfl
  ·simp only [decide_true] at hcx;subst hcx;go_wp2_with fail
   refine (hK.out _ hXc).mono ?_;rintro e w4 ⟨rfl, hb4⟩;have hB := (B3.below hb4).bel;clear hb4 hK hcm hct;go_wp2;go_ret2;exact ⟨rfl, XBTo.same hX hap hB⟩
  ·have hcx' : cx = false := by rw [hcx]; decide
   subst hcx';clear hcx;go_wp2_with fail
   refine (hK.out _ hXc).mono ?_;rintro e w4 ⟨rfl, hb4⟩;have hB := (B3.below hb4).bel;clear hb4 hK hcm hct;go_wp2;go_ret2;exact ⟨rfl, XBTo.same hX hap hB⟩
 cases cx with
 | true => exact main 1 (by rw [hst]; rfl) (by decide) (.inl rfl)
 | false => exact main 2 (by rw [hst]; rfl) (by decide) (.inr rfl)
theorem follow1 (f t i l p g a : Nat) (m : List UInt8) (w : World) (B st er : Nat) (P : World → Prop)
  (hC : ∀ u, Below w.heap.size w u → Calls Tryz.prog 161 #[.pointer (some ⟨B, 0, none⟩), .agg #[.int .u8 1, .int .u8 (f : Int), .int .u8 (t : Int), .int .u32 (i : Int), .int .u8 (l : Int), .int .u16 (p : Int), .int .u16 (g : Int), .int .u32 (a : Int), .string (bs m)]] u fun e w' => e = .returned (.tuple #[.int .u8 (st : Int), .int .i64 (er : Int)]) ∧ P w') :
  Calls Tryz.prog 146 #[.pointer (some ⟨B, 0, none⟩), .agg #[.int .u8 1, .int .u8 (f : Int), .int .u8 (t : Int), .int .u32 (i : Int), .int .u8 (l : Int), .int .u16 (p : Int), .int .u16 (g : Int), .int .u32 (a : Int), .string (bs m)]] w fun e w' => e = .returned (.tuple #[.int .u8 (st : Int), .int .i64 (er : Int)]) ∧ P w' := by
 replace hC := hide hC
 go_enter Tryz.func146, Tryz.ntmps146
 go_wp2_with fail
 refine (hC.out _ ((Below.refl _ _).alloc (Nat.le_refl _) _)).mono ?_
 rintro e w1 ⟨rfl, hP⟩
 replace hP := hide hP
 clear hC
 go_wp2
 go_ret2
 exact ⟨rfl, hP.out⟩
theorem follow2 (f t i l p g a : Nat) (m : List UInt8) (w : World) (B st er : Nat) (P : World → Prop)
  (hC : ∀ u, Below w.heap.size w u → Calls Tryz.prog 162 #[.pointer (some ⟨B, 0, none⟩), .agg #[.int .u8 2, .int .u8 (f : Int), .int .u8 (t : Int), .int .u32 (i : Int), .int .u8 (l : Int), .int .u16 (p : Int), .int .u16 (g : Int), .int .u32 (a : Int), .string (bs m)]] u fun e w' => e = .returned (.tuple #[.int .u8 (st : Int), .int .i64 (er : Int)]) ∧ P w') :
  Calls Tryz.prog 146 #[.pointer (some ⟨B, 0, none⟩), .agg #[.int .u8 2, .int .u8 (f : Int), .int .u8 (t : Int), .int .u32 (i : Int), .int .u8 (l : Int), .int .u16 (p : Int), .int .u16 (g : Int), .int .u32 (a : Int), .string (bs m)]] w fun e w' => e = .returned (.tuple #[.int .u8 (st : Int), .int .i64 (er : Int)]) ∧ P w' := by
 replace hC := hide hC
 go_enter Tryz.func146, Tryz.ntmps146
 go_wp2_with fail
 refine (hC.out _ ((Below.refl _ _).alloc (Nat.le_refl _) _)).mono ?_
 rintro e w1 ⟨rfl, hP⟩
 replace hP := hide hP
 clear hC
 go_wp2
 go_ret2
 exact ⟨rfl, hP.out⟩
theorem follow3 (f t i l p g a : Nat) (m : List UInt8) (w : World) (B st er : Nat) (P : World → Prop)
  (hC : ∀ u, Below w.heap.size w u → Calls Tryz.prog 163 #[.pointer (some ⟨B, 0, none⟩), .agg #[.int .u8 3, .int .u8 (f : Int), .int .u8 (t : Int), .int .u32 (i : Int), .int .u8 (l : Int), .int .u16 (p : Int), .int .u16 (g : Int), .int .u32 (a : Int), .string (bs m)]] u fun e w' => e = .returned (.tuple #[.int .u8 (st : Int), .int .i64 (er : Int)]) ∧ P w') :
  Calls Tryz.prog 146 #[.pointer (some ⟨B, 0, none⟩), .agg #[.int .u8 3, .int .u8 (f : Int), .int .u8 (t : Int), .int .u32 (i : Int), .int .u8 (l : Int), .int .u16 (p : Int), .int .u16 (g : Int), .int .u32 (a : Int), .string (bs m)]] w fun e w' => e = .returned (.tuple #[.int .u8 (st : Int), .int .i64 (er : Int)]) ∧ P w' := by
 replace hC := hide hC
 go_enter Tryz.func146, Tryz.ntmps146
 go_wp2_with fail
 refine (hC.out _ ((Below.refl _ _).alloc (Nat.le_refl _) _)).mono ?_
 rintro e w1 ⟨rfl, hP⟩
 replace hP := hide hP
 clear hC
 go_wp2
 go_ret2
 exact ⟨rfl, hP.out⟩
structure XHanded (w w' : World) (B node : Nat) (ac' : List Ac) (ls' : List Lg) (va vl va' vl' lv : Value) (outs : List (List UInt8)) : Prop where
 to : XBTo w w' B node ac' ls' va vl va' vl'
 row : RowOf w' 9 1 strCell lv outs
 fresh : ∀ g, lv.ownBlock = some g → w.heap.size ≤ g ∧ va'.ownBlock ≠ some g ∧ vl'.ownBlock ≠ some g
theorem XHanded.nil {w u : World} {B node : Nat} {ac' : List Ac} {ls' : List Lg} {va vl va' vl' : Value} (h : XBTo w u B node ac' ls' va vl va' vl') : XHanded w u B node ac' ls' va vl va' vl' (.slice none 0 0) [] :=
 ⟨h, RowOf.nil _ _, fun g hg => by simp [Value.ownBlock] at hg⟩
theorem XHanded.single {w u u2 : World} {B node : Nat} {ac' : List Ac} {ls' : List Lg} {va vl va' vl' : Value} (h : XBTo w u B node ac' ls' va vl va' vl') (hb : Below u.heap.size u u2) (ans : List UInt8) :
  XHanded w (u2.alloc (.cells #[.string (bs ans)] 9)) B node ac' ls' va vl va' vl' (.slice (some ⟨u2.heap.size, 0, none⟩) 1 1) [ans] := by
 have h2 := h.then hb
 have h3 := h2.then ((Below.refl _ _).alloc (Nat.le_refl _) (.cells #[.string (bs ans)] 9))
 refine ⟨h3, ⟨rfl, .inr ⟨u2.heap.size, 1, #[.string (bs ans)], rfl, Nat.zero_le _, heap_alloc_self _ _, Nat.le_refl _, by unfold maxLen; omega, rfl, rfl⟩⟩, ?_⟩
 intro g hg
 have : g = u2.heap.size := by simpa [Value.ownBlock] using hg.symm
 subst this
 refine ⟨h2.kept.size, fun e => ?_, fun e => ?_⟩
 ·have := h2.xb.arow.lt e; omega
 ·have := h2.xb.lrow.lt e; omega
theorem xHandle_dec (s : ByteArray) (hs : s.size ≤ maxLen) (w : World) (B node : Nat) (ac : List Ac) (ls : List Lg) (va vl : Value) (hX : XB w B node ac ls va vl) (hap : Apart B va vl) (he0 : decErr s.data.toList ≠ 0) (her : decErr s.data.toList < 100) :
  Calls Tryz.prog 114 #[.pointer (some ⟨B, 0, none⟩), .string s] w fun e w' => e = .returned (.tuple #[.slice none 0 0, .string ⟨#[]⟩, .int .i64 (decErr s.data.toList : Int)]) ∧ XBTo w w' B node ac ls va vl va vl := by
 have hD := hide (decode_any s hs)
 generalize decErr s.data.toList = er at *
 generalize decMsg s.data.toList = x at *
 obtain ⟨k, f, t', i, l, p, g, a, m⟩ := x
 simp only [Msg.v, Msg.cells] at hD
 have d0 : ((er : Int) != 0) = true := by simp; omega
 go_enter Tryz.func114, Tryz.ntmps114
 go_wp2_with fail
 refine (hD.out _).mono ?_
 rintro e w1 ⟨rfl, hb⟩
 clear hD
 go_wp2
 go_ret3
 exact ⟨rfl, XBTo.same hX hap (hb.alloc hb.size _)⟩
theorem XHanded.then {w u u2 : World} {B node : Nat} {ac' : List Ac} {ls' : List Lg} {va vl va' vl' lv : Value} {outs : List (List UInt8)} (h : XHanded w u B node ac' ls' va vl va' vl' lv outs) (hb : Below u.heap.size u u2) : XHanded w u2 B node ac' ls' va vl va' vl' lv outs :=
 ⟨h.to.then hb, h.row.below hb, h.fresh⟩
theorem xHandle_ok (s : ByteArray) (hs : s.size ≤ maxLen) (w : World) (B : Nat) (ac ac' : List Ac) (ls : List Lg) (va vl va' : Value) (k f t i l p g a : Nat) (m : List UInt8) (hm64 : m.length ≤ 64) (hxok : (⟨k, f, t, i, l, p, g, a, m⟩ : Msg).ok) (st : Nat) (hst : 1 ≤ st ∧ st ≤ 4) (hl : l < 4) (ht : 1 ≤ t ∧ t ≤ 7) (hX : XB w B t ac ls va vl) (hlok : ∀ x, x ∈ ls → x.ok) (hlen : ls.length ≤ 1000000) (he0 : decErr s.data.toList = 0) (hx : decMsg s.data.toList = ⟨k, f, t, i, l, p, g, a, m⟩) (Q : List Lg → Prop)
  (hC : ∀ u, Below w.heap.size w u → Calls Tryz.prog 146 #[.pointer (some ⟨B, 0, none⟩), .agg #[.int .u8 (k : Int), .int .u8 (f : Int), .int .u8 (t : Int), .int .u32 (i : Int), .int .u8 (l : Int), .int .u16 (p : Int), .int .u16 (g : Int), .int .u32 (a : Int), .string (bs m)]] u fun e w' => e = .returned (.tuple #[.int .u8 (st : Int), .int .i64 0]) ∧ ∃ ls' vl', Q ls' ∧ XBTo u w' B t ac' ls' va vl va' vl') :
  Calls Tryz.prog 114 #[.pointer (some ⟨B, 0, none⟩), .string s] w fun e w' => ∃ lv, e = .returned (.tuple #[lv, .string (bs (if st = stL i l ls then [] else frameOf ⟨k, f, t, i, l, p, g, a, m⟩)), .int .i64 0]) ∧ ∃ ls' vl', Q ls' ∧ XHanded w w' B t ac' ls' va vl va' vl' lv [ansOf t i l st] := by
 have hi : i < 4294967296 := hxok.2.2.2.1
 have hD := hide (decode_any s hs)
 rw [he0, hx] at hD
 clear he0 hx
 replace hC := hide hC
 have hR := hide (fun u ls' vl' (hu : XB u B t ac' ls' va' vl') => report_any i l st hi hl hst u B t ht ac' ls' va' vl' hu)
 have hSt := hide (fun u (hu : XB u B t ac ls va vl) => state_any i l hi (by omega) u B t ac ls va vl hu hlok hlen)
 have hSp := hide (fun u => spell_any ⟨k, f, t, i, l, p, g, a, m⟩ hxok hm64 u)
 have hsb := stL_lt (id := i) (l := l) hlok
 generalize stL i l ls = sb at *
 generalize hFr : frameOf ⟨k, f, t, i, l, p, g, a, m⟩ = FR at *
 replace hFr := hide hFr
 generalize ansOf t i l st = A at *
 have hL1 : Hid (st = sb → (if st = sb then [] else FR) = []) := hide (fun h => if_pos h)
 have hL2 : Hid (st ≠ sb → (if st = sb then [] else FR) = FR) := hide (fun h => if_neg h)
 generalize (if st = sb then [] else FR) = LG at *
 simp only [Msg.v, Msg.cells] at hD hSp
 have hBl := hX.lt
 have hcs : ((t : Int) != (t : Int)) = false := by simp
 go_enter Tryz.func114, Tryz.ntmps114
 go_wp2_with fail
 refine (hD.out _).mono ?_
 rintro e w1 ⟨rfl, hb⟩
 have hX1 := hX.below hb
 have hc : ∀ o, _ = _ := fun o => cell_at hX1.blk o
 have hBl1 := hX1.lt
 clear hD
 go_wp2_with fail
 go_quiet (fail)
 have B1 := (Box.mk0 w1 #[Value.int .u8 (k : Int), .int .u8 (f : Int), .int .u8 (t : Int), .int .u32 (i : Int), .int .u8 (l : Int), .int .u16 (p : Int), .int .u16 (g : Int), .int .u32 (a : Int), .string (bs m)] 102).drewN nq
 generalize World.drewN _ _ = w2 at *
 have hcm := B1.cell
 have hlt1 := B1.lt
 have hbw2 := hb.trans (B1.bel.mono hb.size)
 clear hc
 go_wp2_with fail
 refine (hSt.out _ (hX.below hbw2)).mono ?_
 rintro e w2' ⟨rfl, rfl⟩
 clear hSt
 go_wp2_with fail
 refine (hC.out _ hbw2).mono ?_
 rintro e w3 ⟨rfl, ls', vl', hQ, hT⟩
 have hto := XBTo.from hbw2 hT
 have hno : ¬ xfoot B va vl w1.heap.size := fun h => by
  rcases h with h | h | h
  ·omega
  ·have := hX.arow.lt h; have := hb.size; omega
  ·have := hX.lrow.lt h; have := hb.size; omega
 have hcm3 : ∀ o, w3.cell? ⟨w1.heap.size, o, none⟩ = _ := fun o => (hT.kept.cell (p := ⟨w1.heap.size, o, none⟩) hlt1 hno).trans (hcm o)
 have hlt3 := Nat.lt_of_lt_of_le hlt1 hT.kept.size
 clear hcm hC
 have H := hide (And.intro hQ hto)
 have hRR := hide (hR.out w3 ls' vl' hT.xb)
 clear hR hQ hto
 go_wp2_with fail
 refine hRR.out.mono ?_
 rintro e w4 ⟨rfl, hb4⟩
 have hcm4 : ∀ o, w4.cell? ⟨w1.heap.size, o, none⟩ = _ := fun o => (hb4.cell hlt3).trans (hcm3 o)
 have hlt4 := Nat.lt_of_lt_of_le hlt3 hb4.size
 clear hRR hcm3
 by_cases hss : st = sb
 ·have d9 : ((st : Int) == (sb : Int)) = true := by simp; omega
  have hq := hide (hL1.out hss);clear hss hcm4 hL1 hL2;go_wp2;go_ret3;exact ⟨_, by rw [hq.out]; rfl, ls', vl', H.out.1, XHanded.single H.out.2 hb4 A⟩
 ·have d9 : ((st : Int) == (sb : Int)) = false := by simp; omega
  have hq := hide (hL2.out hss);clear hss hL1 hL2;go_wp2_with fail
  refine (hSp.out _).mono ?_;rintro e w5 ⟨rfl, hb5⟩;clear hSp hcm4;go_wp2;go_ret3;exact ⟨_, by rw [hq.out]; rfl, ls', vl', H.out.1, (XHanded.single H.out.2 hb4 A).then hb5⟩
theorem xHandle_err (s : ByteArray) (hs : s.size ≤ maxLen) (w : World) (B : Nat) (ac : List Ac) (ls : List Lg) (va vl : Value) (k f t i l p g a : Nat) (m : List UInt8) (er : Nat) (her : er ≠ 0) (hX : XB w B t ac ls va vl) (he0 : decErr s.data.toList = 0) (hx : decMsg s.data.toList = ⟨k, f, t, i, l, p, g, a, m⟩) (hap : Apart B va vl) (hi : i < 4294967296) (hl : l < 256) (hlok : ∀ x, x ∈ ls → x.ok) (hlen : ls.length ≤ 1000000)
  (hC : ∀ u, Below w.heap.size w u → Calls Tryz.prog 146 #[.pointer (some ⟨B, 0, none⟩), .agg #[.int .u8 (k : Int), .int .u8 (f : Int), .int .u8 (t : Int), .int .u32 (i : Int), .int .u8 (l : Int), .int .u16 (p : Int), .int .u16 (g : Int), .int .u32 (a : Int), .string (bs m)]] u fun e w' => e = .returned (.tuple #[.int .u8 0, .int .i64 (er : Int)]) ∧ XBTo u w' B t ac ls va vl va vl) :
  Calls Tryz.prog 114 #[.pointer (some ⟨B, 0, none⟩), .string s] w fun e w' => e = .returned (.tuple #[.slice none 0 0, .string ⟨#[]⟩, .int .i64 (er : Int)]) ∧ XBTo w w' B t ac ls va vl va vl := by
 have hD := hide (decode_any s hs)
 rw [he0, hx] at hD
 clear he0 hx
 replace hC := hide hC
 have hSt := hide (fun u (hu : XB u B t ac ls va vl) => state_any i l hi hl u B t ac ls va vl hu hlok hlen)
 generalize stL i l ls = sb at *
 have d0 : ((er : Int) != 0) = true := by simp; omega
 simp only [Msg.v, Msg.cells] at hD
 have hBl := hX.lt
 have hcs : ((t : Int) != (t : Int)) = false := by simp
 go_enter Tryz.func114, Tryz.ntmps114
 go_wp2_with fail
 refine (hD.out _).mono ?_
 rintro e w1 ⟨rfl, hb⟩
 have hX1 := hX.below hb
 have hc : ∀ o, _ = _ := fun o => cell_at hX1.blk o
 have hBl1 := hX1.lt
 clear hD
 go_wp2_with fail
 go_quiet (fail)
 have B1 := (Box.mk0 w1 #[Value.int .u8 (k : Int), .int .u8 (f : Int), .int .u8 (t : Int), .int .u32 (i : Int), .int .u8 (l : Int), .int .u16 (p : Int), .int .u16 (g : Int), .int .u32 (a : Int), .string (bs m)] 102).drewN nq
 generalize World.drewN _ _ = w2 at *
 have hcm := B1.cell
 have hlt1 := B1.lt
 clear hc
 go_wp2_with fail
 refine (hSt.out _ (hX.below (hb.trans (B1.bel.mono hb.size)))).mono ?_
 rintro e w2' ⟨rfl, rfl⟩
 clear hSt
 go_wp2_with fail
 refine (hC.out _ (hb.trans (B1.bel.mono hb.size))).mono ?_
 rintro e w3 ⟨rfl, hT⟩
 have hto := hide (XBTo.from (hb.trans (B1.bel.mono hb.size)) hT)
 clear hC hcm hT
 go_wp2
 go_ret3
 exact ⟨rfl, hto.out⟩
theorem xHandle_node (s : ByteArray) (hs : s.size ≤ maxLen) (w : World) (B : Nat) (ac : List Ac) (ls : List Lg) (va vl : Value) (k f t i l p g a : Nat) (m : List UInt8) (node : Nat) (hne : t ≠ node) (ht8 : t < 256) (hn8 : node < 256) (hX : XB w B node ac ls va vl) (he0 : decErr s.data.toList = 0) (hx : decMsg s.data.toList = ⟨k, f, t, i, l, p, g, a, m⟩) (hap : Apart B va vl) :
  Calls Tryz.prog 114 #[.pointer (some ⟨B, 0, none⟩), .string s] w fun e w' => e = .returned (.tuple #[.slice none 0 0, .string ⟨#[]⟩, .int .i64 4]) ∧ XBTo w w' B node ac ls va vl va vl := by
 have hD := hide (decode_any s hs)
 rw [he0, hx] at hD
 clear he0 hx
 simp only [Msg.v, Msg.cells] at hD
 have hcs : ((t : Int) != (node : Int)) = true := by simp; omega
 go_enter Tryz.func114, Tryz.ntmps114
 go_wp2_with fail
 refine (hD.out _).mono ?_
 rintro e w1 ⟨rfl, hb⟩
 have hX1 := hX.below hb
 have hc : ∀ o, _ = _ := fun o => cell_at hX1.blk o
 have hBl1 := hX1.lt
 clear hD
 go_wp2_with fail
 go_quiet (fail)
 go_wp2
 go_ret3
 exact ⟨rfl, XBTo.same hX hap ((hb.alloc hb.size _).drewN _)⟩
end Go.Proofs.YtjkhbjgfoopomabGreat
