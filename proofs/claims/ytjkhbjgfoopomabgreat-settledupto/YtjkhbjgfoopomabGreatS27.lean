import Derived.Test.YtjkhbjgfoopomabGreatS26
import Derived.Test.YtjkhbjgfoopomabGreatS10
import Derived.Test.YtjkhbjgfoopomabGreatS4
import Derived.Test.YtjkhbjgfoopomabGreatS8
import Derived.Test.YtjkhbjgfoopomabGreatS11
import Derived.Deep.RegionHeld3
/-
  The program's Bank.reject and Bank.prepare where no leg more can be kept.
-/
namespace Go.Proofs.YtjkhbjgfoopomabGreat
open Go.RowKit
set_option linter.unusedVariables false
set_option linter.unusedSimpArgs false

set_option maxRecDepth 100000 in
set_option maxHeartbeats 1000000 in
theorem rej_full (f t i l p g a : Nat) (m : List UInt8) (kk : Int) (hi : i < 4294967296) (hl : l < 256) (w : World) (B node : Nat) (ac : List Ac) (ls : List Lg) (va vl : Value) (hX : XB w B node ac ls va vl) (hap : Apart B va vl) (hokl : ∀ x, x ∈ ls → x.ok) (hlenl : 128 ≤ ls.length) (hlen2 : ls.length ≤ 1000000) (hj : ls.length ≤ findB i l ls) :
    Calls Tryz.prog 163 #[.pointer (some ⟨B, 0, none⟩), .agg #[.int .u8 kk, .int .u8 (f : Int), .int .u8 (t : Int), .int .u32 (i : Int), .int .u8 (l : Int), .int .u16 (p : Int), .int .u16 (g : Int), .int .u32 (a : Int), .string (bs m)]] w fun e w' =>
      e = .returned (.tuple #[.int .u8 0, .int .i64 10]) ∧ XBTo w w' B node ac ls va vl va vl := by
  have hF := hide (fun u (hu : XB u B node ac ls va vl) => find_any i l hi hl u B node ac ls va vl hu hokl hlen2)
  have hK := hide (fun u (hu : XB u B node ac ls va vl) => keep_full (bareLg i l) u B node ac ls va vl hu hlenl hlen2)
  generalize hb : bareLg i l = X0 at *
  have hXX : X0 = ⟨i, l, 4, 0, 0, 0, []⟩ := hb.symm
  clear hb
  generalize findB i l ls = j at *
  obtain ⟨ad, cap, hv, hev⟩ := hX.lrow.form Lg.cells_length
  subst hv
  clear hev
  have hc : ∀ o, _ = _ := fun o => cell_at hX.blk o
  have hBl := hX.lt
  have d1 : decide ((j : Int) ≥ (ls.length : Int)) = true := by simp; omega
  have d2 : decide ((ls.length : Int) ≤ (j : Int)) = true := by simp; omega
  have hK2 : Hid (∀ u, XB u B node ac ls va (.slice ad ls.length cap) → Calls Tryz.prog 168 #[.pointer (some ⟨B, 0, none⟩), .agg #[.int .u32 (i : Int), .int .u8 (l : Int), .int .u8 4, .int .u16 0, .int .u16 0, .int .u32 0, .string ⟨#[]⟩]] u fun e w' => e = .returned (.int .i64 10) ∧ Below u.heap.size u w') := hide (fun u hu => by
    have h := hK.out u hu
    rw [hXX] at h
    exact h)
  clear hK hXX
  go_enter Tryz.func163, Tryz.ntmps163
  go_wp2_with fail
  refine (hF.out _ (hX.below ((Below.refl _ _).alloc (Nat.le_refl _) _))).mono ?_
  rintro e w1 ⟨rfl, rfl⟩
  clear hF
  go_wp2_with fail
  refine (hK2.out _ (hX.below ((Below.refl _ _).alloc (Nat.le_refl _) _))).mono ?_
  rintro e w2 ⟨rfl, hb2⟩
  have hB := all_kept hb2
  clear hK2 hc hb2
  go_wp2
  go_ret2
  exact ⟨rfl, XBTo.same hX hap hB⟩

set_option maxRecDepth 100000 in
set_option maxHeartbeats 1000000 in
theorem prep_full (f t i l p g a : Nat) (m : List UInt8) (hm : m.length ≤ 64) (kk : Int) (hi : i < 4294967296) (hl : l < 256) (hp : p < 65536) (hg : g < 65536) (ha : a < 4294967296) (w : World) (B node : Nat) (ac : List Ac) (ls : List Lg) (va vl : Value) (hX : XB w B node ac ls va vl) (hap : Apart B va vl) (hoka : ∀ x, x ∈ ac → x.ok) (hokl : ∀ x, x ∈ ls → x.ok) (hlena : ac.length ≤ 1000000) (hlenl : 128 ≤ ls.length) (hlen2 : ls.length ≤ 1000000)
    (hh : ∀ a, heldL a ls ≤ balL a ac) (hd : ∀ a, dueL a ls < 4294967296) (hj : ls.length ≤ findB i l ls) (st : Nat) (hst : st = if canX p g a ac ls then 1 else 2) :
    Calls Tryz.prog 161 #[.pointer (some ⟨B, 0, none⟩), .agg #[.int .u8 kk, .int .u8 (f : Int), .int .u8 (t : Int), .int .u32 (i : Int), .int .u8 (l : Int), .int .u16 (p : Int), .int .u16 (g : Int), .int .u32 (a : Int), .string (bs m)]] w fun e w' =>
      e = .returned (.tuple #[.int .u8 0, .int .i64 10]) ∧ XBTo w w' B node ac ls va vl va vl := by
  have hTm := hide (fun u => termsOf_any 0 f t i l p g a m hm kk u)
  have hF := hide (fun u (hu : XB u B node ac ls va vl) => find_any i l hi hl u B node ac ls va vl hu hokl hlen2)
  have hCn := hide (fun u (hu : XB u B node ac ls va vl) => canHold_any p g a m hp hg ha u B node ac ls va vl hu hoka hokl hlena hlen2 hh hd)
  have hst2 : st < 256 := by rw [hst]; split <;> omega
  have hK := hide (fun u (hu : XB u B node ac ls va vl) => keep_full ⟨i, l, st, p, g, a, m⟩ u B node ac ls va vl hu hlenl hlen2)
  clear hh hd
  generalize canX p g a ac ls = cx at *
  generalize findB i l ls = j at *
  simp only at hK
  obtain ⟨ad, cap, hv, hev⟩ := hX.lrow.form Lg.cells_length
  subst hv
  clear hev
  have hc : ∀ o, _ = _ := fun o => cell_at hX.blk o
  have hBl := hX.lt
  have d1 : decide ((j : Int) < (ls.length : Int)) = false := by simp; omega
  have main : ∀ (sn : Int), (st : Int) = sn → cx = decide (sn = 1) → (sn = 1 ∨ sn = 2) → Calls Tryz.prog 161 #[.pointer (some ⟨B, 0, none⟩), .agg #[.int .u8 kk, .int .u8 (f : Int), .int .u8 (t : Int), .int .u32 (i : Int), .int .u8 (l : Int), .int .u16 (p : Int), .int .u16 (g : Int), .int .u32 (a : Int), .string (bs m)]] w fun e w' =>
      e = .returned (.tuple #[.int .u8 0, .int .i64 10]) ∧ XBTo w w' B node ac ls va (.slice ad ls.length cap) va (.slice ad ls.length cap) := by
    intro sn hsn hcx hor
    rw [hsn] at hK
    clear hsn hst hst2
    go_enter Tryz.func161, Tryz.ntmps161
    go_wp2_with fail
    refine (hTm.out _).mono ?_
    rintro e w1 ⟨rfl, hb1⟩
    have B1 := (Box.mk0 _ _ _).below hb1
    have hcm := B1.cell
    have hltm := B1.lt
    clear hTm hb1
    go_wp2_with fail
    refine (hF.out _ (hX.below (B1.alloc _).bel)).mono ?_
    rintro e w2 ⟨rfl, rfl⟩
    have B2 := B1.alloc (.cells #[.int .u16 (p : Int), .int .u16 (g : Int), .int .u32 (a : Int), .string (bs m)] 149)
    have hXb := hX.below B2.bel
    clear hF hc
    have hc : ∀ o, _ = _ := fun o => cell_at hXb.blk o
    go_wp2_with fail
    refine (hCn.out _ hXb).mono ?_
    rintro e w3 ⟨rfl, hb3⟩
    have B3 := B2.below hb3
    have hct := fun o => cel_kept hb3 o
    have hltt := lt_kept hb3
    have hXc := hX.below B3.bel
    clear hcm hltm hCn hb3 hc
    have hcm := B3.cell
    have hltm := B3.lt
    rcases hor with rfl | rfl
    · simp only [decide_true] at hcx
      subst hcx
      go_wp2_with fail
      refine (hK.out _ hXc).mono ?_
      rintro e w4 ⟨rfl, hb4⟩
      have hB := (B3.below hb4).bel
      clear hb4 hK hcm hct
      go_wp2
      go_ret2
      exact ⟨rfl, XBTo.same hX hap hB⟩
    · have hcx' : cx = false := by rw [hcx]; decide
      subst hcx'
      clear hcx
      go_wp2_with fail
      refine (hK.out _ hXc).mono ?_
      rintro e w4 ⟨rfl, hb4⟩
      have hB := (B3.below hb4).bel
      clear hb4 hK hcm hct
      go_wp2
      go_ret2
      exact ⟨rfl, XBTo.same hX hap hB⟩
  cases cx with
  | true => exact main 1 (by rw [hst]; rfl) (by decide) (.inl rfl)
  | false => exact main 2 (by rw [hst]; rfl) (by decide) (.inr rfl)
end Go.Proofs.YtjkhbjgfoopomabGreat
/-
  The program's Bank.follow: each kind to its own.
-/
namespace Go.Proofs.YtjkhbjgfoopomabGreat
open Go.RowKit
set_option linter.unusedVariables false
set_option linter.unusedSimpArgs false

set_option maxRecDepth 100000 in
set_option maxHeartbeats 1000000 in
theorem follow1 (f t i l p g a : Nat) (m : List UInt8) (w : World) (B st er : Nat) (P : World → Prop)
    (hC : ∀ u, Below w.heap.size w u → Calls Tryz.prog 161 #[.pointer (some ⟨B, 0, none⟩), .agg #[.int .u8 1, .int .u8 (f : Int), .int .u8 (t : Int), .int .u32 (i : Int), .int .u8 (l : Int), .int .u16 (p : Int), .int .u16 (g : Int), .int .u32 (a : Int), .string (bs m)]] u fun e w' => e = .returned (.tuple #[.int .u8 (st : Int), .int .i64 (er : Int)]) ∧ P w') :
    Calls Tryz.prog 146 #[.pointer (some ⟨B, 0, none⟩), .agg #[.int .u8 1, .int .u8 (f : Int), .int .u8 (t : Int), .int .u32 (i : Int), .int .u8 (l : Int), .int .u16 (p : Int), .int .u16 (g : Int), .int .u32 (a : Int), .string (bs m)]] w fun e w' => e = .returned (.tuple #[.int .u8 (st : Int), .int .i64 (er : Int)]) ∧ P w' := by
  replace hC := hide hC
  go_enter Tryz.func146, Tryz.ntmps146
  go_wp2_with fail
  refine (hC.out _ ((Below.refl _ _).alloc (Nat.le_refl _) _)).mono ?_
  rintro e w1 ⟨rfl, hP⟩
  replace hP := hide hP
  clear hC
  go_wp2
  go_ret2
  exact ⟨rfl, hP.out⟩

set_option maxRecDepth 100000 in
set_option maxHeartbeats 1000000 in
theorem follow2 (f t i l p g a : Nat) (m : List UInt8) (w : World) (B st er : Nat) (P : World → Prop)
    (hC : ∀ u, Below w.heap.size w u → Calls Tryz.prog 162 #[.pointer (some ⟨B, 0, none⟩), .agg #[.int .u8 2, .int .u8 (f : Int), .int .u8 (t : Int), .int .u32 (i : Int), .int .u8 (l : Int), .int .u16 (p : Int), .int .u16 (g : Int), .int .u32 (a : Int), .string (bs m)]] u fun e w' => e = .returned (.tuple #[.int .u8 (st : Int), .int .i64 (er : Int)]) ∧ P w') :
    Calls Tryz.prog 146 #[.pointer (some ⟨B, 0, none⟩), .agg #[.int .u8 2, .int .u8 (f : Int), .int .u8 (t : Int), .int .u32 (i : Int), .int .u8 (l : Int), .int .u16 (p : Int), .int .u16 (g : Int), .int .u32 (a : Int), .string (bs m)]] w fun e w' => e = .returned (.tuple #[.int .u8 (st : Int), .int .i64 (er : Int)]) ∧ P w' := by
  replace hC := hide hC
  go_enter Tryz.func146, Tryz.ntmps146
  go_wp2_with fail
  refine (hC.out _ ((Below.refl _ _).alloc (Nat.le_refl _) _)).mono ?_
  rintro e w1 ⟨rfl, hP⟩
  replace hP := hide hP
  clear hC
  go_wp2
  go_ret2
  exact ⟨rfl, hP.out⟩

set_option maxRecDepth 100000 in
set_option maxHeartbeats 1000000 in
theorem follow3 (f t i l p g a : Nat) (m : List UInt8) (w : World) (B st er : Nat) (P : World → Prop)
    (hC : ∀ u, Below w.heap.size w u → Calls Tryz.prog 163 #[.pointer (some ⟨B, 0, none⟩), .agg #[.int .u8 3, .int .u8 (f : Int), .int .u8 (t : Int), .int .u32 (i : Int), .int .u8 (l : Int), .int .u16 (p : Int), .int .u16 (g : Int), .int .u32 (a : Int), .string (bs m)]] u fun e w' => e = .returned (.tuple #[.int .u8 (st : Int), .int .i64 (er : Int)]) ∧ P w') :
    Calls Tryz.prog 146 #[.pointer (some ⟨B, 0, none⟩), .agg #[.int .u8 3, .int .u8 (f : Int), .int .u8 (t : Int), .int .u32 (i : Int), .int .u8 (l : Int), .int .u16 (p : Int), .int .u16 (g : Int), .int .u32 (a : Int), .string (bs m)]] w fun e w' => e = .returned (.tuple #[.int .u8 (st : Int), .int .i64 (er : Int)]) ∧ P w' := by
  replace hC := hide hC
  go_enter Tryz.func146, Tryz.ntmps146
  go_wp2_with fail
  refine (hC.out _ ((Below.refl _ _).alloc (Nat.le_refl _) _)).mono ?_
  rintro e w1 ⟨rfl, hP⟩
  replace hP := hide hP
  clear hC
  go_wp2
  go_ret2
  exact ⟨rfl, hP.out⟩
end Go.Proofs.YtjkhbjgfoopomabGreat
/-
  The program's Bank.report.
-/
namespace Go.Proofs.YtjkhbjgfoopomabGreat
open Go.RowKit
set_option linter.unusedVariables false
set_option linter.unusedSimpArgs false

theorem ans_frame (node id l st : Nat) (hn : 1 ≤ node ∧ node ≤ 7) (hl : l < 4) : ansOf node id l st = frameOf (ansMsg node id l st) := by
  have hk : kindFor st = 4 ∨ kindFor st = 5 ∨ kindFor st = 6 := by unfold kindFor; (repeat' split) <;> simp
  have h0 : faultOf (ansMsg node id l st) = 0 := by
    unfold faultOf ansMsg
    rcases hk with h | h | h <;> simp [kindB, wayB, bankB, bareB, h, hn.1, hn.2, hl]
  unfold ansOf encOf
  rw [if_pos h0]
theorem spell_at (k node id l : Nat) (hk : k < 256) (hnode : node < 256) (hid : id < 4294967296) (hl : l < 256) (kk : Int) (hkk : (k : Int) = kk) :
    Hid (∀ u, Calls Tryz.prog 137 #[.agg #[.int .u8 kk, .int .u8 (node : Int), .int .u8 0, .int .u32 (id : Int), .int .u8 (l : Int), .int .u16 0, .int .u16 0, .int .u32 0, .string ⟨#[]⟩]] u fun e w' => e = .returned (.string (bs (frameOf ⟨k, node, 0, id, l, 0, 0, 0, []⟩))) ∧ Below u.heap.size u w') := by
  subst hkk
  exact hide (fun u => spell_any ⟨k, node, 0, id, l, 0, 0, 0, []⟩ ⟨hk, hnode, by show (0 : Nat) < 256; omega, hid, hl, by show (0 : Nat) < 65536; omega, by show (0 : Nat) < 65536; omega, by show (0 : Nat) < 4294967296; omega⟩ (by show (0 : Nat) ≤ 64; omega) u)

set_option maxRecDepth 100000 in
set_option maxHeartbeats 1000000 in
theorem report_any (id l st : Nat) (hid : id < 4294967296) (hl : l < 4) (hst : 1 ≤ st ∧ st ≤ 4) (w : World) (B node : Nat) (hnode : 1 ≤ node ∧ node ≤ 7) (ac : List Ac) (ls : List Lg) (va vl : Value) (hX : XB w B node ac ls va vl) :
    Calls Tryz.prog 106 #[.pointer (some ⟨B, 0, none⟩), .int .u32 (id : Int), .int .u8 (l : Int), .int .u8 (st : Int)] w fun e w' => e = .returned (.string (bs (ansOf node id l st))) ∧ Below w.heap.size w w' := by
  rw [ans_frame node id l st hnode hl]
  unfold ansMsg
  have hc : ∀ o, _ = _ := fun o => cell_at hX.blk o
  have hS := spell_at (kindFor st) node id l (kindFor_lt st) (by omega) hid (by omega)
  have e1 : Hid (st = 1 → kindFor st = 4) := hide (by intro h; simp [kindFor, h])
  have e2 : Hid (st = 2 → kindFor st = 5) := hide (by intro h; simp [kindFor, h])
  have e3 : Hid (st ≠ 1 → st ≠ 2 → kindFor st = 6) := hide (by intro h1 h2; simp [kindFor, h1, h2])
  generalize frameOf ⟨kindFor st, node, 0, id, l, 0, 0, 0, []⟩ = F at *
  by_cases h1 : st = 1
  · have d1 : ((st : Int) == 1) = true := by simp; omega
    have d2 : ((st : Int) == 2) = false := by simp; omega
    have hW := hS 4 (by rw [e1.out h1]; rfl)
    clear e1 e2 e3 h1 hS
    go_enter Tryz.func106, Tryz.ntmps106
    go_wp2_with fail
    refine (hW.out _).mono ?_
    rintro e w1 ⟨rfl, hb⟩
    go_wp2
    go_ret
    exact ⟨rfl, hb⟩
  · have d1 : ((st : Int) == 1) = false := by simp; omega
    by_cases h2 : st = 2
    · have d2 : ((st : Int) == 2) = true := by simp; omega
      have hW := hS 5 (by rw [e2.out h2]; rfl)
      clear e1 e2 e3 h1 h2 hS
      go_enter Tryz.func106, Tryz.ntmps106
      go_wp2_with fail
      refine (hW.out _).mono ?_
      rintro e w1 ⟨rfl, hb⟩
      go_wp2
      go_ret
      exact ⟨rfl, hb⟩
    · have d2 : ((st : Int) == 2) = false := by simp; omega
      have hW := hS 6 (by rw [e3.out h1 h2]; rfl)
      clear e1 e2 e3 h1 h2 hS
      go_enter Tryz.func106, Tryz.ntmps106
      go_wp2_with fail
      refine (hW.out _).mono ?_
      rintro e w1 ⟨rfl, hb⟩
      go_wp2
      go_ret
      exact ⟨rfl, hb⟩
end Go.Proofs.YtjkhbjgfoopomabGreat
/-
  The program's Bank.Tick.
-/
namespace Go.Proofs.YtjkhbjgfoopomabGreat
open Go.RowKit
set_option linter.unusedVariables false
set_option linter.unusedSimpArgs false

theorem strInfo : (Tryz.prog.info? 9).map (fun i => (i.zero, i.size, i.bytes)) = some (some (.string ByteArray.empty), 1, 16) := by kernel_rfl
theorem str_one (e : List UInt8) : ∀ u ∈ strCell e, u.oneCell' = true := by
  intro u hu
  simp only [strCell, List.mem_cons, List.not_mem_nil, or_false] at hu
  subst hu
  rfl
/-- the frames of all legs that are held, in the list's order -/
def tickL (node : Nat) (ls : List Lg) : List (List UInt8) := (ls.filter fun x => decide (x.st = 1)).map fun x => ansOf node x.id x.l 1
theorem tickL_yes (node : Nat) (ls : List Lg) (k : Nat) (hk : k < ls.length) (h : ls[k].st = 1) : tickL node (ls.take (k + 1)) = tickL node (ls.take k) ++ [ansOf node ls[k].id ls[k].l 1] := by
  unfold tickL
  rw [List.take_succ_eq_append_getElem hk, List.filter_append, List.map_append]
  simp [h]
theorem tickL_no (node : Nat) (ls : List Lg) (k : Nat) (hk : k < ls.length) (h : ls[k].st ≠ 1) : tickL node (ls.take (k + 1)) = tickL node (ls.take k) := by
  unfold tickL
  rw [List.take_succ_eq_append_getElem hk, List.filter_append, List.map_append]
  simp [h]
theorem tickL_length (node : Nat) (ls : List Lg) : (tickL node ls).length ≤ ls.length := by
  unfold tickL
  rw [List.length_map]
  exact List.length_filter_le _ _
theorem str_empty (w : World) : RowOf (w.alloc (.cells #[] 9)) 9 1 strCell (.slice (some ⟨w.heap.size, 0, none⟩) 0 0) [] :=
  ⟨rfl, .inr ⟨w.heap.size, 0, #[], rfl, Nat.zero_le _, heap_alloc_self _ _, Nat.le_refl _, by unfold maxLen; omega, rfl, rfl⟩⟩

set_option maxRecDepth 100000 in
set_option maxHeartbeats 1000000 in
theorem xTick_any (w : World) (B node : Nat) (hnode : 1 ≤ node ∧ node ≤ 7) (ac : List Ac) (ls : List Lg) (va vl : Value) (hX : XB w B node ac ls va vl) (hok : ∀ x, x ∈ ls → x.ok) (hl4 : ∀ x, x ∈ ls → x.l < 4) (hlen : ls.length ≤ 1000000) :
    Calls Tryz.prog 68 #[.pointer (some ⟨B, 0, none⟩)] w fun e w' => (∃ lv, e = .returned lv ∧ RowOf w' 9 1 strCell lv (tickL node ls) ∧ ∀ g, lv.ownBlock = some g → w.heap.size ≤ g) ∧ Below w.heap.size w w' := by
  obtain ⟨ad, cap, hv, hev⟩ := hX.lrow.form Lg.cells_length
  obtain ⟨i0, hi0, y0, y1, y2⟩ := info_parts strInfo
  subst hv
  clear hev
  have hc : ∀ o, _ = _ := fun o => cell_at hX.blk o
  have hBl := hX.lt
  go_enter Tryz.func68, Tryz.ntmps68
  go_wp2
  go_loopw [3, 12] (fun v c u => ∃ k : Nat, k ≤ ls.length ∧ c = .int .i64 k ∧ (∃ g cap', v = .slice (some ⟨g, 0, none⟩) (tickL node (ls.take k)).length cap' ∧ w.heap.size ≤ g ∧ RowOf u 9 1 strCell (.slice (some ⟨g, 0, none⟩) (tickL node (ls.take k)).length cap') (tickL node (ls.take k))) ∧ Below w.heap.size w u) (fun _ c _ => ls.length - (intOf c).toNat)
  case atStart => exact ⟨0, Nat.zero_le _, rfl, ⟨_, _, rfl, Nat.le_refl _, str_empty w⟩, (Below.refl _ _).alloc (Nat.le_refl _) _⟩
  case round =>
    obtain ⟨k, hk, rfl, ⟨gl, capl, rfl, hgl, hrow⟩, hb⟩ := hrel
    have hXu := hX.below hb
    clear hc
    have hc : ∀ o, _ = _ := fun o => cell_at hXu.blk o
    have hBu := hXu.lt
    by_cases hlt : k < ls.length
    · obtain ⟨ad', cap', hv', hev'⟩ := hXu.lrow.form Lg.cells_length
      obtain ⟨g, hg, hcell, _⟩ := hev' k hlt
      have ead : ad = ad' := by injection hv'
      subst ead
      subst hg
      have hgu : g < wr.heap.size := hXu.lrow.lt rfl
      have hy := hide (tickL_yes node ls k hlt)
      have hn := hide (tickL_no node ls k hlt)
      have c0 := hcell 0 (by decide)
      have c1 := hcell 1 (by decide)
      have c2 := hcell 2 (by decide)
      have hek := hok ls[k] (List.getElem_mem hlt)
      have h4 := hl4 ls[k] (List.getElem_mem hlt)
      have htl : (tickL node (ls.take k)).length ≤ k := Nat.le_trans (tickL_length _ _) (List.length_take_le _ _)
      clear hcell hev' hv'
      generalize ls[k] = E at *
      obtain ⟨ei, el, es, ep, eg, ea, em⟩ := E
      obtain ⟨h1, h2, h3, _, _, _⟩ := hek
      simp only [Lg.cells, List.getElem?_cons_zero, List.getElem?_cons_succ, Nat.add_zero] at c0 c1 c2 h1 h2 h3 h4
      simp only at hy hn
      generalize tickL node (ls.take k) = L at *
      have hlk : (k : Int) < (ls.length : Int) := by omega
      by_cases hst : es = 1
      · have dst : ((es : Int) == 1) = true := by simp; omega
        have hq : Hid (tickL node (ls.take (k + 1)) = L ++ [ansOf node ei el 1]) := hide (hy.out hst)
        have hRp := hide (fun u (hu : (u.cell? ⟨B, 2, none⟩ = some (.slice (some ⟨g, 0, none⟩) ls.length cap) ∧ u.cell? ⟨g, k * 7, none⟩ = some (.int .u32 (ei : Int)) ∧ u.cell? ⟨g, k * 7 + 1, none⟩ = some (.int .u8 (el : Int))) ∧ Below wr.heap.size wr u) => report_any ei el 1 h1 h4 (by omega) u B node hnode ac ls _ _ (hXu.below hu.2))
        change Hid (∀ u, _ → Calls Tryz.prog 106 #[.pointer (some ⟨B, 0, none⟩), .int .u32 (ei : Int), .int .u8 (el : Int), .int .u8 1] u _) at hRp
        have b2 : wr.cell? ⟨B, 2, none⟩ = some (.slice (some ⟨g, 0, none⟩) ls.length cap) := hc 2
        generalize ansOf node ei el 1 = A at *
        clear hy hn hst
        go_wp2_with fail
        go_region_held3 (fun u => (u.cell? ⟨B, 2, none⟩ = some (.slice (some ⟨g, 0, none⟩) ls.length cap) ∧ u.cell? ⟨g, k * 7, none⟩ = some (.int .u32 (ei : Int)) ∧ u.cell? ⟨g, k * 7 + 1, none⟩ = some (.int .u8 (el : Int))) ∧ Below wr.heap.size wr u)
          (first
            | with_reducible exact keep3_drew ⟨b2, c0, c1⟩
            | with_reducible exact keep3_call hBu hgu hgu (by assumption) hb9)
          (first
            | (go_at_call 106; refine (hRp.out _ ?_).mono ?_; assumption; rintro e u2 ⟨rfl, hb9⟩))
        have hb2 := hb.trans ((undrew hb9).mono hb.size)
        have hrow2 := hrow.below (undrew hb9)
        clear hRp hb9 hc c0 c1 c2 b2 hrow
        go_wp2_with (first
          | (at_builtin; refine wpList_row strCell_length u2 (by rfl) _ _ 38 (by rfl) 9 i0 _ 16 Tryz.underlying38 hi0 y0 y1 y2 rfl (by decide) (.slice (some ⟨gl, 0, none⟩) L.length capl) L (by rfl) hrow2 1 A (by rfl) (str_one _) (by unfold maxLen; omega) (by omega) ?_ _ (by rfl); intro g9 cap9 w9 hrow9 hk9 hg9 hlt9; have X : Hid (RowOf w9 9 1 strCell (.slice (some ⟨g9, 0, none⟩) (L.length + 1) cap9) (L ++ [A]) ∧ Kept (fun k => (Value.slice (some ⟨gl, 0, none⟩) L.length capl).ownBlock = some k) u2 w9 ∧ ((Value.slice (some ⟨gl, 0, none⟩) L.length capl).ownBlock = some g9 ∨ u2.heap.size ≤ g9)) := hide ⟨hrow9, hk9, hg9⟩; clear hrow9 hk9 hg9))
        have hown : ∀ k', (Value.slice (some ⟨gl, 0, none⟩) L.length capl).ownBlock = some k' → w.heap.size ≤ k' := fun k' h' => by
          have : k' = gl := by simpa [Value.ownBlock] using h'.symm
          omega
        have hg9 : w.heap.size ≤ g9 := X.out.2.2.elim (hown g9) (fun h => Nat.le_trans hb2.size h)
        have hb9 := hb2.trans (X.out.2.1.below hb2.size hown)
        refine ⟨⟨k + 1, hlt, by go_num, ⟨g9, cap9, by rw [hq.out, List.length_append]; rfl, hg9, ?_⟩, hb9⟩, by simp [intOf]; omega⟩
        rw [hq.out, List.length_append]
        exact X.out.1
      · have dst : ((es : Int) == 1) = false := by simp; omega
        have hq : Hid (tickL node (ls.take (k + 1)) = L) := hide (hn.out hst)
        clear hy hn hst
        go_wp2
        exact ⟨⟨k + 1, hlt, by go_num, ⟨gl, capl, by rw [hq.out], hgl, by rw [hq.out]; exact hrow⟩, hb⟩, by simp [intOf]; omega⟩
    · obtain rfl : k = ls.length := by omega
      simp only [List.take_length] at hrow ⊢
      go_wp2
      go_ret
      exact ⟨⟨_, rfl, hrow, fun g' h' => by have : g' = gl := by simpa [Value.ownBlock] using h'.symm
                                            subst this
                                            exact hgl⟩, hb⟩
end Go.Proofs.YtjkhbjgfoopomabGreat
