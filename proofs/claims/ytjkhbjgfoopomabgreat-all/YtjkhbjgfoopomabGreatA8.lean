import Derived.Test.YtjkhbjgfoopomabGreatA4
import Derived.Test.YtjkhbjgfoopomabGreatA7
namespace Go.Proofs.YtjkhbjgfoopomabGreat
open Go.RowKit
set_option maxRecDepth 100000
set_option maxHeartbeats 1000000
set_option linter.unusedVariables false
set_option linter.unusedSimpArgs false
theorem xFunds_any (a : Nat) (ha : a < 65536) (w : World) (B node : Nat) (ac : List Ac) (ls : List Lg) (va vl : Value) (hX : XB w B node ac ls va vl) (hoka : ∀ x, x ∈ ac → x.ok) (hokl : ∀ x, x ∈ ls → x.ok) (hlena : ac.length ≤ 1000000) (hlenl : ls.length ≤ 1000000)
  (hh : heldL a ls < 4294967296) (hd : dueL a ls < 4294967296) :
  Calls Tryz.prog 32 #[.pointer (some ⟨B, 0, none⟩), .int .u16 (a : Int)] w fun e w' => (e = if hasB a ac then .returned (.tuple #[.agg #[.int .u32 (balL a ac : Int), .int .u32 (heldL a ls : Int), .int .u32 (dueL a ls : Int)], .int .i64 0]) else .returned (.tuple #[.agg #[.int .u32 0, .int .u32 0, .int .u32 0], .int .i64 8])) ∧ Below w.heap.size w w' := by
 have hH := hide (fun u (hu : XB u B node ac ls va vl) => has_any a ha u B node ac ls va vl hu hoka hlena)
 have hF := hide (fun u (hu : XB u B node ac ls va vl) => xfunds_any a ha u B node ac ls va vl hu hoka hokl hlena hlenl hh hd)
 generalize hasB a ac = hb at *
 generalize balL a ac = bl at *
 generalize heldL a ls = hl at *
 generalize dueL a ls = dl at *
 cases hb with
 | false =>
  simp only [Bool.false_eq_true, if_false];go_enter Tryz.func32, Tryz.ntmps32;go_wp2_with fail
  refine (hH.out _ (hX.below ((Below.refl _ _).alloc (Nat.le_refl _) _))).mono ?_;rintro e w1 ⟨rfl, rfl⟩;clear hH hF;go_wp2;exact bodyPost_ret (v := .tuple #[.agg #[.int .u32 0, .int .u32 0, .int .u32 0], .int .i64 8]) (by simp [results, Tryz.results32, go_sem]) rfl ⟨rfl, (Below.refl _ _).alloc (Nat.le_refl _) _⟩
 | true =>
  simp only [if_true];go_enter Tryz.func32, Tryz.ntmps32;go_wp2_with fail
  refine (hH.out _ (hX.below ((Below.refl _ _).alloc (Nat.le_refl _) _))).mono ?_;rintro e w1 ⟨rfl, rfl⟩;clear hH;go_wp2_with fail
  refine (hF.out _ (hX.below ((Below.refl _ _).alloc (Nat.le_refl _) _))).mono ?_;rintro e w2 ⟨rfl, hb2⟩;have hc2 := fun o => cel_kept hb2 o;have hf2 := fun o => fro_kept hb2 o;have hlt := lt_kept hb2;have hP := putL_whole [.int .u32 (bl : Int), .int .u32 (hl : Int), .int .u32 (dl : Int)] (blk_kept hb2) rfl;have hB := (all_kept hb2).trans ((putL_kept [.int .u32 (bl : Int), .int .u32 (hl : Int), .int .u32 (dl : Int)] w2 w.heap.size 0).below (all_kept hb2).size (fun k e => by omega));clear hF hb2;go_wp2;have hc3 := fun o => cell_at hP o;simp only [putL] at hc3 hB;generalize World.setCell _ _ _ = u at *;exact bodyPost_ret (v := .tuple #[.agg #[.int .u32 (bl : Int), .int .u32 (hl : Int), .int .u32 (dl : Int)], .int .i64 0]) (by simp [results, Tryz.results32, go_sem, hc3]) rfl ⟨rfl, hB⟩
def stL (id l : Nat) (ls : List Lg) : Nat := match ls[findB id l ls]? with | none => 0 | some x => x.st
theorem stL_at {id l : Nat} {ls : List Lg} (h : findB id l ls < ls.length) : stL id l ls = ls[findB id l ls].st := by unfold stL; rw [List.getElem?_eq_getElem h]
theorem stL_no {id l : Nat} {ls : List Lg} (h : ls.length ≤ findB id l ls) : stL id l ls = 0 := by unfold stL; rw [List.getElem?_eq_none h]
theorem stL_lt {id l : Nat} {ls : List Lg} (hok : ∀ x, x ∈ ls → x.ok) : stL id l ls < 256 := by
 rcases Nat.lt_or_ge (findB id l ls) ls.length with h | h
 ·rw [stL_at h]; exact (hok _ (List.getElem_mem h)).2.2.1
 ·rw [stL_no h]; omega
theorem state_any (id l : Nat) (hid : id < 4294967296) (hl : l < 256) (w : World) (B node : Nat) (ac : List Ac) (ls : List Lg) (va vl : Value) (hX : XB w B node ac ls va vl) (hok : ∀ x, x ∈ ls → x.ok) (hlen : ls.length ≤ 1000000) :
  Calls Tryz.prog 115 #[.pointer (some ⟨B, 0, none⟩), .int .u32 (id : Int), .int .u8 (l : Int)] w fun e w' => e = .returned (.int .u8 (stL id l ls : Int)) ∧ w' = w := by
 have hF := hide (find_any id l hid hl w B node ac ls va vl hX hok hlen)
 unfold stL
 generalize findB id l ls = j at *
 obtain ⟨ad, cap, hv, hev⟩ := hX.lrow.form Lg.cells_length
 subst hv
 have hc : ∀ o, _ = _ := fun o => cell_at hX.blk o
 by_cases hj : j < ls.length
 ·have hlk : (j : Int) < (ls.length : Int) := by omega
  have d1 : decide ((j : Int) ≥ (ls.length : Int)) = false := by simp; omega
  have d2 : decide ((ls.length : Int) ≤ (j : Int)) = false := by simp; omega
  rw [List.getElem?_eq_getElem hj];obtain ⟨g, hg, hcell, _⟩ := hev j hj;subst hg;have c2 := hcell 2 (by decide);have hek := hok ls[j] (List.getElem_mem hj);clear hcell hev;generalize ls[j] = E at *;obtain ⟨ei, el, es, ep, eg, ea, em⟩ := E;simp only [Lg.cells, List.getElem?_cons_zero, List.getElem?_cons_succ, Nat.add_zero] at c2;go_enter Tryz.func115, Tryz.ntmps115;go_wp2_with fail
  refine hF.out.mono ?_;rintro e w1 ⟨rfl, rfl⟩;clear hF;go_wp2;go_ret;exact ⟨rfl, rfl⟩
 ·have d1 : decide ((j : Int) ≥ (ls.length : Int)) = true := by simp; omega
  have d2 : decide ((ls.length : Int) ≤ (j : Int)) = true := by simp; omega
  rw [List.getElem?_eq_none (by omega)];clear hev;go_enter Tryz.func115, Tryz.ntmps115;go_wp2_with fail
  refine hF.out.mono ?_;rintro e w1 ⟨rfl, rfl⟩;clear hF;go_wp2;go_ret;exact ⟨rfl, rfl⟩
theorem xLeg_any (id l : Nat) (hid : id < 4294967296) (hl : l < 256) (w : World) (B node : Nat) (ac : List Ac) (ls : List Lg) (va vl : Value) (hX : XB w B node ac ls va vl) (hok : ∀ x, x ∈ ls → x.ok) (hst : ∀ x, x ∈ ls → 1 ≤ x.st) (hlen : ls.length ≤ 1000000) :
  Calls Tryz.prog 75 #[.pointer (some ⟨B, 0, none⟩), .int .u32 (id : Int), .int .u8 (l : Int)] w fun e w' => (e = match ls[findB id l ls]? with | none => .returned (.tuple #[.int .u8 0, .int .i64 13]) | some x => .returned (.tuple #[.int .u8 (x.st : Int), .int .i64 0])) ∧ Below w.heap.size w w' := by
 have hF := hide (state_any id l hid hl w B node ac ls va vl hX hok hlen)
 have hS : Hid (∀ x, ls[findB id l ls]? = some x → 1 ≤ x.st ∧ x.st < 256) := hide (fun x hx => ⟨hst x (List.mem_of_getElem? hx), (hok x (List.mem_of_getElem? hx)).2.2.1⟩)
 unfold stL at hF
 generalize ls[findB id l ls]? = R at *
 have hc : ∀ o, _ = _ := fun o => cell_at hX.blk o
 cases R with
 | none =>
  simp only at *;go_enter Tryz.func75, Tryz.ntmps75;go_wp2_with fail
  refine hF.out.mono ?_;rintro e w1 ⟨rfl, rfl⟩;clear hF;go_wp2;go_ret2;exact ⟨rfl, Below.refl _ _⟩
 | some x =>
  have hx := hS.out x rfl;obtain ⟨ei, el, es, ep, eg, ea, em⟩ := x;simp only at *;have d1 : ((es : Int) == 0) = false := by simp; omega
  go_enter Tryz.func75, Tryz.ntmps75;go_wp2_with fail
  refine hF.out.mono ?_;rintro e w1 ⟨rfl, rfl⟩;clear hF;go_wp2;go_ret2;exact ⟨rfl, Below.refl _ _⟩
theorem isAhead_any (x y : Lg) (hx : x.ok) (hy : y.ok) (w : World) :
  Calls Tryz.prog 170 #[.agg #[.int .u32 (x.id : Int), .int .u8 (x.l : Int), .int .u8 (x.st : Int), .int .u16 (x.p : Int), .int .u16 (x.g : Int), .int .u32 (x.a : Int), .string (bs x.m)], .agg #[.int .u32 (y.id : Int), .int .u8 (y.l : Int), .int .u8 (y.st : Int), .int .u16 (y.p : Int), .int .u16 (y.g : Int), .int .u32 (y.a : Int), .string (bs y.m)]] w fun e w' => e = .returned (.bool (decide (x.id < y.id ∨ (x.id = y.id ∧ x.l < y.l)))) ∧ Below w.heap.size w w' := by
 obtain ⟨xi, xl, xs, xp, xg, xa, xm⟩ := x
 obtain ⟨yi, yl, ys, yp, yg, ya, ym⟩ := y
 obtain ⟨h1, h2, h3, h4, h5, h6⟩ := hx
 obtain ⟨k1, k2, k3, k4, k5, k6⟩ := hy
 simp only at *
 by_cases he : xi = yi
 ·have d1 : ((xi : Int) != (yi : Int)) = false := by simp; omega
  have hq : Hid (decide (xi < yi ∨ (xi = yi ∧ xl < yl)) = decide (xl < yl)) := hide (decide_eq_decide.2 (by omega));clear he;go_enter Tryz.func170, Tryz.ntmps170;go_wp2;go_ret;exact ⟨by rw [hq.out]; rfl, ((Below.refl _ _).alloc (Nat.le_refl _) _).alloc (by simp) _⟩
 ·have d1 : ((xi : Int) != (yi : Int)) = true := by simp; omega
  have hq : Hid (decide (xi < yi ∨ (xi = yi ∧ xl < yl)) = decide (xi < yi)) := hide (decide_eq_decide.2 (by omega));clear he;go_enter Tryz.func170, Tryz.ntmps170;go_wp2;go_ret;exact ⟨by rw [hq.out]; rfl, ((Below.refl _ _).alloc (Nat.le_refl _) _).alloc (by simp) _⟩
def canX (p g a : Nat) (ac : List Ac) (ls : List Lg) : Bool := hasB p ac && (hasB g ac && (decide (heldL p ls + a ≤ balL p ac) && decide (balL g ac + dueL g ls + a ≤ 4294967295)))
theorem balFold_lt (a : Nat) (ac : List Ac) (hok : ∀ x, x ∈ ac → x.ok) : ∀ s, s < 4294967296 → ac.foldl (balStep a) s < 4294967296 := by
 induction ac with
 | nil => intro s h; exact h
 | cons x r ih =>
  intro s h;refine ih (fun y hy => hok y (by simp [hy])) _ ?_;unfold balStep;split
  ·exact (hok x (by simp)).2
  ·exact h
theorem balL_lt (a : Nat) (ac : List Ac) (hok : ∀ x, x ∈ ac → x.ok) : balL a ac < 4294967296 := balFold_lt a ac hok 0 (by decide)
theorem canHold_any (p g a : Nat) (m : List UInt8) (hp : p < 65536) (hg : g < 65536) (ha : a < 4294967296) (w : World) (B node : Nat) (ac : List Ac) (ls : List Lg) (va vl : Value) (hX : XB w B node ac ls va vl) (hoka : ∀ x, x ∈ ac → x.ok) (hokl : ∀ x, x ∈ ls → x.ok) (hlena : ac.length ≤ 1000000) (hlenl : ls.length ≤ 1000000)
  (hh : ∀ a, heldL a ls ≤ balL a ac) (hd : ∀ a, dueL a ls < 4294967296) :
  Calls Tryz.prog 167 #[.pointer (some ⟨B, 0, none⟩), .agg #[.int .u16 (p : Int), .int .u16 (g : Int), .int .u32 (a : Int), .string (bs m)]] w fun e w' => e = .returned (.bool (canX p g a ac ls)) ∧ Below w.heap.size w w' := by
 have hbp := balL_lt p ac hoka
 have hbg := balL_lt g ac hoka
 have hhp := hh p
 have hdg := hd g
 have hH1 := hide (fun u (hu : XB u B node ac ls va vl) => has_any p hp u B node ac ls va vl hu hoka hlena)
 have hH2 := hide (fun u (hu : XB u B node ac ls va vl) => has_any g hg u B node ac ls va vl hu hoka hlena)
 have hF1 := hide (fun u (hu : XB u B node ac ls va vl) => xfunds_any p hp u B node ac ls va vl hu hoka hokl hlena hlenl (Nat.lt_of_le_of_lt (hh p) (balL_lt p ac hoka)) (hd p))
 have hF2 := hide (fun u (hu : XB u B node ac ls va vl) => xfunds_any g hg u B node ac ls va vl hu hoka hokl hlena hlenl (Nat.lt_of_le_of_lt (hh g) (balL_lt g ac hoka)) (hd g))
 have hz : Hid (canX p g a ac ls = (hasB p ac && (hasB g ac && (decide (heldL p ls + a ≤ balL p ac) && decide (balL g ac + dueL g ls + a ≤ 4294967295))))) := hide rfl
 clear hh hd
 generalize canX p g a ac ls = R at *
 generalize hasB p ac = o1 at *
 generalize hasB g ac = o2 at *
 generalize balL p ac = bp at *
 generalize heldL p ls = sp at *
 generalize dueL p ls = dp at *
 generalize balL g ac = bg at *
 generalize heldL g ls = sg at *
 generalize dueL g ls = dg at *
 go_enter Tryz.func167, Tryz.ntmps167
 go_wp2_with fail
 refine (hH1.out _ (hX.below ((Below.refl _ _).alloc (Nat.le_refl _) _))).mono ?_
 rintro e w1 ⟨rfl, rfl⟩
 clear hH1
 cases o1 with
 | false =>
  have hq : Hid (R = false) := hide (by rw [hz.out]; simp);go_wp2;go_ret;exact ⟨by rw [hq.out]; rfl, (Below.refl _ _).alloc (Nat.le_refl _) _⟩
 | true =>
  go_wp2_with fail
  refine (hH2.out _ (hX.below ((Below.refl _ _).alloc (Nat.le_refl _) _))).mono ?_;rintro e w1 ⟨rfl, rfl⟩;clear hH2;cases o2 with
  | false =>
   have hq : Hid (R = false) := hide (by rw [hz.out]; simp);go_wp2;go_ret;exact ⟨by rw [hq.out]; rfl, (Below.refl _ _).alloc (Nat.le_refl _) _⟩
  | true =>
   go_wp2_with fail
   refine (hF1.out _ (hX.below ((Below.refl _ _).alloc (Nat.le_refl _) _))).mono ?_;rintro e w2 ⟨rfl, hb2⟩;have B2 := (Box.mk0 _ _ _).below hb2;have hcb := B2.cell;have hlt2 := B2.lt;clear hF1 hb2;have W1 : IntKind.u32.wrap ((bp : Int) - (sp : Int)) = ((bp - sp : Nat) : Int) := by rw [IntKind.wrap_u32]; omega
   by_cases h1 : sp + a ≤ bp
   ·have d1 : decide ((bp : Int) - (sp : Int) < (a : Int)) = false := by simp; omega
    have d1' : decide (bp - sp < a) = false := by simp; omega
    have hq : Hid (R = decide (bg + dg + a ≤ 4294967295)) := hide (by rw [hz.out]; simp [h1]);have hq2 : Hid (decide ((bg : Int) + (dg : Int) + (a : Int) ≤ 4294967295) = decide (bg + dg + a ≤ 4294967295)) := hide (decide_eq_decide.2 (by omega));clear hz h1;go_wp2_with fail
    refine (hF2.out _ (hX.below (B2.alloc _).bel)).mono ?_;rintro e w3 ⟨rfl, hb3⟩;have B3 := (B2.alloc _).below hb3;clear hcb;have hcb := B3.cell;clear hF2 hb3;have hlt3 := B3.lt;go_wp2;go_ret;exact ⟨by rw [hq.out, ← hq2.out]; rfl, (B3.alloc _).bel⟩
   ·have d1 : decide ((bp : Int) - (sp : Int) < (a : Int)) = true := by simp; omega
    have d1' : decide (bp - sp < a) = true := by simp; omega
    have hq : Hid (R = false) := hide (by rw [hz.out]; simp [h1]);clear hz h1;go_wp2;go_ret;exact ⟨by rw [hq.out]; rfl, (B2.alloc _).bel⟩
theorem at8_of (s : ByteArray) (k : Nat) (h : k < s.size) : at8 s.data.toList k = s[k].toNat := by
 unfold at8
 rw [List.getD_eq_getElem?_getD, get_q s k h]
 rfl
theorem cut_of (s : ByteArray) (a b : Nat) : (s.extract a b).data.toList = cut s.data.toList a b := Lib.extract_data s a b
theorem zero_v : Msg.zero.v = .agg #[.int .u8 0, .int .u8 0, .int .u8 0, .int .u32 0, .int .u8 0, .int .u16 0, .int .u16 0, .int .u32 0, .string ⟨#[]⟩] := rfl
theorem size_at (s : ByteArray) (hs : s.size ≤ maxLen) (p17 : 17 < s.size) (w : World) :
  Calls Tryz.prog 139 #[.string s] w fun e w' => e = .returned (.int .i64 (22 + ((s[17]'p17).toNat : Int))) ∧ w' = w := by
 have d0 : decide ((s.size : Int) ≤ 17) = false := by simp; omega
 have i17 : (17 : Int) < (s.size : Int) := by omega
 have hb := byte_lt (s[17]'p17)
 go_enter Tryz.func139, Tryz.ntmps139
 go_wp2
 go_ret
 exact ⟨rfl, rfl⟩
theorem size_short (s : ByteArray) (h : s.size ≤ 17) (w : World) :
  Calls Tryz.prog 139 #[.string s] w fun e w' => e = .returned (.int .i64 22) ∧ w' = w := by
 have d0 : decide ((s.size : Int) ≤ 17) = true := by simp; omega
 go_enter Tryz.func139, Tryz.ntmps139
 go_wp2
 go_ret
 exact ⟨rfl, rfl⟩
theorem decode_short (s : ByteArray) (h : s.size < 22) (w : World) :
  Calls Tryz.prog 112 #[.string s] w fun e w' => e = .returned (.tuple #[Msg.zero.v, .int .i64 1]) ∧ Below w.heap.size w w' := by
 rw [zero_v]
 go_enter Tryz.func112, Tryz.ntmps112
 go_wp2
 exact bodyPost_ret (v := .tuple #[.agg #[.int .u8 0, .int .u8 0, .int .u8 0, .int .u32 0, .int .u8 0, .int .u16 0, .int .u16 0, .int .u32 0, .string ⟨#[]⟩], .int .i64 1]) (by simp [results, Tryz.results112, go_sem]) rfl ⟨rfl, (Below.refl _ _).alloc (Nat.le_refl _) _⟩
theorem decode_first (s : ByteArray) (hs : s.size ≤ maxLen) (h : 22 ≤ s.size) (h0 : ¬ s[0].toNat = 69) (w : World) :
  Calls Tryz.prog 112 #[.string s] w fun e w' => e = .returned (.tuple #[Msg.zero.v, .int .i64 1]) ∧ Below w.heap.size w w' := by
 rw [zero_v]
 have d0 : decide ((s.size : Int) < 22) = false := by simp; omega
 have d1 : ((s[0].toNat : Int) != 69) = true := by simp; omega
 have p0 : 0 < s.size := by omega
 go_enter Tryz.func112, Tryz.ntmps112
 go_wp2
 exact bodyPost_ret (v := .tuple #[.agg #[.int .u8 0, .int .u8 0, .int .u8 0, .int .u32 0, .int .u8 0, .int .u16 0, .int .u16 0, .int .u32 0, .string ⟨#[]⟩], .int .i64 1]) (by simp [results, Tryz.results112, go_sem]) rfl ⟨rfl, (Below.refl _ _).alloc (Nat.le_refl _) _⟩
theorem decode_len (s : ByteArray) (hs : s.size ≤ maxLen) (h : 22 ≤ s.size) (h0 : s[0].toNat = 69) (h17 : ¬ s.size = 22 + s[17].toNat) (w : World) :
  Calls Tryz.prog 112 #[.string s] w fun e w' => e = .returned (.tuple #[Msg.zero.v, .int .i64 1]) ∧ Below w.heap.size w w' := by
 rw [zero_v]
 have d0 : decide ((s.size : Int) < 22) = false := by simp; omega
 have d1 : ((s[0].toNat : Int) != 69) = false := by simp; omega
 have p0 : 0 < s.size := by omega
 have p17 : 17 < s.size := by omega
 have hb := byte_lt s[17]
 have d2 : ((s.size : Int) != 22 + (s[17].toNat : Int)) = true := by simp; omega
 clear h0
 go_enter Tryz.func112, Tryz.ntmps112
 go_wp2_with fail
 refine (size_at s hs p17 _).mono ?_
 rintro e w1 ⟨rfl, rfl⟩
 go_wp2
 exact bodyPost_ret (v := .tuple #[.agg #[.int .u8 0, .int .u8 0, .int .u8 0, .int .u32 0, .int .u8 0, .int .u16 0, .int .u16 0, .int .u32 0, .string ⟨#[]⟩], .int .i64 1]) (by simp [results, Tryz.results112, go_sem]) rfl ⟨rfl, (Below.refl _ _).alloc (Nat.le_refl _) _⟩
theorem ext_size (s : ByteArray) (a b : Nat) (h : b ≤ s.size) : (s.extract a b).size = b - a := by
 rw [← list_len, cut_of, cut_length (by rw [list_len]; exact h)]
theorem decode_sum (s : ByteArray) (h : 22 ≤ s.size) (p0 : 0 < s.size) (p17 : 17 < s.size) (h0 : (s[0]'p0).toNat = 69) (h17 : s.size = 22 + (s[17]'p17).toNat) (hsum : ¬ val (cut s.data.toList (s.size - 4) s.size) = sumOf (cut s.data.toList 0 (s.size - 4))) (w : World) :
  Calls Tryz.prog 112 #[.string s] w fun e w' => e = .returned (.tuple #[Msg.zero.v, .int .i64 2]) ∧ Below w.heap.size w w' := by
 rw [zero_v]
 have hb := byte_lt (s[17]'p17)
 have d0 : decide ((s.size : Int) < 22) = false := by simp; omega
 have d1 : (((s[0]'p0).toNat : Int) != 69) = false := by simp; omega
 have hsz : s.size ≤ 277 := by omega
 have d2 : ((s.size : Int) != (22 : Int) + ((s[17]'p17).toNat : Int)) = false := by simp; omega
 have z1 := ext_size s 0 (s.size - 4) (by omega)
 have z2 := ext_size s (s.size - 4) s.size (by omega)
 have c1 := hide (cut_of s 0 (s.size - 4))
 have c2 := hide (cut_of s (s.size - 4) s.size)
 have Z1 : (s.extract 0 (s.size - 4)).size ≤ maxLen := by rw [z1]; unfold maxLen; omega
 have Z2 : (s.extract (s.size - 4) s.size).size ≤ 8 := by rw [z2]; omega
 have d3 : ((val (cut s.data.toList (s.size - 4) s.size) : Int) != (sumOf (cut s.data.toList 0 (s.size - 4)) : Int)) = true := by simpa using fun e => hsum (by omega)
 clear h0 h17 hsum z1 z2
 go_enter Tryz.func112, Tryz.ntmps112
 go_wp2_with fail
 refine (size_at s (by unfold maxLen; omega) p17 _).mono ?_
 rintro e w1 ⟨rfl, rfl⟩
 go_wp2_with fail
 refine (frameSum_any _ Z1 _).mono ?_
 rintro e w1 ⟨rfl, rfl⟩
 rw [c1.out]
 go_wp2_with fail
 refine (number_any _ Z2 _).mono ?_
 rintro e w1 ⟨rfl, rfl⟩
 rw [c2.out]
 have y32 := sumOf_lt (cut s.data.toList 0 (s.size - 4))
 generalize val (cut s.data.toList (s.size - 4) s.size) = x at *
 generalize sumOf (cut s.data.toList 0 (s.size - 4)) = y at *
 have wy : IntKind.u64.wrap (y : Int) = (y : Int) := by rw [IntKind.wrap_u64]; omega
 go_wp2
 exact bodyPost_ret (v := .tuple #[.agg #[.int .u8 0, .int .u8 0, .int .u8 0, .int .u32 0, .int .u8 0, .int .u16 0, .int .u16 0, .int .u32 0, .string ⟨#[]⟩], .int .i64 2]) (by simp [results, Tryz.results112, go_sem]) rfl ⟨rfl, (Below.refl _ _).alloc (Nat.le_refl _) _⟩
theorem refDecode_short (s : ByteArray) (h : s.size < 22) (w : World) :
  Calls Tryz.prog 99 #[.string s] w fun e w' => e = .returned (.tuple #[Msg.zero.v, .int .i64 1]) ∧ Below w.heap.size w w' := by
 rw [zero_v]
 have d0 : decide ((s.size : Int) < 22) = true := by simp; omega
 go_enter Tryz.func99, Tryz.ntmps99
 go_wp2
 exact bodyPost_ret (v := .tuple #[.agg #[.int .u8 0, .int .u8 0, .int .u8 0, .int .u32 0, .int .u8 0, .int .u16 0, .int .u16 0, .int .u32 0, .string ⟨#[]⟩], .int .i64 1]) (by simp [results, Tryz.results99, go_sem]) rfl ⟨rfl, (Below.refl _ _).alloc (Nat.le_refl _) _⟩
theorem ext_one (s : ByteArray) (p0 : 0 < s.size) : (s.extract 0 1).toList = [s[0]'p0] := by
 rw [ByteArray.toList_eq, cut_of]
 apply List.ext_getElem?
 intro i
 cases i with
 | zero =>
  have := get_q s 0 p0;simp only [cut, List.drop_zero];rw [List.getElem?_take_of_lt (by decide), this];rfl
 | succ i =>
  rw [List.getElem?_eq_none (by simp [cut]; omega)];simp
theorem byte_E (b : UInt8) : ([b] == [69]) = decide (b.toNat = 69) := by
 rw [Bool.eq_iff_iff]
 simp
 exact ⟨fun h => by rw [h]; rfl, fun h => UInt8.toNat_inj.1 h⟩
theorem ext_E (s : ByteArray) (p0 : 0 < s.size) : ((s.extract 0 1).toList == [69]) = decide ((s[0]'p0).toNat = 69) := by rw [ext_one s p0, byte_E]
theorem refDecode_first (s : ByteArray) (hs : s.size ≤ 140737488351232) (h : 22 ≤ s.size) (p0 : 0 < s.size) (h0 : ¬ (s[0]'p0).toNat = 69) (w : World) :
  Calls Tryz.prog 99 #[.string s] w fun e w' => e = .returned (.tuple #[Msg.zero.v, .int .i64 1]) ∧ Below w.heap.size w w' := by
 rw [zero_v]
 have d0 : decide ((s.size : Int) < 22) = false := by simp; omega
 have p1 : (1 : Int) ≤ (s.size : Int) := by omega
 have d1 : ((s.extract 0 1).toList == [69]) = false := by rw [ext_E s p0]; simp [h0]
 go_enter Tryz.func99, Tryz.ntmps99
 go_wp2_with fail
 exact bodyPost_ret (v := .tuple #[.agg #[Value.int .u8 0, .int .u8 0, .int .u8 0, .int .u32 0, .int .u8 0, .int .u16 0, .int .u16 0, .int .u32 0, .string ⟨#[]⟩], .int .i64 1]) (by simp [results, Tryz.results99, go_sem]) rfl ⟨rfl, (Below.refl _ _).alloc (Nat.le_refl _) _⟩
theorem refDecode_len (s : ByteArray) (hs : s.size ≤ 140737488351232) (h : 22 ≤ s.size) (p0 : 0 < s.size) (p17 : 17 < s.size) (h0 : (s[0]'p0).toNat = 69) (h17 : ¬ s.size = 22 + (s[17]'p17).toNat) (w : World) :
  Calls Tryz.prog 99 #[.string s] w fun e w' => e = .returned (.tuple #[Msg.zero.v, .int .i64 1]) ∧ Below w.heap.size w w' := by
 rw [zero_v]
 have hb := byte_lt (s[17]'p17)
 have d0 : decide ((s.size : Int) < 22) = false := by simp; omega
 have p1 : (1 : Int) ≤ (s.size : Int) := by omega
 have d1 : ((s.extract 0 1).toList == [69]) = true := by rw [ext_E s p0]; simp [h0]
 have d2 : ((s.size : Int) - 22 != ((s[17]'p17).toNat : Int)) = true := by simp; omega
 clear h0
 go_enter Tryz.func99, Tryz.ntmps99
 go_wp2_with fail
 exact bodyPost_ret (v := .tuple #[.agg #[Value.int .u8 0, .int .u8 0, .int .u8 0, .int .u32 0, .int .u8 0, .int .u16 0, .int .u16 0, .int .u32 0, .string ⟨#[]⟩], .int .i64 1]) (by simp [results, Tryz.results99, go_sem]) rfl ⟨rfl, (Below.refl _ _).alloc (Nat.le_refl _) _⟩
theorem refDecode_sum (s : ByteArray) (h : 22 ≤ s.size) (p0 : 0 < s.size) (p17 : 17 < s.size) (h0 : (s[0]'p0).toNat = 69) (h17 : s.size = 22 + (s[17]'p17).toNat) (hsum : ¬ val (cut s.data.toList (s.size - 4) s.size) = sumOf (cut s.data.toList 0 (s.size - 4))) (w : World) :
  Calls Tryz.prog 99 #[.string s] w fun e w' => e = .returned (.tuple #[Msg.zero.v, .int .i64 2]) ∧ Below w.heap.size w w' := by
 rw [zero_v]
 have hb := byte_lt (s[17]'p17)
 have d0 : decide ((s.size : Int) < 22) = false := by simp; omega
 have p1 : (1 : Int) ≤ (s.size : Int) := by omega
 have d1 : ((s.extract 0 1).toList == [69]) = true := by rw [ext_E s p0]; simp [h0]
 have hsz : s.size ≤ 277 := by omega
 have d2 : ((s.size : Int) - 22 != ((s[17]'p17).toNat : Int)) = false := by simp; omega
 have z1 := ext_size s 0 (s.size - 4) (by omega)
 have z2 := ext_size s (s.size - 4) s.size (by omega)
 have c1 := hide (cut_of s 0 (s.size - 4))
 have c2 := hide (cut_of s (s.size - 4) s.size)
 have Z1 : (s.extract 0 (s.size - 4)).size ≤ maxLen := by rw [z1]; unfold maxLen; omega
 have Z2 : (s.extract (s.size - 4) s.size).size ≤ 4 := by rw [z2]; omega
 have y1 := sumOf_lt (cut s.data.toList 0 (s.size - 4))
 have d3 : ((sumOf (cut s.data.toList 0 (s.size - 4)) : Int) != (val (cut s.data.toList (s.size - 4) s.size) : Int)) = true := by simpa using fun e => hsum (by omega)
 clear h0 h17 hsum z1 z2
 go_enter Tryz.func99, Tryz.ntmps99
 go_wp2_with fail
 refine (refSum_any _ Z1 _).mono ?_
 rintro e w1 ⟨rfl, rfl⟩
 rw [c1.out]
 generalize sumOf (cut s.data.toList 0 (s.size - 4)) = y at *
 go_wp2_with fail
 refine (value_any _ Z2 _).mono ?_
 rintro e w1 ⟨rfl, rfl⟩
 rw [c2.out]
 generalize val (cut s.data.toList (s.size - 4) s.size) = x at *
 go_wp2
 exact bodyPost_ret (v := .tuple #[.agg #[Value.int .u8 0, .int .u8 0, .int .u8 0, .int .u32 0, .int .u8 0, .int .u16 0, .int .u16 0, .int .u32 0, .string ⟨#[]⟩], .int .i64 2]) (by simp [results, Tryz.results99, go_sem]) rfl ⟨rfl, (Below.refl _ _).alloc (Nat.le_refl _) _⟩
theorem say_of (s : ByteArray) (h : 22 ≤ s.size) (q1 : 1 < s.size) (q2 : 2 < s.size) (q3 : 3 < s.size) (q8 : 8 < s.size) :
  sayOf s.data.toList = ⟨(s[1]'q1).toNat, (s[2]'q2).toNat, (s[3]'q3).toNat, val (cut s.data.toList 4 8), (s[8]'q8).toNat, val (cut s.data.toList 9 11), val (cut s.data.toList 11 13), val (cut s.data.toList 13 17), (s.extract 18 (s.size - 4)).data.toList⟩ := by
 rw [cut_of, ← at8_of s 1 q1, ← at8_of s 2 q2, ← at8_of s 3 q3, ← at8_of s 8 q8]
 unfold sayOf
 rw [list_len]
theorem decode_tail (s : ByteArray) (h : 22 ≤ s.size) (p0 : 0 < s.size) (p17 : 17 < s.size) (q1 : 1 < s.size) (q2 : 2 < s.size) (q3 : 3 < s.size) (q8 : 8 < s.size) (h0 : (s[0]'p0).toNat = 69) (h17 : s.size = 22 + (s[17]'p17).toNat)
  (hsum : val (cut s.data.toList (s.size - 4) s.size) = sumOf (cut s.data.toList 0 (s.size - 4))) (vi vp vg va fv : Nat) (e3 : val (cut s.data.toList 4 8) = vi) (e4 : val (cut s.data.toList 9 11) = vp) (e5 : val (cut s.data.toList 11 13) = vg) (e6 : val (cut s.data.toList 13 17) = va)
  (b3 : vi < 4294967296) (b4 : vp < 65536) (b5 : vg < 65536) (b6 : va < 4294967296)
  (hfault : ∀ u : World, Calls Tryz.prog 143 #[.agg #[Value.int .u8 ((s[1]'q1).toNat : Int), .int .u8 ((s[2]'q2).toNat : Int), .int .u8 ((s[3]'q3).toNat : Int), .int .u32 (vi : Int), .int .u8 ((s[8]'q8).toNat : Int), .int .u16 (vp : Int), .int .u16 (vg : Int), .int .u32 (va : Int), .string (s.extract 18 (s.size - 4))]] u fun e u' => e = .returned (.int .i64 (fv : Int)) ∧ Below u.heap.size u u') (w : World) :
  Calls Tryz.prog 112 #[.string s] w fun e w' => e = .returned (.tuple #[.agg (if fv = 0 then #[Value.int .u8 ((s[1]'q1).toNat : Int), .int .u8 ((s[2]'q2).toNat : Int), .int .u8 ((s[3]'q3).toNat : Int), .int .u32 (vi : Int), .int .u8 ((s[8]'q8).toNat : Int), .int .u16 (vp : Int), .int .u16 (vg : Int), .int .u32 (va : Int), .string (s.extract 18 (s.size - 4))] else #[Value.int .u8 0, .int .u8 0, .int .u8 0, .int .u32 0, .int .u8 0, .int .u16 0, .int .u16 0, .int .u32 0, .string ⟨#[]⟩]), .int .i64 (fv : Int)]) ∧ Below w.heap.size w w' := by
 have HF := hide hfault
 clear hfault
 have hb := byte_lt (s[17]'p17)
 have d0 : decide ((s.size : Int) < 22) = false := by simp; omega
 have d1 : (((s[0]'p0).toNat : Int) != 69) = false := by simp; omega
 have hsz : s.size ≤ 277 := by omega
 have d2 : ((s.size : Int) != (22 : Int) + ((s[17]'p17).toNat : Int)) = false := by simp; omega
 have z1 := ext_size s 0 (s.size - 4) (by omega)
 have z2 := ext_size s (s.size - 4) s.size (by omega)
 have z3 := ext_size s 4 8 (by omega)
 have z4 := ext_size s 9 11 (by omega)
 have z5 := ext_size s 11 13 (by omega)
 have z6 := ext_size s 13 17 (by omega)
 have c1 := hide (cut_of s 0 (s.size - 4))
 have c2 := hide (cut_of s (s.size - 4) s.size)
 have c3 : Hid (val (s.extract 4 8).data.toList = vi) := hide (by rw [cut_of]; exact e3)
 have c4 : Hid (val (s.extract 9 11).data.toList = vp) := hide (by rw [cut_of]; exact e4)
 have c5 : Hid (val (s.extract 11 13).data.toList = vg) := hide (by rw [cut_of]; exact e5)
 have c6 : Hid (val (s.extract 13 17).data.toList = va) := hide (by rw [cut_of]; exact e6)
 have Z1 : (s.extract 0 (s.size - 4)).size ≤ maxLen := by rw [z1]; unfold maxLen; omega
 have Z2 : (s.extract (s.size - 4) s.size).size ≤ 8 := by rw [z2]; omega
 have Z3 : (s.extract 4 8).size ≤ 8 := by rw [z3]; omega
 have Z4 : (s.extract 9 11).size ≤ 8 := by rw [z4]; omega
 have Z5 : (s.extract 11 13).size ≤ 8 := by rw [z5]; omega
 have Z6 : (s.extract 13 17).size ≤ 8 := by rw [z6]; omega
 have d3 : ((val (cut s.data.toList (s.size - 4) s.size) : Int) != (sumOf (cut s.data.toList 0 (s.size - 4)) : Int)) = false := by simp [hsum]
 clear h0 h17 hsum e3 e4 e5 e6 z1 z2 z3 z4 z5 z6
 go_enter Tryz.func112, Tryz.ntmps112
 go_wp2_with fail
 refine (size_at s (by unfold maxLen; omega) p17 _).mono ?_
 rintro e w1 ⟨rfl, rfl⟩
 go_wp2_with fail
 refine (frameSum_any _ Z1 _).mono ?_
 rintro e w1 ⟨rfl, rfl⟩
 rw [c1.out]
 go_wp2_with fail
 refine (number_any _ Z2 _).mono ?_
 rintro e w1 ⟨rfl, rfl⟩
 rw [c2.out]
 clear c1 c2 Z1 Z2
 have y32 := sumOf_lt (cut s.data.toList 0 (s.size - 4))
 generalize val (cut s.data.toList (s.size - 4) s.size) = x at *
 generalize sumOf (cut s.data.toList 0 (s.size - 4)) = y at *
 have wy : IntKind.u64.wrap (y : Int) = (y : Int) := by rw [IntKind.wrap_u64]; omega
 go_wp2_with fail
 refine (number_any _ Z3 _).mono ?_
 rintro e w1 ⟨rfl, rfl⟩
 rw [c3.out]
 clear c3 Z3
 go_wp2_with fail
 refine (number_any _ Z4 _).mono ?_
 rintro e w1 ⟨rfl, rfl⟩
 rw [c4.out]
 clear c4 Z4
 go_wp2_with fail
 refine (number_any _ Z5 _).mono ?_
 rintro e w1 ⟨rfl, rfl⟩
 rw [c5.out]
 clear c5 Z5
 go_wp2_with fail
 refine (number_any _ Z6 _).mono ?_
 rintro e w1 ⟨rfl, rfl⟩
 rw [c6.out]
 clear c6 Z6
 have s18 : (18 : Int) ≤ (s.size : Int) - 4 := by omega
 have s4 : (s.size : Int) - 4 ≤ (s.size : Int) := by omega
 have wp : IntKind.u16.wrap (vp : Int) = (vp : Int) := by rw [IntKind.wrap_u16]; omega
 have wi : IntKind.u32.wrap (vi : Int) = (vi : Int) := by rw [IntKind.wrap_u32]; omega
 have wa : IntKind.u32.wrap (va : Int) = (va : Int) := by rw [IntKind.wrap_u32]; omega
 have wg : IntKind.u16.wrap (vg : Int) = (vg : Int) := by rw [IntKind.wrap_u16]; omega
 go_wp2_with fail
 clear d0 d1 d2 d3
 have B1 := Box.mk0 w #[Value.int .u8 0, .int .u8 0, .int .u8 0, .int .u32 0, .int .u8 0, .int .u16 0, .int .u16 0, .int .u32 0, .string ⟨#[]⟩] 102
 generalize w.alloc _ = w1 at B1 ⊢
 have i1 : (1 : Int) < (s.size : Int) := by omega
 have i2 : (2 : Int) < (s.size : Int) := by omega
 have i3 : (3 : Int) < (s.size : Int) := by omega
 have i8 : (8 : Int) < (s.size : Int) := by omega
 go_region
 have B2 := Box.mk0 w1 #[Value.int .u8 ((s[1]'q1).toNat : Int), .int .u8 ((s[2]'q2).toNat : Int), .int .u8 ((s[3]'q3).toNat : Int), .int .u32 (vi : Int), .int .u8 ((s[8]'q8).toNat : Int), .int .u16 (vp : Int), .int .u16 (vg : Int), .int .u32 (va : Int), .string (s.extract 18 (s.size - 4))] 102
 replace B1 := B1.alloc (.cells #[Value.int .u8 ((s[1]'q1).toNat : Int), .int .u8 ((s[2]'q2).toNat : Int), .int .u8 ((s[3]'q3).toNat : Int), .int .u32 (vi : Int), .int .u8 ((s[8]'q8).toNat : Int), .int .u16 (vp : Int), .int .u16 (vg : Int), .int .u32 (va : Int), .string (s.extract 18 (s.size - 4))] 102)
 generalize w1.alloc _ = w2 at B1 B2 ⊢
 have hc := B2.cell
 go_wp2_with fail
 refine (HF.out _).mono ?_
 rintro e w3 ⟨rfl, hb3⟩
 replace B1 := B1.drew.below hb3
 replace B2 := B2.drew.below hb3
 replace hc := B2.cell
 have hc1 := B1.cell
 have hf1 := B1.fro
 clear HF hb3
 by_cases f0 : fv = 0
 ·subst f0;go_wp2;exact bodyPost_ret (v := .tuple #[.agg #[Value.int .u8 ((s[1]'q1).toNat : Int), .int .u8 ((s[2]'q2).toNat : Int), .int .u8 ((s[3]'q3).toNat : Int), .int .u32 (vi : Int), .int .u8 ((s[8]'q8).toNat : Int), .int .u16 (vp : Int), .int .u16 (vg : Int), .int .u32 (va : Int), .string (s.extract 18 (s.size - 4))], .int .i64 0]) (by simp [results, Tryz.results112, go_sem, hc1]) rfl ⟨rfl, (((((((((B1.bel.setCell (Nat.le_refl _) _).setCell (Nat.le_refl _) _).setCell (Nat.le_refl _) _).setCell (Nat.le_refl _) _).setCell (Nat.le_refl _) _).setCell (Nat.le_refl _) _).setCell (Nat.le_refl _) _).setCell (Nat.le_refl _) _).setCell (Nat.le_refl _) _)⟩
 ·have d0 : ((fv : Int) != 0) = true := by simp; omega
  go_wp2;exact bodyPost_ret (v := .tuple #[.agg #[Value.int .u8 0, .int .u8 0, .int .u8 0, .int .u32 0, .int .u8 0, .int .u16 0, .int .u16 0, .int .u32 0, .string ⟨#[]⟩], .int .i64 (fv : Int)]) (by simp [results, Tryz.results112, go_sem, hc1]) rfl ⟨by first | rfl | rw [if_neg f0], (((((((((B1.bel.setCell (Nat.le_refl _) _).setCell (Nat.le_refl _) _).setCell (Nat.le_refl _) _).setCell (Nat.le_refl _) _).setCell (Nat.le_refl _) _).setCell (Nat.le_refl _) _).setCell (Nat.le_refl _) _).setCell (Nat.le_refl _) _).setCell (Nat.le_refl _) _)⟩
theorem decode_any (s : ByteArray) (hs : s.size ≤ maxLen) (w : World) :
  Calls Tryz.prog 112 #[.string s] w fun e w' => e = .returned (.tuple #[(decMsg s.data.toList).v, .int .i64 ((decErr s.data.toList : Nat) : Int)]) ∧ Below w.heap.size w w' := by
 by_cases h : 22 ≤ s.size
 ·have p0 : 0 < s.size := by omega
  have p17 : 17 < s.size := by omega
  have hl := list_len s;by_cases h0 : (s[0]'p0).toNat = 69
  ·by_cases h17 : s.size = 22 + (s[17]'p17).toNat
   ·have hf : formB s.data.toList = true := by
     simp [formB, at8_of s 0 p0, at8_of s 17 p17, h0, h, ← h17]
    by_cases hsum : val (cut s.data.toList (s.size - 4) s.size) = sumOf (cut s.data.toList 0 (s.size - 4))
    ·have hse : sealB s.data.toList = true := by simp only [sealB, hl]; simpa using hsum
     have he : decErr s.data.toList = faultOf (sayOf s.data.toList) := by simp [decErr, hf, hse]
     have hd : decMsg s.data.toList = if faultOf (sayOf s.data.toList) = 0 then sayOf s.data.toList else Msg.zero := by unfold decMsg; rw [he]
     rw [hd, he];have q1 : 1 < s.size := by omega
     have q2 : 2 < s.size := by omega
     have q3 : 3 < s.size := by omega
     have q8 : 8 < s.size := by omega
     have hok : (sayOf s.data.toList).ok := sayOf_ok (by rw [list_len]; exact h)
     have hml : (sayOf s.data.toList).m.length ≤ 140737488351232 := by
      have hm : (sayOf s.data.toList).m.length ≤ s.data.toList.length := by simp [sayOf, cut]; omega
      have hb := byte_lt (s[17]'p17);omega
     have hfa := fault_any (sayOf s.data.toList) hok hml
     have hv : (sayOf s.data.toList).v = .agg #[Value.int .u8 ((s[1]'q1).toNat : Int), .int .u8 ((s[2]'q2).toNat : Int), .int .u8 ((s[3]'q3).toNat : Int), .int .u32 (val (cut s.data.toList 4 8) : Int), .int .u8 ((s[8]'q8).toNat : Int), .int .u16 (val (cut s.data.toList 9 11) : Int), .int .u16 (val (cut s.data.toList 11 13) : Int), .int .u32 (val (cut s.data.toList 13 17) : Int), .string (s.extract 18 (s.size - 4))] := by
      rw [say_of s h q1 q2 q3 q8];simp only [Msg.v, Msg.cells, bs_of]
     rw [hv] at hfa;have hd2 := decode_tail s h p0 p17 q1 q2 q3 q8 h0 h17 hsum _ _ _ _ _ rfl rfl rfl rfl hok.2.2.2.1 hok.2.2.2.2.2.1 hok.2.2.2.2.2.2.1 hok.2.2.2.2.2.2.2 hfa w
     have hif : (if faultOf (sayOf s.data.toList) = 0 then sayOf s.data.toList else Msg.zero).v = .agg (if faultOf (sayOf s.data.toList) = 0 then #[Value.int .u8 ((s[1]'q1).toNat : Int), .int .u8 ((s[2]'q2).toNat : Int), .int .u8 ((s[3]'q3).toNat : Int), .int .u32 (val (cut s.data.toList 4 8) : Int), .int .u8 ((s[8]'q8).toNat : Int), .int .u16 (val (cut s.data.toList 9 11) : Int), .int .u16 (val (cut s.data.toList 11 13) : Int), .int .u32 (val (cut s.data.toList 13 17) : Int), .string (s.extract 18 (s.size - 4))] else #[Value.int .u8 0, .int .u8 0, .int .u8 0, .int .u32 0, .int .u8 0, .int .u16 0, .int .u16 0, .int .u32 0, .string ⟨#[]⟩]) := by
      split
      ·exact hv
      ·exact zero_v
     rw [hif];exact hd2
    ·have hse : sealB s.data.toList = false := by simp only [sealB, hl]; simpa using hsum
     have he : decErr s.data.toList = 2 := by simp [decErr, hf, hse]
     have hd : decMsg s.data.toList = Msg.zero := by simp [decMsg, he]
     rw [hd, he];exact decode_sum s h p0 p17 h0 h17 hsum w
   ·have hf : formB s.data.toList = false := by
     simp only [formB, at8_of s 17 p17, hl];simp [h17]
    have he : decErr s.data.toList = 1 := by simp [decErr, hf]
    have hd : decMsg s.data.toList = Msg.zero := by simp [decMsg, he]
    rw [hd, he];exact decode_len s hs h h0 h17 w
  ·have hf : formB s.data.toList = false := by
    simp only [formB, at8_of s 0 p0];simp [h0]
   have he : decErr s.data.toList = 1 := by simp [decErr, hf]
   have hd : decMsg s.data.toList = Msg.zero := by simp [decMsg, he]
   rw [hd, he];exact decode_first s hs h h0 w
 ·have hf : formB s.data.toList = false := by
   simp only [formB, list_len];simp [h]
  have he : decErr s.data.toList = 1 := by simp [decErr, hf]
  have hd : decMsg s.data.toList = Msg.zero := by simp [decMsg, he]
  rw [hd, he];exact decode_short s (by omega) w
end Go.Proofs.YtjkhbjgfoopomabGreat
