import Derived.Test.YtjkhbjgfoopomaaR12
import Derived.Test.YtjkhbjgfoopomaaR3
/-
  The program's Bank.Funds, Bank.Leg, and what is small.
-/
namespace Go.Proofs.Ytjkhbjgfoopomaa
open Go.RowKit
set_option linter.unusedVariables false
set_option linter.unusedSimpArgs false

set_option maxRecDepth 100000 in
set_option maxHeartbeats 1000000 in
theorem xFunds_any (a : Nat) (ha : a < 65536) (w : World) (B node : Nat) (ac : List Ac) (ls : List Lg) (va vl : Value) (hX : XB w B node ac ls va vl) (hoka : ∀ x, x ∈ ac → x.ok) (hokl : ∀ x, x ∈ ls → x.ok) (hlena : ac.length ≤ 1000000) (hlenl : ls.length ≤ 1000000)
    (hh : heldL a ls < 4294967296) (hd : dueL a ls < 4294967296) :
    Calls Try.prog 55 #[.pointer (some ⟨B, 0, none⟩), .int .u16 (a : Int)] w fun e w' => (e = if hasB a ac then .returned (.tuple #[.agg #[.int .u32 (balL a ac : Int), .int .u32 (heldL a ls : Int), .int .u32 (dueL a ls : Int)], .int .i64 0]) else .returned (.tuple #[.agg #[.int .u32 0, .int .u32 0, .int .u32 0], .int .i64 8])) ∧ Below w.heap.size w w' := by
  have hH := hide (fun u (hu : XB u B node ac ls va vl) => has_any a ha u B node ac ls va vl hu hoka hlena)
  have hF := hide (fun u (hu : XB u B node ac ls va vl) => xfunds_any a ha u B node ac ls va vl hu hoka hokl hlena hlenl hh hd)
  generalize hasB a ac = hb at *
  generalize balL a ac = bl at *
  generalize heldL a ls = hl at *
  generalize dueL a ls = dl at *
  cases hb with
  | false =>
    simp only [Bool.false_eq_true, if_false]
    go_enter Try.func55, Try.ntmps55
    go_wp2_with fail
    refine (hH.out _ (hX.below ((Below.refl _ _).alloc (Nat.le_refl _) _))).mono ?_
    rintro e w1 ⟨rfl, rfl⟩
    clear hH hF
    go_wp2
    exact bodyPost_ret (v := .tuple #[.agg #[.int .u32 0, .int .u32 0, .int .u32 0], .int .i64 8]) (by simp [results, Try.results55, go_sem]) rfl ⟨rfl, (Below.refl _ _).alloc (Nat.le_refl _) _⟩
  | true =>
    simp only [if_true]
    go_enter Try.func55, Try.ntmps55
    go_wp2_with fail
    refine (hH.out _ (hX.below ((Below.refl _ _).alloc (Nat.le_refl _) _))).mono ?_
    rintro e w1 ⟨rfl, rfl⟩
    clear hH
    go_wp2_with fail
    refine (hF.out _ (hX.below ((Below.refl _ _).alloc (Nat.le_refl _) _))).mono ?_
    rintro e w2 ⟨rfl, hb2⟩
    have hc2 := fun o => cel_kept hb2 o
    have hf2 := fun o => fro_kept hb2 o
    have hlt := lt_kept hb2
    have hP := putL_whole [.int .u32 (bl : Int), .int .u32 (hl : Int), .int .u32 (dl : Int)] (blk_kept hb2) rfl
    have hB := (all_kept hb2).trans ((putL_kept [.int .u32 (bl : Int), .int .u32 (hl : Int), .int .u32 (dl : Int)] w2 w.heap.size 0).below (all_kept hb2).size (fun k e => by omega))
    clear hF hb2
    go_wp2
    have hc3 := fun o => cell_at hP o
    simp only [putL] at hc3 hB
    generalize World.setCell _ _ _ = u at *
    exact bodyPost_ret (v := .tuple #[.agg #[.int .u32 (bl : Int), .int .u32 (hl : Int), .int .u32 (dl : Int)], .int .i64 0]) (by simp [results, Try.results55, go_sem, hc3]) rfl ⟨rfl, hB⟩

/-- a leg's state; 0: it is not kept -/
def stL (id l : Nat) (ls : List Lg) : Nat := match ls[findB id l ls]? with | none => 0 | some x => x.st
theorem stL_at {id l : Nat} {ls : List Lg} (h : findB id l ls < ls.length) : stL id l ls = ls[findB id l ls].st := by unfold stL; rw [List.getElem?_eq_getElem h]
theorem stL_no {id l : Nat} {ls : List Lg} (h : ls.length ≤ findB id l ls) : stL id l ls = 0 := by unfold stL; rw [List.getElem?_eq_none h]
theorem stL_lt {id l : Nat} {ls : List Lg} (hok : ∀ x, x ∈ ls → x.ok) : stL id l ls < 256 := by
  rcases Nat.lt_or_ge (findB id l ls) ls.length with h | h
  · rw [stL_at h]; exact (hok _ (List.getElem_mem h)).2.2.1
  · rw [stL_no h]; omega
set_option maxRecDepth 100000 in
set_option maxHeartbeats 1000000 in
theorem state_any (id l : Nat) (hid : id < 4294967296) (hl : l < 256) (w : World) (B node : Nat) (ac : List Ac) (ls : List Lg) (va vl : Value) (hX : XB w B node ac ls va vl) (hok : ∀ x, x ∈ ls → x.ok) (hlen : ls.length ≤ 1000000) :
    Calls Try.prog 105 #[.pointer (some ⟨B, 0, none⟩), .int .u32 (id : Int), .int .u8 (l : Int)] w fun e w' => e = .returned (.int .u8 (stL id l ls : Int)) ∧ w' = w := by
  have hF := hide (find_any id l hid hl w B node ac ls va vl hX hok hlen)
  unfold stL
  generalize findB id l ls = j at *
  obtain ⟨ad, cap, hv, hev⟩ := hX.lrow.form Lg.cells_length
  subst hv
  have hc : ∀ o, _ = _ := fun o => cell_at hX.blk o
  by_cases hj : j < ls.length
  · have hlk : (j : Int) < (ls.length : Int) := by omega
    have d1 : decide ((j : Int) ≥ (ls.length : Int)) = false := by simp; omega
    have d2 : decide ((ls.length : Int) ≤ (j : Int)) = false := by simp; omega
    rw [List.getElem?_eq_getElem hj]
    obtain ⟨g, hg, hcell, _⟩ := hev j hj
    subst hg
    have c2 := hcell 2 (by decide)
    have hek := hok ls[j] (List.getElem_mem hj)
    clear hcell hev
    generalize ls[j] = E at *
    obtain ⟨ei, el, es, ep, eg, ea, em⟩ := E
    simp only [Lg.cells, List.getElem?_cons_zero, List.getElem?_cons_succ, Nat.add_zero] at c2
    go_enter Try.func105, Try.ntmps105
    go_wp2_with fail
    refine hF.out.mono ?_
    rintro e w1 ⟨rfl, rfl⟩
    clear hF
    go_wp2
    go_ret
    exact ⟨rfl, rfl⟩
  · have d1 : decide ((j : Int) ≥ (ls.length : Int)) = true := by simp; omega
    have d2 : decide ((ls.length : Int) ≤ (j : Int)) = true := by simp; omega
    rw [List.getElem?_eq_none (by omega)]
    clear hev
    go_enter Try.func105, Try.ntmps105
    go_wp2_with fail
    refine hF.out.mono ?_
    rintro e w1 ⟨rfl, rfl⟩
    clear hF
    go_wp2
    go_ret
    exact ⟨rfl, rfl⟩

set_option maxRecDepth 100000 in
set_option maxHeartbeats 1000000 in
theorem isAhead_any (x y : Lg) (hx : x.ok) (hy : y.ok) (w : World) :
    Calls Try.prog 129 #[.agg #[.int .u32 (x.id : Int), .int .u8 (x.l : Int), .int .u8 (x.st : Int), .int .u16 (x.p : Int), .int .u16 (x.g : Int), .int .u32 (x.a : Int), .string (bs x.m)], .agg #[.int .u32 (y.id : Int), .int .u8 (y.l : Int), .int .u8 (y.st : Int), .int .u16 (y.p : Int), .int .u16 (y.g : Int), .int .u32 (y.a : Int), .string (bs y.m)]] w fun e w' => e = .returned (.bool (decide (x.id < y.id ∨ (x.id = y.id ∧ x.l < y.l)))) ∧ Below w.heap.size w w' := by
  obtain ⟨xi, xl, xs, xp, xg, xa, xm⟩ := x
  obtain ⟨yi, yl, ys, yp, yg, ya, ym⟩ := y
  obtain ⟨h1, h2, h3, h4, h5, h6⟩ := hx
  obtain ⟨k1, k2, k3, k4, k5, k6⟩ := hy
  simp only at *
  by_cases he : xi = yi
  · have d1 : ((xi : Int) != (yi : Int)) = false := by simp; omega
    have hq : Hid (decide (xi < yi ∨ (xi = yi ∧ xl < yl)) = decide (xl < yl)) := hide (decide_eq_decide.2 (by omega))
    clear he
    go_enter Try.func129, Try.ntmps129
    go_wp2
    go_ret
    exact ⟨by rw [hq.out]; rfl, ((Below.refl _ _).alloc (Nat.le_refl _) _).alloc (by simp) _⟩
  · have d1 : ((xi : Int) != (yi : Int)) = true := by simp; omega
    have hq : Hid (decide (xi < yi ∨ (xi = yi ∧ xl < yl)) = decide (xi < yi)) := hide (decide_eq_decide.2 (by omega))
    clear he
    go_enter Try.func129, Try.ntmps129
    go_wp2
    go_ret
    exact ⟨by rw [hq.out]; rfl, ((Below.refl _ _).alloc (Nat.le_refl _) _).alloc (by simp) _⟩
end Go.Proofs.Ytjkhbjgfoopomaa
