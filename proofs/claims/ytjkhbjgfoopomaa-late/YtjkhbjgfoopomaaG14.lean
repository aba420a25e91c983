import Derived.Test.YtjkhbjgfoopomaaG13
import Derived.Test.YtjkhbjgfoopomaaG4
/-
  The program's Bank.Funds, Bank.Leg, and what is small.
-/
namespace Go.Proofs.Ytjkhbjgfoopomaa
open Go.RowKit
set_option linter.unusedVariables false
set_option linter.unusedSimpArgs false

/-- a leg's state; 0: it is not kept -/
def stL (id l : Nat) (ls : List Lg) : Nat := match ls[findB id l ls]? with | none => 0 | some x => x.st
theorem stL_at {id l : Nat} {ls : List Lg} (h : findB id l ls < ls.length) : stL id l ls = ls[findB id l ls].st := by unfold stL; rw [List.getElem?_eq_getElem h]
theorem stL_no {id l : Nat} {ls : List Lg} (h : ls.length ≤ findB id l ls) : stL id l ls = 0 := by unfold stL; rw [List.getElem?_eq_none h]
theorem stL_lt {id l : Nat} {ls : List Lg} (hok : ∀ x, x ∈ ls → x.ok) : stL id l ls < 256 := by
  rcases Nat.lt_or_ge (findB id l ls) ls.length with h | h
  · rw [stL_at h]; exact (hok _ (List.getElem_mem h)).2.2.1
  · rw [stL_no h]; omega
set_option maxRecDepth 100000 in
set_option maxHeartbeats 1000000 in
theorem state_any (id l : Nat) (hid : id < 4294967296) (hl : l < 256) (w : World) (B node : Nat) (ac : List Ac) (ls : List Lg) (va vl : Value) (hX : XB w B node ac ls va vl) (hok : ∀ x, x ∈ ls → x.ok) (hlen : ls.length ≤ 1000000) :
    Calls Try.prog 105 #[.pointer (some ⟨B, 0, none⟩), .int .u32 (id : Int), .int .u8 (l : Int)] w fun e w' => e = .returned (.int .u8 (stL id l ls : Int)) ∧ w' = w := by
  have hF := hide (find_any id l hid hl w B node ac ls va vl hX hok hlen)
  unfold stL
  generalize findB id l ls = j at *
  obtain ⟨ad, cap, hv, hev⟩ := hX.lrow.form Lg.cells_length
  subst hv
  have hc : ∀ o, _ = _ := fun o => cell_at hX.blk o
  by_cases hj : j < ls.length
  · have hlk : (j : Int) < (ls.length : Int) := by omega
    have d1 : decide ((j : Int) ≥ (ls.length : Int)) = false := by simp; omega
    have d2 : decide ((ls.length : Int) ≤ (j : Int)) = false := by simp; omega
    rw [List.getElem?_eq_getElem hj]
    obtain ⟨g, hg, hcell, _⟩ := hev j hj
    subst hg
    have c2 := hcell 2 (by decide)
    have hek := hok ls[j] (List.getElem_mem hj)
    clear hcell hev
    generalize ls[j] = E at *
    obtain ⟨ei, el, es, ep, eg, ea, em⟩ := E
    simp only [Lg.cells, List.getElem?_cons_zero, List.getElem?_cons_succ, Nat.add_zero] at c2
    go_enter Try.func105, Try.ntmps105
    go_wp2_with fail
    refine hF.out.mono ?_
    rintro e w1 ⟨rfl, rfl⟩
    clear hF
    go_wp2
    go_ret
    exact ⟨rfl, rfl⟩
  · have d1 : decide ((j : Int) ≥ (ls.length : Int)) = true := by simp; omega
    have d2 : decide ((ls.length : Int) ≤ (j : Int)) = true := by simp; omega
    rw [List.getElem?_eq_none (by omega)]
    clear hev
    go_enter Try.func105, Try.ntmps105
    go_wp2_with fail
    refine hF.out.mono ?_
    rintro e w1 ⟨rfl, rfl⟩
    clear hF
    go_wp2
    go_ret
    exact ⟨rfl, rfl⟩

set_option maxRecDepth 100000 in
set_option maxHeartbeats 1000000 in
theorem xLeg_any (id l : Nat) (hid : id < 4294967296) (hl : l < 256) (w : World) (B node : Nat) (ac : List Ac) (ls : List Lg) (va vl : Value) (hX : XB w B node ac ls va vl) (hok : ∀ x, x ∈ ls → x.ok) (hst : ∀ x, x ∈ ls → 1 ≤ x.st) (hlen : ls.length ≤ 1000000) :
    Calls Try.prog 83 #[.pointer (some ⟨B, 0, none⟩), .int .u32 (id : Int), .int .u8 (l : Int)] w fun e w' => (e = match ls[findB id l ls]? with | none => .returned (.tuple #[.int .u8 0, .int .i64 13]) | some x => .returned (.tuple #[.int .u8 (x.st : Int), .int .i64 0])) ∧ Below w.heap.size w w' := by
  have hF := hide (state_any id l hid hl w B node ac ls va vl hX hok hlen)
  have hS : Hid (∀ x, ls[findB id l ls]? = some x → 1 ≤ x.st ∧ x.st < 256) := hide (fun x hx => ⟨hst x (List.mem_of_getElem? hx), (hok x (List.mem_of_getElem? hx)).2.2.1⟩)
  unfold stL at hF
  generalize ls[findB id l ls]? = R at *
  have hc : ∀ o, _ = _ := fun o => cell_at hX.blk o
  cases R with
  | none =>
    simp only at *
    go_enter Try.func83, Try.ntmps83
    go_wp2_with fail
    refine hF.out.mono ?_
    rintro e w1 ⟨rfl, rfl⟩
    clear hF
    go_wp2
    go_ret2
    exact ⟨rfl, Below.refl _ _⟩
  | some x =>
    have hx := hS.out x rfl
    obtain ⟨ei, el, es, ep, eg, ea, em⟩ := x
    simp only at *
    have d1 : ((es : Int) == 0) = false := by simp; omega
    go_enter Try.func83, Try.ntmps83
    go_wp2_with fail
    refine hF.out.mono ?_
    rintro e w1 ⟨rfl, rfl⟩
    clear hF
    go_wp2
    go_ret2
    exact ⟨rfl, Below.refl _ _⟩

set_option maxRecDepth 100000 in
set_option maxHeartbeats 1000000 in
theorem isAhead_any (x y : Lg) (hx : x.ok) (hy : y.ok) (w : World) :
    Calls Try.prog 129 #[.agg #[.int .u32 (x.id : Int), .int .u8 (x.l : Int), .int .u8 (x.st : Int), .int .u16 (x.p : Int), .int .u16 (x.g : Int), .int .u32 (x.a : Int), .string (bs x.m)], .agg #[.int .u32 (y.id : Int), .int .u8 (y.l : Int), .int .u8 (y.st : Int), .int .u16 (y.p : Int), .int .u16 (y.g : Int), .int .u32 (y.a : Int), .string (bs y.m)]] w fun e w' => e = .returned (.bool (decide (x.id < y.id ∨ (x.id = y.id ∧ x.l < y.l)))) ∧ Below w.heap.size w w' := by
  obtain ⟨xi, xl, xs, xp, xg, xa, xm⟩ := x
  obtain ⟨yi, yl, ys, yp, yg, ya, ym⟩ := y
  obtain ⟨h1, h2, h3, h4, h5, h6⟩ := hx
  obtain ⟨k1, k2, k3, k4, k5, k6⟩ := hy
  simp only at *
  by_cases he : xi = yi
  · have d1 : ((xi : Int) != (yi : Int)) = false := by simp; omega
    have hq : Hid (decide (xi < yi ∨ (xi = yi ∧ xl < yl)) = decide (xl < yl)) := hide (decide_eq_decide.2 (by omega))
    clear he
    go_enter Try.func129, Try.ntmps129
    go_wp2
    go_ret
    exact ⟨by rw [hq.out]; rfl, ((Below.refl _ _).alloc (Nat.le_refl _) _).alloc (by simp) _⟩
  · have d1 : ((xi : Int) != (yi : Int)) = true := by simp; omega
    have hq : Hid (decide (xi < yi ∨ (xi = yi ∧ xl < yl)) = decide (xi < yi)) := hide (decide_eq_decide.2 (by omega))
    clear he
    go_enter Try.func129, Try.ntmps129
    go_wp2
    go_ret
    exact ⟨by rw [hq.out]; rfl, ((Below.refl _ _).alloc (Nat.le_refl _) _).alloc (by simp) _⟩
end Go.Proofs.Ytjkhbjgfoopomaa
