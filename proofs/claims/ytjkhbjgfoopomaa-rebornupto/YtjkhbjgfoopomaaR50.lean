import Derived.Test.YtjkhbjgfoopomaaR40
import Derived.Test.YtjkhbjgfoopomaaR46
import Derived.Test.YtjkhbjgfoopomaaR38
import Derived.Test.YtjkhbjgfoopomaaR36
/-
  Networks: balances together are what was opened; none is held that is not there.
-/
namespace Go.Proofs.Ytjkhbjgfoopomaa
open Go.RowKit
set_option linter.unusedVariables false
set_option linter.unusedSimpArgs false
theorem opened_init (fs : List Int) (b a : Nat) (h1 : 1 ≤ b) (h3 : b ≤ 3) : (openedOf a ((initPN fs).E b)).2.1 = decide (a < 3) ∧ (openedOf a ((initPN fs).E b)).1 = if a < 3 then fundAt fs ((b - 1) * 3 + a) else 0 := by
  have hc : cntA 4 0 b = 3 := by unfold cntA; rw [if_neg (by omega), if_pos (by omega)]
  have hE : (initPN fs).E b = openE fs b 3 := by show openE fs b (cntA 4 0 b) = _; rw [hc]
  rw [hE, openE_succ, openE_succ, openE_succ, openedOf_snoc, openedOf_snoc, openedOf_snoc]
  have e0 : openE fs b 0 = [] := rfl
  rw [e0]
  have ez : openedOf a [] = (0, false, 0) := rfl
  rw [ez]
  unfold openedStep openEv
  by_cases h : a = 0
  · subst h; simp
  · by_cases h' : a = 1
    · subst h'; simp
    · by_cases h2 : a = 2
      · subst h2; simp
      · have : ¬ a < 3 := by omega
        have g0 : ¬ 0 = a := by omega
        have g1 : ¬ 1 = a := by omega
        have g2 : ¬ 2 = a := by omega
        simp [this, g0, g1, g2]
theorem Sound.open3 {fs : List Int} {P : PN} (h : Sound fs P) {b a : Nat} (h1 : 1 ≤ b) (h3 : b ≤ 3) (ha : a < 3) : (openedOf a (P.E b)).2.1 = true := by
  rw [h.opn b h1 h3, (opened_init fs b a h1 h3).1]
  simpa using ha
end Go.Proofs.Ytjkhbjgfoopomaa
