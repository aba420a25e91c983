import Derived.Test.YtjkhbjgfoopomabC2
/-
  The document's Status.
-/
namespace Go.Proofs.Ytjkhbjgfoopomab
open Go.RowKit
set_option linter.unusedVariables false
set_option linter.unusedSimpArgs false
/-- P9 to P11: state, legs that are held, legs that are done, clock -/
def stStep (p : Pm) (s : Nat × Nat × Nat × Nat) (x : Dt) : Nat × Nat × Nat × Nat :=
  if x.kind = 0 then (if s.1 = 1 ∧ p.dl ≤ s.2.2.2 + 1 then 3 else s.1, s.2.1, s.2.2.1, s.2.2.2 + 1)
  else if x.kind = -1 then (if x.pay.id = p.id then 1 else s.1, s.2.1, s.2.2.1, s.2.2.2)
  else if x.msg.i ≠ p.id then s
  else if x.kind = 4 ∧ s.1 = 1 then (if withOf s.2.1 x.msg.l = fullOf p.legs.length then 2 else 1, withOf s.2.1 x.msg.l, s.2.2.1, s.2.2.2)
  else if x.kind = 5 ∧ s.1 = 1 then (3, s.2.1, s.2.2.1, s.2.2.2)
  else if x.kind = 6 then (s.1, s.2.1, withOf s.2.2.1 x.msg.l, s.2.2.2) else s
def stOf (p : Pm) (acts : List Dt) : Nat × Nat × Nat × Nat := acts.foldl (stStep p) (0, 0, 0, 0)
theorem stOf_snoc (p : Pm) (acts : List Dt) (x : Dt) : stOf p (acts ++ [x]) = stStep p (stOf p acts) x := by simp [stOf, List.foldl_append]
theorem withOf_lt (b l : Nat) (hb : b < 16) (hl : l < 4) : withOf b l < 16 := by
  have h : ∀ b : Fin 16, ∀ l : Fin 4, withOf b.1 l.1 < 16 := by decide
  exact h ⟨b, hb⟩ ⟨l, hl⟩
def few4 (x : Dt) : Prop := 4 ≤ x.kind → x.msg.l < 4
end Go.Proofs.Ytjkhbjgfoopomab
