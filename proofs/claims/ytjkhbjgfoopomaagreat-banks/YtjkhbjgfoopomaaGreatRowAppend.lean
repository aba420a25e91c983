/-
  append of one struct to a row of structs, as one step of the walk.
-/
import Derived.Test.YtjkhbjgfoopomaaGreatMem2
namespace Go.Proofs.YtjkhbjgfoopomaaGreat
open Go.RowKit
set_option linter.unusedVariables false
theorem wpList_row {P : Program} {ops : Array Oper} {rest : List Oper} {o : Oper} {a : Act} {Q : Exit → Act → World → Prop} {α : Type} {f : α → List Value} {sz : Nat} (hf : ∀ x, (f x).length = sz) (w : World) (hgd : o.guard = none) (s x : Operand) (t : TypeId)
    (ho : o.op = .call { callee := .builtin .append, args := #[s, x], argTypes := #[t, t] }) (e : TypeId) (i : TypeInfo) (z : Value) (bytes : Nat) (ht : P.underlying t = some (.slice e)) (hi : P.info? e = some i) (hz : i.zero = some z)
    (hsize : i.size = sz) (hby : i.bytes = bytes) (hzs : z.cells.size = sz) (hsz : 0 < sz) (v : Value) (xs : List α) (hs : a.eval s = v) (hrow : RowOf w e sz f v xs) (c : Nat) (y : α) (hx : a.eval x = .slice (some ⟨w.heap.size, 0, none⟩) 1 c)
    (h1 : ∀ u ∈ f y, u.oneCell' = true) (h63 : xs.length + 1 ≤ maxLen) (hbytes : (xs.length + 1) * bytes ≤ 140737488355328)
    (h : ∀ g cap w', RowOf w' e sz f (.slice (some ⟨g, 0, none⟩) (xs.length + 1) cap) (xs ++ [y]) → Kept (fun k => v.ownBlock = some k) w w' → (v.ownBlock = some g ∨ w.heap.size ≤ g) → g < w'.heap.size → wpList P ops Q rest (a.put o.dst (.slice (some ⟨g, 0, none⟩) (xs.length + 1) cap)) w') :
    ∀ W, W = w.alloc (.cells (f y).toArray e) → wpList P ops Q (o :: rest) a W := by
  rintro W rfl
  have hrow' : RowOf (w.alloc (.cells (f y).toArray e)) e sz f v xs := hrow.below ((Below.refl _ _).alloc (Nat.le_refl _) _)
  refine wpList_append_lies _ hgd s x t ho 0 e i z sz bytes ht hi hz hsize hby hzs hsz v xs.length (xs.flatMap f) hs hrow' ⟨w.heap.size, 0, none⟩ 1 c (f y) hx (by rw [hf]; omega) ?_ h1 (by decide) h63 hbytes (Nat.zero_le _) _ rfl ?_
  · intro j u hu
    exact World.news_of_block (heap_alloc_self w (.cells (f y).toArray e)) j u hu
  · intro g cap w' hown hgrow hat hlt
    refine h g cap w' (RowOf.to (xs := xs) hf hown (by simp) (by simp)) ?_ ?_ hlt
    · exact (Kept.of_alloc w _).trans (Kept.of_grown hgrow) (fun k hk => .inl hk)
    · rcases hat with h' | h'
      · exact .inl h'
      · right
        rw [h']
        simp
end Go.Proofs.YtjkhbjgfoopomaaGreat
