/-
  The walk over a decent Prepare: the memo's characters.
-/
import Derived.Test.YtjkhbjgfoopomaaDecent
namespace Go.Proofs.Ytjkhbjgfoopomaa
open Go.RowKit
set_option linter.unusedVariables false

/-- the world while the memo's characters are gone through: the message that is made, the result's place, the iterator -/
structure DecW (w u : World) (s : ByteArray) (pos : Nat) (O : Array Value) : Prop where
  bel : Below w.heap.size w u
  it : u.heap[w.heap.size + 1 + 1 + 1]? = some (.stringIter s pos)
  out : ∀ o, u.cell? ⟨w.heap.size + 1 + 1, o, none⟩ = O[o]?
  outf : ∀ o, u.frozen? ⟨w.heap.size + 1 + 1, o, none⟩ = false
  res : ∀ o, u.cell? ⟨w.heap.size + 1, o, none⟩ = (#[Value.int .u8 0, .int .u8 0, .int .u8 0, .int .u32 0, .int .u8 0, .int .u16 0, .int .u16 0, .int .u32 0, .string ⟨#[]⟩] : Array Value)[o]?
  resf : ∀ o, u.frozen? ⟨w.heap.size + 1, o, none⟩ = false
theorem DecW.init (w : World) (A O : Array Value) (s : ByteArray) (T : TypeId) : DecW w ((((w.alloc (.cells A T)).alloc (.cells #[Value.int .u8 0, .int .u8 0, .int .u8 0, .int .u32 0, .int .u8 0, .int .u16 0, .int .u16 0, .int .u32 0, .string ⟨#[]⟩] T)).alloc (.cells O T)).iter s 0) s 0 O := by
  have e1 : (w.alloc (.cells A T)).heap.size = w.heap.size + 1 := by simp
  have e2 : ((w.alloc (.cells A T)).alloc (.cells #[Value.int .u8 0, .int .u8 0, .int .u8 0, .int .u32 0, .int .u8 0, .int .u16 0, .int .u16 0, .int .u32 0, .string ⟨#[]⟩] T)).heap.size = w.heap.size + 1 + 1 := by simp
  have e3 : (((w.alloc (.cells A T)).alloc (.cells #[Value.int .u8 0, .int .u8 0, .int .u8 0, .int .u32 0, .int .u8 0, .int .u16 0, .int .u16 0, .int .u32 0, .string ⟨#[]⟩] T)).alloc (.cells O T)).heap.size = w.heap.size + 1 + 1 + 1 := by simp
  refine ⟨?_, ?_, fun o => ?_, fun o => ?_, fun o => ?_, fun o => ?_⟩
  · exact ((((Below.refl _ _).alloc (Nat.le_refl _) _).alloc (by simp) _).alloc (by simp; omega) _).alloc (by simp; omega) _
  · rw [← e3]; exact World.iter_heap _ _ _
  · unfold World.iter
    rw [World.cell?_alloc_past _ _ _ (by omega), World.cell?_alloc_at _ _ _ _ e2.symm]
  · unfold World.iter
    rw [World.frozen?_alloc_past _ _ _ (by omega), World.frozen?_alloc_at _ _ _ _ e2.symm]
  · unfold World.iter
    rw [World.cell?_alloc_past _ _ _ (by omega), World.cell?_alloc_past _ _ _ (by omega), World.cell?_alloc_at _ _ _ _ e1.symm]
  · unfold World.iter
    rw [World.frozen?_alloc_past _ _ _ (by omega), World.frozen?_alloc_past _ _ _ (by omega), World.frozen?_alloc_at _ _ _ _ e1.symm]
theorem DecW.next {w u : World} {s : ByteArray} {pos : Nat} {O : Array Value} (h : DecW w u s pos O) (pos' : Nat) : DecW w (u.iterAt (w.heap.size + 1 + 1 + 1) s pos') s pos' O := by
  have ho : ∀ b, b ≠ w.heap.size + 1 + 1 + 1 → (u.iterAt (w.heap.size + 1 + 1 + 1) s pos').heap[b]? = u.heap[b]? := fun b hb => Lib.iterAt_other u _ b s pos' hb
  refine ⟨Lib.below_iterAt h.bel (by omega) s pos', Lib.iterAt_heap u _ s pos pos' h.it, fun o => ?_, fun o => ?_, fun o => ?_, fun o => ?_⟩
  · rw [World.cell?_of_block (w := u) (ho _ (by simp))]; exact h.out o
  · rw [World.frozen?_of_block (w := u) (ho _ (by simp))]; exact h.outf o
  · rw [World.cell?_of_block (w := u) (ho _ (by simp))]; exact h.res o
  · rw [World.frozen?_of_block (w := u) (ho _ (by simp))]; exact h.resf o
theorem DecW.store {w u : World} {s : ByteArray} {pos : Nat} {c0 c1 c2 c3 c4 c5 c6 c7 c8 : Value} (h : DecW w u s pos #[c0, c1, c2, c3, c4, c5, c6, c7, c8]) (v : Value) :
    DecW w (u.setCell ⟨w.heap.size + 1 + 1, 8, none⟩ v) s pos #[c0, c1, c2, c3, c4, c5, c6, c7, v] := by
  have ho : ∀ b, b ≠ w.heap.size + 1 + 1 → (u.setCell ⟨w.heap.size + 1 + 1, 8, none⟩ v).heap[b]? = u.heap[b]? := fun b hb => Below.heap_setCell u _ v b hb
  refine ⟨h.bel.setCell (by simp; omega) v, by rw [ho _ (by omega)]; exact h.it, fun o => ?_, fun o => ?_, fun o => ?_, fun o => ?_⟩
  · by_cases e : o = 8
    · subst e
      rw [World.cell?_setCell_same _ _ _ (u := c8) (by rw [h.out]; rfl)]
      rfl
    · rw [World.cell?_setCell_other _ _ _ _ (by intro x; injection x with _ x2; exact e x2.symm), h.out]
      match o, e with
      | 0, _ => rfl
      | 1, _ => rfl
      | 2, _ => rfl
      | 3, _ => rfl
      | 4, _ => rfl
      | 5, _ => rfl
      | 6, _ => rfl
      | 7, _ => rfl
      | n + 9, _ => simp
  · rw [World.frozen?_setCell]; exact h.outf o
  · rw [World.cell?_of_block (w := u) (ho _ (by simp))]; exact h.res o
  · rw [World.frozen?_setCell]; exact h.resf o
theorem DecW.pos {w u : World} {s : ByteArray} {pos : Nat} {O : Array Value} (h : DecW w u s pos O) : u.iterPos (w.heap.size + 1 + 1 + 1) = pos := by simp [World.iterPos, h.it]
end Go.Proofs.Ytjkhbjgfoopomaa
