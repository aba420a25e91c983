/-
  Memory, more: what lies in a new block stays behind a call.
-/
import Derived.Test.YtjkhbjgfoopomaaGreatMem
namespace Go.Proofs.YtjkhbjgfoopomaaGreat
open Go.RowKit
set_option linter.unusedVariables false
theorem setHere {B b o : Nat} {a w : World} {v : Value} (h : Below B a w) (hb : B ≤ b) : Below B a (w.setCell ⟨b, o, none⟩ v) := h.setCell (p := ⟨b, o, none⟩) hb v
theorem undrew {x u : World} (h : Below x.drew.heap.size x.drew u) : Below x.heap.size x u := ⟨h.os, h.tape, h.output, h.size, h.block⟩
theorem cel_kept {w w1 : World} {cs : Array Value} {t : TypeId} (hb : Below (w.alloc (.cells cs t)).heap.size (w.alloc (.cells cs t)) w1) (o : Nat) : w1.cell? ⟨w.heap.size, o, none⟩ = cs[o]? := by
  rw [hb.cell (p := ⟨w.heap.size, o, none⟩) (by simp), World.cell?_alloc_new]
theorem blk_kept {w w1 : World} {o : Obj} (hb : Below (w.alloc o).heap.size (w.alloc o) w1) : w1.heap[w.heap.size]? = some o := by
  rw [hb.block _ (by simp)]
  exact heap_alloc_self _ _
theorem all_kept {w w1 : World} {o : Obj} (hb : Below (w.alloc o).heap.size (w.alloc o) w1) : Below w.heap.size w w1 := ((Below.refl _ _).alloc (Nat.le_refl _) _).trans (hb.mono (by simp))
theorem fro_kept {w w1 : World} {cs : Array Value} {t : TypeId} (hb : Below (w.alloc (.cells cs t)).heap.size (w.alloc (.cells cs t)) w1) (o : Nat) : w1.frozen? ⟨w.heap.size, o, none⟩ = false := by
  rw [hb.frozen (p := ⟨w.heap.size, o, none⟩) (by simp)]
  simp
theorem lt_kept {w w1 : World} {cs : Array Value} {t : TypeId} (hb : Below (w.alloc (.cells cs t)).heap.size (w.alloc (.cells cs t)) w1) : w.heap.size < w1.heap.size := by
  have := hb.size
  simp at this
  omega
theorem keep3_set {w u u' : World} {p q r a : Addr} {x y z v : Value} (hp : p.block < w.heap.size) (hq : q.block < w.heap.size) (hr : r.block < w.heap.size)
    (h : (u.cell? p = some x ∧ u.cell? q = some y ∧ u.cell? r = some z) ∧ Below w.heap.size w u) (hb : Below w.heap.size u (u'.setCell a v)) : ((u'.setCell a v).cell? p = some x ∧ (u'.setCell a v).cell? q = some y ∧ (u'.setCell a v).cell? r = some z) ∧ Below w.heap.size w (u'.setCell a v) := keep3 hp hq hr h hb
theorem keep3_start {w : World} {p q r : Addr} {x y z : Value} (hp : p.block < w.heap.size) (hq : q.block < w.heap.size) (hr : r.block < w.heap.size) (h : w.cell? p = some x ∧ w.cell? q = some y ∧ w.cell? r = some z) (o : Obj) :
    ((w.alloc o).drew.cell? p = some x ∧ (w.alloc o).drew.cell? q = some y ∧ (w.alloc o).drew.cell? r = some z) ∧ Below w.heap.size w (w.alloc o).drew :=
  keep3 hp hq hr ⟨h, Below.refl _ _⟩ (((Below.refl _ _).alloc (Nat.le_refl _) _).drew)
theorem keep3_again {w u : World} {p q r : Addr} {x y z : Value} {o : Obj} (hp : p.block < w.heap.size) (hq : q.block < w.heap.size) (hr : r.block < w.heap.size) (hs : w.heap.size ≤ u.heap.size) (o' : Obj)
    (h : ((u.alloc o).cell? p = some x ∧ (u.alloc o).cell? q = some y ∧ (u.alloc o).cell? r = some z) ∧ Below w.heap.size w (u.alloc o)) : ((u.alloc o').cell? p = some x ∧ (u.alloc o').cell? q = some y ∧ (u.alloc o').cell? r = some z) ∧ Below w.heap.size w (u.alloc o') := by
  have hb : Below w.heap.size (u.alloc o) (u.alloc o') := ⟨rfl, rfl, rfl, by simp, fun k hk => by rw [Below.heap_alloc _ _ _ (by omega), Below.heap_alloc _ _ _ (by omega)]⟩
  exact keep3 hp hq hr h hb
end Go.Proofs.YtjkhbjgfoopomaaGreat
