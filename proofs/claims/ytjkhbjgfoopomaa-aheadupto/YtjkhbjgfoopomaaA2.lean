import Derived.Below
import Derived.Deep.AppendLies
import Derived.Test.YtjkhbjgfoopomaaA1
import Derived.BigQuiet
import Derived.Deep.MidRow
/-
  Memory: what a call leaves as it was; rows of structs in memory.
-/
namespace Go.Proofs.Ytjkhbjgfoopomaa
open Go.RowKit
set_option linter.unusedVariables false

/-- but for the blocks of S nothing old has turned -/
structure Kept (S : Nat → Prop) (w w' : World) : Prop where
  os : w'.os = w.os
  tape : w'.tape = w.tape
  output : w'.output = w.output
  size : w.heap.size ≤ w'.heap.size
  block : ∀ k, k < w.heap.size → ¬ S k → w'.heap[k]? = w.heap[k]?
theorem Kept.refl (S : Nat → Prop) (w : World) : Kept S w w := ⟨rfl, rfl, rfl, Nat.le_refl _, fun _ _ _ => rfl⟩
theorem Kept.trans {S S' : Nat → Prop} {a b c : World} (h : Kept S a b) (k : Kept S' b c) (hs : ∀ i, S' i → S i ∨ a.heap.size ≤ i) : Kept S a c :=
  ⟨k.os.trans h.os, k.tape.trans h.tape, k.output.trans h.output, Nat.le_trans h.size k.size, fun i hi hn =>
    (k.block i (Nat.lt_of_lt_of_le hi h.size) (fun hs' => (hs i hs').elim hn (fun x => by omega))).trans (h.block i hi hn)⟩
theorem Kept.mono {S S' : Nat → Prop} {a b : World} (h : Kept S a b) (hs : ∀ i, i < a.heap.size → S i → S' i) : Kept S' a b :=
  ⟨h.os, h.tape, h.output, h.size, fun k hk hn => h.block k hk fun x => hn (hs k hk x)⟩
theorem Kept.of_below {S : Nat → Prop} {w w' : World} (h : Below w.heap.size w w') : Kept S w w' := ⟨h.os, h.tape, h.output, h.size, fun k hk _ => h.block k hk⟩
theorem Kept.below {S : Nat → Prop} {w w' : World} (h : Kept S w w') {B : Nat} (hB : B ≤ w.heap.size) (hs : ∀ k, S k → B ≤ k) : Below B w w' :=
  ⟨h.os, h.tape, h.output, h.size, fun k hk => h.block k (by omega) fun x => by have := hs k x; omega⟩
theorem Kept.of_grown {w w' : World} {row : Option Nat} (h : w.grownBy w' row) : Kept (fun k => row = some k) w w' := ⟨h.os, h.tape, h.output, h.size, fun k hk hn => h.block k hk fun x => hn x.symm⟩
theorem Kept.of_setCell (w : World) (p : Addr) (u : Value) : Kept (fun k => k = p.block) w (w.setCell p u) :=
  ⟨rfl, rfl, rfl, by simp [World.setCell], fun k hk hn => Below.heap_setCell _ _ _ _ hn⟩
theorem Kept.of_alloc {S : Nat → Prop} (w : World) (o : Obj) : Kept S w (w.alloc o) := .of_below ((Below.refl _ _).alloc (Nat.le_refl _) _)
theorem Kept.drew {S : Nat → Prop} {a b : World} (h : Kept S a b) : Kept S a b.drew := ⟨h.os, h.tape, h.output, h.size, h.block⟩
theorem Kept.cell {S : Nat → Prop} {w w' : World} (h : Kept S w w') {p : Addr} (hp : p.block < w.heap.size) (hn : ¬ S p.block) : w'.cell? p = w.cell? p := World.cell?_of_block (w := w) (h.block p.block hp hn)

theorem cell_at {w : World} {g : Nat} {cs : Array Value} {t : TypeId} {fr : Nat × Nat} (h : w.heap[g]? = some (.cells cs t fr)) (i : Nat) : w.cell? ⟨g, i, none⟩ = cs[i]? := by simp [World.cell?, h]
theorem frozen_at {w : World} {g : Nat} {cs : Array Value} {t : TypeId} (h : w.heap[g]? = some (.cells cs t (0, 0))) (i : Nat) : w.frozen? ⟨g, i, none⟩ = false := by simp [World.frozen?, h]
theorem block_lt {w : World} {g : Nat} {o : Obj} (h : w.heap[g]? = some o) : g < w.heap.size := by
  rcases Nat.lt_or_ge g w.heap.size with x | x
  · exact x
  · rw [Array.getElem?_eq_none x] at h; cases h
theorem heap_set_self {w : World} {g : Nat} {cs : Array Value} {t : TypeId} {fr : Nat × Nat} (h : w.heap[g]? = some (.cells cs t fr)) (i : Nat) (u : Value) : (w.setCell ⟨g, i, none⟩ u).heap[g]? = some (.cells (cs.setIfInBounds i u) t fr) := by
  simp [World.setCell, Array.getElem?_modify, h]
theorem heap_alloc_self (w : World) (o : Obj) : (w.alloc o).heap[w.heap.size]? = some o := by
  show (w.heap.push o)[w.heap.size]? = _
  simp

/-! several cells of one block are written -/
def putL (u : World) (g off : Nat) : List Value → World
  | [] => u
  | v :: r => putL (u.setCell ⟨g, off, none⟩ v) g (off + 1) r
def setL (cs : Array Value) (off : Nat) : List Value → Array Value
  | [] => cs
  | v :: r => setL (cs.setIfInBounds off v) (off + 1) r
theorem setL_list (vs : List Value) : ∀ (cs : Array Value) (off : Nat), off + vs.length ≤ cs.size → (setL cs off vs).toList = cs.toList.take off ++ vs ++ cs.toList.drop (off + vs.length) := by
  induction vs with
  | nil => intro cs off h; simp [setL]
  | cons v r ih =>
    intro cs off h
    simp only [List.length_cons] at h
    have hlt : off < cs.toList.length := by simp; omega
    have h1 : (cs.toList.set off v).take (off + 1) = cs.toList.take off ++ [v] := by
      rw [List.take_succ_eq_append_getElem (by simpa using hlt), List.take_set_of_le (Nat.le_refl _)]
      simp
    have h2 : (cs.toList.set off v).drop (off + 1 + r.length) = cs.toList.drop (off + (r.length + 1)) := by
      rw [List.drop_set_of_lt (by omega)]
      congr 1
      omega
    rw [setL, ih _ _ (by simp; omega), Array.toList_setIfInBounds, h1, h2]
    simp
theorem setL_size (vs : List Value) : ∀ (cs : Array Value) (off : Nat), (setL cs off vs).size = cs.size := by
  induction vs with
  | nil => intro cs off; rfl
  | cons v r ih => intro cs off; rw [setL, ih]; simp
theorem setL_whole (cs : Array Value) (vs : List Value) (h : cs.size = vs.length) : setL cs 0 vs = vs.toArray := by
  apply Array.toList_inj.1
  rw [setL_list vs cs 0 (by omega)]
  have : cs.toList.drop (0 + vs.length) = [] := List.drop_eq_nil_of_le (by simp; omega)
  rw [this]
  simp
theorem putL_self (vs : List Value) : ∀ {u : World} {g : Nat} {cs : Array Value} {t : TypeId} {fr : Nat × Nat} (off : Nat), u.heap[g]? = some (.cells cs t fr) → (putL u g off vs).heap[g]? = some (.cells (setL cs off vs) t fr) := by
  induction vs with
  | nil => intro u g cs t fr off h; exact h
  | cons v r ih => intro u g cs t fr off h; exact ih (off + 1) (heap_set_self h off v)
theorem putL_kept (vs : List Value) : ∀ (u : World) (g off : Nat), Kept (fun k => k = g) u (putL u g off vs) := by
  induction vs with
  | nil => intro u g off; exact Kept.refl _ _
  | cons v r ih => intro u g off; exact (Kept.of_setCell u ⟨g, off, none⟩ v).trans (ih _ g (off + 1)) (fun i h => .inl h)
theorem putL_whole (vs : List Value) {u : World} {g : Nat} {cs : Array Value} {t : TypeId} {fr : Nat × Nat} (h : u.heap[g]? = some (.cells cs t fr)) (hs : cs.size = vs.length) : (putL u g 0 vs).heap[g]? = some (.cells vs.toArray t fr) := by
  rw [putL_self vs 0 h, setL_whole cs vs hs]

/-! cells that stay through a region whose order is drawn: only blocks from w on are made or written -/
theorem keep3 {w u u' : World} {p q r : Addr} {x y z : Value} (hp : p.block < w.heap.size) (hq : q.block < w.heap.size) (hr : r.block < w.heap.size)
    (h : (u.cell? p = some x ∧ u.cell? q = some y ∧ u.cell? r = some z) ∧ Below w.heap.size w u) (hb : Below w.heap.size u u') : (u'.cell? p = some x ∧ u'.cell? q = some y ∧ u'.cell? r = some z) ∧ Below w.heap.size w u' :=
  ⟨⟨by rw [hb.cell hp]; exact h.1.1, by rw [hb.cell hq]; exact h.1.2.1, by rw [hb.cell hr]; exact h.1.2.2⟩, h.2.trans hb⟩
theorem keep3_drew {w : World} {p q r : Addr} {x y z : Value} (h : w.cell? p = some x ∧ w.cell? q = some y ∧ w.cell? r = some z) : (w.drew.cell? p = some x ∧ w.drew.cell? q = some y ∧ w.drew.cell? r = some z) ∧ Below w.heap.size w w.drew :=
  ⟨h, (Below.refl _ _).drew⟩
theorem keep3_call {w u u' : World} {p q r : Addr} {x y z : Value} (hp : p.block < w.heap.size) (hq : q.block < w.heap.size) (hr : r.block < w.heap.size)
    (h : (u.cell? p = some x ∧ u.cell? q = some y ∧ u.cell? r = some z) ∧ Below w.heap.size w u) (hb : Below u.heap.size u u') : (u'.cell? p = some x ∧ u'.cell? q = some y ∧ u'.cell? r = some z) ∧ Below w.heap.size w u' :=
  keep3 hp hq hr h (hb.mono h.2.size)

/-! rows of structs -/
section
variable {α : Type} {f : α → List Value} {sz : Nat}
theorem flat_length (hf : ∀ x, (f x).length = sz) (xs : List α) : (xs.flatMap f).length = xs.length * sz := by
  induction xs with
  | nil => simp
  | cons e r ih => simp only [List.flatMap_cons, List.length_append, hf, ih, List.length_cons, Nat.add_mul]; omega
theorem flat_get (hf : ∀ x, (f x).length = sz) (xs : List α) (k j : Nat) (hk : k < xs.length) (hj : j < sz) : (xs.flatMap f)[k * sz + j]? = (f xs[k])[j]? := by
  induction xs generalizing k with
  | nil => simp at hk
  | cons e r ih =>
    simp only [List.flatMap_cons]
    cases k with
    | zero =>
      rw [List.getElem?_append_left (by rw [hf]; omega)]
      simp
    | succ k =>
      rw [List.getElem?_append_right (by rw [hf, Nat.add_mul]; omega), hf, show (k + 1) * sz + j - sz = k * sz + j by rw [Nat.add_mul]; omega, ih k (by simpa using hk)]
      rfl
theorem flat_set (hf : ∀ x, (f x).length = sz) (xs : List α) (k j : Nat) (u : Value) (x' : α) (hk : k < xs.length) (hj : j < sz) (hx : f x' = (f xs[k]).set j u) : (xs.set k x').flatMap f = (xs.flatMap f).set (k * sz + j) u := by
  induction xs generalizing k with
  | nil => simp at hk
  | cons e r ih =>
    cases k with
    | zero =>
      simp only [List.set_cons_zero, List.flatMap_cons]
      rw [List.set_append_left _ _ (by rw [hf]; omega)]
      simp only [List.getElem_cons_zero] at hx
      rw [hx]
      simp
    | succ k =>
      simp only [List.set_cons_succ, List.flatMap_cons]
      rw [List.set_append_right _ _ (by rw [hf, Nat.add_mul]; omega), hf, show (k + 1) * sz + j - sz = k * sz + j by rw [Nat.add_mul]; omega, ih k (by simpa using hk) (by simpa using hx)]

/-- v is a slice of these structs, which lies in a block of its own -/
def RowOf (w : World) (e : TypeId) (sz : Nat) (f : α → List Value) (v : Value) (xs : List α) : Prop := w.ownsRow 0 e sz v xs.length (xs.flatMap f)
theorem RowOf.nil (w : World) (e : TypeId) : RowOf w e sz f (.slice none 0 0) [] := ⟨by simp, .inl ⟨rfl, rfl⟩⟩
theorem RowOf.lt {w : World} {e : TypeId} {v : Value} {xs : List α} (h : RowOf w e sz f v xs) {g : Nat} (hg : v.ownBlock = some g) : g < w.heap.size := by
  rcases h.2 with ⟨h1, _⟩ | ⟨g', cap, cur, h1, _, h3, _⟩
  · rw [h1] at hg; simp [Value.ownBlock] at hg
  · rw [h1] at hg
    have : g' = g := by simpa [Value.ownBlock] using hg
    subst this
    exact block_lt h3
theorem RowOf.same {w u : World} {e : TypeId} {v : Value} {xs : List α} (h : RowOf w e sz f v xs) (hb : ∀ g, v.ownBlock = some g → u.heap[g]? = w.heap[g]?) : RowOf u e sz f v xs := by
  refine ⟨h.1, ?_⟩
  rcases h.2 with hn | ⟨g, cap, cur, h1, h2, h3, h4⟩
  · exact .inl hn
  · exact .inr ⟨g, cap, cur, h1, h2, by rw [hb g (by rw [h1]; rfl)]; exact h3, h4⟩
theorem RowOf.kept {S : Nat → Prop} {w u : World} {e : TypeId} {v : Value} {xs : List α} (h : RowOf w e sz f v xs) (hk : Kept S w u) (hs : ∀ g, v.ownBlock = some g → ¬ S g) : RowOf u e sz f v xs :=
  h.same fun g hg => hk.block g (h.lt hg) (hs g hg)
theorem RowOf.below {w u : World} {e : TypeId} {v : Value} {xs : List α} (h : RowOf w e sz f v xs) (hb : Below w.heap.size w u) : RowOf u e sz f v xs :=
  h.same fun g hg => hb.block g (h.lt hg)
/-- the slice's value, and each element's cells -/
theorem RowOf.form (hf : ∀ x, (f x).length = sz) {w : World} {e : TypeId} {v : Value} {xs : List α} (h : RowOf w e sz f v xs) :
    ∃ (ad : Option Addr) (cap : Nat), v = .slice ad xs.length cap ∧ ∀ k (hk : k < xs.length), ∃ g, ad = some ⟨g, 0, none⟩ ∧ (∀ j, j < sz → w.cell? ⟨g, k * sz + j, none⟩ = (f xs[k])[j]?) ∧ ∀ j, w.frozen? ⟨g, j, none⟩ = false := by
  rcases h.2 with ⟨h1, h2⟩ | ⟨g, cap, cur, h1, _, h3, h4, _, h6, h7⟩
  · exact ⟨none, 0, by rw [h1, h2], fun k hk => by omega⟩
  · refine ⟨some ⟨g, 0, none⟩, cap, h1, fun k hk => ⟨g, rfl, fun j hj => ?_, fun j => frozen_at h3 j⟩⟩
    rw [cell_at h3]
    have hlt : k * sz + j < xs.length * sz := by
      have : k * sz + sz ≤ xs.length * sz := by rw [← Nat.succ_mul]; exact Nat.mul_le_mul_right _ hk
      omega
    have e : cur[k * sz + j]? = (cur.toList.take (xs.length * sz))[k * sz + j]? := by
      rw [List.getElem?_take_of_lt hlt, Array.getElem?_toList]
    rw [e, h7, flat_get hf xs k j hk hj]
/-- one cell of one element is written -/
theorem RowOf.set (hf : ∀ x, (f x).length = sz) {w : World} {e : TypeId} {v : Value} {xs : List α} (h : RowOf w e sz f v xs) {g : Nat} (hg : v.ownBlock = some g) (k j : Nat) (hk : k < xs.length) (hj : j < sz) (u : Value) (x' : α) (hx : f x' = (f xs[k]).set j u) :
    RowOf (w.setCell ⟨g, k * sz + j, none⟩ u) e sz f v (xs.set k x') := by
  have hlt : k * sz + j < xs.length * sz := by
    have : k * sz + sz ≤ xs.length * sz := by rw [← Nat.succ_mul]; exact Nat.mul_le_mul_right _ hk
    omega
  refine ⟨by rw [flat_length hf], ?_⟩
  rcases h.2 with ⟨h1, h2⟩ | ⟨g', cap, cur, h1, h2, h3, h4, h5, h6, h7⟩
  · omega
  · have : g' = g := by rw [h1] at hg; simpa [Value.ownBlock] using hg
    subst this
    refine .inr ⟨g', cap, cur.setIfInBounds (k * sz + j) u, by rw [h1, List.length_set], h2, heap_set_self h3 _ _, by rw [List.length_set]; exact h4, h5, by simpa using h6, ?_⟩
    rw [List.length_set, flat_set hf xs k j u x' hk hj hx, ← h7, Array.toList_setIfInBounds, List.take_set]
theorem flat_put (hf : ∀ x, (f x).length = sz) (xs : List α) (k : Nat) (x' : α) (hk : k < xs.length) : (xs.set k x').flatMap f = (xs.flatMap f).take (k * sz) ++ f x' ++ (xs.flatMap f).drop (k * sz + sz) := by
  induction xs generalizing k with
  | nil => simp at hk
  | cons e r ih =>
    cases k with
    | zero =>
      simp only [List.set_cons_zero, List.flatMap_cons, Nat.zero_mul, Nat.zero_add, List.take_zero, List.nil_append]
      rw [List.drop_append_of_le_length (by rw [hf]; omega), List.drop_eq_nil_of_le (by rw [hf]; omega)]
      simp
    | succ k =>
      have h1 : (k + 1) * sz = (f e).length + k * sz := by rw [hf, Nat.add_mul]; omega
      simp only [List.set_cons_succ, List.flatMap_cons]
      rw [ih k (by simpa using hk), h1, List.take_append, Nat.add_assoc, List.drop_append]
      simp [Nat.add_sub_cancel_left, List.take_of_length_le, List.drop_eq_nil_of_le]
/-- one element is written anew -/
theorem RowOf.put (hf : ∀ x, (f x).length = sz) {w : World} {e : TypeId} {v : Value} {xs : List α} (h : RowOf w e sz f v xs) {g : Nat} (hg : v.ownBlock = some g) (k : Nat) (hk : k < xs.length) (x' : α) :
    RowOf (putL w g (k * sz) (f x')) e sz f v (xs.set k x') := by
  have hlt : k * sz + sz ≤ xs.length * sz := by rw [← Nat.succ_mul]; exact Nat.mul_le_mul_right _ hk
  refine ⟨by rw [flat_length hf], ?_⟩
  rcases h.2 with ⟨h1, h2⟩ | ⟨g', cap, cur, h1, h2, h3, h4, h5, h6, h7⟩
  · omega
  · have : g' = g := by rw [h1] at hg; simpa [Value.ownBlock] using hg
    subst this
    have h8 : k * sz + sz ≤ cur.size := by rw [h6]; exact Nat.le_trans hlt (Nat.mul_le_mul_right _ h4)
    refine .inr ⟨g', cap, setL cur (k * sz) (f x'), by rw [h1, List.length_set], h2, putL_self _ _ h3, by rw [List.length_set]; exact h4, h5, by rw [setL_size]; exact h6, ?_⟩
    rw [setL_list _ _ _ (by rw [hf]; exact h8), List.length_set, flat_put hf xs k x' hk, hf]
    have e1 : (List.take (k * sz) cur.toList ++ f x').length = k * sz + sz := by
      rw [List.length_append, hf, List.length_take]
      simp
      omega
    rw [List.take_append, e1, List.take_of_length_le (by rw [e1]; exact hlt)]
    congr 1
    · congr 1
      rw [← h7, List.take_take, Nat.min_eq_left (by omega)]
    · rw [← h7, List.drop_take]
theorem RowOf.to (hf : ∀ x, (f x).length = sz) {w : World} {e : TypeId} {v : Value} {xs ys : List α} {n : Nat} {l : List Value} (h : w.ownsRow 0 e sz v n l) (hl : l = ys.flatMap f) (hn : n = ys.length) : RowOf w e sz f v ys := by
  subst hl hn
  exact h
end
end Go.Proofs.Ytjkhbjgfoopomaa
/-
  Memory, more: what lies in a new block stays behind a call.
-/
namespace Go.Proofs.Ytjkhbjgfoopomaa
open Go.RowKit
set_option linter.unusedVariables false
theorem setHere {B b o : Nat} {a w : World} {v : Value} (h : Below B a w) (hb : B ≤ b) : Below B a (w.setCell ⟨b, o, none⟩ v) := h.setCell (p := ⟨b, o, none⟩) hb v
theorem undrew {x u : World} (h : Below x.drew.heap.size x.drew u) : Below x.heap.size x u := ⟨h.os, h.tape, h.output, h.size, h.block⟩
theorem cel_kept {w w1 : World} {cs : Array Value} {t : TypeId} (hb : Below (w.alloc (.cells cs t)).heap.size (w.alloc (.cells cs t)) w1) (o : Nat) : w1.cell? ⟨w.heap.size, o, none⟩ = cs[o]? := by
  rw [hb.cell (p := ⟨w.heap.size, o, none⟩) (by simp), World.cell?_alloc_new]
theorem blk_kept {w w1 : World} {o : Obj} (hb : Below (w.alloc o).heap.size (w.alloc o) w1) : w1.heap[w.heap.size]? = some o := by
  rw [hb.block _ (by simp)]
  exact heap_alloc_self _ _
theorem all_kept {w w1 : World} {o : Obj} (hb : Below (w.alloc o).heap.size (w.alloc o) w1) : Below w.heap.size w w1 := ((Below.refl _ _).alloc (Nat.le_refl _) _).trans (hb.mono (by simp))
theorem fro_kept {w w1 : World} {cs : Array Value} {t : TypeId} (hb : Below (w.alloc (.cells cs t)).heap.size (w.alloc (.cells cs t)) w1) (o : Nat) : w1.frozen? ⟨w.heap.size, o, none⟩ = false := by
  rw [hb.frozen (p := ⟨w.heap.size, o, none⟩) (by simp)]
  simp
theorem lt_kept {w w1 : World} {cs : Array Value} {t : TypeId} (hb : Below (w.alloc (.cells cs t)).heap.size (w.alloc (.cells cs t)) w1) : w.heap.size < w1.heap.size := by
  have := hb.size
  simp at this
  omega
end Go.Proofs.Ytjkhbjgfoopomaa
/-
  The document's notary in memory; Clock, full, with, kind.
-/
namespace Go.Proofs.Ytjkhbjgfoopomaa
open Go.RowKit
set_option linter.unusedVariables false
set_option linter.unusedSimpArgs false
/-- legs that lie there to be read -/
def LegsAt (w : World) (la : Option Addr) (legs : List Pl) : Prop := ∀ k (hk : k < legs.length), ∃ a, la = some a ∧ a.block < w.heap.size ∧ ∀ j v, legs[k].cells[j]? = some v → w.cell? ((a.add (k * 4)).add j) = some v
theorem addr_block (a : Addr) (n : Nat) : (a.add n).block = a.block := by unfold Addr.add; split <;> rfl
theorem addr_add (a : Addr) (i j : Nat) : (a.add i).add j = a.add (i + j) := by
  unfold Addr.add
  by_cases hi : i = 0
  · subst hi; simp
  · by_cases hj : j = 0
    · subst hj; simp [hi]
    · simp [hi, hj, Nat.add_assoc]
theorem LegsAt.below {w u : World} {la : Option Addr} {legs : List Pl} (h : LegsAt w la legs) (hb : Below w.heap.size w u) : LegsAt u la legs := by
  intro k hk
  obtain ⟨a, e, hl, hc⟩ := h k hk
  refine ⟨a, e, Nat.lt_of_lt_of_le hl hb.size, fun j v hj => ?_⟩
  exact (World.cell?_of_block (w := w) (by rw [addr_block, addr_block]; exact hb.block _ hl)).trans (hc j v hj)
theorem RowOf.legsAt {w : World} {la : Option Addr} {lc : Nat} {legs : List Pl} (h : RowOf w 57 4 Pl.cells (.slice la legs.length lc) legs) : LegsAt w la legs := by
  intro k hk
  obtain ⟨ad, cap, hv, hev⟩ := h.form Pl.cells_length
  obtain ⟨g, hg, hcell, _⟩ := hev k hk
  have ead : la = ad := by injection hv
  subst ead
  subst hg
  refine ⟨_, rfl, h.lt rfl, fun j v hj => ?_⟩
  have hjl : j < 4 := by
    have := (List.getElem?_eq_some_iff.1 hj).1
    rwa [Pl.cells_length] at this
  rw [addr_add]
  have e : (⟨g, 0, none⟩ : Addr).add (k * 4 + j) = ⟨g, k * 4 + j, none⟩ := by unfold Addr.add; split <;> simp_all
  rw [e, hcell j hjl]
  exact hj
theorem take_snoc_dt {α : Type} (l : List α) (k : Nat) (h : k < l.length) : l.take (k + 1) = l.take k ++ [l[k]] := by rw [List.take_succ_eq_append_getElem h]

end Go.Proofs.Ytjkhbjgfoopomaa
/-
  The document's with, full and Find.
-/
namespace Go.Proofs.Ytjkhbjgfoopomaa
open Go.RowKit
set_option linter.unusedVariables false
set_option linter.unusedSimpArgs false

def Pm.cells (x : Pm) : List Value := [.int .u32 (x.id : Int), .int .u64 (x.dl : Int), .string (bs x.memo), .slice x.la x.legs.length x.lc]
/-- two payments of ours: the first blocks behind w -/
structure TwoP (w : World) (x y : Pm) (u : World) : Prop where
  bel : Below w.heap.size w u
  one : u.heap[w.heap.size]? = some (.cells x.cells.toArray 70 (0, 0))
  two : u.heap[w.heap.size + 1]? = some (.cells y.cells.toArray 70 (0, 0))
theorem TwoP.mk0 (w : World) : TwoP w noPm noPm ((w.alloc (.cells noPm.cells.toArray 70)).alloc (.cells noPm.cells.toArray 70)) := by
  refine ⟨((Below.refl _ _).alloc (Nat.le_refl _) _).alloc (by simp) _, ?_, ?_⟩
  · rw [Below.heap_alloc _ _ _ (by simp)]
    exact heap_alloc_self _ _
  · rw [show w.heap.size + 1 = (w.alloc (.cells noPm.cells.toArray 70)).heap.size from by simp]
    exact heap_alloc_self _ _
theorem TwoP.putOne {w u : World} {x y : Pm} (h : TwoP w x y u) (z : Pm) : TwoP w z y (putL u w.heap.size 0 z.cells) :=
  have hk := putL_kept z.cells u w.heap.size 0
  ⟨h.bel.trans (hk.below h.bel.size (fun k e => by omega)), putL_whole _ h.one rfl, by rw [hk.block _ (block_lt h.two) (by omega)]; exact h.two⟩
end Go.Proofs.Ytjkhbjgfoopomaa
/-
  A struct of many cells is read or written as a whole.
-/
namespace Go.Proofs.Ytjkhbjgfoopomaa
open Go.RowKit
set_option linter.unusedVariables false
/-- the cells of one of a row's structs -/
theorem RowOf.range {α : Type} {f : α → List Value} {sz : Nat} (hf : ∀ x, (f x).length = sz) {w : World} {e : TypeId} {g n cap : Nat} {xs : List α} (h : RowOf w e sz f (.slice (some ⟨g, 0, none⟩) n cap) xs) (k : Nat) (hk : k < xs.length) : w.rangeAt g (k * sz) (f xs[k]) := by
  obtain ⟨ad, cap', hv, hev⟩ := h.form hf
  obtain ⟨g', hg, hcell, _⟩ := hev k hk
  subst hg
  have : g' = g := by injection hv with h1; injection h1 with h1; injection h1 with h1; exact h1.symm
  subst this
  intro j v hj
  have hjl := (List.getElem?_eq_some_iff.1 hj).1
  rw [hf] at hjl
  rw [hcell j hjl]
  exact hj
end Go.Proofs.Ytjkhbjgfoopomaa
