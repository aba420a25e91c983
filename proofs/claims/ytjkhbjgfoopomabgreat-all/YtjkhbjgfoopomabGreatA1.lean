import Derived.Below
import Derived.Deep.AppendLies
import Derived.Deep.RegionLaw
namespace Go.Proofs.YtjkhbjgfoopomabGreat
open Go.RowKit
set_option linter.unusedVariables false
structure Kept (S : Nat → Prop) (w w' : World) : Prop where
 os : w'.os = w.os
 tape : w'.tape = w.tape
 output : w'.output = w.output
 size : w.heap.size ≤ w'.heap.size
 block : ∀ k, k < w.heap.size → ¬ S k → w'.heap[k]? = w.heap[k]?
theorem Kept.refl (S : Nat → Prop) (w : World) : Kept S w w := ⟨rfl, rfl, rfl, Nat.le_refl _, fun _ _ _ => rfl⟩
theorem Kept.trans {S S' : Nat → Prop} {a b c : World} (h : Kept S a b) (k : Kept S' b c) (hs : ∀ i, S' i → S i ∨ a.heap.size ≤ i) : Kept S a c :=
 ⟨k.os.trans h.os, k.tape.trans h.tape, k.output.trans h.output, Nat.le_trans h.size k.size, fun i hi hn =>
  (k.block i (Nat.lt_of_lt_of_le hi h.size) (fun hs' => (hs i hs').elim hn (fun x => by omega))).trans (h.block i hi hn)⟩
theorem Kept.mono {S S' : Nat → Prop} {a b : World} (h : Kept S a b) (hs : ∀ i, i < a.heap.size → S i → S' i) : Kept S' a b :=
 ⟨h.os, h.tape, h.output, h.size, fun k hk hn => h.block k hk fun x => hn (hs k hk x)⟩
theorem Kept.of_below {S : Nat → Prop} {w w' : World} (h : Below w.heap.size w w') : Kept S w w' := ⟨h.os, h.tape, h.output, h.size, fun k hk _ => h.block k hk⟩
theorem Kept.below {S : Nat → Prop} {w w' : World} (h : Kept S w w') {B : Nat} (hB : B ≤ w.heap.size) (hs : ∀ k, S k → B ≤ k) : Below B w w' :=
 ⟨h.os, h.tape, h.output, h.size, fun k hk => h.block k (by omega) fun x => by have := hs k x; omega⟩
theorem Kept.of_grown {w w' : World} {row : Option Nat} (h : w.grownBy w' row) : Kept (fun k => row = some k) w w' := ⟨h.os, h.tape, h.output, h.size, fun k hk hn => h.block k hk fun x => hn x.symm⟩
theorem Kept.of_setCell (w : World) (p : Addr) (u : Value) : Kept (fun k => k = p.block) w (w.setCell p u) :=
 ⟨rfl, rfl, rfl, by simp [World.setCell], fun k hk hn => Below.heap_setCell _ _ _ _ hn⟩
theorem Kept.of_alloc {S : Nat → Prop} (w : World) (o : Obj) : Kept S w (w.alloc o) := .of_below ((Below.refl _ _).alloc (Nat.le_refl _) _)
theorem Kept.drew {S : Nat → Prop} {a b : World} (h : Kept S a b) : Kept S a b.drew := ⟨h.os, h.tape, h.output, h.size, h.block⟩
theorem Kept.cell {S : Nat → Prop} {w w' : World} (h : Kept S w w') {p : Addr} (hp : p.block < w.heap.size) (hn : ¬ S p.block) : w'.cell? p = w.cell? p := World.cell?_of_block (w := w) (h.block p.block hp hn)
theorem cell_at {w : World} {g : Nat} {cs : Array Value} {t : TypeId} {fr : Nat × Nat} (h : w.heap[g]? = some (.cells cs t fr)) (i : Nat) : w.cell? ⟨g, i, none⟩ = cs[i]? := by simp [World.cell?, h]
theorem frozen_at {w : World} {g : Nat} {cs : Array Value} {t : TypeId} (h : w.heap[g]? = some (.cells cs t (0, 0))) (i : Nat) : w.frozen? ⟨g, i, none⟩ = false := by simp [World.frozen?, h]
theorem block_lt {w : World} {g : Nat} {o : Obj} (h : w.heap[g]? = some o) : g < w.heap.size := by
 rcases Nat.lt_or_ge g w.heap.size with x | x
 ·exact x
 ·rw [Array.getElem?_eq_none x] at h; cases h
theorem heap_set_self {w : World} {g : Nat} {cs : Array Value} {t : TypeId} {fr : Nat × Nat} (h : w.heap[g]? = some (.cells cs t fr)) (i : Nat) (u : Value) : (w.setCell ⟨g, i, none⟩ u).heap[g]? = some (.cells (cs.setIfInBounds i u) t fr) := by
 simp [World.setCell, Array.getElem?_modify, h]
theorem heap_alloc_self (w : World) (o : Obj) : (w.alloc o).heap[w.heap.size]? = some o := by
 show (w.heap.push o)[w.heap.size]? = _
 simp
def putL (u : World) (g off : Nat) : List Value → World
 | [] => u
 | v :: r => putL (u.setCell ⟨g, off, none⟩ v) g (off + 1) r
def setL (cs : Array Value) (off : Nat) : List Value → Array Value
 | [] => cs
 | v :: r => setL (cs.setIfInBounds off v) (off + 1) r
theorem setL_list (vs : List Value) : ∀ (cs : Array Value) (off : Nat), off + vs.length ≤ cs.size → (setL cs off vs).toList = cs.toList.take off ++ vs ++ cs.toList.drop (off + vs.length) := by
 induction vs with
 | nil => intro cs off h; simp [setL]
 | cons v r ih =>
  intro cs off h;simp only [List.length_cons] at h;have hlt : off < cs.toList.length := by simp; omega
  have h1 : (cs.toList.set off v).take (off + 1) = cs.toList.take off ++ [v] := by
   rw [List.take_succ_eq_append_getElem (by simpa using hlt), List.take_set_of_le (Nat.le_refl _)];simp
  have h2 : (cs.toList.set off v).drop (off + 1 + r.length) = cs.toList.drop (off + (r.length + 1)) := by
   rw [List.drop_set_of_lt (by omega)]
   congr 1
   omega
  rw [setL, ih _ _ (by simp; omega), Array.toList_setIfInBounds, h1, h2];simp
theorem setL_size (vs : List Value) : ∀ (cs : Array Value) (off : Nat), (setL cs off vs).size = cs.size := by
 induction vs with
 | nil => intro cs off; rfl
 | cons v r ih => intro cs off; rw [setL, ih]; simp
theorem setL_whole (cs : Array Value) (vs : List Value) (h : cs.size = vs.length) : setL cs 0 vs = vs.toArray := by
 apply Array.toList_inj.1
 rw [setL_list vs cs 0 (by omega)]
 have : cs.toList.drop (0 + vs.length) = [] := List.drop_eq_nil_of_le (by simp; omega)
 rw [this]
 simp
theorem putL_self (vs : List Value) : ∀ {u : World} {g : Nat} {cs : Array Value} {t : TypeId} {fr : Nat × Nat} (off : Nat), u.heap[g]? = some (.cells cs t fr) → (putL u g off vs).heap[g]? = some (.cells (setL cs off vs) t fr) := by
 induction vs with
 | nil => intro u g cs t fr off h; exact h
 | cons v r ih => intro u g cs t fr off h; exact ih (off + 1) (heap_set_self h off v)
theorem putL_kept (vs : List Value) : ∀ (u : World) (g off : Nat), Kept (fun k => k = g) u (putL u g off vs) := by
 induction vs with
 | nil => intro u g off; exact Kept.refl _ _
 | cons v r ih => intro u g off; exact (Kept.of_setCell u ⟨g, off, none⟩ v).trans (ih _ g (off + 1)) (fun i h => .inl h)
theorem putL_whole (vs : List Value) {u : World} {g : Nat} {cs : Array Value} {t : TypeId} {fr : Nat × Nat} (h : u.heap[g]? = some (.cells cs t fr)) (hs : cs.size = vs.length) : (putL u g 0 vs).heap[g]? = some (.cells vs.toArray t fr) := by
 rw [putL_self vs 0 h, setL_whole cs vs hs]
theorem keep3 {w u u' : World} {p q r : Addr} {x y z : Value} (hp : p.block < w.heap.size) (hq : q.block < w.heap.size) (hr : r.block < w.heap.size)
  (h : (u.cell? p = some x ∧ u.cell? q = some y ∧ u.cell? r = some z) ∧ Below w.heap.size w u) (hb : Below w.heap.size u u') : (u'.cell? p = some x ∧ u'.cell? q = some y ∧ u'.cell? r = some z) ∧ Below w.heap.size w u' :=
 ⟨⟨by rw [hb.cell hp]; exact h.1.1, by rw [hb.cell hq]; exact h.1.2.1, by rw [hb.cell hr]; exact h.1.2.2⟩, h.2.trans hb⟩
theorem keep3_drew {w : World} {p q r : Addr} {x y z : Value} (h : w.cell? p = some x ∧ w.cell? q = some y ∧ w.cell? r = some z) : (w.drew.cell? p = some x ∧ w.drew.cell? q = some y ∧ w.drew.cell? r = some z) ∧ Below w.heap.size w w.drew :=
 ⟨h, (Below.refl _ _).drew⟩
theorem keep3_alloc {w u : World} {p q r : Addr} {x y z : Value} (hp : p.block < w.heap.size) (hq : q.block < w.heap.size) (hr : r.block < w.heap.size)
  (h : (u.cell? p = some x ∧ u.cell? q = some y ∧ u.cell? r = some z) ∧ Below w.heap.size w u) (o : Obj) : ((u.alloc o).cell? p = some x ∧ (u.alloc o).cell? q = some y ∧ (u.alloc o).cell? r = some z) ∧ Below w.heap.size w (u.alloc o) :=
 keep3 hp hq hr h ((Below.refl _ _).alloc h.2.size _)
theorem keep3_call {w u u' : World} {p q r : Addr} {x y z : Value} (hp : p.block < w.heap.size) (hq : q.block < w.heap.size) (hr : r.block < w.heap.size)
  (h : (u.cell? p = some x ∧ u.cell? q = some y ∧ u.cell? r = some z) ∧ Below w.heap.size w u) (hb : Below u.heap.size u u') : (u'.cell? p = some x ∧ u'.cell? q = some y ∧ u'.cell? r = some z) ∧ Below w.heap.size w u' :=
 keep3 hp hq hr h (hb.mono h.2.size)
section
variable {α : Type} {f : α → List Value} {sz : Nat}
theorem flat_length (hf : ∀ x, (f x).length = sz) (xs : List α) : (xs.flatMap f).length = xs.length * sz := by
 induction xs with
 | nil => simp
 | cons e r ih => simp only [List.flatMap_cons, List.length_append, hf, ih, List.length_cons, Nat.add_mul]; omega
theorem flat_get (hf : ∀ x, (f x).length = sz) (xs : List α) (k j : Nat) (hk : k < xs.length) (hj : j < sz) : (xs.flatMap f)[k * sz + j]? = (f xs[k])[j]? := by
 induction xs generalizing k with
 | nil => simp at hk
 | cons e r ih =>
  simp only [List.flatMap_cons];cases k with
  | zero =>
   rw [List.getElem?_append_left (by rw [hf]; omega)];simp
  | succ k =>
   rw [List.getElem?_append_right (by rw [hf, Nat.add_mul]; omega), hf, show (k + 1) * sz + j - sz = k * sz + j by rw [Nat.add_mul]; omega, ih k (by simpa using hk)];rfl
theorem flat_set (hf : ∀ x, (f x).length = sz) (xs : List α) (k j : Nat) (u : Value) (x' : α) (hk : k < xs.length) (hj : j < sz) (hx : f x' = (f xs[k]).set j u) : (xs.set k x').flatMap f = (xs.flatMap f).set (k * sz + j) u := by
 induction xs generalizing k with
 | nil => simp at hk
 | cons e r ih =>
  cases k with
  | zero =>
   simp only [List.set_cons_zero, List.flatMap_cons];rw [List.set_append_left _ _ (by rw [hf]; omega)];simp only [List.getElem_cons_zero] at hx;rw [hx];simp
  | succ k =>
   simp only [List.set_cons_succ, List.flatMap_cons];rw [List.set_append_right _ _ (by rw [hf, Nat.add_mul]; omega), hf, show (k + 1) * sz + j - sz = k * sz + j by rw [Nat.add_mul]; omega, ih k (by simpa using hk) (by simpa using hx)]
def RowOf (w : World) (e : TypeId) (sz : Nat) (f : α → List Value) (v : Value) (xs : List α) : Prop := w.ownsRow 0 e sz v xs.length (xs.flatMap f)
theorem RowOf.nil (w : World) (e : TypeId) : RowOf w e sz f (.slice none 0 0) [] := ⟨by simp, .inl ⟨rfl, rfl⟩⟩
theorem RowOf.lt {w : World} {e : TypeId} {v : Value} {xs : List α} (h : RowOf w e sz f v xs) {g : Nat} (hg : v.ownBlock = some g) : g < w.heap.size := by
 rcases h.2 with ⟨h1, _⟩ | ⟨g', cap, cur, h1, _, h3, _⟩
 ·rw [h1] at hg; simp [Value.ownBlock] at hg
 ·rw [h1] at hg;have : g' = g := by simpa [Value.ownBlock] using hg
  subst this;exact block_lt h3
theorem RowOf.same {w u : World} {e : TypeId} {v : Value} {xs : List α} (h : RowOf w e sz f v xs) (hb : ∀ g, v.ownBlock = some g → u.heap[g]? = w.heap[g]?) : RowOf u e sz f v xs := by
 refine ⟨h.1, ?_⟩
 rcases h.2 with hn | ⟨g, cap, cur, h1, h2, h3, h4⟩
 ·exact .inl hn
 ·exact .inr ⟨g, cap, cur, h1, h2, by rw [hb g (by rw [h1]; rfl)]; exact h3, h4⟩
theorem RowOf.kept {S : Nat → Prop} {w u : World} {e : TypeId} {v : Value} {xs : List α} (h : RowOf w e sz f v xs) (hk : Kept S w u) (hs : ∀ g, v.ownBlock = some g → ¬ S g) : RowOf u e sz f v xs :=
 h.same fun g hg => hk.block g (h.lt hg) (hs g hg)
theorem RowOf.below {w u : World} {e : TypeId} {v : Value} {xs : List α} (h : RowOf w e sz f v xs) (hb : Below w.heap.size w u) : RowOf u e sz f v xs :=
 h.same fun g hg => hb.block g (h.lt hg)
theorem RowOf.form (hf : ∀ x, (f x).length = sz) {w : World} {e : TypeId} {v : Value} {xs : List α} (h : RowOf w e sz f v xs) :
  ∃ (ad : Option Addr) (cap : Nat), v = .slice ad xs.length cap ∧ ∀ k (hk : k < xs.length), ∃ g, ad = some ⟨g, 0, none⟩ ∧ (∀ j, j < sz → w.cell? ⟨g, k * sz + j, none⟩ = (f xs[k])[j]?) ∧ ∀ j, w.frozen? ⟨g, j, none⟩ = false := by
 rcases h.2 with ⟨h1, h2⟩ | ⟨g, cap, cur, h1, _, h3, h4, _, h6, h7⟩
 ·exact ⟨none, 0, by rw [h1, h2], fun k hk => by omega⟩
 ·refine ⟨some ⟨g, 0, none⟩, cap, h1, fun k hk => ⟨g, rfl, fun j hj => ?_, fun j => frozen_at h3 j⟩⟩;rw [cell_at h3]
  have hlt : k * sz + j < xs.length * sz := by
   have : k * sz + sz ≤ xs.length * sz := by rw [← Nat.succ_mul]; exact Nat.mul_le_mul_right _ hk
   omega
  have e : cur[k * sz + j]? = (cur.toList.take (xs.length * sz))[k * sz + j]? := by
   rw [List.getElem?_take_of_lt hlt, Array.getElem?_toList]
  rw [e, h7, flat_get hf xs k j hk hj]
theorem RowOf.set (hf : ∀ x, (f x).length = sz) {w : World} {e : TypeId} {v : Value} {xs : List α} (h : RowOf w e sz f v xs) {g : Nat} (hg : v.ownBlock = some g) (k j : Nat) (hk : k < xs.length) (hj : j < sz) (u : Value) (x' : α) (hx : f x' = (f xs[k]).set j u) :
  RowOf (w.setCell ⟨g, k * sz + j, none⟩ u) e sz f v (xs.set k x') := by
 have hlt : k * sz + j < xs.length * sz := by
  have : k * sz + sz ≤ xs.length * sz := by rw [← Nat.succ_mul]; exact Nat.mul_le_mul_right _ hk
  omega
 refine ⟨by rw [flat_length hf], ?_⟩
 rcases h.2 with ⟨h1, h2⟩ | ⟨g', cap, cur, h1, h2, h3, h4, h5, h6, h7⟩
 ·omega
 ·have : g' = g := by rw [h1] at hg; simpa [Value.ownBlock] using hg
  subst this;refine .inr ⟨g', cap, cur.setIfInBounds (k * sz + j) u, by rw [h1, List.length_set], h2, heap_set_self h3 _ _, by rw [List.length_set]; exact h4, h5, by simpa using h6, ?_⟩;rw [List.length_set, flat_set hf xs k j u x' hk hj hx, ← h7, Array.toList_setIfInBounds, List.take_set]
theorem flat_put (hf : ∀ x, (f x).length = sz) (xs : List α) (k : Nat) (x' : α) (hk : k < xs.length) : (xs.set k x').flatMap f = (xs.flatMap f).take (k * sz) ++ f x' ++ (xs.flatMap f).drop (k * sz + sz) := by
 induction xs generalizing k with
 | nil => simp at hk
 | cons e r ih =>
  cases k with
  | zero =>
   simp only [List.set_cons_zero, List.flatMap_cons, Nat.zero_mul, Nat.zero_add, List.take_zero, List.nil_append];rw [List.drop_append_of_le_length (by rw [hf]; omega), List.drop_eq_nil_of_le (by rw [hf]; omega)];simp
  | succ k =>
   have h1 : (k + 1) * sz = (f e).length + k * sz := by rw [hf, Nat.add_mul]; omega
   simp only [List.set_cons_succ, List.flatMap_cons];rw [ih k (by simpa using hk), h1, List.take_append, Nat.add_assoc, List.drop_append];simp [Nat.add_sub_cancel_left, List.take_of_length_le, List.drop_eq_nil_of_le]
theorem RowOf.put (hf : ∀ x, (f x).length = sz) {w : World} {e : TypeId} {v : Value} {xs : List α} (h : RowOf w e sz f v xs) {g : Nat} (hg : v.ownBlock = some g) (k : Nat) (hk : k < xs.length) (x' : α) :
  RowOf (putL w g (k * sz) (f x')) e sz f v (xs.set k x') := by
 have hlt : k * sz + sz ≤ xs.length * sz := by rw [← Nat.succ_mul]; exact Nat.mul_le_mul_right _ hk
 refine ⟨by rw [flat_length hf], ?_⟩
 rcases h.2 with ⟨h1, h2⟩ | ⟨g', cap, cur, h1, h2, h3, h4, h5, h6, h7⟩
 ·omega
 ·have : g' = g := by rw [h1] at hg; simpa [Value.ownBlock] using hg
  subst this;have h8 : k * sz + sz ≤ cur.size := by rw [h6]; exact Nat.le_trans hlt (Nat.mul_le_mul_right _ h4)
  refine .inr ⟨g', cap, setL cur (k * sz) (f x'), by rw [h1, List.length_set], h2, putL_self _ _ h3, by rw [List.length_set]; exact h4, h5, by rw [setL_size]; exact h6, ?_⟩;rw [setL_list _ _ _ (by rw [hf]; exact h8), List.length_set, flat_put hf xs k x' hk, hf]
  have e1 : (List.take (k * sz) cur.toList ++ f x').length = k * sz + sz := by
   rw [List.length_append, hf, List.length_take];simp;omega
  rw [List.take_append, e1, List.take_of_length_le (by rw [e1]; exact hlt)]
  congr 1
  ·congr 1
   rw [← h7, List.take_take, Nat.min_eq_left (by omega)]
  ·rw [← h7, List.drop_take]
theorem RowOf.to (hf : ∀ x, (f x).length = sz) {w : World} {e : TypeId} {v : Value} {xs ys : List α} {n : Nat} {l : List Value} (h : w.ownsRow 0 e sz v n l) (hl : l = ys.flatMap f) (hn : n = ys.length) : RowOf w e sz f v ys := by
 subst hl hn
 exact h
end
theorem setHere {B b o : Nat} {a w : World} {v : Value} (h : Below B a w) (hb : B ≤ b) : Below B a (w.setCell ⟨b, o, none⟩ v) := h.setCell (p := ⟨b, o, none⟩) hb v
theorem undrew {x u : World} (h : Below x.drew.heap.size x.drew u) : Below x.heap.size x u := ⟨h.os, h.tape, h.output, h.size, h.block⟩
theorem cel_kept {w w1 : World} {cs : Array Value} {t : TypeId} (hb : Below (w.alloc (.cells cs t)).heap.size (w.alloc (.cells cs t)) w1) (o : Nat) : w1.cell? ⟨w.heap.size, o, none⟩ = cs[o]? := by
 rw [hb.cell (p := ⟨w.heap.size, o, none⟩) (by simp), World.cell?_alloc_new]
theorem blk_kept {w w1 : World} {o : Obj} (hb : Below (w.alloc o).heap.size (w.alloc o) w1) : w1.heap[w.heap.size]? = some o := by
 rw [hb.block _ (by simp)]
 exact heap_alloc_self _ _
theorem all_kept {w w1 : World} {o : Obj} (hb : Below (w.alloc o).heap.size (w.alloc o) w1) : Below w.heap.size w w1 := ((Below.refl _ _).alloc (Nat.le_refl _) _).trans (hb.mono (by simp))
theorem fro_kept {w w1 : World} {cs : Array Value} {t : TypeId} (hb : Below (w.alloc (.cells cs t)).heap.size (w.alloc (.cells cs t)) w1) (o : Nat) : w1.frozen? ⟨w.heap.size, o, none⟩ = false := by
 rw [hb.frozen (p := ⟨w.heap.size, o, none⟩) (by simp)]
 simp
theorem lt_kept {w w1 : World} {cs : Array Value} {t : TypeId} (hb : Below (w.alloc (.cells cs t)).heap.size (w.alloc (.cells cs t)) w1) : w.heap.size < w1.heap.size := by
 have := hb.size
 simp at this
 omega
theorem keep3_set {w u u' : World} {p q r a : Addr} {x y z v : Value} (hp : p.block < w.heap.size) (hq : q.block < w.heap.size) (hr : r.block < w.heap.size)
  (h : (u.cell? p = some x ∧ u.cell? q = some y ∧ u.cell? r = some z) ∧ Below w.heap.size w u) (hb : Below w.heap.size u (u'.setCell a v)) : ((u'.setCell a v).cell? p = some x ∧ (u'.setCell a v).cell? q = some y ∧ (u'.setCell a v).cell? r = some z) ∧ Below w.heap.size w (u'.setCell a v) := keep3 hp hq hr h hb
theorem keep3_start {w : World} {p q r : Addr} {x y z : Value} (hp : p.block < w.heap.size) (hq : q.block < w.heap.size) (hr : r.block < w.heap.size) (h : w.cell? p = some x ∧ w.cell? q = some y ∧ w.cell? r = some z) (o : Obj) :
  ((w.alloc o).drew.cell? p = some x ∧ (w.alloc o).drew.cell? q = some y ∧ (w.alloc o).drew.cell? r = some z) ∧ Below w.heap.size w (w.alloc o).drew :=
 keep3 hp hq hr ⟨h, Below.refl _ _⟩ (((Below.refl _ _).alloc (Nat.le_refl _) _).drew)
theorem keep3_again {w u : World} {p q r : Addr} {x y z : Value} {o : Obj} (hp : p.block < w.heap.size) (hq : q.block < w.heap.size) (hr : r.block < w.heap.size) (hs : w.heap.size ≤ u.heap.size) (o' : Obj)
  (h : ((u.alloc o).cell? p = some x ∧ (u.alloc o).cell? q = some y ∧ (u.alloc o).cell? r = some z) ∧ Below w.heap.size w (u.alloc o)) : ((u.alloc o').cell? p = some x ∧ (u.alloc o').cell? q = some y ∧ (u.alloc o').cell? r = some z) ∧ Below w.heap.size w (u.alloc o') := by
 have hb : Below w.heap.size (u.alloc o) (u.alloc o') := ⟨rfl, rfl, rfl, by simp, fun k hk => by rw [Below.heap_alloc _ _ _ (by omega), Below.heap_alloc _ _ _ (by omega)]⟩
 exact keep3 hp hq hr h hb
section
variable {P : Program} (w : World)
theorem append_keeps (base : Nat) (t ty e : TypeId) (i : TypeInfo) (z : Value) (size bytes : Nat) (ht : P.underlying t = some (.slice e)) (hi : P.info? e = some i) (hz : i.zero = some z)
  (hsize : i.size = size) (hby : i.bytes = bytes) (hzs : z.cells.size = size) (hsz : 0 < size) (v : Value) (n : Nat) (xs : List Value) (hown : w.ownsRow base e size v n xs)
  (a : Addr) (m c : Nat) (news : List Value) (hl : news.length = m * size) (hnews : ∀ j u, news[j]? = some u → w.cell? (a.add j) = some u) (h1 : ∀ u ∈ news, u.oneCell' = true) (hm : 0 < m)
  (h63 : n + m ≤ maxLen) (hbytes : (n + m) * bytes ≤ 140737488355328) (v' : Value) (w' : World) (hr : (Builtin.append_ #[t, t] ty #[v, .slice (some a) m c]).run P w = .ok v' w')
  (v2 : Value) (n2 : Nat) (zs : List Value) (h2 : w.ownsRow base e size v2 n2 zs) (hd : (∃ r, xs ++ news = zs ++ r) ∨ v2.ownBlock ≠ v.ownBlock) : w'.ownsRow base e size v2 n2 zs := by
 subst hsize
 subst hby
 have hsmall : n + m ≤ 9223372036854775807 := by simp only [maxLen] at h63; omega
 have hall : ∀ u : World, w.grownBy u none → u.ownsRow base e i.size v2 n2 zs := fun u hu => by
  cases hb : v2.ownBlock with
  | none => exact h2.kept hu (.inl hb)
  | some b => exact h2.kept hu (.inr (by rw [hb]; simp))
 rcases hown.2 with ⟨rfl, rfl⟩ | ⟨g, cap, cur, rfl, hbg, hg, hnc, hcm, hcs, htake⟩
 ·obtain rfl : xs = [] := List.eq_nil_of_length_eq_zero (by simpa using hown.1);have h3 := run_append_nil (P := P) w t ty e i z ht hi hz a m c news hl hnews (by omega) (by omega) (by have hb := hbytes; simp only [Nat.zero_add] at hb; omega);rw [h3] at hr;injection hr with _ hw
  subst hw;exact hall _ ⟨rfl, rfl, rfl, by simp, fun k hk _ => heap_alloc_old w.drew _ k hk⟩
 ·by_cases hroom : n + m ≤ cap
  ·have hfit : n * i.size + news.length ≤ cur.size := by rw [hl, hcs, ← Nat.add_mul]; exact Nat.mul_le_mul_right _ hroom
   have h3 := run_append_room (P := P) w t ty e i ht hi g n cap cur hg a m c news hl hnews h1 hroom hfit;rw [h3] at hr;injection hr with _ hw
   subst hw;have hgr : w.grownBy (w.setRow g (cur.toList.take (n * i.size) ++ news ++ cur.toList.drop (n * i.size + news.length)).toArray) (some g) := ⟨rfl, rfl, rfl, by simp, fun k _ hk => setRow_other w g k _ (fun e => hk (by rw [e]))⟩;by_cases hsame : v2.ownBlock = some g
   ·rcases hd with ⟨r, hpre⟩ | hd
    ·refine ⟨h2.1, ?_⟩;rcases h2.2 with ⟨rfl, rfl⟩ | ⟨g2, cap2, cur2, rfl, hbg2, hg2, hnc2, hcm2, hcs2, htake2⟩
     ·exact .inl ⟨rfl, rfl⟩
     ·obtain rfl : g2 = g := by simpa [Value.ownBlock] using hsame
      rw [hg] at hg2;injection hg2 with hg2
      injection hg2 with hg2
      subst hg2;refine .inr ⟨g2, cap2, _, rfl, hbg2, setRow_heap w g2 cur _ e _ hg, hnc2, hcm2, ?_, ?_⟩
      ·simp only [List.size_toArray, List.length_append, List.length_take, List.length_drop, Array.length_toList];omega
      ·rw [List.toList_toArray, htake, hpre, List.append_assoc, List.take_append_of_le_length (by rw [h2.1]; exact Nat.le_refl _), List.take_of_length_le (by rw [h2.1]; exact Nat.le_refl _)]
    ·exact absurd hsame hd
   ·exact h2.kept hgr (.inr hsame)
  ·have holds : ∀ j u, xs[j]? = some u → w.cell? ((⟨g, 0, none⟩ : Addr).add j) = some u := hown.cells (g := g) rfl;have h3 := run_append_grow (P := P) w t ty e i z ht hi hz ⟨g, 0, none⟩ n cap xs hown.1 holds a m c news hl hnews (by omega) (by omega) (growslice_fits (by omega) hbytes);rw [h3] at hr;injection hr with _ hw
   subst hw;exact hall _ ⟨rfl, rfl, rfl, by simp, fun k hk _ => heap_alloc_old w.drew _ k hk⟩
end
theorem wpList_more {P : Program} {ops : Array Oper} {rest : List Oper} {o : Oper} {a : Act} {Q : Exit → Act → World → Prop} {α : Type} {f : α → List Value} {sz : Nat} (hf : ∀ x, (f x).length = sz) (w : World) (hgd : o.guard = none) (s x : Operand) (t : TypeId)
  (ho : o.op = .call { callee := .builtin .append, args := #[s, x], argTypes := #[t, t] }) (e : TypeId) (i : TypeInfo) (z : Value) (bytes : Nat) (ht : P.underlying t = some (.slice e)) (hi : P.info? e = some i) (hz : i.zero = some z)
  (hsize : i.size = sz) (hby : i.bytes = bytes) (hzs : z.cells.size = sz) (hsz : 0 < sz) (v : Value) (xs : List α) (hs : a.eval s = v) (hrow : RowOf w e sz f v xs) (c : Nat) (ys : List α) (hys : 0 < ys.length) (m : Nat) (hm : m = ys.length) (hx : a.eval x = .slice (some ⟨w.heap.size, 0, none⟩) m c)
  (h1 : ∀ y, y ∈ ys → ∀ u ∈ f y, u.oneCell' = true) (h63 : xs.length + ys.length ≤ maxLen) (hbytes : (xs.length + ys.length) * bytes ≤ 140737488355328)
  (h : ∀ g cap w', RowOf w' e sz f (.slice (some ⟨g, 0, none⟩) (xs.length + m) cap) (xs ++ ys) → (∀ v2 zs, RowOf w e sz f v2 zs → ((∃ r, xs ++ ys = zs ++ r) ∨ v2.ownBlock ≠ v.ownBlock) → RowOf w' e sz f v2 zs) → Kept (fun k => v.ownBlock = some k) w w' → (v.ownBlock = some g ∨ w.heap.size ≤ g) → g < w'.heap.size → wpList P ops Q rest (a.put o.dst (.slice (some ⟨g, 0, none⟩) (xs.length + m) cap)) w') :
  ∀ W, W = w.alloc (.cells (ys.flatMap f).toArray e) → wpList P ops Q (o :: rest) a W := by
 rintro W rfl
 subst hm
 have hrow' : RowOf (w.alloc (.cells (ys.flatMap f).toArray e)) e sz f v xs := hrow.below ((Below.refl _ _).alloc (Nat.le_refl _) _)
 have hnews : ∀ j u, (ys.flatMap f)[j]? = some u → (w.alloc (.cells (ys.flatMap f).toArray e)).cell? ((⟨w.heap.size, 0, none⟩ : Addr).add j) = some u := fun j u hu => World.news_of_block (heap_alloc_self w (.cells (ys.flatMap f).toArray e)) j u hu
 have hone : ∀ u ∈ ys.flatMap f, u.oneCell' = true := fun u hu => by
  obtain ⟨y, hy, hu'⟩ := List.mem_flatMap.1 hu;exact h1 y hy u hu'
 have hnl : (ys.flatMap f).length = ys.length * sz := flat_length hf ys
 refine wpList_plain hgd fun K hK => ?_
 obtain ⟨g, cap, w', hr, h2, h3, h4, h5⟩ := run_append_lies (P := P) (w.alloc (.cells (ys.flatMap f).toArray e)) t o.type 0 e i z sz bytes ht hi hz hsize hby hzs hsz v xs.length (xs.flatMap f) hrow' ⟨w.heap.size, 0, none⟩ ys.length c (ys.flatMap f) hnl hnews hone hys h63 hbytes (Nat.zero_le _) _ rfl
 have hold : ∀ v2 zs, RowOf w e sz f v2 zs → ((∃ r, xs ++ ys = zs ++ r) ∨ v2.ownBlock ≠ v.ownBlock) → RowOf w' e sz f v2 zs := fun v2 zs hz2 hd => by
  refine append_keeps (P := P) (w.alloc (.cells (ys.flatMap f).toArray e)) 0 t o.type e i z sz bytes ht hi hz hsize hby hzs hsz v xs.length (xs.flatMap f) hrow' ⟨w.heap.size, 0, none⟩ ys.length c (ys.flatMap f) hnl hnews hone hys h63 hbytes _ _ hr v2 zs.length (zs.flatMap f) (hz2.below ((Below.refl _ _).alloc (Nat.le_refl _) _)) ?_;rcases hd with ⟨r, hr⟩ | hd
  ·exact .inl ⟨r.flatMap f, by rw [← List.flatMap_append, hr, List.flatMap_append]⟩
  ·exact .inr hd
 unfold Oper.wp execOp
 simp only [ho, resolve, invoke, builtin, Sem.run_bind, Sem.run_pure, Result.andThen_ok, List.map_toArray, List.map_cons, List.map_nil, hs, hx, hr]
 refine hK _ _ (h g cap w' (RowOf.to (xs := xs) hf h2 (by simp) (by simp)) hold ?_ ?_ h5)
 ·exact (Kept.of_alloc w _).trans (Kept.of_grown h3) (fun k hk => .inl hk)
 ·rcases h4 with h' | h'
  ·exact .inl h'
  ·right;rw [h'];simp
theorem wpList_row {P : Program} {ops : Array Oper} {rest : List Oper} {o : Oper} {a : Act} {Q : Exit → Act → World → Prop} {α : Type} {f : α → List Value} {sz : Nat} (hf : ∀ x, (f x).length = sz) (w : World) (hgd : o.guard = none) (s x : Operand) (t : TypeId)
  (ho : o.op = .call { callee := .builtin .append, args := #[s, x], argTypes := #[t, t] }) (e : TypeId) (i : TypeInfo) (z : Value) (bytes : Nat) (ht : P.underlying t = some (.slice e)) (hi : P.info? e = some i) (hz : i.zero = some z)
  (hsize : i.size = sz) (hby : i.bytes = bytes) (hzs : z.cells.size = sz) (hsz : 0 < sz) (v : Value) (xs : List α) (hs : a.eval s = v) (hrow : RowOf w e sz f v xs) (c : Nat) (y : α) (hx : a.eval x = .slice (some ⟨w.heap.size, 0, none⟩) 1 c)
  (h1 : ∀ u ∈ f y, u.oneCell' = true) (h63 : xs.length + 1 ≤ maxLen) (hbytes : (xs.length + 1) * bytes ≤ 140737488355328)
  (h : ∀ g cap w', RowOf w' e sz f (.slice (some ⟨g, 0, none⟩) (xs.length + 1) cap) (xs ++ [y]) → Kept (fun k => v.ownBlock = some k) w w' → (v.ownBlock = some g ∨ w.heap.size ≤ g) → g < w'.heap.size → wpList P ops Q rest (a.put o.dst (.slice (some ⟨g, 0, none⟩) (xs.length + 1) cap)) w') :
  ∀ W, W = w.alloc (.cells (f y).toArray e) → wpList P ops Q (o :: rest) a W := by
 rintro W rfl
 have hrow' : RowOf (w.alloc (.cells (f y).toArray e)) e sz f v xs := hrow.below ((Below.refl _ _).alloc (Nat.le_refl _) _)
 refine wpList_append_lies _ hgd s x t ho 0 e i z sz bytes ht hi hz hsize hby hzs hsz v xs.length (xs.flatMap f) hs hrow' ⟨w.heap.size, 0, none⟩ 1 c (f y) hx (by rw [hf]; omega) ?_ h1 (by decide) h63 hbytes (Nat.zero_le _) _ rfl ?_
 ·intro j u hu;exact World.news_of_block (heap_alloc_self w (.cells (f y).toArray e)) j u hu
 ·intro g cap w' hown hgrow hat hlt;refine h g cap w' (RowOf.to (xs := xs) hf hown (by simp) (by simp)) ?_ ?_ hlt
  ·exact (Kept.of_alloc w _).trans (Kept.of_grown hgrow) (fun k hk => .inl hk)
  ·rcases hat with h' | h'
   ·exact .inl h'
   ·right;rw [h'];simp
def tyAt (w : World) (B : Nat) : TypeId := match w.heap[B]? with
 | some (.cells _ T _) => T
 | _ => 9
theorem ty_of {w : World} {B : Nat} {cs : Array Value} {T : TypeId} {f : Nat × Nat} (h : w.heap[B]? = some (.cells cs T f)) : w.heap[B]? = some (.cells cs (tyAt w B) f) := by
 have : tyAt w B = T := by unfold tyAt; rw [h]
 rw [this]
 exact h
theorem step_row {P : Program} {ops : Array Oper} {o : Oper} {a : Act} {K : Act → World → Prop} {Q : Exit → Act → World → Prop} {E : Prop} {α : Type} {f : α → List Value} {sz : Nat} (hf : ∀ x, (f x).length = sz) {W : World} (hgd : o.guard = none) (s x : Operand) (t : TypeId)
  (ho : o.op = .call { callee := .builtin .append, args := #[s, x], argTypes := #[t, t] }) (e : TypeId) (i : TypeInfo) (z : Value) (bytes : Nat) (ht : P.underlying t = some (.slice e)) (hi : P.info? e = some i) (hz : i.zero = some z)
  (hsize : i.size = sz) (hby : i.bytes = bytes) (hzs : z.cells.size = sz) (hsz : 0 < sz) (v : Value) (xs : List α) (b c : Nat) (y : α) (h1 : ∀ u ∈ f y, u.oneCell' = true) (h63 : xs.length + 1 ≤ maxLen) (hbytes : (xs.length + 1) * bytes ≤ 140737488355328)
  (hs : a.eval s = v) (hx : a.eval x = .slice (some ⟨b, 0, none⟩) 1 c) (hrow : RowOf W e sz f v xs) (hb : W.heap[b]? = some (.cells (f y).toArray e (0, 0)))
  (h : ∀ g cap w', RowOf w' e sz f (.slice (some ⟨g, 0, none⟩) (xs.length + 1) cap) (xs ++ [y]) → Kept (fun k => v.ownBlock = some k) W w' → (v.ownBlock = some g ∨ W.heap.size ≤ g) → g < w'.heap.size → K (a.put o.dst (.slice (some ⟨g, 0, none⟩) (xs.length + 1) cap)) w') :
  if Region.wanted o (yielded ops a.tmps) = true then Oper.wp P o a W K Q else E := by
 refine step_append_lies _ hgd s x t ho 0 e i z sz bytes ht hi hz hsize hby hzs hsz v xs.length (xs.flatMap f) hs hrow ⟨b, 0, none⟩ 1 c (f y) hx (by rw [hf]; omega) ?_ h1 (by decide) h63 hbytes (Nat.zero_le _) _ rfl ?_
 ·intro j u hu;exact World.news_of_block hb j u hu
 ·intro g cap w' hown hgrow hat hlt;refine h g cap w' (RowOf.to (xs := xs) hf hown (by simp) (by simp)) (Kept.of_grown hgrow) ?_ hlt;rcases hat with h' | h'
  ·exact .inl h'
  ·exact .inr (by omega)
end Go.Proofs.YtjkhbjgfoopomabGreat
