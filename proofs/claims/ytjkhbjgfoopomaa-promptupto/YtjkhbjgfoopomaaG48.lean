import Derived.Test.YtjkhbjgfoopomaaG45
import Derived.Test.YtjkhbjgfoopomaaRows
import Derived.Deep.Slices
/-
  Arguments that came in, opened: legs, numbers; what the bound gives.
-/
namespace Go.Proofs.Ytjkhbjgfoopomaa
open Go.ChangeShapes Go.WideShapes Go.ChangeAt Go.RowKit
set_option linter.unusedVariables false
set_option linter.unusedSimpArgs false
theorem bulk_one {H : Type} (d : DataW H) : 1 ≤ Rows.uptoBulk d := by
  cases d with
  | lit l => cases l <;> simp [Rows.uptoBulk]
  | nil => simp [Rows.uptoBulk]
  | ptr d => simp [Rows.uptoBulk]
  | slice elems spare => simp [Rows.uptoBulk]
  | agg parts => simp [Rows.uptoBulk]
  | iface t d => simp [Rows.uptoBulk]
  | map entries => simp [Rows.uptoBulk]
  | held h => simp [Rows.uptoBulk]
theorem bulk_len {H : Type} (l : List (DataW H)) : l.length ≤ Rows.uptoBulkAll l := by
  induction l with
  | nil => simp [Rows.uptoBulkAll]
  | cons x r ih => have := bulk_one x; simp only [Rows.uptoBulkAll, List.length_cons]; omega
theorem kcellsLeg : Try.prog.cellsOf 57 = 4 := by kernel_rfl
theorem kcellsNode : Try.prog.cellsOf 26 = 1 := by kernel_rfl
theorem kcellsAccount : Try.prog.cellsOf 29 = 1 := by kernel_rfl
theorem kcellsAmount : Try.prog.cellsOf 30 = 1 := by kernel_rfl
theorem kcellsInt : Try.prog.cellsOf 3 = 1 := by kernel_rfl
theorem ku8_of {x : Int} (h : (Lit.int .u8 x).wf = true) : ∃ n : Nat, x = n ∧ n < 256 := by
  simp [Lit.wf, IntKind.min, IntKind.max, IntKind.signed, IntKind.bits] at h
  exact ⟨x.toNat, by omega, by omega⟩
theorem ku16_of {x : Int} (h : (Lit.int .u16 x).wf = true) : ∃ n : Nat, x = n ∧ n < 65536 := by
  simp [Lit.wf, IntKind.min, IntKind.max, IntKind.signed, IntKind.bits] at h
  exact ⟨x.toNat, by omega, by omega⟩
theorem ku32_of {x : Int} (h : (Lit.int .u32 x).wf = true) : ∃ n : Nat, x = n ∧ n < 4294967296 := by
  simp [Lit.wf, IntKind.min, IntKind.max, IntKind.signed, IntKind.bits] at h
  exact ⟨x.toNat, by omega, by omega⟩
theorem ki64_of {x : Int} (h : (Lit.int .i64 x).wf = true) : i64ok x := by
  simp [Lit.wf, IntKind.min, IntKind.max, IntKind.signed, IntKind.bits] at h
  exact ⟨by omega, by omega⟩
theorem krow_first (a : Addr) (n : Nat) (h : 0 < n) : MemPlace.cell a.block a.off ∈ MemPlace.row a n := List.mem_map.2 ⟨0, List.mem_range.2 h, by simp⟩
section
variable {H : Type} {enc : TypeId × Value → H} {w : World} {base : Nat} {spare : Nat → Bool} {held : Bool}
set_option maxRecDepth 100000 in
theorem kopen_leg {n : Nat} {cs : List Value} {x : DataW H × List MemPlace} (h : DataW.trod enc Try.prog w base spare held n 57 cs = some x) : ∃ l : Pl, cs = l.cells ∧ l.ok := by
  obtain ⟨xs, n', _, hx, hcl, hlen, hg⟩ := DataW.trod_struct Try.underlying57 h
  rw [kcellsLeg] at hcl
  match cs, hcl with
  | [c0, c1, c2, c3], _ =>
  have g0 := hg 0 _ rfl
  have g1 := hg 1 _ rfl
  have g2 := hg 2 _ rfl
  have g3 := hg 3 _ rfl
  clear hg
  have hlen' : xs.length = 4 := hlen
  match xs, hlen' with
  | [y0, y1, y2, y3], _ =>
    simp [kcellsNode, kcellsAccount, kcellsAmount] at g0 g1 g2 g3
    obtain ⟨n0, e0, rfl, w0⟩ := DataW.trod_int Try.underlying26 g0
    obtain ⟨n1, e1, rfl, w1⟩ := DataW.trod_int Try.underlying29 g1
    obtain ⟨n2, e2, rfl, w2⟩ := DataW.trod_int Try.underlying29 g2
    obtain ⟨n3, e3, rfl, w3⟩ := DataW.trod_int Try.underlying30 g3
    simp only [List.cons.injEq, and_true] at e0 e1 e2 e3
    subst e0 e1 e2 e3
    obtain ⟨b, rfl, hb⟩ := ku8_of w0
    obtain ⟨p, rfl, hp⟩ := ku16_of w1
    obtain ⟨g, rfl, hg⟩ := ku16_of w2
    obtain ⟨a, rfl, ha⟩ := ku32_of w3
    exact ⟨⟨b, p, g, a⟩, rfl, hb, hp, hg, ha⟩
set_option maxRecDepth 100000 in
/-- legs that came in -/
theorem kopen_legs {n : Nat} {c : Value} {x : DataW H × List MemPlace} (h : DataW.trod enc Try.prog w 0 (fun _ => true) held n 50 [c] = some x) :
    ∃ (la : Option Addr) (lcap : Nat) (legs : List Pl), c = .slice la legs.length lcap ∧ (∀ l, l ∈ legs → l.ok) ∧ LegsAt w la legs ∧ legs.length ≤ Rows.uptoBulk x.1 := by
  have hlt : ∀ y ∈ x.2, y.block < w.heap.size := DataW.trod_lt n _ _ _ h
  rcases Go.Deep.open_slice Try.underlying50 h with ⟨e1, _⟩ | ⟨a, len, cap, m, n', D, Q, e1, _, hl, hm, hmm, hx, hel⟩
  · simp only [List.cons.injEq, and_true] at e1
    exact ⟨none, 0, [], e1, by simp, fun k hk => by simp at hk, by simp⟩
  · simp only [List.cons.injEq, and_true] at e1
    simp only [if_true] at hmm
    subst hmm
    rw [hx] at hlt ⊢
    rw [kcellsLeg] at hel hlt
    have hall : ∀ i, i < len → ∃ l : Pl, l.ok ∧ ∀ j v, l.cells[j]? = some v → w.cell? ((a.add (i * 4)).add j) = some v := by
      intro i hi
      obtain ⟨cs', h1, h2⟩ := hel i (by omega)
      obtain ⟨l, hl, hok⟩ := kopen_leg h2
      obtain ⟨_, hln, hc⟩ := World.cells?_some h1
      refine ⟨l, hok, fun j v hj => ?_⟩
      have hj4 : j < 4 := by
        have := (List.getElem?_eq_some_iff.1 hj).1
        rwa [Pl.cells_length] at this
      rw [hc j hj4, hl]
      exact hj
    have hab : 0 < len → a.block < w.heap.size := fun h0 => hlt (.cell a.block a.off) (List.mem_append_left _ (krow_first a (m * 4) (by omega)))
    obtain ⟨f, hf⟩ := Classical.axiomOfChoice (fun i : Fin len => hall i.1 i.2)
    refine ⟨some a, m, List.ofFn f, by rw [List.length_ofFn]; exact e1, fun l hl' => ?_, fun k hk => ?_, ?_⟩
    · obtain ⟨i, rfl⟩ := List.mem_ofFn.1 hl'
      exact (hf i).1
    · rw [List.length_ofFn] at hk
      refine ⟨a, rfl, hab (by omega), fun j v hj => ?_⟩
      rw [List.getElem_ofFn] at hj
      exact (hf ⟨k, hk⟩).2 j v hj
    · rw [List.length_ofFn]
      simp only [Rows.uptoBulk]
      have := bulk_len ((List.range len).map D)
      simp only [List.length_map, List.length_range] at this
      omega
set_option maxRecDepth 100000 in
/-- numbers that came in -/
theorem kopen_ints {n : Nat} {c : Value} {x : DataW H × List MemPlace} (h : DataW.trod enc Try.prog w 0 (fun _ => true) held n 51 [c] = some x) (hb : Rows.uptoBulk x.1 ≤ 1048576) : ∃ ts, IntsAt w c ts := by
  have hlt : ∀ y ∈ x.2, y.block < w.heap.size := DataW.trod_lt n _ _ _ h
  rcases Go.Deep.open_slice1 Try.underlying51 kcellsInt h with ⟨e1, _⟩ | ⟨a, len, cap, m, n', V, D, Q, e1, _, hl, hm, hmm, hx, hel⟩
  · simp only [List.cons.injEq, and_true] at e1
    exact ⟨[], ⟨⟨none, 0, e1, fun k hk => by simp at hk⟩, by simp, by simp⟩⟩
  · simp only [List.cons.injEq, and_true] at e1
    simp only [if_true] at hmm
    subst hmm
    rw [hx] at hlt hb
    have hall : ∀ i, i < len → ∃ z : Int, i64ok z ∧ w.cell? (a.add i) = some (.int .i64 z) := by
      intro i hi
      obtain ⟨h1, h2⟩ := hel i (by omega)
      obtain ⟨z, e0, _, w0⟩ := DataW.trod_int Try.underlying3 h2
      simp only [List.cons.injEq, and_true] at e0
      exact ⟨z, ki64_of w0, by rw [h1, e0]⟩
    have hab : 0 < len → a.block < w.heap.size := fun h0 => hlt (.cell a.block a.off) (List.mem_append_left _ (krow_first a m (by omega)))
    obtain ⟨f, hf⟩ := Classical.axiomOfChoice (fun i : Fin len => hall i.1 i.2)
    have hbl : len ≤ 1048576 := by
      simp only [Rows.uptoBulk] at hb
      have := bulk_len ((List.range len).map D)
      simp only [List.length_map, List.length_range] at this
      omega
    refine ⟨List.ofFn f, ⟨⟨some a, m, by rw [List.length_ofFn]; exact e1, fun k hk => ?_⟩, fun z hz => ?_, by rw [List.length_ofFn]; exact hbl⟩⟩
    · rw [List.length_ofFn] at hk
      refine ⟨a, rfl, hab (by omega), ?_⟩
      rw [List.getElem_ofFn]
      exact (hf ⟨k, hk⟩).2
    · obtain ⟨i, rfl⟩ := List.mem_ofFn.1 hz
      exact (hf i).1
end
end Go.Proofs.Ytjkhbjgfoopomaa
