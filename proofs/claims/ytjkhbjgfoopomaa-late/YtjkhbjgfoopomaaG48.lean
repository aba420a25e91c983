import Derived.Test.YtjkhbjgfoopomaaG46
import Derived.Test.YtjkhbjgfoopomaaG47
/-
  The statement Late.
-/
namespace Go.Proofs.Ytjkhbjgfoopomaa
open Go.ChangeShapes Go.WideShapes Go.ChangeAt Go.RowKit
set_option linter.unusedVariables false
set_option linter.unusedSimpArgs false
theorem kbytesLeg : Try.prog.bytesOf 57 = 12 := by kernel_rfl
section
variable {H : Type} {enc : TypeId × Value → H} {w : World} {base : Nat} {spare : Nat → Bool} {held : Bool}
set_option maxRecDepth 100000 in
/-- legs that came in -/
theorem kopen_legsW {n : Nat} {c : Value} {x : DataW H × List MemPlace} (h : DataW.trod enc Try.prog w 0 (fun _ => true) held n 50 [c] = some x) (hw : ∀ b ∈ x.1.weights Try.prog 50, b ≤ reachBytes) :
    ∃ (la : Option Addr) (lcap : Nat) (legs : List Pl), c = .slice la legs.length lcap ∧ (∀ l, l ∈ legs → l.ok) ∧ legs.length ≤ 11728124029269 ∧ LegsAt w la legs := by
  have hlt : ∀ y ∈ x.2, y.block < w.heap.size := DataW.trod_lt n _ _ _ h
  rcases Go.Deep.open_slice Try.underlying50 h with ⟨e1, _⟩ | ⟨a, len, cap, m, n', D, Q, e1, _, hl, hm, hmm, hx, hel⟩
  · simp only [List.cons.injEq, and_true] at e1
    exact ⟨none, 0, [], e1, by simp, by simp, fun k hk => by simp at hk⟩
  · simp only [List.cons.injEq, and_true] at e1
    simp only [if_true] at hmm
    subst hmm
    rw [hx] at hw hlt
    rw [kcellsLeg] at hel hlt
    have hun := Try.underlying50
    simp only [DataW.weights, hun] at hw
    have hall : ∀ i, i < len → ∃ l : Pl, l.ok ∧ ∀ j v, l.cells[j]? = some v → w.cell? ((a.add (i * 4)).add j) = some v := by
      intro i hi
      obtain ⟨cs', h1, h2⟩ := hel i (by omega)
      obtain ⟨l, hl, hok⟩ := kopen_leg h2
      obtain ⟨_, hln, hc⟩ := World.cells?_some h1
      refine ⟨l, hok, fun j v hj => ?_⟩
      have hj4 : j < 4 := by
        have := (List.getElem?_eq_some_iff.1 hj).1
        rwa [Pl.cells_length] at this
      rw [hc j hj4, hl]
      exact hj
    have hab : 0 < len → a.block < w.heap.size := fun h0 => by
      refine hlt (.cell a.block a.off) (List.mem_append_left _ (krow_first a (m * 4) (by omega)))
    obtain ⟨f, hf⟩ := Classical.axiomOfChoice (fun i : Fin len => hall i.1 i.2)
    have hlen : ((List.range len).map D).length + ((List.range (m - len)).map fun j => D (len + j)).length = m := by simp; omega
    have hby := hw _ (List.mem_cons_self)
    rw [hlen, kbytesLeg] at hby
    have hrb : reachBytes = 140737488351232 := rfl
    refine ⟨some a, m, List.ofFn f, by rw [List.length_ofFn]; exact e1, fun l hl' => ?_, by rw [List.length_ofFn]; omega, fun k hk => ?_⟩
    · obtain ⟨i, rfl⟩ := List.mem_ofFn.1 hl'
      exact (hf i).1
    · rw [List.length_ofFn] at hk
      refine ⟨a, rfl, hab (by omega), fun j v hj => ?_⟩
      rw [List.getElem_ofFn] at hj
      exact (hf ⟨k, hk⟩).2 j v hj
end
set_option maxRecDepth 100000 in
theorem late_lifted (os : Os) (started : os.Started) (H : Type) (enc : TypeId × Value → H) :
    ReturnsInHanded {} Try.checked os 10 .any (Rows.lateSpec.pre6 enc Try.prog Try.f10 Rows.lateRow.domain false) (Rows.lateSpec.post enc Try.prog Try.f10 false true false false) := by
  refine returnsInHanded_of_change_sized (C := Try.checked) own started (by kernel_rfl) Try.func10
    (ChangeSpec.witness6 (enc := enc) (C := Try.checked) false ⟨#[], #[.slice none 0 0, .int .i64 0, .int .i64 0], []⟩ 8 (by kernel_rfl) (by kernel_rfl) (by kernel_rfl) (by kernel_rfl)) ?_
  intro W base args ds gs before hval0 hW hcnd hsz _
  have hval : ∀ (j : Nat) t v, Try.f10.params[j]? = some t → args[j]? = some v → Value.okWide Try.prog W .any base t v := hval0
  have hW' := hW
  obtain ⟨p, q, hA0, hV, rfl, hfz, hnd⟩ := hW
  have hA : DataW.TrodAll enc Try.prog W 0 (fun _ => true) true Try.f10.params.toList args.toList ds p := hA0
  rw [Try.params10] at hA hval hsz
  obtain ⟨v0, vs0, d0, ds0, p0, q0, hargs, rfl, rfl, h0, r0⟩ := trodAll_cons hA
  obtain ⟨v1, vs1, d1, ds1, p1, q1, rfl, rfl, rfl, h1, r1⟩ := trodAll_cons r0
  obtain ⟨v2, vs2, d2, ds2, p2, q2, rfl, rfl, rfl, h2, r2⟩ := trodAll_cons r1
  obtain ⟨rfl, rfl, rfl⟩ := trodAll_nil r2
  obtain rfl : args = #[v0, v1, v2] := by cases args; simp_all
  obtain ⟨rfl, rfl⟩ := trodVars_none hV
  have k0 := h0
  have k1 := h1
  have k2 := h2
  have lt0 : ∀ x ∈ p0, x.block < W.heap.size := by obtain ⟨m, hm⟩ := k0; exact DataW.trod_lt m _ _ _ hm
  have lt1 : ∀ x ∈ p1, x.block < W.heap.size := by obtain ⟨m, hm⟩ := k1; exact DataW.trod_lt m _ _ _ hm
  have lt2 : ∀ x ∈ p2, x.block < W.heap.size := by obtain ⟨m, hm⟩ := k2; exact DataW.trod_lt m _ _ _ hm
  have hwt : ∀ b ∈ d0.weights Try.prog 50, b ≤ reachBytes := fun b hb => by
    have := List.all_eq_true.1 hsz b (DataW.weights_mem_each (j := 0) rfl rfl b hb)
    simpa using this
  obtain ⟨a0, n0, c0, rfl⟩ := okWide_slice Try.underlying50 (hval 0 50 v0 rfl rfl)
  obtain ⟨f0, hf0⟩ := h0
  obtain ⟨la, lcap, legs, el, hlok, hll, hLA⟩ := kopen_legsW (c := .slice a0 n0 c0) hf0 hwt
  obtain ⟨wa, rfl, _, _, w1⟩ := open_int Try.underlying3 (hval 1 3 v1 rfl rfl) h1
  obtain ⟨lo, rfl, _, _, w2⟩ := open_int Try.underlying3 (hval 2 3 v2 rfl rfl) h2
  clear hA0 hval0
  rw [el] at hW' k0 ⊢
  refine (late_walk W la lcap legs hlok hLA (by omega) wa lo (ki64_of w1) (ki64_of w2)).mono fun e W' ⟨he, bel⟩ => ?_
  subst he
  exact ⟨_, rfl, _, _, _, [], _, [], hW', trodAll_mk1 (shut_bool Try.underlying4 _), (trodAll_cons_mk (Below.trod laidOut (by kernel_rfl) (of_decide_eq_true (by kernel_rfl)) k0 bel lt0) (trodAll_cons_mk (Below.trod laidOut (by kernel_rfl) (of_decide_eq_true (by kernel_rfl)) k1 bel lt1) (trodAll_cons_mk (Below.trod laidOut (by kernel_rfl) (of_decide_eq_true (by kernel_rfl)) k2 bel lt2) trodAll_mk0))), rfl, bel.frame _, fun h => by cases h⟩
theorem late_proved : Rows.LateSaid :=
  OpenClaim.holds_of_wide 10 Try.f10 rfl rfl rfl rfl rfl rfl rfl ⟨rfl, rfl, rfl, rfl, rfl⟩ rfl rfl rfl rfl rfl (by kernel_rfl) Try.func10 (by kernel_rfl)
    (of_decide_eq_true (by kernel_rfl)) (by unfold Func.isWrapper; first | (rw [if_pos (by decide +kernel)]; kernel_rfl) | (rw [if_neg (by decide +kernel)]; exact ⟨rfl, rfl⟩))
    (fun os started H enc _ => late_lifted os started H enc)
end Go.Proofs.Ytjkhbjgfoopomaa
