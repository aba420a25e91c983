import Derived.Test.YtjkhbjgfoopomaaGreatG30
import Derived.Test.YtjkhbjgfoopomaaGreatG31
import Derived.Test.YtjkhbjgfoopomaaGreatOpenPays
/-
  The statement Deeds.
-/
namespace Go.Proofs.YtjkhbjgfoopomaaGreat
open Go.ChangeShapes Go.WideShapes Go.ChangeAt Go.RowKit
set_option linter.unusedVariables false
set_option linter.unusedSimpArgs false
/-- at the head: no banks, no logs asked for -/
def dbase0 (W : World) : DBase := ⟨W, fun k => k < W.heap.size, fun _ h => h, false, .slice none 0 0, fun _ _ => True, fun _ _ _ _ _ _ _ _ _ => trivial⟩
theorem Opr.pays.paid {W : World} {o : Opr} (h : o.pays W) : o.paid (dbase0 W) := by
  obtain ⟨pi, pd, legs, e1, e2, e3, e4, e5, e6, e7⟩ := h
  refine ⟨pi, pd, legs, e1, e2, e3, e4, e5, e6, e7, fun a e hl => ?_⟩
  obtain ⟨a', e', hb, _⟩ := e7 0 hl
  rw [e] at e'
  injection e' with e'
  subst e'
  exact hb
def DeedsJ (W : World) (k : Nat) (u : World) : Prop := ∃ own hs ll vd vl, DInv (dbase0 W) u W.heap.size own hs ll vd vl ∧ (∀ h, h ∈ hs → h.ok (1 + k)) ∧ 1 ≤ hs.length ∧ hs.length ≤ 2 + k ∧ ll.length ≤ 8 + 4 * k
theorem deeds_keeps (W : World) (sv : Value) (ops : List Opr) (hS : Script W sv ops) (hp : ∀ o, o ∈ ops → o.pays W) : Keeps W ops 8 13 false (DeedsJ W) := by
  have hlen := hS.len
  refine ⟨?_, ?_, ?_, ?_, ?_⟩
  · rintro k u ⟨own, hs, ll, vd, vl, I, _⟩
    exact ⟨I.bel.os, I.bel.tape, I.bel.output, I.bel.size, fun b hb => I.bel.block b hb⟩
  · rintro k u u' ⟨own, hs, ll, vd, vl, I, h⟩ hb
    exact ⟨own, hs, ll, vd, vl, I.below hb, h⟩
  · rintro k u hk ⟨own, hs, ll, vd, vl, I, h1, h2, h3, h4⟩
    exact ⟨own, hs, ll, vd, vl, I, fun h hh => ⟨(h1 h hh).1, (h1 h hh).2.1, Nat.le_trans (h1 h hh).2.2 (by omega)⟩, h2, by omega, by omega⟩
  · rintro k hk u ⟨own, hs, ll, vd, vl, I, h1, h2, h3, h4⟩ ha hb _
    have hm := List.getElem_mem hk
    refine (dstep_any (dbase0 W) (1 + k) (by omega) u W.heap.size own hs ll vd vl I h1 h2 (by omega) (by omega) ops[k] (hS.ok _ hm) (hp _ hm).paid ⟨ha, hb⟩).mono ?_
    rintro e w' ⟨rfl, own', hs', ll', vd', vl', J, a1, a2, a3, a4⟩
    exact ⟨rfl, own', hs', ll', vd', vl', J, fun h hh => ⟨(a1 h hh).1, (a1 h hh).2.1, Nat.le_trans (a1 h hh).2.2 (by omega)⟩, by omega, by omega, by omega⟩
  · rintro k u ⟨own, hs, ll, vd, vl, I, h1, h2, h3, h4⟩ hk
    exact still_any u W.heap.size false (.slice none 0 0) vd vl ll I.wblk I.lrow (by omega) (fun i hi => I.full i hi)
theorem deeds_plays (W : World) (sv : Value) (ops : List Opr) (hS : Script W sv ops) (hp : ∀ o, o ∈ ops → o.pays W) :
    Calls Tryz.prog 5 #[sv, .int .i64 8, .int .i64 13, .bool false] W fun e w' => e = .returned (.bool true) ∧ Below W.heap.size W w' := by
  refine plays_gen W sv ops hS 8 13 false (DeedsJ W) (deeds_keeps W sv ops hS hp) ?_
  have hb0 : Below W.heap.size W (W.alloc (.cells #[.bool false, .slice none 0 0, .slice none 0 0, .slice none 0 0] 30)) := (Below.refl _ _).alloc (Nat.le_refl _) _
  have hblk := heap_alloc_self W (.cells #[.bool false, .slice none 0 0, .slice none 0 0, .slice none 0 0] 30)
  have I0 : DInv (dbase0 W) (W.alloc (.cells #[.bool false, .slice none 0 0, .slice none 0 0, .slice none 0 0] 30)) W.heap.size (fun k => if k = W.heap.size then 1 else 0) [] [] (.slice none 0 0) (.slice none 0 0) := by
    refine ⟨⟨hb0.os, hb0.tape, hb0.output, hb0.size, fun k hk => hb0.block k hk⟩, fun k hk hF => ?_, hblk, by simp, RowOf.nil _ _, fun g hg => by simp [Value.ownBlock] at hg, RowOf.nil _ _, fun g hg => by simp [Value.ownBlock] at hg, fun i hi => by simp at hi, fun i hi => by simp at hi, rfl, fun i hi => by simp at hi, trivial⟩
    have hF' : k < W.heap.size := hF
    rw [if_neg (by omega)] at hk
    exact hk rfl
  refine (dbegin_any _ _ W.heap.size _ I0).mono ?_
  rintro e w' ⟨rfl, own', hs', ll', vd', vl', J, h1, h2, h3, h4⟩
  exact ⟨rfl, own', hs', ll', vd', vl', J, h1, h2, h3, h4⟩

set_option maxRecDepth 100000 in
theorem deeds_walk (W : World) (sv : Value) (ops : List Opr) (hS : Script W sv ops) (hp : ∀ o, o ∈ ops → o.pays W) :
    Calls Tryz.prog 4 #[sv] W fun e w' => e = .returned (.bool true) ∧ Below W.heap.size W w' := by
  have hP := hide (deeds_plays W sv ops hS hp)
  go_enter Tryz.func4, Tryz.ntmps4
  go_wp2_with fail
  refine (hP.out).mono ?_
  rintro e w1 ⟨rfl, hb⟩
  clear hP
  go_wp2
  go_ret
  exact ⟨rfl, hb⟩

set_option maxRecDepth 100000 in
theorem deeds_lifted (os : Os) (started : os.Started) (H : Type) (enc : TypeId × Value → H) :
    ReturnsInHanded {} Tryz.checked os 4 .any (Rows.deedsSpec.pre6 enc Tryz.prog Tryz.f4 Rows.deedsRow.domain false) (Rows.deedsSpec.post enc Tryz.prog Tryz.f4 false true false false) := by
  refine returnsInHanded_of_change_sized (C := Tryz.checked) own started (by kernel_rfl) Tryz.func4
    (ChangeSpec.witness6 (enc := enc) (C := Tryz.checked) false ⟨#[], #[.slice none 0 0], []⟩ 8 (by kernel_rfl) (by kernel_rfl) (by kernel_rfl) (by kernel_rfl)) ?_
  intro W base args ds gs before hval0 hW hcnd hsz _
  have hval : ∀ (j : Nat) t v, Tryz.f4.params[j]? = some t → args[j]? = some v → Value.okWide Tryz.prog W .any base t v := hval0
  have hW' := hW
  obtain ⟨p, q, hA0, hV, rfl, hfz, hnd⟩ := hW
  have hA : DataW.TrodAll enc Tryz.prog W 0 (fun _ => true) true Tryz.f4.params.toList args.toList ds p := hA0
  rw [Tryz.params4] at hA hval hsz
  obtain ⟨v0, vs0, d0, ds0, p0, q0, hargs, rfl, rfl, h0, r0⟩ := trodAll_cons hA
  obtain ⟨rfl, rfl, rfl⟩ := trodAll_nil r0
  obtain rfl : args = #[v0] := by cases args; simp_all
  obtain ⟨rfl, rfl⟩ := trodVars_none hV
  have k0 := h0
  have lt0 : ∀ x ∈ p0, x.block < W.heap.size := by obtain ⟨m, hm⟩ := k0; exact DataW.trod_lt m _ _ _ hm
  obtain ⟨ops, hS, hp⟩ := open_scriptP (hval 0 22 v0 rfl rfl) h0 lt0 hsz
  clear hA0 hval0
  refine (deeds_walk W v0 ops hS hp).mono fun e W' ⟨he, bel⟩ => ?_
  subst he
  exact ⟨_, rfl, _, _, _, [], _, [], hW', trodAll_mk1 (shut_bool Tryz.underlying4 _), (trodAll_cons_mk (Below.trod laidOut (by kernel_rfl) (of_decide_eq_true (by kernel_rfl)) k0 bel lt0) trodAll_mk0), rfl, bel.frame _, fun h => by cases h⟩

theorem deeds_proved : Rows.DeedsSaid :=
  OpenClaim.holds_of_wide 4 Tryz.f4 rfl rfl rfl rfl rfl rfl rfl ⟨rfl, rfl, rfl, rfl, rfl⟩ rfl rfl rfl rfl rfl (by kernel_rfl) Tryz.func4 (by kernel_rfl)
    (of_decide_eq_true (by kernel_rfl)) (by unfold Func.isWrapper; first | (rw [if_pos (by decide +kernel)]; kernel_rfl) | (rw [if_neg (by decide +kernel)]; exact ⟨rfl, rfl⟩))
    (fun os started H enc _ => deeds_lifted os started H enc)
end Go.Proofs.YtjkhbjgfoopomaaGreat
