import Derived.Test.YtjkhbjgfoopomabGreatA51
import Derived.Test.YtjkhbjgfoopomabGreatA52
namespace Go.Proofs.YtjkhbjgfoopomabGreat
open Go.ChangeShapes Go.WideShapes Go.ChangeAt Go.RowKit
set_option maxRecDepth 100000
set_option linter.unusedVariables false
set_option linter.unusedSimpArgs false
theorem all_keeps (W : World) (sv : Value) (ops : List Opr) (hS : Script W sv ops) (hp : ∀ o, o ∈ ops → o.pays W) : Keeps W ops 1 15 true (AllJ W) := by
 have hlen := hS.len
 refine ⟨?_, ?_, ?_, ?_, ?_⟩
 ·rintro k u ⟨own, hs, os, ll, vb, vd, vl, I, _⟩;exact ⟨I.bel.os, I.bel.tape, I.bel.output, I.bel.size, fun b hb => I.bel.block b hb⟩
 ·rintro k u u' ⟨own, hs, os, ll, vb, vd, vl, I, h⟩ hb;exact ⟨own, hs, os, ll, vb, vd, vl, I.below hb, h⟩
 ·rintro k u hk ⟨own, hs, os, ll, vb, vd, vl, I, h1, h2, h3, h4, h5, h6, h7⟩;exact ⟨own, hs, os, ll, vb, vd, vl, I, h1, fun h hh => ⟨(h2 h hh).1, (h2 h hh).2.1, Nat.le_trans (h2 h hh).2.2 (by omega)⟩, h3, by omega, h5, by omega, by omega⟩
 ·intro k hk u hJ ha hb _;have hm := List.getElem_mem hk;exact all_step W k (by omega) u hJ ops[k] (hS.ok _ hm) (hp _ hm) ⟨ha, hb⟩
 ·rintro k u ⟨own, hs, os, ll, vb, vd, vl, I, h1, h2, h3, h4, h5, h6, h7⟩ hk;exact still_any u W.heap.size true vb vd vl ll I.wblk I.lrow (by omega) (fun i hi => I.full i hi)
theorem all_plays (W : World) (sv : Value) (ops : List Opr) (hS : Script W sv ops) (hp : ∀ o, o ∈ ops → o.pays W) :
  Calls Tryz.prog 16 #[sv, .int .i64 1, .int .i64 15, .bool true] W fun e w' => e = .returned (.bool true) ∧ Below W.heap.size W w' := by
 refine plays_gen W sv ops hS 1 15 true (AllJ W) (all_keeps W sv ops hS hp) ?_
 have hb0 : Below W.heap.size W (W.alloc (.cells #[.bool true, .slice none 0 0, .slice none 0 0, .slice none 0 0] 98)) := (Below.refl _ _).alloc (Nat.le_refl _) _
 have hblk := heap_alloc_self W (.cells #[.bool true, .slice none 0 0, .slice none 0 0, .slice none 0 0] 98)
 have I0 : MemInv (baseB W (.slice none 0 0) []) (W.alloc (.cells #[.bool true, .slice none 0 0, .slice none 0 0, .slice none 0 0] 98)) W.heap.size (fun k => if k = W.heap.size then 1 else 0) [] [] (.slice none 0 0) (.slice none 0 0) := by
  refine ⟨⟨hb0.os, hb0.tape, hb0.output, hb0.size, fun k hk => hb0.block k hk⟩, fun k hk hF => ?_, hblk, by simp, RowOf.nil _ _, fun g hg => by simp [Value.ownBlock] at hg, RowOf.nil _ _, fun g hg => by simp [Value.ownBlock] at hg, fun i hi => by simp at hi, fun i hi => by simp at hi, rfl, fun i hi => by simp at hi, ⟨RowOf.nil _ _, fun g hg => by simp [Value.ownBlock] at hg, fun i hi => by simp at hi⟩⟩;have hF' : k < W.heap.size := hF;rw [if_neg (by omega)] at hk;exact hk rfl
 exact all_begin W _ _ I0
theorem all_walk (W : World) (sv : Value) (ops : List Opr) (hS : Script W sv ops) (hp : ∀ o, o ∈ ops → o.pays W) :
  Calls Tryz.prog 5 #[sv] W fun e w' => e = .returned (.bool true) ∧ Below W.heap.size W w' := by
 have hP := hide (all_plays W sv ops hS hp)
 go_enter Tryz.func5, Tryz.ntmps5
 go_wp2_with fail
 refine (hP.out).mono ?_
 rintro e w1 ⟨rfl, hb⟩
 clear hP
 go_wp2
 go_ret
 exact ⟨rfl, hb⟩
theorem all_lifted (os : Os) (started : os.Started) (H : Type) (enc : TypeId × Value → H) :
  ReturnsInHanded {} Tryz.checked os 5 .any (Rows.allSpec.pre6 enc Tryz.prog Tryz.f5 Rows.allRow.domain false) (Rows.allSpec.post enc Tryz.prog Tryz.f5 false true false false) := by
 refine returnsInHanded_of_change_sized (C := Tryz.checked) own started (by kernel_rfl) Tryz.func5
  (ChangeSpec.witness6 (enc := enc) (C := Tryz.checked) false ⟨#[], #[.slice none 0 0], []⟩ 8 (by kernel_rfl) (by kernel_rfl) (by kernel_rfl) (by kernel_rfl)) ?_
 intro W base args ds gs before hval0 hW hcnd hsz _
 have hval : ∀ (j : Nat) t v, Tryz.f5.params[j]? = some t → args[j]? = some v → Value.okWide Tryz.prog W .any base t v := hval0
 have hW' := hW
 obtain ⟨p, q, hA0, hV, rfl, hfz, hnd⟩ := hW
 have hA : DataW.TrodAll enc Tryz.prog W 0 (fun _ => true) true Tryz.f5.params.toList args.toList ds p := hA0
 rw [Tryz.params5] at hA hval hsz
 obtain ⟨v0, vs0, d0, ds0, p0, q0, hargs, rfl, rfl, h0, r0⟩ := trodAll_cons hA
 obtain ⟨rfl, rfl, rfl⟩ := trodAll_nil r0
 obtain rfl : args = #[v0] := by cases args; simp_all
 obtain ⟨rfl, rfl⟩ := trodVars_none hV
 have k0 := h0
 have lt0 : ∀ x ∈ p0, x.block < W.heap.size := by obtain ⟨m, hm⟩ := k0; exact DataW.trod_lt m _ _ _ hm
 obtain ⟨ops, hS, hp⟩ := open_scriptP (hval 0 55 v0 rfl rfl) h0 lt0 hsz
 clear hA0 hval0
 refine (all_walk W v0 ops hS hp).mono fun e W' ⟨he, bel⟩ => ?_
 subst he
 exact ⟨_, rfl, _, _, _, [], _, [], hW', trodAll_mk1 (shut_bool Tryz.underlying4 _), (trodAll_cons_mk (Below.trod laidOut (by kernel_rfl) (of_decide_eq_true (by kernel_rfl)) k0 bel lt0) trodAll_mk0), rfl, bel.frame _, fun h => by cases h⟩
theorem all_proved : Rows.AllSaid :=
 OpenClaim.holds_of_wide 5 Tryz.f5 rfl rfl rfl rfl rfl rfl rfl ⟨rfl, rfl, rfl, rfl, rfl⟩ rfl rfl rfl rfl rfl (by kernel_rfl) Tryz.func5 (by kernel_rfl)
  (of_decide_eq_true (by kernel_rfl)) (by unfold Func.isWrapper; first | (rw [if_pos (by decide +kernel)]; kernel_rfl) | (rw [if_neg (by decide +kernel)]; exact ⟨rfl, rfl⟩))
  (fun os started H enc _ => all_lifted os started H enc)
end Go.Proofs.YtjkhbjgfoopomabGreat
