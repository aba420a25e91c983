/-
  The statement Decodes.
-/
import Derived.Test.YtjkhbjgfoopomaaRefDecodeAny
import Derived.Test.YtjkhbjgfoopomaaEncodes
namespace Go.Proofs.Ytjkhbjgfoopomaa
open Go.ChangeShapes Go.WideShapes Go.ChangeAt Go.RowKit
open Go.ChangeMaps (open_string shut_string)
set_option linter.unusedVariables false

set_option maxRecDepth 100000 in
set_option maxHeartbeats 400000 in
theorem escrowDecode_any (s : ByteArray) (hs : s.size ≤ maxLen) (w : World) :
    Calls Try.prog 18 #[.string s] w fun e w' => e = .returned (.tuple #[(decMsg s.data.toList).v, .int .i64 ((decErr s.data.toList : Nat) : Int)]) ∧ Below w.heap.size w w' := by
  have hd := hide (decode_any s hs)
  generalize decMsg s.data.toList = M at *
  generalize decErr s.data.toList = fv at *
  obtain ⟨k, f, t, i, l, p, g, a, m⟩ := M
  simp only [Msg.v, Msg.cells] at *
  go_enter Try.func18, Try.ntmps18
  go_wp2_with fail
  refine (hd.out _).mono ?_
  rintro e w1 ⟨rfl, hb⟩
  have B1 := (Box.mk0 _ _ _).below hb
  have hc1 := B1.cell
  have hf1 := B1.fro
  clear hb hd
  go_wp2
  exact bodyPost_ret (v := .tuple #[.agg #[Value.int .u8 (k : Int), .int .u8 (f : Int), .int .u8 (t : Int), .int .u32 (i : Int), .int .u8 (l : Int), .int .u16 (p : Int), .int .u16 (g : Int), .int .u32 (a : Int), .string (bs m)], .int .i64 (fv : Int)]) (by simp [results, Try.results18, go_sem, hc1]) rfl ⟨rfl, (((((((((B1.bel.setCell (Nat.le_refl _) _).setCell (Nat.le_refl _) _).setCell (Nat.le_refl _) _).setCell (Nat.le_refl _) _).setCell (Nat.le_refl _) _).setCell (Nat.le_refl _) _).setCell (Nat.le_refl _) _).setCell (Nat.le_refl _) _).setCell (Nat.le_refl _) _)⟩
theorem dec_empty : decErr [] = 1 := by decide

set_option maxRecDepth 100000 in
set_option maxHeartbeats 1000000 in
theorem decodes_walk (s : ByteArray) (hs : s.data.toList.length ≤ 140737488351232) (w : World) :
    Calls Try.prog 5 #[.string s] w fun e w' => e = .returned (.bool true) ∧ Below w.heap.size w w' := by
  rw [list_len] at hs
  have hd := hide (escrowDecode_any s (by unfold maxLen; omega))
  have hr := hide (refDecode_any s hs)
  have hz : Hid (∀ u : World, Calls Try.prog 18 #[.string ⟨#[]⟩] u fun e u' => (∃ x : Msg, e = .returned (.tuple #[x.v, .int .i64 1])) ∧ Below u.heap.size u u') := hide (fun u => by
    refine (escrowDecode_any ⟨#[]⟩ (by decide) u).mono ?_
    rintro e u' ⟨rfl, hb⟩
    have e1 : decErr (⟨#[]⟩ : ByteArray).data.toList = 1 := dec_empty
    rw [e1]
    exact ⟨⟨_, rfl⟩, hb⟩)
  generalize decMsg s.data.toList = M at *
  generalize decErr s.data.toList = fv at *
  obtain ⟨k, f, t, i, l, p, g, a, m⟩ := M
  simp only [Msg.v, Msg.cells] at hd hr
  go_enter Try.func5, Try.ntmps5
  go_wp2_with fail
  refine (hd.out _).mono ?_
  rintro e w1 ⟨rfl, hb1⟩
  clear hd
  go_wp2_with fail
  refine (hr.out _).mono ?_
  rintro e w2 ⟨rfl, hb2⟩
  have B1 := (Box.mk0 w1 #[Value.int .u8 (k : Int), .int .u8 (f : Int), .int .u8 (t : Int), .int .u32 (i : Int), .int .u8 (l : Int), .int .u16 (p : Int), .int .u16 (g : Int), .int .u32 (a : Int), .string (bs m)] 32).below hb2
  have L2 : Below w.heap.size w w2 := hb1.trans (B1.bel.mono hb1.size)
  clear hr hb1 hb2
  go_wp2_with fail
  refine (hz.out _).mono ?_
  rintro e w3 ⟨⟨z, rfl⟩, hb3⟩
  have B2 := (Box.mk0 w2 #[Value.int .u8 (k : Int), .int .u8 (f : Int), .int .u8 (t : Int), .int .u32 (i : Int), .int .u8 (l : Int), .int .u16 (p : Int), .int .u16 (g : Int), .int .u32 (a : Int), .string (bs m)] 32).below hb3
  replace B1 := (B1.alloc (.cells #[Value.int .u8 (k : Int), .int .u8 (f : Int), .int .u8 (t : Int), .int .u32 (i : Int), .int .u8 (l : Int), .int .u16 (p : Int), .int .u16 (g : Int), .int .u32 (a : Int), .string (bs m)] 32)).below hb3
  have L3 : Below w.heap.size w w3 := L2.trans (B2.bel.mono L2.size)
  have hc1 := B1.cell
  have hc2 := B2.cell
  have hl1 := B1.lt
  have hl2 := B2.lt
  clear hz hb3 L2 B1 B2
  obtain ⟨k', f', t', i', l', p', g', a', m'⟩ := z
  simp only [Msg.v, Msg.cells]
  go_wp2_with fail
  refine (num_any _ _).mono ?_
  rintro e w4 ⟨rfl, rfl⟩
  go_wp2
  go_ret
  exact ⟨by simp, L3.alloc L3.size _⟩

set_option maxRecDepth 100000 in
theorem decodes_lifted (os : Os) (started : os.Started) (H : Type) (enc : TypeId × Value → H) :
    ReturnsInHanded {} Try.checked os 5 .any (Rows.decodesSpec.pre6 enc Try.prog Try.f5 Rows.decodesRow.domain false) (Rows.decodesSpec.post enc Try.prog Try.f5 false true false false) := by
  refine returnsInHanded_of_change_sized (C := Try.checked) own started (by kernel_rfl) Try.func5
    (ChangeSpec.witness6 (enc := enc) (C := Try.checked) false ⟨#[], #[.string ByteArray.empty], []⟩ 8 (by kernel_rfl) (by kernel_rfl) (by kernel_rfl) (by kernel_rfl)) ?_
  intro W base args ds gs before hval0 hW hcnd hsz _
  have hval : ∀ (j : Nat) t v, Try.f5.params[j]? = some t → args[j]? = some v → Value.okWide Try.prog W .any base t v := hval0
  have hW' := hW
  obtain ⟨p, q, hA0, hV, rfl, hfz, hnd⟩ := hW
  have hA : DataW.TrodAll enc Try.prog W 0 (fun _ => true) true Try.f5.params.toList args.toList ds p := hA0
  rw [Try.params5] at hA hval hsz
  obtain ⟨v0, vs0, d0, ds0, p0, q0, hargs, rfl, rfl, h0, r0⟩ := trodAll_cons hA
  obtain ⟨rfl, rfl, rfl⟩ := trodAll_nil r0
  obtain rfl : args = #[v0] := by cases args; simp_all
  obtain ⟨rfl, rfl⟩ := trodVars_none hV
  have k0 := h0
  have lt0 : ∀ x ∈ p0, x.block < W.heap.size := by obtain ⟨m, hm⟩ := k0; exact DataW.trod_lt m _ _ _ hm
  obtain ⟨a0, rfl, e0, _, w0⟩ := open_string Try.underlying9 (hval 0 9 v0 rfl rfl) h0
  have z0 : a0.data.toList.length ≤ 140737488351232 := sized_string hsz (j := 0) rfl (by rw [e0]; rfl)
  clear hA0 hval0
  refine (decodes_walk a0 z0 W).mono fun e W' ⟨he, bel⟩ => ?_
  subst he
  exact ⟨_, rfl, _, _, _, [], _, [], hW', trodAll_mk1 (shut_bool Try.underlying4 _), (trodAll_cons_mk (Below.trod laidOut (by kernel_rfl) (of_decide_eq_true (by kernel_rfl)) k0 bel lt0) trodAll_mk0), rfl, bel.frame _, fun h => by cases h⟩

theorem decodes_proved : Rows.DecodesSaid :=
  OpenClaim.holds_of_wide 5 Try.f5 rfl rfl rfl rfl rfl rfl rfl ⟨rfl, rfl, rfl, rfl, rfl⟩ rfl rfl rfl rfl rfl (by kernel_rfl) Try.func5 (by kernel_rfl)
    (of_decide_eq_true (by kernel_rfl)) (by unfold Func.isWrapper; first | (rw [if_pos (by decide +kernel)]; kernel_rfl) | (rw [if_neg (by decide +kernel)]; exact ⟨rfl, rfl⟩))
    (fun os started H enc _ => decodes_lifted os started H enc)
end Go.Proofs.Ytjkhbjgfoopomaa
