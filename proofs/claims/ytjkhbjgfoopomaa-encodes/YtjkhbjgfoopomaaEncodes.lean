/-
  The statement Encodes.
-/
import Derived.Test.YtjkhbjgfoopomaaRefEncode
import Derived.Test.YtjkhbjgfoopomaaOpenMsg
import Derived.Test.YtjkhbjgfoopomaaNum
namespace Go.Proofs.Ytjkhbjgfoopomaa
open Go.ChangeShapes Go.WideShapes Go.ChangeAt Go.RowKit
open Go.ChangeMaps (open_string shut_string)
set_option linter.unusedVariables false

set_option maxRecDepth 100000 in
set_option maxHeartbeats 400000 in
theorem escrowEncode_any (x : Msg) (hx : x.ok) (hm : x.m.length ≤ 140737488351232) (w : World) :
    Calls Try.prog 15 #[x.v] w fun e w' => e = .returned (.tuple #[.string (bs (encOf x)), .int .i64 ((faultOf x : Nat) : Int)]) ∧ Below w.heap.size w w' := by
  have henc := hide (encode_any x hx hm)
  generalize encOf x = E at *
  generalize faultOf x = fv at *
  obtain ⟨k, f, t, i, l, p, g, a, m⟩ := x
  simp only [Msg.v, Msg.cells] at *
  go_enter Try.func15, Try.ntmps15
  go_wp2_with fail
  refine (henc.out _).mono ?_
  rintro e w1 ⟨rfl, hb⟩
  have B1 := (Box.mk0 _ _ _).below hb
  clear hb henc
  go_wp2
  go_ret2
  exact ⟨rfl, B1.bel⟩
theorem known_len : faultOf ⟨6, 3, 0, 0, 0, 0, 0, 0, []⟩ = 0 ∧ (encOf ⟨6, 3, 0, 0, 0, 0, 0, 0, []⟩).length = 22 := by
  have h : faultOf ⟨6, 3, 0, 0, 0, 0, 0, 0, []⟩ = 0 := by decide
  refine ⟨h, ?_⟩
  unfold encOf
  rw [if_pos h]
  simp [frameOf, bodyOf_length, be_length]
theorem known_any (w : World) :
    Calls Try.prog 15 #[.agg #[.int .u8 6, .int .u8 3, .int .u8 0, .int .u32 0, .int .u8 0, .int .u16 0, .int .u16 0, .int .u32 0, .string ⟨#[]⟩]] w
      fun e w' => (∃ l : List UInt8, l.length = 22 ∧ e = .returned (.tuple #[.string (bs l), .int .i64 0])) ∧ Below w.heap.size w w' := by
  have h := escrowEncode_any ⟨6, 3, 0, 0, 0, 0, 0, 0, []⟩ ⟨by decide, by decide, by decide, by decide, by decide, by decide, by decide, by decide⟩ (by decide) w
  rw [known_len.1] at h
  refine Calls.mono h ?_
  rintro e w' ⟨rfl, hb⟩
  exact ⟨⟨_, known_len.2, rfl⟩, hb⟩

set_option maxRecDepth 100000 in
set_option maxHeartbeats 1000000 in
theorem encodes_walk (x : Msg) (hx : x.ok) (hm : x.m.length ≤ 140737488351232) (w : World) :
    Calls Try.prog 4 #[x.v] w fun e w' => e = .returned (.bool true) ∧ Below w.heap.size w w' := by
  have henc := hide (escrowEncode_any x hx hm)
  have href := hide (refEncode_any x hx hm)
  generalize encOf x = E at *
  generalize faultOf x = fv at *
  obtain ⟨k, f, t, i, l, p, g, a, m⟩ := x
  simp only [Msg.v, Msg.cells] at *
  go_enter Try.func4, Try.ntmps4
  go_wp2_with fail
  refine (henc.out _).mono ?_
  rintro e w1 ⟨rfl, hb⟩
  have B1 := (Box.mk0 _ _ _).below hb
  have hc := B1.cell
  clear hb henc
  go_wp2_with fail
  refine (href.out _).mono ?_
  rintro e w2 ⟨rfl, hb⟩
  have B2 := B1.below hb
  clear hb B1 hc href
  go_wp2_with fail
  refine (known_any _).mono ?_
  rintro e w3 ⟨⟨z, hz, rfl⟩, hb⟩
  have B3 := B2.below hb
  have hz' : (bs z).size = 22 := by rw [bs_size, hz]
  clear hb B2 hz
  go_wp2_with fail
  refine (num_any _ _).mono ?_
  rintro e w4 ⟨rfl, rfl⟩
  go_wp2
  go_ret
  exact ⟨by simp, B3.bel⟩

set_option maxRecDepth 100000 in
theorem encodes_lifted (os : Os) (started : os.Started) (H : Type) (enc : TypeId × Value → H) :
    ReturnsInHanded {} Try.checked os 4 .any (Rows.encodesSpec.pre6 enc Try.prog Try.f4 Rows.encodesRow.domain false) (Rows.encodesSpec.post enc Try.prog Try.f4 false true false false) := by
  refine returnsInHanded_of_change_sized (C := Try.checked) own started (by kernel_rfl) Try.func4
    (ChangeSpec.witness6 (enc := enc) (C := Try.checked) false ⟨#[], #[.agg #[.int .u8 0, .int .u8 0, .int .u8 0, .int .u32 0, .int .u8 0, .int .u16 0, .int .u16 0, .int .u32 0, .string ByteArray.empty]], []⟩ 8 (by kernel_rfl) (by kernel_rfl) (by kernel_rfl) (by kernel_rfl)) ?_
  intro W base args ds gs before hval0 hW hcnd hsz _
  have hval : ∀ (j : Nat) t v, Try.f4.params[j]? = some t → args[j]? = some v → Value.okWide Try.prog W .any base t v := hval0
  have hW' := hW
  obtain ⟨p, q, hA0, hV, rfl, hfz, hnd⟩ := hW
  have hA : DataW.TrodAll enc Try.prog W 0 (fun _ => true) true Try.f4.params.toList args.toList ds p := hA0
  rw [Try.params4] at hA hval hsz
  obtain ⟨v0, vs0, d0, ds0, p0, q0, hargs, rfl, rfl, h0, r0⟩ := trodAll_cons hA
  obtain ⟨rfl, rfl, rfl⟩ := trodAll_nil r0
  obtain rfl : args = #[v0] := by cases args; simp_all
  obtain ⟨rfl, rfl⟩ := trodVars_none hV
  have k0 := h0
  have lt0 : ∀ x ∈ p0, x.block < W.heap.size := by obtain ⟨m, hm⟩ := k0; exact DataW.trod_lt m _ _ _ hm
  obtain ⟨a0, rfl, e0, w0⟩ := open_msg (hval 0 32 v0 rfl rfl) h0
  have z0 : a0.m.length ≤ 140737488351232 := msg_sized hsz (j := 0) rfl (by rw [e0]; rfl)
  clear hA0 hval0
  refine (encodes_walk a0 w0 z0 W).mono fun e W' ⟨he, bel⟩ => ?_
  subst he
  exact ⟨_, rfl, _, _, _, [], _, [], hW', trodAll_mk1 (shut_bool Try.underlying4 _), (trodAll_cons_mk (Below.trod laidOut (by kernel_rfl) (of_decide_eq_true (by kernel_rfl)) k0 bel lt0) trodAll_mk0), rfl, bel.frame _, fun h => by cases h⟩

theorem encodes_proved : Rows.EncodesSaid :=
  OpenClaim.holds_of_wide 4 Try.f4 rfl rfl rfl rfl rfl rfl rfl ⟨rfl, rfl, rfl, rfl, rfl⟩ rfl rfl rfl rfl rfl (by kernel_rfl) Try.func4 (by kernel_rfl)
    (of_decide_eq_true (by kernel_rfl)) (by unfold Func.isWrapper; first | (rw [if_pos (by decide +kernel)]; kernel_rfl) | (rw [if_neg (by decide +kernel)]; exact ⟨rfl, rfl⟩))
    (fun os started H enc _ => encodes_lifted os started H enc)
end Go.Proofs.Ytjkhbjgfoopomaa
