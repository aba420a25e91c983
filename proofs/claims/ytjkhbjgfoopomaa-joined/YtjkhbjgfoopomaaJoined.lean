/-
  The statement Joined.
-/
import Derived.Test.YtjkhbjgfoopomaaEscSum
namespace Go.Proofs.Ytjkhbjgfoopomaa
open Go.ChangeShapes Go.WideShapes Go.ChangeAt Go.RowKit
open Go.ChangeMaps (open_string shut_string)
attribute [local go_sem] conv4 bs_size bs_append

theorem sum_empty : sumOf [] = 0 := by decide
theorem le4 (n : Nat) : [UInt8.ofNat (n % 256), UInt8.ofNat (n / 256 % 256), UInt8.ofNat (n / 65536 % 256), UInt8.ofNat (n / 16777216)] =
    [UInt8.ofNat n, UInt8.ofNat (n / 256), UInt8.ofNat (n / 65536), UInt8.ofNat (n / 16777216)] := by
  rw [u8_ofNat_mod, u8_ofNat_mod, u8_ofNat_mod]

set_option maxHeartbeats 400000 in
theorem joined_walk (l : List UInt8) (hs : l.length ≤ 140737488351232) (w : World) :
    Calls Try.prog 8 #[.string (bs l)] w fun e w' => e = .returned (.bool true) ∧ Below w.heap.size w w' := by
  have hlt := sumOf_lt l
  have hj : Hid (sumOf (l ++ [UInt8.ofNat (sumOf l), UInt8.ofNat (sumOf l / 256), UInt8.ofNat (sumOf l / 65536), UInt8.ofNat (sumOf l / 16777216)]) = 558161692) := hide (sum_joined l)
  go_enter Try.func8, Try.ntmps8
  go_wp2_with fail
  refine (escrowSum_any (bs l) (by rw [bs_size]; unfold maxLen; omega) _).mono ?_
  rintro e w' ⟨rfl, rfl⟩
  rw [bs_data]
  generalize sumOf l = c at *
  go_wp2_with fail
  rw [le4 c]
  refine (escrowSum_any _ (by rw [bs_size]; unfold maxLen; simp; omega) _).mono ?_
  rintro e w1 ⟨rfl, rfl⟩
  rw [bs_data, hj.out]
  go_wp2_with fail
  refine (escrowSum_any _ (by decide) _).mono ?_
  rintro e w1 ⟨rfl, rfl⟩
  rw [sum_empty]
  go_wp2
  go_ret
  exact ⟨rfl, (Below.refl _ _).alloc (Nat.le_refl _) _⟩

theorem joined_walk' (s : ByteArray) (hs : s.data.toList.length ≤ 140737488351232) (w : World) :
    Calls Try.prog 8 #[.string s] w fun e w' => e = .returned (.bool true) ∧ Below w.heap.size w w' := by
  have h := joined_walk s.data.toList hs w
  rwa [bs_of] at h

set_option maxRecDepth 100000 in
theorem joined_lifted (os : Os) (started : os.Started) (H : Type) (enc : TypeId × Value → H) :
    ReturnsInHanded {} Try.checked os 8 .any (Rows.joinedSpec.pre6 enc Try.prog Try.f8 Rows.joinedRow.domain false) (Rows.joinedSpec.post enc Try.prog Try.f8 false true false false) := by
  refine returnsInHanded_of_change_sized (C := Try.checked) own started (by kernel_rfl) Try.func8
    (ChangeSpec.witness6 (enc := enc) (C := Try.checked) false ⟨#[], #[.string ByteArray.empty], []⟩ 8 (by kernel_rfl) (by kernel_rfl) (by kernel_rfl) (by kernel_rfl)) ?_
  intro W base args ds gs before hval0 hW hcnd hsz _
  have hval : ∀ (j : Nat) t v, Try.f8.params[j]? = some t → args[j]? = some v → Value.okWide Try.prog W .any base t v := hval0
  have hW' := hW
  obtain ⟨p, q, hA0, hV, rfl, hfz, hnd⟩ := hW
  have hA : DataW.TrodAll enc Try.prog W 0 (fun _ => true) true Try.f8.params.toList args.toList ds p := hA0
  rw [Try.params8] at hA hval hsz
  obtain ⟨v0, vs0, d0, ds0, p0, q0, hargs, rfl, rfl, h0, r0⟩ := trodAll_cons hA
  obtain ⟨rfl, rfl, rfl⟩ := trodAll_nil r0
  obtain rfl : args = #[v0] := by cases args; simp_all
  obtain ⟨rfl, rfl⟩ := trodVars_none hV
  have k0 := h0
  have lt0 : ∀ x ∈ p0, x.block < W.heap.size := by obtain ⟨m, hm⟩ := k0; exact DataW.trod_lt m _ _ _ hm
  obtain ⟨a0, rfl, e0, _, w0⟩ := open_string Try.underlying9 (hval 0 9 v0 rfl rfl) h0
  have z0 : a0.data.toList.length ≤ 140737488351232 := sized_string hsz (j := 0) rfl (by rw [e0]; rfl)
  clear hA0 hval0
  refine (joined_walk' a0 z0 W).mono fun e W' ⟨he, bel⟩ => ?_
  subst he
  exact ⟨_, rfl, _, _, _, [], _, [], hW', trodAll_mk1 (shut_bool Try.underlying4 _), (trodAll_cons_mk (Below.trod laidOut (by kernel_rfl) (of_decide_eq_true (by kernel_rfl)) k0 bel lt0) trodAll_mk0), rfl, bel.frame _, fun h => by cases h⟩

theorem joined_proved : Rows.JoinedSaid :=
  OpenClaim.holds_of_wide 8 Try.f8 rfl rfl rfl rfl rfl rfl rfl ⟨rfl, rfl, rfl, rfl, rfl⟩ rfl rfl rfl rfl rfl (by kernel_rfl) Try.func8 (by kernel_rfl)
    (of_decide_eq_true (by kernel_rfl)) (by unfold Func.isWrapper; first | (rw [if_pos (by decide +kernel)]; kernel_rfl) | (rw [if_neg (by decide +kernel)]; exact ⟨rfl, rfl⟩))
    (fun os started H enc _ => joined_lifted os started H enc)
end Go.Proofs.Ytjkhbjgfoopomaa
