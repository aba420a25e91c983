/-
  The statement Coded.
-/
import Derived.Test.YtjkhbjgfoopomaaDecodes
import Derived.Test.YtjkhbjgfoopomaaDecentPrep
import Derived.Test.YtjkhbjgfoopomaaFrameMath
namespace Go.Proofs.Ytjkhbjgfoopomaa
open Go.ChangeShapes Go.WideShapes Go.ChangeAt Go.RowKit
open Go.ChangeMaps (open_string shut_string)
set_option linter.unusedVariables false

theorem err_len {l : List UInt8} (h : decErr l = 0) : 22 ≤ l.length := by
  rcases Nat.lt_or_ge l.length 22 with hlt | hge
  · have hn : decide (22 ≤ l.length) = false := by simp; omega
    have hf : formB l = false := by simp only [formB, hn, Bool.false_and]
    simp [decErr, hf] at h
  · exact hge
/-- what the calls give of a decent message -/
theorem enc_good {y : Msg} (hy : y.ok) (h0 : faultOf y = 0) (u : World) :
    Calls Try.prog 15 #[y.v] u fun e u' => e = .returned (.tuple #[.string (bs (frameOf y)), .int .i64 0]) ∧ Below u.heap.size u u' := by
  have h64 := fault_zero_memo h0
  have h := escrowEncode_any y hy (by omega) u
  rw [h0, show encOf y = frameOf y by simp [encOf, h0]] at h
  exact h
theorem dec_good {y : Msg} (hy : y.ok) (h0 : faultOf y = 0) (u : World) :
    Calls Try.prog 18 #[.string (bs (frameOf y))] u fun e u' => e = .returned (.tuple #[y.v, .int .i64 0]) ∧ Below u.heap.size u u' := by
  have h64 := fault_zero_memo h0
  obtain ⟨h1, h2, h3, _⟩ := dec_frame hy h0 h64
  have h := escrowDecode_any (bs (frameOf y)) (by rw [bs_size, h3]; unfold maxLen; omega) u
  rw [bs_data, h1, h2] at h
  exact h

set_option maxRecDepth 100000 in
set_option maxHeartbeats 1000000 in
theorem coded_walk (x : Msg) (hx : x.ok) (hm : x.m.length ≤ 140737488351232) (s : ByteArray) (hs : s.data.toList.length ≤ 140737488351232) (w : World) :
    Calls Try.prog 6 #[x.v, .string s] w fun e w' => e = .returned (.bool true) ∧ Below w.heap.size w w' := by
  have hde := hide (decent_any x hx hm)
  have hds := hide (escrowDecode_any s (by rw [list_len] at hs; unfold maxLen; omega))
  obtain ⟨xk, xf, xt, xi, xl, xp, xg, xa, xm⟩ := x
  simp only [Msg.v, Msg.cells] at hde ⊢
  clear hm
  go_enter Try.func6, Try.ntmps6
  go_wp2_with fail
  refine (hde.out _).mono ?_
  rintro e w1 ⟨⟨y, rfl, hy, hy0⟩, hb⟩
  have L1 := (Box.mk0 _ _ _).below hb |>.bel
  clear hb hde
  have h64 := fault_zero_memo hy0
  obtain ⟨-, -, hlen, h69, -⟩ := dec_frame hy hy0 h64
  have hE := hide (enc_good hy hy0)
  have hD := hide (dec_good hy hy0)
  have hF : (bs (frameOf y)).size = 22 + y.m.length := by rw [bs_size, hlen]
  have q0 : 0 < (bs (frameOf y)).size := by omega
  have hi0 : ∀ u : World, (Instr.index 9 (.string (bs (frameOf y))) (.int .i64 0)).run Try.prog u = .ok (.int .u8 69) u := fun u => by
    have h := index_at (bs (frameOf y)) 0 q0 u
    rw [← at8_of (bs (frameOf y)) 0 q0, bs_data, h69] at h
    exact h
  clear h69 hlen
  generalize frameOf y = F at *
  obtain ⟨k, f, t, i, l, p, g, a, m⟩ := y
  have hms := bs_size m
  simp only at hF h64
  have hF2 : ((bs F).size : Int) = 22 + (m.length : Int) := by rw [hF]; omega
  have hF3 : (((bs F).size : Int) != 22 + (m.length : Int)) = false := by rw [hF2]; simp
  clear hF hF2
  simp only [Msg.v, Msg.cells] at hE hD ⊢
  go_wp2_with fail
  refine (hE.out _).mono ?_
  rintro e w2 ⟨rfl, hb⟩
  have B2 := (Box.mk0 w1 #[Value.int .u8 (k : Int), .int .u8 (f : Int), .int .u8 (t : Int), .int .u32 (i : Int), .int .u8 (l : Int), .int .u16 (p : Int), .int .u16 (g : Int), .int .u32 (a : Int), .string (bs m)] 32).below hb
  have L2 : Below w.heap.size w w2 := L1.trans (B2.bel.mono L1.size)
  clear hb hE L1
  go_wp2_with fail
  refine (hD.out _).mono ?_
  rintro e w3 ⟨rfl, hb⟩
  replace B2 := B2.below hb
  have L3 : Below w.heap.size w w3 := L2.trans (hb.mono L2.size)
  clear hb hD L2
  have hc := B2.cell
  have hl := B2.lt
  go_wp2_with fail
  refine (hds.out _).mono ?_
  rintro e w4 ⟨rfl, hb⟩
  have L4 : Below w.heap.size w w4 := (L3.alloc L3.size _).trans (hb.mono (by rw [show (w3.alloc _).heap.size = w3.heap.size + 1 by simp]; have := L3.size; omega))
  clear hb hds L3 B2 hc hl hF3 hi0 q0
  by_cases d0 : decErr s.data.toList = 0
  · obtain ⟨h1, h2, h3⟩ := enc_say d0
    have hok : (sayOf s.data.toList).ok := sayOf_ok (err_len d0)
    have hz64 := fault_zero_memo h2
    have hEz := hide (escrowEncode_any (sayOf s.data.toList) hok (by omega))
    rw [h1, h2, bs_of] at hEz
    rw [h3, d0]
    clear h1 h2 h3 hok hz64 d0
    generalize sayOf s.data.toList = z at *
    obtain ⟨zk, zf, zt, zi, zl, zp, zg, za, zm⟩ := z
    simp only [Msg.v, Msg.cells] at hEz ⊢
    go_wp2_with fail
    refine (hEz.out _).mono ?_
    rintro e w5 ⟨rfl, hb⟩
    have B5 := (Box.mk0 w4 #[Value.int .u8 (zk : Int), .int .u8 (zf : Int), .int .u8 (zt : Int), .int .u32 (zi : Int), .int .u8 (zl : Int), .int .u16 (zp : Int), .int .u16 (zg : Int), .int .u32 (za : Int), .string (bs zm)] 32).below hb
    have L5 : Below w.heap.size w w5 := L4.trans (B5.bel.mono L4.size)
    clear hb hEz B5 L4
    go_wp2
    go_ret
    exact ⟨by simp, L5⟩
  · have dz : decMsg s.data.toList = Msg.zero := by simp [decMsg, d0]
    have d1 : ((decErr s.data.toList : Int) != 0) = true := by simp; omega
    rw [dz, zero_v]
    clear dz
    generalize decErr s.data.toList = ev at *
    go_wp2
    go_ret
    exact ⟨by simp, L4.alloc L4.size _⟩

set_option maxRecDepth 100000 in
theorem coded_lifted (os : Os) (started : os.Started) (H : Type) (enc : TypeId × Value → H) :
    ReturnsInHanded {} Try.checked os 6 .any (Rows.codedSpec.pre6 enc Try.prog Try.f6 Rows.codedRow.domain false) (Rows.codedSpec.post enc Try.prog Try.f6 false true false false) := by
  refine returnsInHanded_of_change_sized (C := Try.checked) own started (by kernel_rfl) Try.func6
    (ChangeSpec.witness6 (enc := enc) (C := Try.checked) false ⟨#[], #[.agg #[.int .u8 0, .int .u8 0, .int .u8 0, .int .u32 0, .int .u8 0, .int .u16 0, .int .u16 0, .int .u32 0, .string ByteArray.empty], .string ByteArray.empty], []⟩ 8 (by kernel_rfl) (by kernel_rfl) (by kernel_rfl) (by kernel_rfl)) ?_
  intro W base args ds gs before hval0 hW hcnd hsz _
  have hval : ∀ (j : Nat) t v, Try.f6.params[j]? = some t → args[j]? = some v → Value.okWide Try.prog W .any base t v := hval0
  have hW' := hW
  obtain ⟨p, q, hA0, hV, rfl, hfz, hnd⟩ := hW
  have hA : DataW.TrodAll enc Try.prog W 0 (fun _ => true) true Try.f6.params.toList args.toList ds p := hA0
  rw [Try.params6] at hA hval hsz
  obtain ⟨v0, vs0, d0, ds0, p0, q0, hargs, rfl, rfl, h0, r0⟩ := trodAll_cons hA
  obtain ⟨v1, vs1, d1, ds1, p1, q1, rfl, rfl, rfl, h1, r1⟩ := trodAll_cons r0
  obtain ⟨rfl, rfl, rfl⟩ := trodAll_nil r1
  obtain rfl : args = #[v0, v1] := by cases args; simp_all
  obtain ⟨rfl, rfl⟩ := trodVars_none hV
  have k0 := h0
  have lt0 : ∀ x ∈ p0, x.block < W.heap.size := by obtain ⟨m, hm⟩ := k0; exact DataW.trod_lt m _ _ _ hm
  obtain ⟨a0, rfl, e0, w0⟩ := open_msg (hval 0 32 v0 rfl rfl) h0
  have z0 : a0.m.length ≤ 140737488351232 := msg_sized hsz (j := 0) rfl (by rw [e0]; rfl)
  have k1 := h1
  have lt1 : ∀ x ∈ p1, x.block < W.heap.size := by obtain ⟨m, hm⟩ := k1; exact DataW.trod_lt m _ _ _ hm
  obtain ⟨a1, rfl, e1, _, w1⟩ := open_string Try.underlying9 (hval 1 9 v1 rfl rfl) h1
  have z1 : a1.data.toList.length ≤ 140737488351232 := sized_string hsz (j := 1) rfl (by rw [e1]; rfl)
  clear hA0 hval0
  refine (coded_walk a0 w0 z0 a1 z1 W).mono fun e W' ⟨he, bel⟩ => ?_
  subst he
  exact ⟨_, rfl, _, _, _, [], _, [], hW', trodAll_mk1 (shut_bool Try.underlying4 _), (trodAll_cons_mk (Below.trod laidOut (by kernel_rfl) (of_decide_eq_true (by kernel_rfl)) k0 bel lt0) (trodAll_cons_mk (Below.trod laidOut (by kernel_rfl) (of_decide_eq_true (by kernel_rfl)) k1 bel lt1) trodAll_mk0)), rfl, bel.frame _, fun h => by cases h⟩

theorem coded_proved : Rows.CodedSaid :=
  OpenClaim.holds_of_wide 6 Try.f6 rfl rfl rfl rfl rfl rfl rfl ⟨rfl, rfl, rfl, rfl, rfl⟩ rfl rfl rfl rfl rfl (by kernel_rfl) Try.func6 (by kernel_rfl)
    (of_decide_eq_true (by kernel_rfl)) (by unfold Func.isWrapper; first | (rw [if_pos (by decide +kernel)]; kernel_rfl) | (rw [if_neg (by decide +kernel)]; exact ⟨rfl, rfl⟩))
    (fun os started H enc _ => coded_lifted os started H enc)
end Go.Proofs.Ytjkhbjgfoopomaa
