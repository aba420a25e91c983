/-
  The statement Flipped.
-/
import Derived.Test.YtjkhbjgfoopomaaFlipLaws
namespace Go.Proofs.Ytjkhbjgfoopomaa
open Go.ChangeShapes Go.WideShapes Go.ChangeAt Go.RowKit
open Go.ChangeMaps (open_string shut_string)
set_option linter.unusedVariables false
theorem conv1_at (w : World) (n : Nat) (a : Int) (hn : n = w.heap.size) : (convert 47 9 (.slice (some ⟨n, 0, none⟩) 1 1)).run Try.prog (w.alloc (.cells #[.int .u8 a] 5)) =
    .ok (.string (bs [UInt8.ofNat a.toNat])) (w.alloc (.cells #[.int .u8 a] 5)) := by subst hn; exact conv1 w a
attribute [local go_sem] conv1_at

theorem dec_of (F : List UInt8) (hF : F.length ≤ 1000) (u : World) :
    Calls Try.prog 18 #[.string (bs F)] u fun e u' => (∃ z : Msg, e = .returned (.tuple #[z.v, .int .i64 ((decErr F : Nat) : Int)])) ∧ Below u.heap.size u u' := by
  have h := escrowDecode_any (bs F) (by rw [bs_size]; unfold maxLen; omega) u
  rw [bs_data] at h
  refine h.mono ?_
  rintro e u' ⟨rfl, hb⟩
  exact ⟨⟨_, rfl⟩, hb⟩
theorem alloc_step {w u u' : World} {o : Obj} (L : Below w.heap.size w u) (hb : Below (u.alloc o).heap.size (u.alloc o) u') : Below w.heap.size w u' :=
  (L.alloc L.size o).trans (hb.mono (by rw [show (u.alloc o).heap.size = u.heap.size + 1 by simp]; have := L.size; omega))

set_option maxRecDepth 100000 in
set_option maxHeartbeats 1000000 in
theorem flipped_walk (x : Msg) (hx : x.ok) (hm : x.m.length ≤ 140737488351232) (c : Int) (hc0 : -9223372036854775808 ≤ c) (hc1 : c ≤ 9223372036854775807) (v : Nat) (hv : v < 256) (w : World) :
    Calls Try.prog 7 #[x.v, .int .i64 c, .int .u8 (v : Int)] w fun e w' => e = .returned (.bool true) ∧ Below w.heap.size w w' := by
  have hde := hide (decent_any x hx hm)
  obtain ⟨xk, xf, xt, xi, xl, xp, xg, xa, xm⟩ := x
  simp only [Msg.v, Msg.cells] at hde ⊢
  clear hm hx
  go_enter Try.func7, Try.ntmps7
  go_wp2_with fail
  refine (hde.out _).mono ?_
  rintro e w1 ⟨⟨y, rfl, hy, hy0⟩, hb⟩
  have L1 := (Box.mk0 _ _ _).below hb |>.bel
  clear hb hde
  have h64 := fault_zero_memo hy0
  obtain ⟨hd4, -, hlen, -⟩ := dec_frame hy hy0 h64
  have hE := hide (enc_good hy hy0)
  have hd2 := dec_short hy hy0 h64
  have hd3 := fun b => dec_long hy hy0 h64 b
  have hd1 := fun (r : Nat) (b u : UInt8) h1 h2 h3 => dec_flip hy hy0 h64 (i := r) (v := b) (u := u) h1 h2 h3
  go_wp2_with fail
  refine (hE.out _).mono ?_
  rintro e w2 ⟨rfl, hb⟩
  have L2 : Below w.heap.size w w2 := L1.trans (hb.mono L1.size)
  clear hb hE L1
  have hF22 : 22 ≤ (frameOf y).length := by omega
  have hF86 : (frameOf y).length ≤ 86 := by omega
  clear hlen h64 hy hy0
  generalize frameOf y = F at *
  have hz := bs_size F
  have H1 := hide hd1
  have H2 := hide hd2
  have H3 := hide hd3
  have H4 := hide hd4
  clear hd1 hd2 hd3 hd4
  go_wp2_with fail
  refine (pick_any c hc0 hc1 F.length (by omega) (by omega) _).mono ?_
  rintro e w3 ⟨⟨r, hr, rfl⟩, rfl⟩
  have hidx := index_list F r hr
  have hget : Hid (F[r]? = some (F.getD r 0)) := hide (by rw [List.getD_eq_getElem?_getD, List.getElem?_eq_getElem hr]; rfl)
  obtain ⟨W, cap, hcv, hWb, hWz, hWc, hWf⟩ := bytes_laid w3 F
  have hcv' := hcv _ rfl
  have hWr := hWc r hr
  have hWfr := hWf r hr
  have HW := hide hWc
  clear hcv hWc hWf
  generalize F.getD r 0 = C at *
  have hcb : C.toNat < 256 := C.toNat_lt
  by_cases hcv2 : C.toNat = v
  · have d0 : ((C.toNat : Int) == (v : Int)) = true := by simp; omega
    obtain ⟨V, hV, hVC⟩ : ∃ V : UInt8, ((v : Int) + 1) % 256 = (V.toNat : Int) ∧ C ≠ V := ⟨UInt8.ofNat ((v + 1) % 256), by simp [UInt8.toNat_ofNat'], by
      intro e
      have := congrArg UInt8.toNat e
      simp [UInt8.toNat_ofNat'] at this
      omega⟩
    have HV := hide hVC
    clear hcv2 hVC
    have hback := bytes_back W w3.heap.size cap F r V hr HW.out
    rw [← hV] at hback
    have hne : decErr (F.set r V) ≠ 0 := H1.out r V C hr hget.out HV.out
    have hadd : ∀ (B : UInt8) (u : World), (Op.stringOp .add (bs F) (bs [B])).run Try.prog u = .ok (.string (bs (F ++ [B]))) u := fun B u => by
      rw [run_string_add_sum u _ _ (by rw [bs_size, bs_size]; simp; omega), bs_append]
    have hext : (bs F).extract 0 (F.length - 1) = bs (cut F 0 (F.length - 1)) := by
      rw [← bs_of ((bs F).extract 0 (F.length - 1)), cut_of, bs_data]
    have hVV : V.toNat < 256 := V.toNat_lt
    have LW : Below w.heap.size w (W.setCell ⟨w3.heap.size, r, none⟩ (.int .u8 (((v : Int) + 1) % 256))) := (L2.trans (hWb.mono L2.size)).setCell L2.size _
    clear hV HV H1 hget HW hWb L2
    go_wp2_with fail
    refine (dec_of _ (by rw [List.length_set]; omega) _).mono ?_
    rintro e w4 ⟨⟨z1, rfl⟩, hb⟩
    have L4 : Below w.heap.size w w4 := LW.trans (hb.mono LW.size)
    clear hb LW hback hWr hWfr hcv' hidx
    have d1 : ((decErr (F.set r V) : Int) != 0) = true := by simp; omega
    generalize decErr (F.set r V) = e1 at *
    obtain ⟨k1, f1, t1, i1, l1, p1, g1, a1, m1⟩ := z1
    simp only [Msg.v, Msg.cells]
    go_wp2_with fail
    refine (dec_of _ (by rw [cut_length (by omega)]; omega) _).mono ?_
    rintro e w5 ⟨⟨z2, rfl⟩, hb⟩
    have L5 := alloc_step L4 hb
    clear hb L4 hext
    rw [H2.out]
    obtain ⟨k2, f2, t2, i2, l2, p2, g2, a2, m2⟩ := z2
    simp only [Msg.v, Msg.cells]
    go_wp2_with fail
    refine (dec_of (F ++ [_]) (by rw [List.length_append, List.length_singleton]; omega) _).mono ?_
    rintro e w6 ⟨⟨z3, rfl⟩, hb⟩
    have L6 := alloc_step (L5.alloc L5.size _) hb
    clear hb L5 hadd
    rw [H3.out]
    obtain ⟨k3, f3, t3, i3, l3, p3, g3, a3, m3⟩ := z3
    simp only [Msg.v, Msg.cells]
    go_wp2_with fail
    refine (dec_of _ (by omega) _).mono ?_
    rintro e w7 ⟨⟨z4, rfl⟩, hb⟩
    have L7 := alloc_step L6 hb
    clear hb L6
    rw [H4.out]
    obtain ⟨k4, f4, t4, i4, l4, p4, g4, a4, m4⟩ := z4
    simp only [Msg.v, Msg.cells]
    go_wp2
    go_ret
    exact ⟨by simp, L7.alloc L7.size _⟩
  · have d0 : ((C.toNat : Int) == (v : Int)) = false := by simp; omega
    obtain ⟨V, hV, hVC⟩ : ∃ V : UInt8, (v : Int) = (V.toNat : Int) ∧ C ≠ V := ⟨UInt8.ofNat v, by simp [UInt8.toNat_ofNat']; omega, by
      intro e
      have := congrArg UInt8.toNat e
      simp [UInt8.toNat_ofNat'] at this
      omega⟩
    have HV := hide hVC
    clear hcv2 hVC
    have hback := bytes_back W w3.heap.size cap F r V hr HW.out
    rw [← hV] at hback
    have hne : decErr (F.set r V) ≠ 0 := H1.out r V C hr hget.out HV.out
    have hadd : ∀ (B : UInt8) (u : World), (Op.stringOp .add (bs F) (bs [B])).run Try.prog u = .ok (.string (bs (F ++ [B]))) u := fun B u => by
      rw [run_string_add_sum u _ _ (by rw [bs_size, bs_size]; simp; omega), bs_append]
    have hext : (bs F).extract 0 (F.length - 1) = bs (cut F 0 (F.length - 1)) := by
      rw [← bs_of ((bs F).extract 0 (F.length - 1)), cut_of, bs_data]
    have hVV : V.toNat < 256 := V.toNat_lt
    have LW : Below w.heap.size w (W.setCell ⟨w3.heap.size, r, none⟩ (.int .u8 (v : Int))) := (L2.trans (hWb.mono L2.size)).setCell L2.size _
    clear hV HV H1 hget HW hWb L2
    go_wp2_with fail
    refine (dec_of _ (by rw [List.length_set]; omega) _).mono ?_
    rintro e w4 ⟨⟨z1, rfl⟩, hb⟩
    have L4 : Below w.heap.size w w4 := LW.trans (hb.mono LW.size)
    clear hb LW hback hWr hWfr hcv' hidx
    have d1 : ((decErr (F.set r V) : Int) != 0) = true := by simp; omega
    generalize decErr (F.set r V) = e1 at *
    obtain ⟨k1, f1, t1, i1, l1, p1, g1, a1, m1⟩ := z1
    simp only [Msg.v, Msg.cells]
    go_wp2_with fail
    refine (dec_of _ (by rw [cut_length (by omega)]; omega) _).mono ?_
    rintro e w5 ⟨⟨z2, rfl⟩, hb⟩
    have L5 := alloc_step L4 hb
    clear hb L4 hext
    rw [H2.out]
    obtain ⟨k2, f2, t2, i2, l2, p2, g2, a2, m2⟩ := z2
    simp only [Msg.v, Msg.cells]
    go_wp2_with fail
    refine (dec_of (F ++ [_]) (by rw [List.length_append, List.length_singleton]; omega) _).mono ?_
    rintro e w6 ⟨⟨z3, rfl⟩, hb⟩
    have L6 := alloc_step (L5.alloc L5.size _) hb
    clear hb L5 hadd
    rw [H3.out]
    obtain ⟨k3, f3, t3, i3, l3, p3, g3, a3, m3⟩ := z3
    simp only [Msg.v, Msg.cells]
    go_wp2_with fail
    refine (dec_of _ (by omega) _).mono ?_
    rintro e w7 ⟨⟨z4, rfl⟩, hb⟩
    have L7 := alloc_step L6 hb
    clear hb L6
    rw [H4.out]
    obtain ⟨k4, f4, t4, i4, l4, p4, g4, a4, m4⟩ := z4
    simp only [Msg.v, Msg.cells]
    go_wp2
    go_ret
    exact ⟨by simp, L7.alloc L7.size _⟩

theorem i64_of {c : Int} (h : (Lit.int .i64 c).wf = true) : -9223372036854775808 ≤ c ∧ c ≤ 9223372036854775807 := by
  simp [Lit.wf, IntKind.min, IntKind.max, IntKind.signed, IntKind.bits] at h
  omega
theorem flipped_walk' (x : Msg) (hx : x.ok) (hm : x.m.length ≤ 140737488351232) (c : Int) (hc : (Lit.int .i64 c).wf = true) (v : Int) (hv : (Lit.int .u8 v).wf = true) (w : World) :
    Calls Try.prog 7 #[x.v, .int .i64 c, .int .u8 v] w fun e w' => e = .returned (.bool true) ∧ Below w.heap.size w w' := by
  obtain ⟨n, rfl, hn⟩ := u8_of hv
  exact flipped_walk x hx hm c (i64_of hc).1 (i64_of hc).2 n hn w

set_option maxRecDepth 100000 in
theorem flipped_lifted (os : Os) (started : os.Started) (H : Type) (enc : TypeId × Value → H) :
    ReturnsInHanded {} Try.checked os 7 .any (Rows.flippedSpec.pre6 enc Try.prog Try.f7 Rows.flippedRow.domain false) (Rows.flippedSpec.post enc Try.prog Try.f7 false true false false) := by
  refine returnsInHanded_of_change_sized (C := Try.checked) own started (by kernel_rfl) Try.func7
    (ChangeSpec.witness6 (enc := enc) (C := Try.checked) false ⟨#[], #[.agg #[.int .u8 0, .int .u8 0, .int .u8 0, .int .u32 0, .int .u8 0, .int .u16 0, .int .u16 0, .int .u32 0, .string ByteArray.empty], .int .i64 0, .int .u8 0], []⟩ 8 (by kernel_rfl) (by kernel_rfl) (by kernel_rfl) (by kernel_rfl)) ?_
  intro W base args ds gs before hval0 hW hcnd hsz _
  have hval : ∀ (j : Nat) t v, Try.f7.params[j]? = some t → args[j]? = some v → Value.okWide Try.prog W .any base t v := hval0
  have hW' := hW
  obtain ⟨p, q, hA0, hV, rfl, hfz, hnd⟩ := hW
  have hA : DataW.TrodAll enc Try.prog W 0 (fun _ => true) true Try.f7.params.toList args.toList ds p := hA0
  rw [Try.params7] at hA hval hsz
  obtain ⟨v0, vs0, d0, ds0, p0, q0, hargs, rfl, rfl, h0, r0⟩ := trodAll_cons hA
  obtain ⟨v1, vs1, d1, ds1, p1, q1, rfl, rfl, rfl, h1, r1⟩ := trodAll_cons r0
  obtain ⟨v2, vs2, d2, ds2, p2, q2, rfl, rfl, rfl, h2, r2⟩ := trodAll_cons r1
  obtain ⟨rfl, rfl, rfl⟩ := trodAll_nil r2
  obtain rfl : args = #[v0, v1, v2] := by cases args; simp_all
  obtain ⟨rfl, rfl⟩ := trodVars_none hV
  have k0 := h0
  have lt0 : ∀ x ∈ p0, x.block < W.heap.size := by obtain ⟨m, hm⟩ := k0; exact DataW.trod_lt m _ _ _ hm
  obtain ⟨a0, rfl, e0, w0⟩ := open_msg (hval 0 32 v0 rfl rfl) h0
  have z0 : a0.m.length ≤ 140737488351232 := msg_sized hsz (j := 0) rfl (by rw [e0]; rfl)
  have k1 := h1
  have lt1 : ∀ x ∈ p1, x.block < W.heap.size := by obtain ⟨m, hm⟩ := k1; exact DataW.trod_lt m _ _ _ hm
  obtain ⟨a1, rfl, _, _, w1⟩ := open_int Try.underlying3 (hval 1 3 v1 rfl rfl) h1
  have k2 := h2
  have lt2 : ∀ x ∈ p2, x.block < W.heap.size := by obtain ⟨m, hm⟩ := k2; exact DataW.trod_lt m _ _ _ hm
  obtain ⟨a2, rfl, _, _, w2⟩ := open_int Try.underlying5 (hval 2 5 v2 rfl rfl) h2
  clear hA0 hval0
  refine (flipped_walk' a0 w0 z0 a1 w1 a2 w2 W).mono fun e W' ⟨he, bel⟩ => ?_
  subst he
  exact ⟨_, rfl, _, _, _, [], _, [], hW', trodAll_mk1 (shut_bool Try.underlying4 _), (trodAll_cons_mk (Below.trod laidOut (by kernel_rfl) (of_decide_eq_true (by kernel_rfl)) k0 bel lt0) (trodAll_cons_mk (Below.trod laidOut (by kernel_rfl) (of_decide_eq_true (by kernel_rfl)) k1 bel lt1) (trodAll_cons_mk (Below.trod laidOut (by kernel_rfl) (of_decide_eq_true (by kernel_rfl)) k2 bel lt2) trodAll_mk0))), rfl, bel.frame _, fun h => by cases h⟩

theorem flipped_proved : Rows.FlippedSaid :=
  OpenClaim.holds_of_wide 7 Try.f7 rfl rfl rfl rfl rfl rfl rfl ⟨rfl, rfl, rfl, rfl, rfl⟩ rfl rfl rfl rfl rfl (by kernel_rfl) Try.func7 (by kernel_rfl)
    (of_decide_eq_true (by kernel_rfl)) (by unfold Func.isWrapper; first | (rw [if_pos (by decide +kernel)]; kernel_rfl) | (rw [if_neg (by decide +kernel)]; exact ⟨rfl, rfl⟩))
    (fun os started H enc _ => flipped_lifted os started H enc)
end Go.Proofs.Ytjkhbjgfoopomaa
