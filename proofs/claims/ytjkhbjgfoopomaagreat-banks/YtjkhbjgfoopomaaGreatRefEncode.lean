/-
  The walk over Encode, the document's.
-/
import Derived.Test.YtjkhbjgfoopomaaGreatEncode
import Derived.Deep.RegionHeld3
namespace Go.Proofs.YtjkhbjgfoopomaaGreat
open Go.RowKit
set_option linter.unusedVariables false
attribute [local go_sem] bs_size bs_append be_length

theorem refBytes1 (v : Nat) (hv : v < 256) (w : World) :
    Calls Tryz.prog 85 #[.int .u64 (v : Int), .int .i64 1] w fun e w' => e = .returned (.string (bs [UInt8.ofNat v])) ∧ Below w.heap.size w w' := by
  have h := refBytes_any v 1 (by omega) (by decide) w
  rw [← be1 v hv] at h
  exact h
theorem refBytes2 (v : Nat) (hv : v < 65536) (w : World) :
    Calls Tryz.prog 85 #[.int .u64 (v : Int), .int .i64 2] w fun e w' => e = .returned (.string (bs (be 2 v))) ∧ Below w.heap.size w w' :=
  refBytes_any v 2 (by omega) (by decide) w
theorem refBytes4 (v : Nat) (hv : v < 4294967296) (w : World) :
    Calls Tryz.prog 85 #[.int .u64 (v : Int), .int .i64 4] w fun e w' => e = .returned (.string (bs (be 4 v))) ∧ Below w.heap.size w w' :=
  refBytes_any v 4 (by omega) (by decide) w

theorem u64_wrap (n : Nat) (h : n < 18446744073709551616) : IntKind.u64.wrap (n : Int) = (n : Int) := by rw [IntKind.wrap_u64]; omega
theorem boxA {w u : World} {k f t i l p g a : Nat} {m : List UInt8} (h : Box w #[Value.int .u8 (k : Int), .int .u8 (f : Int), .int .u8 (t : Int), .int .u32 (i : Int), .int .u8 (l : Int), .int .u16 (p : Int), .int .u16 (g : Int), .int .u32 (a : Int), .string (bs m)] u) :
    (u.cell? ⟨w.heap.size, 0, none⟩ = some (.int .u8 (k : Int)) ∧ u.cell? ⟨w.heap.size, 1, none⟩ = some (.int .u8 (f : Int)) ∧ u.cell? ⟨w.heap.size, 2, none⟩ = some (.int .u8 (t : Int)) ∧ u.cell? ⟨w.heap.size, 3, none⟩ = some (.int .u32 (i : Int)) ∧ u.cell? ⟨w.heap.size, 4, none⟩ = some (.int .u8 (l : Int)) ∧ u.cell? ⟨w.heap.size, 5, none⟩ = some (.int .u16 (p : Int)) ∧ u.cell? ⟨w.heap.size, 6, none⟩ = some (.int .u16 (g : Int)) ∧ u.cell? ⟨w.heap.size, 7, none⟩ = some (.int .u32 (a : Int)) ∧ u.cell? ⟨w.heap.size, 8, none⟩ = some (.string (bs m))) ∧ Box w #[Value.int .u8 (k : Int), .int .u8 (f : Int), .int .u8 (t : Int), .int .u32 (i : Int), .int .u8 (l : Int), .int .u16 (p : Int), .int .u16 (g : Int), .int .u32 (a : Int), .string (bs m)] u :=
  ⟨⟨h.cell 0, h.cell 1, h.cell 2, h.cell 3, h.cell 4, h.cell 5, h.cell 6, h.cell 7, h.cell 8⟩, h⟩
theorem boxA2 {w u u' : World} {k f t i l p g a : Nat} {m : List UInt8} (h : (u.cell? ⟨w.heap.size, 0, none⟩ = some (.int .u8 (k : Int)) ∧ u.cell? ⟨w.heap.size, 1, none⟩ = some (.int .u8 (f : Int)) ∧ u.cell? ⟨w.heap.size, 2, none⟩ = some (.int .u8 (t : Int)) ∧ u.cell? ⟨w.heap.size, 3, none⟩ = some (.int .u32 (i : Int)) ∧ u.cell? ⟨w.heap.size, 4, none⟩ = some (.int .u8 (l : Int)) ∧ u.cell? ⟨w.heap.size, 5, none⟩ = some (.int .u16 (p : Int)) ∧ u.cell? ⟨w.heap.size, 6, none⟩ = some (.int .u16 (g : Int)) ∧ u.cell? ⟨w.heap.size, 7, none⟩ = some (.int .u32 (a : Int)) ∧ u.cell? ⟨w.heap.size, 8, none⟩ = some (.string (bs m))) ∧ Box w #[Value.int .u8 (k : Int), .int .u8 (f : Int), .int .u8 (t : Int), .int .u32 (i : Int), .int .u8 (l : Int), .int .u16 (p : Int), .int .u16 (g : Int), .int .u32 (a : Int), .string (bs m)] u) (hb : Below u.heap.size u u') :
    (u'.cell? ⟨w.heap.size, 0, none⟩ = some (.int .u8 (k : Int)) ∧ u'.cell? ⟨w.heap.size, 1, none⟩ = some (.int .u8 (f : Int)) ∧ u'.cell? ⟨w.heap.size, 2, none⟩ = some (.int .u8 (t : Int)) ∧ u'.cell? ⟨w.heap.size, 3, none⟩ = some (.int .u32 (i : Int)) ∧ u'.cell? ⟨w.heap.size, 4, none⟩ = some (.int .u8 (l : Int)) ∧ u'.cell? ⟨w.heap.size, 5, none⟩ = some (.int .u16 (p : Int)) ∧ u'.cell? ⟨w.heap.size, 6, none⟩ = some (.int .u16 (g : Int)) ∧ u'.cell? ⟨w.heap.size, 7, none⟩ = some (.int .u32 (a : Int)) ∧ u'.cell? ⟨w.heap.size, 8, none⟩ = some (.string (bs m))) ∧ Box w #[Value.int .u8 (k : Int), .int .u8 (f : Int), .int .u8 (t : Int), .int .u32 (i : Int), .int .u8 (l : Int), .int .u16 (p : Int), .int .u16 (g : Int), .int .u32 (a : Int), .string (bs m)] u' := boxA (h.2.below hb)
theorem bs_E (l : List UInt8) : (⟨#[69]⟩ : ByteArray) ++ bs l = bs (69 :: l) := ByteArray.mk_append_mk [69] l
attribute [local go_sem] bs_E
set_option maxRecDepth 100000 in
set_option maxHeartbeats 1000000 in
theorem refEncode_any (x : Msg) (hx : x.ok) (hm : x.m.length ≤ 140737488351232) (w : World) :
    Calls Tryz.prog 51 #[x.v] w fun e w' => e = .returned (.tuple #[.string (bs (encOf x)), .int .i64 ((faultOf x : Nat) : Int)]) ∧ Below w.heap.size w w' := by
  have hfault := hide (refFault_any x hx hm)
  have h64 : Hid (faultOf x = 0 → x.m.length ≤ 64) := hide fault_zero_memo
  have hz : Hid (encOf x = if faultOf x = 0 then frameOf x else []) := hide rfl
  obtain ⟨k, f, t, i, l, p, g, a, m⟩ := x
  obtain ⟨hk, hf, ht, hi, hl, hp, hg, ha⟩ := hx
  generalize faultOf ⟨k, f, t, i, l, p, g, a, m⟩ = fv at *
  simp only [Msg.v, Msg.cells] at *
  by_cases f0 : fv = 0
  · subst f0
    have hm64 := h64.out rfl
    have hz1 : Hid (encOf ⟨k, f, t, i, l, p, g, a, m⟩ = frameOf ⟨k, f, t, i, l, p, g, a, m⟩) := hide (by rw [hz.out]; simp)
    have hz2 : Hid (frameOf ⟨k, f, t, i, l, p, g, a, m⟩ = bodyOf ⟨k, f, t, i, l, p, g, a, m⟩ ++ be 4 (sumOf (bodyOf ⟨k, f, t, i, l, p, g, a, m⟩))) := hide rfl
    have hz3 : Hid (69 :: UInt8.ofNat k :: UInt8.ofNat f :: UInt8.ofNat t :: (be 4 i ++ UInt8.ofNat l :: (be 2 p ++ (be 2 g ++ (be 4 a ++ UInt8.ofNat m.length :: m)))) = bodyOf ⟨k, f, t, i, l, p, g, a, m⟩) := hide rfl
    have hz4 : Hid ((bodyOf ⟨k, f, t, i, l, p, g, a, m⟩).length = 18 + m.length) := hide (bodyOf_length _)
    clear h64 hz
    have wk := u64_wrap k (by omega)
    have wf := u64_wrap f (by omega)
    have wt := u64_wrap t (by omega)
    have wi := u64_wrap i (by omega)
    have wl := u64_wrap l (by omega)
    have wp := u64_wrap p (by omega)
    have wg := u64_wrap g (by omega)
    have wa := u64_wrap a (by omega)
    have wm := u64_wrap m.length (by omega)
    have hadd : ∀ u : World, (Op.stringOp .add (bs (be 4 a ++ [UInt8.ofNat m.length])) (bs m)).run Tryz.prog u = .ok (.string (bs (be 4 a ++ UInt8.ofNat m.length :: m))) u := fun u => by
      rw [run_string_add_sum u _ _ (by simp [bs_size, be_length]; omega), bs_append, List.append_assoc]
      rfl
    go_enter Tryz.func51, Tryz.ntmps51
    go_wp2_with fail
    refine (hfault.out _).mono ?_
    rintro e w1 ⟨rfl, hb⟩
    have B1 := (Box.mk0 _ _ _).below hb
    have hc := B1.cell
    have hlt := B1.lt
    clear hb hfault
    go_wp2_with fail
    go_region_held3 (fun u => (u.cell? ⟨w.heap.size, 0, none⟩ = some (.int .u8 (k : Int)) ∧ u.cell? ⟨w.heap.size, 1, none⟩ = some (.int .u8 (f : Int)) ∧ u.cell? ⟨w.heap.size, 2, none⟩ = some (.int .u8 (t : Int)) ∧ u.cell? ⟨w.heap.size, 3, none⟩ = some (.int .u32 (i : Int)) ∧ u.cell? ⟨w.heap.size, 4, none⟩ = some (.int .u8 (l : Int)) ∧ u.cell? ⟨w.heap.size, 5, none⟩ = some (.int .u16 (p : Int)) ∧ u.cell? ⟨w.heap.size, 6, none⟩ = some (.int .u16 (g : Int)) ∧ u.cell? ⟨w.heap.size, 7, none⟩ = some (.int .u32 (a : Int)) ∧ u.cell? ⟨w.heap.size, 8, none⟩ = some (.string (bs m))) ∧ Box w #[Value.int .u8 (k : Int), .int .u8 (f : Int), .int .u8 (t : Int), .int .u32 (i : Int), .int .u8 (l : Int), .int .u16 (p : Int), .int .u16 (g : Int), .int .u32 (a : Int), .string (bs m)] u) ((first | exact boxA B1.drew | exact boxA2 (by assumption) hb))
      (first
        | (go_at_call_of 85 (Value.int .u64 (k : Int)); refine (refBytes1 k hk _).mono ?_; rintro e u2 ⟨rfl, hb⟩)
        | (go_at_call_of 85 (Value.int .u64 (f : Int)); refine (refBytes1 f hf _).mono ?_; rintro e u2 ⟨rfl, hb⟩)
        | (go_at_call_of 85 (Value.int .u64 (t : Int)); refine (refBytes1 t ht _).mono ?_; rintro e u2 ⟨rfl, hb⟩))
    have B2 : Box w #[Value.int .u8 (k : Int), .int .u8 (f : Int), .int .u8 (t : Int), .int .u32 (i : Int), .int .u8 (l : Int), .int .u16 (p : Int), .int .u16 (g : Int), .int .u32 (a : Int), .string (bs m)] u2 := And.right (by assumption)
    replace hc := B2.cell
    replace hlt := B2.lt
    clear hb B1
    go_wp2_with fail
    go_region_held3 (fun u => (u.cell? ⟨w.heap.size, 0, none⟩ = some (.int .u8 (k : Int)) ∧ u.cell? ⟨w.heap.size, 1, none⟩ = some (.int .u8 (f : Int)) ∧ u.cell? ⟨w.heap.size, 2, none⟩ = some (.int .u8 (t : Int)) ∧ u.cell? ⟨w.heap.size, 3, none⟩ = some (.int .u32 (i : Int)) ∧ u.cell? ⟨w.heap.size, 4, none⟩ = some (.int .u8 (l : Int)) ∧ u.cell? ⟨w.heap.size, 5, none⟩ = some (.int .u16 (p : Int)) ∧ u.cell? ⟨w.heap.size, 6, none⟩ = some (.int .u16 (g : Int)) ∧ u.cell? ⟨w.heap.size, 7, none⟩ = some (.int .u32 (a : Int)) ∧ u.cell? ⟨w.heap.size, 8, none⟩ = some (.string (bs m))) ∧ Box w #[Value.int .u8 (k : Int), .int .u8 (f : Int), .int .u8 (t : Int), .int .u32 (i : Int), .int .u8 (l : Int), .int .u16 (p : Int), .int .u16 (g : Int), .int .u32 (a : Int), .string (bs m)] u) ((first | exact boxA B2.drew | exact boxA2 (by assumption) hb))
      (first
        | (go_at_call_of 85 (Value.int .u64 (i : Int)); refine (refBytes4 i hi _).mono ?_; rintro e u2 ⟨rfl, hb⟩)
        | (go_at_call_of 85 (Value.int .u64 (l : Int)); refine (refBytes1 l hl _).mono ?_; rintro e u2 ⟨rfl, hb⟩)
        | (go_at_call_of 85 (Value.int .u64 (p : Int)); refine (refBytes2 p hp _).mono ?_; rintro e u2 ⟨rfl, hb⟩)
        | (go_at_call_of 85 (Value.int .u64 (g : Int)); refine (refBytes2 g hg _).mono ?_; rintro e u2 ⟨rfl, hb⟩))
    have B3 : Box w #[Value.int .u8 (k : Int), .int .u8 (f : Int), .int .u8 (t : Int), .int .u32 (i : Int), .int .u8 (l : Int), .int .u16 (p : Int), .int .u16 (g : Int), .int .u32 (a : Int), .string (bs m)] u2 := And.right (by assumption)
    replace hc := B3.cell
    replace hlt := B3.lt
    clear hb B2
    go_wp2_with fail
    go_region_held3 (fun u => (u.cell? ⟨w.heap.size, 0, none⟩ = some (.int .u8 (k : Int)) ∧ u.cell? ⟨w.heap.size, 1, none⟩ = some (.int .u8 (f : Int)) ∧ u.cell? ⟨w.heap.size, 2, none⟩ = some (.int .u8 (t : Int)) ∧ u.cell? ⟨w.heap.size, 3, none⟩ = some (.int .u32 (i : Int)) ∧ u.cell? ⟨w.heap.size, 4, none⟩ = some (.int .u8 (l : Int)) ∧ u.cell? ⟨w.heap.size, 5, none⟩ = some (.int .u16 (p : Int)) ∧ u.cell? ⟨w.heap.size, 6, none⟩ = some (.int .u16 (g : Int)) ∧ u.cell? ⟨w.heap.size, 7, none⟩ = some (.int .u32 (a : Int)) ∧ u.cell? ⟨w.heap.size, 8, none⟩ = some (.string (bs m))) ∧ Box w #[Value.int .u8 (k : Int), .int .u8 (f : Int), .int .u8 (t : Int), .int .u32 (i : Int), .int .u8 (l : Int), .int .u16 (p : Int), .int .u16 (g : Int), .int .u32 (a : Int), .string (bs m)] u) ((first | exact boxA B3.drew | exact boxA2 (by assumption) hb))
      (first
        | (go_at_call_of 85 (Value.int .u64 (a : Int)); refine (refBytes4 a ha _).mono ?_; rintro e u2 ⟨rfl, hb⟩)
        | (go_at_call_of 85 (Value.int .u64 (m.length : Int)); refine (refBytes1 m.length (by omega) _).mono ?_; rintro e u2 ⟨rfl, hb⟩))
    have B4 : Box w #[Value.int .u8 (k : Int), .int .u8 (f : Int), .int .u8 (t : Int), .int .u32 (i : Int), .int .u8 (l : Int), .int .u16 (p : Int), .int .u16 (g : Int), .int .u32 (a : Int), .string (bs m)] u2 := And.right (by assumption)
    clear hb B3 hc hlt
    go_wp2_with fail
    rw [hz3.out]
    clear hz3
    generalize bodyOf ⟨k, f, t, i, l, p, g, a, m⟩ = B at *
    have hBl : B.length ≤ 82 := by have := hz4.out; omega
    clear hz4
    refine (refSum_any (bs B) (by rw [bs_size]; unfold maxLen; omega) _).mono ?_
    rintro e w6 ⟨rfl, rfl⟩
    rw [bs_data]
    have hs := sumOf_lt B
    go_wp2_with fail
    refine (refBytes4 _ hs _).mono ?_
    rintro e w7 ⟨rfl, hb⟩
    have B6 := B4.below hb
    clear hb B4
    go_wp2
    go_ret2
    exact ⟨ret_pair (by rw [hz1.out, hz2.out]) rfl, B6.bel⟩
  · have hz1 : Hid (encOf ⟨k, f, t, i, l, p, g, a, m⟩ = []) := hide (by rw [hz.out]; simp [f0])
    have d0 : ((fv : Int) != 0) = true := by simp; omega
    clear h64 hz
    go_enter Tryz.func51, Tryz.ntmps51
    go_wp2_with fail
    refine (hfault.out _).mono ?_
    rintro e w1 ⟨rfl, hb⟩
    have B1 := (Box.mk0 _ _ _).below hb
    clear hb hfault
    go_wp2
    go_ret2
    exact ⟨by rw [hz1.out]; rfl, B1.bel⟩
end Go.Proofs.YtjkhbjgfoopomaaGreat
