import Derived.Test.YtjkhbjgfoopomaaGreatG10
import Derived.Test.YtjkhbjgfoopomaaGreatDecodeSay
import Derived.Deep.RegionHeld3
/-
  The walk over Decode, the document's: where the form and the checksum hold.
-/
namespace Go.Proofs.YtjkhbjgfoopomaaGreat
open Go.RowKit
set_option linter.unusedVariables false

theorem index_at (s : ByteArray) (k : Nat) (h : k < s.size) (u : World) : (Instr.index 9 (.string s) (.int .i64 (k : Int))).run Tryz.prog u = .ok (.int .u8 ((s[k]'h).toNat : Int)) u := by
  rw [run_index_string u 9 s .i64 _ Tryz.underlying9, dif_pos (by omega)]
  rfl
set_option maxRecDepth 100000 in
set_option maxHeartbeats 3000000 in
theorem refDecode_tail (s : ByteArray) (h : 22 ≤ s.size) (p0 : 0 < s.size) (p17 : 17 < s.size) (q1 : 1 < s.size) (q2 : 2 < s.size) (q3 : 3 < s.size) (q8 : 8 < s.size) (h0 : (s[0]'p0).toNat = 69) (h17 : s.size = 22 + (s[17]'p17).toNat)
    (hsum : val (cut s.data.toList (s.size - 4) s.size) = sumOf (cut s.data.toList 0 (s.size - 4))) (vi vp vg va fv : Nat) (e3 : val (cut s.data.toList 4 8) = vi) (e4 : val (cut s.data.toList 9 11) = vp) (e5 : val (cut s.data.toList 11 13) = vg) (e6 : val (cut s.data.toList 13 17) = va)
    (b3 : vi < 4294967296) (b4 : vp < 65536) (b5 : vg < 65536) (b6 : va < 4294967296)
    (hfault : ∀ u : World, Calls Tryz.prog 84 #[.agg #[Value.int .u8 ((s[1]'q1).toNat : Int), .int .u8 ((s[2]'q2).toNat : Int), .int .u8 ((s[3]'q3).toNat : Int), .int .u32 (vi : Int), .int .u8 ((s[8]'q8).toNat : Int), .int .u16 (vp : Int), .int .u16 (vg : Int), .int .u32 (va : Int), .string (s.extract 18 (s.size - 4))]] u fun e u' => e = .returned (.int .i64 (fv : Int)) ∧ Below u.heap.size u u') (w : World) :
    Calls Tryz.prog 53 #[.string s] w fun e w' => e = .returned (.tuple #[.agg (if fv = 0 then #[Value.int .u8 ((s[1]'q1).toNat : Int), .int .u8 ((s[2]'q2).toNat : Int), .int .u8 ((s[3]'q3).toNat : Int), .int .u32 (vi : Int), .int .u8 ((s[8]'q8).toNat : Int), .int .u16 (vp : Int), .int .u16 (vg : Int), .int .u32 (va : Int), .string (s.extract 18 (s.size - 4))] else #[Value.int .u8 0, .int .u8 0, .int .u8 0, .int .u32 0, .int .u8 0, .int .u16 0, .int .u16 0, .int .u32 0, .string ⟨#[]⟩]), .int .i64 (fv : Int)]) ∧ Below w.heap.size w w' := by
  have HF := hide hfault
  clear hfault
  have hb := byte_lt (s[17]'p17)
  have d0 : decide ((s.size : Int) < 22) = false := by simp; omega
  have p1 : (1 : Int) ≤ (s.size : Int) := by omega
  have d1 : ((s.extract 0 1).toList == [69]) = true := by rw [ext_E s p0]; simp [h0]
  have hsz : s.size ≤ 277 := by omega
  have d2 : ((s.size : Int) - 22 != ((s[17]'p17).toNat : Int)) = false := by simp; omega
  have z1 := ext_size s 0 (s.size - 4) (by omega)
  have z2 := ext_size s (s.size - 4) s.size (by omega)
  have z3 := ext_size s 4 8 (by omega)
  have z4 := ext_size s 9 11 (by omega)
  have z5 := ext_size s 11 13 (by omega)
  have z6 := ext_size s 13 17 (by omega)
  have c1 := hide (cut_of s 0 (s.size - 4))
  have c2 := hide (cut_of s (s.size - 4) s.size)
  have c3 : Hid (val (s.extract 4 8).data.toList = vi) := hide (by rw [cut_of]; exact e3)
  have c4 : Hid (val (s.extract 9 11).data.toList = vp) := hide (by rw [cut_of]; exact e4)
  have c5 : Hid (val (s.extract 11 13).data.toList = vg) := hide (by rw [cut_of]; exact e5)
  have c6 : Hid (val (s.extract 13 17).data.toList = va) := hide (by rw [cut_of]; exact e6)
  have Z1 : (s.extract 0 (s.size - 4)).size ≤ maxLen := by rw [z1]; unfold maxLen; omega
  have Z2 : (s.extract (s.size - 4) s.size).size ≤ 4 := by rw [z2]; omega
  have Z3 : (s.extract 4 8).size ≤ 4 := by rw [z3]; omega
  have Z4 : (s.extract 9 11).size ≤ 4 := by rw [z4]; omega
  have Z5 : (s.extract 11 13).size ≤ 4 := by rw [z5]; omega
  have Z6 : (s.extract 13 17).size ≤ 4 := by rw [z6]; omega
  have y1 := sumOf_lt (cut s.data.toList 0 (s.size - 4))
  have d3 : ((sumOf (cut s.data.toList 0 (s.size - 4)) : Int) != (val (cut s.data.toList (s.size - 4) s.size) : Int)) = false := by simp [hsum]
  clear h0 h17 hsum e3 e4 e5 e6 z1 z2 z3 z4 z5 z6
  go_enter Tryz.func53, Tryz.ntmps53
  go_wp2_with fail
  refine (refSum_any _ Z1 _).mono ?_
  rintro e w1 ⟨rfl, rfl⟩
  rw [c1.out]
  generalize sumOf (cut s.data.toList 0 (s.size - 4)) = y at *
  go_wp2_with fail
  refine (value_any _ Z2 _).mono ?_
  rintro e w1 ⟨rfl, rfl⟩
  rw [c2.out]
  generalize val (cut s.data.toList (s.size - 4) s.size) = x at *
  clear c1 c2 Z1 Z2
  have i1 : (1 : Int) < (s.size : Int) := by omega
  have i2 : (2 : Int) < (s.size : Int) := by omega
  have i3 : (3 : Int) < (s.size : Int) := by omega
  have i8 : (8 : Int) < (s.size : Int) := by omega
  have x1 : ∀ u : World, (Instr.index 9 (.string s) (.int .i64 1)).run Tryz.prog u = .ok (.int .u8 ((s[1]'q1).toNat : Int)) u := index_at s 1 q1
  have x2 : ∀ u : World, (Instr.index 9 (.string s) (.int .i64 2)).run Tryz.prog u = .ok (.int .u8 ((s[2]'q2).toNat : Int)) u := index_at s 2 q2
  have x3 : ∀ u : World, (Instr.index 9 (.string s) (.int .i64 3)).run Tryz.prog u = .ok (.int .u8 ((s[3]'q3).toNat : Int)) u := index_at s 3 q3
  have x8 : ∀ u : World, (Instr.index 9 (.string s) (.int .i64 8)).run Tryz.prog u = .ok (.int .u8 ((s[8]'q8).toNat : Int)) u := index_at s 8 q8
  have wi : IntKind.u32.wrap (vi : Int) = (vi : Int) := by rw [IntKind.wrap_u32]; omega
  go_wp2_with fail
  clear d0 d1 d2 d3
  have B1 := Box.mk0 w #[Value.int .u8 0, .int .u8 0, .int .u8 0, .int .u32 0, .int .u8 0, .int .u16 0, .int .u16 0, .int .u32 0, .string ⟨#[]⟩] 40
  generalize w.alloc _ = w1 at B1 ⊢
  have s8 : (8 : Int) ≤ (s.size : Int) := by omega
  refine wp_region_noPanic ?_
  refine wp_region_any (by kernel_rfl) ?_
  change wpAny _ _ _ _ _ _ _ (World.drew _)
  refine wpAny_take (i := 0) (v := .string s) rfl (by kernel_rfl) (by kernel_rfl) (by kernel_rfl) (fun _ _ _ h => h) (Or.inl ⟨by rfl, fun u => by go_simp⟩) ?_
  simp only [Act.put]
  refine wpAny_take (i := 1) (v := .int .u8 ((s[1]'q1).toNat : Int)) rfl (by kernel_rfl) (by kernel_rfl) (by kernel_rfl) (fun _ _ _ h => h) (Or.inl ⟨by rfl, fun u => by go_simp⟩) ?_
  simp only [Act.put]
  refine wpAny_take (i := 2) (v := .string s) rfl (by kernel_rfl) (by kernel_rfl) (by kernel_rfl) (fun _ _ _ h => h) (Or.inl ⟨by rfl, fun u => by go_simp⟩) ?_
  simp only [Act.put]
  refine wpAny_take (i := 3) (v := .int .u8 ((s[2]'q2).toNat : Int)) rfl (by kernel_rfl) (by kernel_rfl) (by kernel_rfl) (fun _ _ _ h => h) (Or.inl ⟨by rfl, fun u => by go_simp⟩) ?_
  simp only [Act.put]
  refine wpAny_take (i := 4) (v := .string s) rfl (by kernel_rfl) (by kernel_rfl) (by kernel_rfl) (fun _ _ _ h => h) (Or.inl ⟨by rfl, fun u => by go_simp⟩) ?_
  simp only [Act.put]
  refine wpAny_take (i := 5) (v := .int .u8 ((s[3]'q3).toNat : Int)) rfl (by kernel_rfl) (by kernel_rfl) (by kernel_rfl) (fun _ _ _ h => h) (Or.inl ⟨by rfl, fun u => by go_simp⟩) ?_
  simp only [Act.put]
  refine wpAny_take (i := 6) (v := .string s) rfl (by kernel_rfl) (by kernel_rfl) (by kernel_rfl) (fun _ _ _ h => h) (Or.inl ⟨by rfl, fun u => by go_simp⟩) ?_
  simp only [Act.put]
  refine wpAny_take (i := 7) (v := .string (s.extract 4 8)) rfl (by kernel_rfl) (by kernel_rfl) (by kernel_rfl) (fun _ _ _ h => h) (Or.inl ⟨by rfl, fun u => by go_simp⟩) ?_
  simp only [Act.put]
  refine wpAny_take (i := 10) (v := .string s) rfl (by kernel_rfl) (by kernel_rfl) (by kernel_rfl) (fun _ _ _ h => h) (Or.inl ⟨by rfl, fun u => by go_simp⟩) ?_
  simp only [Act.put]
  refine wpAny_take (i := 11) (v := .int .u8 ((s[8]'q8).toNat : Int)) rfl (by kernel_rfl) (by kernel_rfl) (by kernel_rfl) (fun _ _ _ h => h) (Or.inl ⟨by rfl, fun u => by go_simp⟩) ?_
  simp only [Act.put]
  refine wpAny_ready (rs := [8, 13]) (by kernel_rfl) (by simp) ?_
  refine AllReady.cons rfl (fun K hK => ?_) (AllReady.cons rfl (fun K hK => ?_) AllReady.nil)
  have HK := hide hK
  clear hK
  go_simp
  refine (value_any _ Z3 _).mono ?_
  rintro e w5 ⟨rfl, rfl⟩
  rw [c3.out]
  dsimp only
  refine HK.out _ _ ?_
  clear HK K
  refine wpAny_take (i := 9) (v := .int .u32 (vi : Int)) rfl (by kernel_rfl) (by kernel_rfl) (by kernel_rfl) (fun _ _ _ h => h) (Or.inl ⟨by rfl, fun u => by go_simp⟩) ?_
  simp only [Act.put]
  refine wpAny_take (i := 12) (v := .agg #[.int .u8 ((s[1]'q1).toNat : Int), .int .u8 ((s[2]'q2).toNat : Int), .int .u8 ((s[3]'q3).toNat : Int), .int .u32 (vi : Int), .int .u8 ((s[8]'q8).toNat : Int), .int .u16 0, .int .u16 0, .int .u32 0, .string ⟨#[]⟩]) rfl (by kernel_rfl) (by kernel_rfl) (by kernel_rfl) (fun _ _ _ h => h) (Or.inl ⟨by rfl, fun u => by go_simp⟩) ?_
  simp only [Act.put]
  refine wpAny_ready (rs := [13]) (by kernel_rfl) (by simp) ?_
  refine AllReady.cons rfl (fun K hK => ?_) AllReady.nil
  have HK := hide hK
  clear hK
  go_simp
  refine HK.out _ _ ?_
  clear HK K
  refine wpAny_ready (rs := [14]) (by kernel_rfl) (by simp) ?_
  refine AllReady.cons rfl (fun K hK => ?_) AllReady.nil
  have HK := hide hK
  clear hK
  go_simp
  refine HK.out _ _ ?_
  clear HK K
  refine wpAny_done (by kernel_rfl) ?_ _
  refine NoPanic.normal ?_
  rotate_left
  have HK := hide hK
  clear hK
  go_simp
  refine HK.out _ _ ?_
  clear HK K
  refine wpAny_ready (rs := [8]) (by kernel_rfl) (by simp) ?_
  refine AllReady.cons rfl (fun K hK => ?_) AllReady.nil
  have HK := hide hK
  clear hK
  go_simp
  refine (value_any _ Z3 _).mono ?_
  rintro e w5 ⟨rfl, rfl⟩
  rw [c3.out]
  dsimp only
  refine HK.out _ _ ?_
  clear HK K
  refine wpAny_take (i := 9) (v := .int .u32 (vi : Int)) rfl (by kernel_rfl) (by kernel_rfl) (by kernel_rfl) (fun _ _ _ h => h) (Or.inl ⟨by rfl, fun u => by go_simp⟩) ?_
  simp only [Act.put]
  refine wpAny_take (i := 12) (v := .agg #[.int .u8 ((s[1]'q1).toNat : Int), .int .u8 ((s[2]'q2).toNat : Int), .int .u8 ((s[3]'q3).toNat : Int), .int .u32 (vi : Int), .int .u8 ((s[8]'q8).toNat : Int), .int .u16 0, .int .u16 0, .int .u32 0, .string ⟨#[]⟩]) rfl (by kernel_rfl) (by kernel_rfl) (by kernel_rfl) (fun _ _ _ h => h) (Or.inl ⟨by rfl, fun u => by go_simp⟩) ?_
  simp only [Act.put]
  refine wpAny_ready (rs := [14]) (by kernel_rfl) (by simp) ?_
  refine AllReady.cons rfl (fun K hK => ?_) AllReady.nil
  have HK := hide hK
  clear hK
  go_simp
  refine HK.out _ _ ?_
  clear HK K
  refine wpAny_done (by kernel_rfl) ?_ _
  refine NoPanic.normal ?_
  all_goals
    clear c3 Z3 wi x1 x2 x3 x8
    go_wp2_with fail
    refine (value_any _ Z4 _).mono ?_
    rintro e w5 ⟨rfl, rfl⟩
    rw [c4.out]
    clear c4 Z4
    go_wp2_with fail
    refine (value_any _ Z5 _).mono ?_
    rintro e w5 ⟨rfl, rfl⟩
    rw [c5.out]
    clear c5 Z5
    go_wp2_with fail
    refine (value_any _ Z6 _).mono ?_
    rintro e w5 ⟨rfl, rfl⟩
    rw [c6.out]
    clear c6 Z6
    have s18 : (18 : Int) ≤ (s.size : Int) - 4 := by omega
    have s4 : (s.size : Int) - 4 ≤ (s.size : Int) := by omega
    go_wp2_with fail
    have B2 := Box.mk0 w1 #[Value.int .u8 ((s[1]'q1).toNat : Int), .int .u8 ((s[2]'q2).toNat : Int), .int .u8 ((s[3]'q3).toNat : Int), .int .u32 (vi : Int), .int .u8 ((s[8]'q8).toNat : Int), .int .u16 (vp : Int), .int .u16 (vg : Int), .int .u32 (va : Int), .string (s.extract 18 (s.size - 4))] 40
    replace B1 := B1.alloc (.cells #[Value.int .u8 ((s[1]'q1).toNat : Int), .int .u8 ((s[2]'q2).toNat : Int), .int .u8 ((s[3]'q3).toNat : Int), .int .u32 (vi : Int), .int .u8 ((s[8]'q8).toNat : Int), .int .u16 (vp : Int), .int .u16 (vg : Int), .int .u32 (va : Int), .string (s.extract 18 (s.size - 4))] 40)
    generalize w1.alloc _ = w2 at B1 B2 ⊢
    refine (HF.out _).mono ?_
    rintro e w3 ⟨rfl, hb3⟩
    replace B1 := B1.drew.below hb3
    replace B2 := B2.drew.below hb3
    have hc := B2.cell
    have hc1 := B1.cell
    have hf1 := B1.fro
    clear HF hb3
    by_cases f0 : fv = 0
    · subst f0
      go_wp2
      exact bodyPost_ret (v := .tuple #[.agg #[Value.int .u8 ((s[1]'q1).toNat : Int), .int .u8 ((s[2]'q2).toNat : Int), .int .u8 ((s[3]'q3).toNat : Int), .int .u32 (vi : Int), .int .u8 ((s[8]'q8).toNat : Int), .int .u16 (vp : Int), .int .u16 (vg : Int), .int .u32 (va : Int), .string (s.extract 18 (s.size - 4))], .int .i64 0]) (by simp [results, Tryz.results53, go_sem, hc1]) rfl ⟨rfl, (((((((((B1.bel.setCell (Nat.le_refl _) _).setCell (Nat.le_refl _) _).setCell (Nat.le_refl _) _).setCell (Nat.le_refl _) _).setCell (Nat.le_refl _) _).setCell (Nat.le_refl _) _).setCell (Nat.le_refl _) _).setCell (Nat.le_refl _) _).setCell (Nat.le_refl _) _)⟩
    · have d0 : ((fv : Int) != 0) = true := by simp; omega
      go_wp2
      exact bodyPost_ret (v := .tuple #[.agg #[Value.int .u8 0, .int .u8 0, .int .u8 0, .int .u32 0, .int .u8 0, .int .u16 0, .int .u16 0, .int .u32 0, .string ⟨#[]⟩], .int .i64 (fv : Int)]) (by simp [results, Tryz.results53, go_sem, hc1]) rfl ⟨by first | rfl | rw [if_neg f0], (((((((((B1.bel.setCell (Nat.le_refl _) _).setCell (Nat.le_refl _) _).setCell (Nat.le_refl _) _).setCell (Nat.le_refl _) _).setCell (Nat.le_refl _) _).setCell (Nat.le_refl _) _).setCell (Nat.le_refl _) _).setCell (Nat.le_refl _) _).setCell (Nat.le_refl _) _)⟩
end Go.Proofs.YtjkhbjgfoopomaaGreat
