import Derived.Test.YtjkhbjgfoopomabGreatA8
import Derived.Test.YtjkhbjgfoopomabGreatA10
namespace Go.Proofs.YtjkhbjgfoopomabGreat
open Go.RowKit
set_option maxRecDepth 100000
set_option maxHeartbeats 3000000
set_option linter.unusedVariables false
set_option linter.unusedSimpArgs false
theorem index_at (s : ByteArray) (k : Nat) (h : k < s.size) (u : World) : (Instr.index 9 (.string s) (.int .i64 (k : Int))).run Tryz.prog u = .ok (.int .u8 ((s[k]'h).toNat : Int)) u := by
 rw [run_index_string u 9 s .i64 _ Tryz.underlying9, dif_pos (by omega)]
 rfl
theorem refDecode_tail (s : ByteArray) (h : 22 ≤ s.size) (p0 : 0 < s.size) (p17 : 17 < s.size) (q1 : 1 < s.size) (q2 : 2 < s.size) (q3 : 3 < s.size) (q8 : 8 < s.size) (h0 : (s[0]'p0).toNat = 69) (h17 : s.size = 22 + (s[17]'p17).toNat)
  (hsum : val (cut s.data.toList (s.size - 4) s.size) = sumOf (cut s.data.toList 0 (s.size - 4))) (vi vp vg va fv : Nat) (e3 : val (cut s.data.toList 4 8) = vi) (e4 : val (cut s.data.toList 9 11) = vp) (e5 : val (cut s.data.toList 11 13) = vg) (e6 : val (cut s.data.toList 13 17) = va)
  (b3 : vi < 4294967296) (b4 : vp < 65536) (b5 : vg < 65536) (b6 : va < 4294967296)
  (hfault : ∀ u : World, Calls Tryz.prog 132 #[.agg #[Value.int .u8 ((s[1]'q1).toNat : Int), .int .u8 ((s[2]'q2).toNat : Int), .int .u8 ((s[3]'q3).toNat : Int), .int .u32 (vi : Int), .int .u8 ((s[8]'q8).toNat : Int), .int .u16 (vp : Int), .int .u16 (vg : Int), .int .u32 (va : Int), .string (s.extract 18 (s.size - 4))]] u fun e u' => e = .returned (.int .i64 (fv : Int)) ∧ Below u.heap.size u u') (w : World) :
  Calls Tryz.prog 99 #[.string s] w fun e w' => e = .returned (.tuple #[.agg (if fv = 0 then #[Value.int .u8 ((s[1]'q1).toNat : Int), .int .u8 ((s[2]'q2).toNat : Int), .int .u8 ((s[3]'q3).toNat : Int), .int .u32 (vi : Int), .int .u8 ((s[8]'q8).toNat : Int), .int .u16 (vp : Int), .int .u16 (vg : Int), .int .u32 (va : Int), .string (s.extract 18 (s.size - 4))] else #[Value.int .u8 0, .int .u8 0, .int .u8 0, .int .u32 0, .int .u8 0, .int .u16 0, .int .u16 0, .int .u32 0, .string ⟨#[]⟩]), .int .i64 (fv : Int)]) ∧ Below w.heap.size w w' := by
 have HF := hide hfault
 clear hfault
 have hb := byte_lt (s[17]'p17)
 have d0 : decide ((s.size : Int) < 22) = false := by simp; omega
 have p1 : (1 : Int) ≤ (s.size : Int) := by omega
 have d1 : ((s.extract 0 1).toList == [69]) = true := by rw [ext_E s p0]; simp [h0]
 have hsz : s.size ≤ 277 := by omega
 have d2 : ((s.size : Int) - 22 != ((s[17]'p17).toNat : Int)) = false := by simp; omega
 have z1 := ext_size s 0 (s.size - 4) (by omega)
 have z2 := ext_size s (s.size - 4) s.size (by omega)
 have z3 := ext_size s 4 8 (by omega)
 have z4 := ext_size s 9 11 (by omega)
 have z5 := ext_size s 11 13 (by omega)
 have z6 := ext_size s 13 17 (by omega)
 have c1 := hide (cut_of s 0 (s.size - 4))
 have c2 := hide (cut_of s (s.size - 4) s.size)
 have c3 : Hid (val (s.extract 4 8).data.toList = vi) := hide (by rw [cut_of]; exact e3)
 have c4 : Hid (val (s.extract 9 11).data.toList = vp) := hide (by rw [cut_of]; exact e4)
 have c5 : Hid (val (s.extract 11 13).data.toList = vg) := hide (by rw [cut_of]; exact e5)
 have c6 : Hid (val (s.extract 13 17).data.toList = va) := hide (by rw [cut_of]; exact e6)
 have Z1 : (s.extract 0 (s.size - 4)).size ≤ maxLen := by rw [z1]; unfold maxLen; omega
 have Z2 : (s.extract (s.size - 4) s.size).size ≤ 4 := by rw [z2]; omega
 have Z3 : (s.extract 4 8).size ≤ 4 := by rw [z3]; omega
 have Z4 : (s.extract 9 11).size ≤ 4 := by rw [z4]; omega
 have Z5 : (s.extract 11 13).size ≤ 4 := by rw [z5]; omega
 have Z6 : (s.extract 13 17).size ≤ 4 := by rw [z6]; omega
 have y1 := sumOf_lt (cut s.data.toList 0 (s.size - 4))
 have d3 : ((sumOf (cut s.data.toList 0 (s.size - 4)) : Int) != (val (cut s.data.toList (s.size - 4) s.size) : Int)) = false := by simp [hsum]
 clear h0 h17 hsum e3 e4 e5 e6 z1 z2 z3 z4 z5 z6
 go_enter Tryz.func99, Tryz.ntmps99
 go_wp2_with fail
 refine (refSum_any _ Z1 _).mono ?_
 rintro e w1 ⟨rfl, rfl⟩
 rw [c1.out]
 generalize sumOf (cut s.data.toList 0 (s.size - 4)) = y at *
 go_wp2_with fail
 refine (value_any _ Z2 _).mono ?_
 rintro e w1 ⟨rfl, rfl⟩
 rw [c2.out]
 generalize val (cut s.data.toList (s.size - 4) s.size) = x at *
 clear c1 c2 Z1 Z2
 have i1 : (1 : Int) < (s.size : Int) := by omega
 have i2 : (2 : Int) < (s.size : Int) := by omega
 have i3 : (3 : Int) < (s.size : Int) := by omega
 have i8 : (8 : Int) < (s.size : Int) := by omega
 have x1 : ∀ u : World, (Instr.index 9 (.string s) (.int .i64 1)).run Tryz.prog u = .ok (.int .u8 ((s[1]'q1).toNat : Int)) u := index_at s 1 q1
 have x2 : ∀ u : World, (Instr.index 9 (.string s) (.int .i64 2)).run Tryz.prog u = .ok (.int .u8 ((s[2]'q2).toNat : Int)) u := index_at s 2 q2
 have x3 : ∀ u : World, (Instr.index 9 (.string s) (.int .i64 3)).run Tryz.prog u = .ok (.int .u8 ((s[3]'q3).toNat : Int)) u := index_at s 3 q3
 have x8 : ∀ u : World, (Instr.index 9 (.string s) (.int .i64 8)).run Tryz.prog u = .ok (.int .u8 ((s[8]'q8).toNat : Int)) u := index_at s 8 q8
 have wi : IntKind.u32.wrap (vi : Int) = (vi : Int) := by rw [IntKind.wrap_u32]; omega
 go_wp2_with fail
 clear d0 d1 d2 d3
 have B1 := Box.mk0 w #[Value.int .u8 0, .int .u8 0, .int .u8 0, .int .u32 0, .int .u8 0, .int .u16 0, .int .u16 0, .int .u32 0, .string ⟨#[]⟩] 102
 generalize w.alloc _ = w1 at B1 ⊢
 have s8 : (8 : Int) ≤ (s.size : Int) := by omega
 refine wp_region_noPanic ?_
 refine wp_region_any (by kernel_rfl) ?_
 change wpAny _ _ _ _ _ _ _ (World.drew _)
 refine wpAny_take (i := 0) (v := .string s) rfl (by kernel_rfl) (by kernel_rfl) (by kernel_rfl) (fun _ _ _ h => h) (Or.inl ⟨by rfl, fun u => by go_simp⟩) ?_
 simp only [Act.put]
 refine wpAny_take (i := 1) (v := .int .u8 ((s[1]'q1).toNat : Int)) rfl (by kernel_rfl) (by kernel_rfl) (by kernel_rfl) (fun _ _ _ h => h) (Or.inl ⟨by rfl, fun u => by go_simp⟩) ?_
 simp only [Act.put]
 refine wpAny_take (i := 2) (v := .string s) rfl (by kernel_rfl) (by kernel_rfl) (by kernel_rfl) (fun _ _ _ h => h) (Or.inl ⟨by rfl, fun u => by go_simp⟩) ?_
 simp only [Act.put]
 refine wpAny_take (i := 3) (v := .int .u8 ((s[2]'q2).toNat : Int)) rfl (by kernel_rfl) (by kernel_rfl) (by kernel_rfl) (fun _ _ _ h => h) (Or.inl ⟨by rfl, fun u => by go_simp⟩) ?_
 simp only [Act.put]
 refine wpAny_take (i := 4) (v := .string s) rfl (by kernel_rfl) (by kernel_rfl) (by kernel_rfl) (fun _ _ _ h => h) (Or.inl ⟨by rfl, fun u => by go_simp⟩) ?_
 simp only [Act.put]
 refine wpAny_take (i := 5) (v := .int .u8 ((s[3]'q3).toNat : Int)) rfl (by kernel_rfl) (by kernel_rfl) (by kernel_rfl) (fun _ _ _ h => h) (Or.inl ⟨by rfl, fun u => by go_simp⟩) ?_
 simp only [Act.put]
 refine wpAny_take (i := 6) (v := .string s) rfl (by kernel_rfl) (by kernel_rfl) (by kernel_rfl) (fun _ _ _ h => h) (Or.inl ⟨by rfl, fun u => by go_simp⟩) ?_
 simp only [Act.put]
 refine wpAny_take (i := 7) (v := .string (s.extract 4 8)) rfl (by kernel_rfl) (by kernel_rfl) (by kernel_rfl) (fun _ _ _ h => h) (Or.inl ⟨by rfl, fun u => by go_simp⟩) ?_
 simp only [Act.put]
 refine wpAny_take (i := 10) (v := .string s) rfl (by kernel_rfl) (by kernel_rfl) (by kernel_rfl) (fun _ _ _ h => h) (Or.inl ⟨by rfl, fun u => by go_simp⟩) ?_
 simp only [Act.put]
 refine wpAny_take (i := 11) (v := .int .u8 ((s[8]'q8).toNat : Int)) rfl (by kernel_rfl) (by kernel_rfl) (by kernel_rfl) (fun _ _ _ h => h) (Or.inl ⟨by rfl, fun u => by go_simp⟩) ?_
 simp only [Act.put]
 refine wpAny_ready (rs := [8, 13]) (by kernel_rfl) (by simp) ?_
 refine AllReady.cons rfl (fun K hK => ?_) (AllReady.cons rfl (fun K hK => ?_) AllReady.nil)
 have HK := hide hK
 clear hK
 go_simp
 refine (value_any _ Z3 _).mono ?_
 rintro e w5 ⟨rfl, rfl⟩
 rw [c3.out]
 dsimp only
 refine HK.out _ _ ?_
 clear HK K
 refine wpAny_take (i := 9) (v := .int .u32 (vi : Int)) rfl (by kernel_rfl) (by kernel_rfl) (by kernel_rfl) (fun _ _ _ h => h) (Or.inl ⟨by rfl, fun u => by go_simp⟩) ?_
 simp only [Act.put]
 refine wpAny_take (i := 12) (v := .agg #[.int .u8 ((s[1]'q1).toNat : Int), .int .u8 ((s[2]'q2).toNat : Int), .int .u8 ((s[3]'q3).toNat : Int), .int .u32 (vi : Int), .int .u8 ((s[8]'q8).toNat : Int), .int .u16 0, .int .u16 0, .int .u32 0, .string ⟨#[]⟩]) rfl (by kernel_rfl) (by kernel_rfl) (by kernel_rfl) (fun _ _ _ h => h) (Or.inl ⟨by rfl, fun u => by go_simp⟩) ?_
 simp only [Act.put]
 refine wpAny_ready (rs := [13]) (by kernel_rfl) (by simp) ?_
 refine AllReady.cons rfl (fun K hK => ?_) AllReady.nil
 have HK := hide hK
 clear hK
 go_simp
 refine HK.out _ _ ?_
 clear HK K
 refine wpAny_ready (rs := [14]) (by kernel_rfl) (by simp) ?_
 refine AllReady.cons rfl (fun K hK => ?_) AllReady.nil
 have HK := hide hK
 clear hK
 go_simp
 refine HK.out _ _ ?_
 clear HK K
 refine wpAny_done (by kernel_rfl) ?_ _
 refine NoPanic.normal ?_
 rotate_left
 have HK := hide hK
 clear hK
 go_simp
 refine HK.out _ _ ?_
 clear HK K
 refine wpAny_ready (rs := [8]) (by kernel_rfl) (by simp) ?_
 refine AllReady.cons rfl (fun K hK => ?_) AllReady.nil
 have HK := hide hK
 clear hK
 go_simp
 refine (value_any _ Z3 _).mono ?_
 rintro e w5 ⟨rfl, rfl⟩
 rw [c3.out]
 dsimp only
 refine HK.out _ _ ?_
 clear HK K
 refine wpAny_take (i := 9) (v := .int .u32 (vi : Int)) rfl (by kernel_rfl) (by kernel_rfl) (by kernel_rfl) (fun _ _ _ h => h) (Or.inl ⟨by rfl, fun u => by go_simp⟩) ?_
 simp only [Act.put]
 refine wpAny_take (i := 12) (v := .agg #[.int .u8 ((s[1]'q1).toNat : Int), .int .u8 ((s[2]'q2).toNat : Int), .int .u8 ((s[3]'q3).toNat : Int), .int .u32 (vi : Int), .int .u8 ((s[8]'q8).toNat : Int), .int .u16 0, .int .u16 0, .int .u32 0, .string ⟨#[]⟩]) rfl (by kernel_rfl) (by kernel_rfl) (by kernel_rfl) (fun _ _ _ h => h) (Or.inl ⟨by rfl, fun u => by go_simp⟩) ?_
 simp only [Act.put]
 refine wpAny_ready (rs := [14]) (by kernel_rfl) (by simp) ?_
 refine AllReady.cons rfl (fun K hK => ?_) AllReady.nil
 have HK := hide hK
 clear hK
 go_simp
 refine HK.out _ _ ?_
 clear HK K
 refine wpAny_done (by kernel_rfl) ?_ _
 refine NoPanic.normal ?_
 all_goals
  clear c3 Z3 wi x1 x2 x3 x8;go_wp2_with fail
  refine (value_any _ Z4 _).mono ?_;rintro e w5 ⟨rfl, rfl⟩;rw [c4.out];clear c4 Z4;go_wp2_with fail
  refine (value_any _ Z5 _).mono ?_;rintro e w5 ⟨rfl, rfl⟩;rw [c5.out];clear c5 Z5;go_wp2_with fail
  refine (value_any _ Z6 _).mono ?_;rintro e w5 ⟨rfl, rfl⟩;rw [c6.out];clear c6 Z6;have s18 : (18 : Int) ≤ (s.size : Int) - 4 := by omega
  have s4 : (s.size : Int) - 4 ≤ (s.size : Int) := by omega
  go_wp2_with fail
  have B2 := Box.mk0 w1 #[Value.int .u8 ((s[1]'q1).toNat : Int), .int .u8 ((s[2]'q2).toNat : Int), .int .u8 ((s[3]'q3).toNat : Int), .int .u32 (vi : Int), .int .u8 ((s[8]'q8).toNat : Int), .int .u16 (vp : Int), .int .u16 (vg : Int), .int .u32 (va : Int), .string (s.extract 18 (s.size - 4))] 102;replace B1 := B1.alloc (.cells #[Value.int .u8 ((s[1]'q1).toNat : Int), .int .u8 ((s[2]'q2).toNat : Int), .int .u8 ((s[3]'q3).toNat : Int), .int .u32 (vi : Int), .int .u8 ((s[8]'q8).toNat : Int), .int .u16 (vp : Int), .int .u16 (vg : Int), .int .u32 (va : Int), .string (s.extract 18 (s.size - 4))] 102);generalize w1.alloc _ = w2 at B1 B2 ⊢;refine (HF.out _).mono ?_;rintro e w3 ⟨rfl, hb3⟩;replace B1 := B1.drew.below hb3;replace B2 := B2.drew.below hb3;have hc := B2.cell;have hc1 := B1.cell;have hf1 := B1.fro;clear HF hb3;by_cases f0 : fv = 0
  ·subst f0;go_wp2;exact bodyPost_ret (v := .tuple #[.agg #[Value.int .u8 ((s[1]'q1).toNat : Int), .int .u8 ((s[2]'q2).toNat : Int), .int .u8 ((s[3]'q3).toNat : Int), .int .u32 (vi : Int), .int .u8 ((s[8]'q8).toNat : Int), .int .u16 (vp : Int), .int .u16 (vg : Int), .int .u32 (va : Int), .string (s.extract 18 (s.size - 4))], .int .i64 0]) (by simp [results, Tryz.results99, go_sem, hc1]) rfl ⟨rfl, (((((((((B1.bel.setCell (Nat.le_refl _) _).setCell (Nat.le_refl _) _).setCell (Nat.le_refl _) _).setCell (Nat.le_refl _) _).setCell (Nat.le_refl _) _).setCell (Nat.le_refl _) _).setCell (Nat.le_refl _) _).setCell (Nat.le_refl _) _).setCell (Nat.le_refl _) _)⟩
  ·have d0 : ((fv : Int) != 0) = true := by simp; omega
   go_wp2;exact bodyPost_ret (v := .tuple #[.agg #[Value.int .u8 0, .int .u8 0, .int .u8 0, .int .u32 0, .int .u8 0, .int .u16 0, .int .u16 0, .int .u32 0, .string ⟨#[]⟩], .int .i64 (fv : Int)]) (by simp [results, Tryz.results99, go_sem, hc1]) rfl ⟨by first | rfl | rw [if_neg f0], (((((((((B1.bel.setCell (Nat.le_refl _) _).setCell (Nat.le_refl _) _).setCell (Nat.le_refl _) _).setCell (Nat.le_refl _) _).setCell (Nat.le_refl _) _).setCell (Nat.le_refl _) _).setCell (Nat.le_refl _) _).setCell (Nat.le_refl _) _).setCell (Nat.le_refl _) _)⟩
theorem refDecode_any (s : ByteArray) (hs : s.size ≤ 140737488351232) (w : World) :
  Calls Tryz.prog 99 #[.string s] w fun e w' => e = .returned (.tuple #[(decMsg s.data.toList).v, .int .i64 ((decErr s.data.toList : Nat) : Int)]) ∧ Below w.heap.size w w' := by
 by_cases h : 22 ≤ s.size
 ·have p0 : 0 < s.size := by omega
  have p17 : 17 < s.size := by omega
  have hl := list_len s;by_cases h0 : (s[0]'p0).toNat = 69
  ·by_cases h17 : s.size = 22 + (s[17]'p17).toNat
   ·have hf : formB s.data.toList = true := by
     simp [formB, at8_of s 0 p0, at8_of s 17 p17, h0, h, ← h17]
    by_cases hsum : val (cut s.data.toList (s.size - 4) s.size) = sumOf (cut s.data.toList 0 (s.size - 4))
    ·have hse : sealB s.data.toList = true := by simp only [sealB, hl]; simpa using hsum
     have he : decErr s.data.toList = faultOf (sayOf s.data.toList) := by simp [decErr, hf, hse]
     have hd : decMsg s.data.toList = if faultOf (sayOf s.data.toList) = 0 then sayOf s.data.toList else Msg.zero := by unfold decMsg; rw [he]
     rw [hd, he];have q1 : 1 < s.size := by omega
     have q2 : 2 < s.size := by omega
     have q3 : 3 < s.size := by omega
     have q8 : 8 < s.size := by omega
     have hok : (sayOf s.data.toList).ok := sayOf_ok (by rw [list_len]; exact h)
     have hml : (sayOf s.data.toList).m.length ≤ 140737488351232 := by
      have hm : (sayOf s.data.toList).m.length ≤ s.data.toList.length := by simp [sayOf, cut]; omega
      have hb := byte_lt (s[17]'p17);omega
     have hfa := refFault_any (sayOf s.data.toList) hok hml
     have hv : (sayOf s.data.toList).v = .agg #[Value.int .u8 ((s[1]'q1).toNat : Int), .int .u8 ((s[2]'q2).toNat : Int), .int .u8 ((s[3]'q3).toNat : Int), .int .u32 (val (cut s.data.toList 4 8) : Int), .int .u8 ((s[8]'q8).toNat : Int), .int .u16 (val (cut s.data.toList 9 11) : Int), .int .u16 (val (cut s.data.toList 11 13) : Int), .int .u32 (val (cut s.data.toList 13 17) : Int), .string (s.extract 18 (s.size - 4))] := by
      rw [say_of s h q1 q2 q3 q8];simp only [Msg.v, Msg.cells, bs_of]
     rw [hv] at hfa;have hd2 := refDecode_tail s h p0 p17 q1 q2 q3 q8 h0 h17 hsum _ _ _ _ _ rfl rfl rfl rfl hok.2.2.2.1 hok.2.2.2.2.2.1 hok.2.2.2.2.2.2.1 hok.2.2.2.2.2.2.2 hfa w
     have hif : (if faultOf (sayOf s.data.toList) = 0 then sayOf s.data.toList else Msg.zero).v = .agg (if faultOf (sayOf s.data.toList) = 0 then #[Value.int .u8 ((s[1]'q1).toNat : Int), .int .u8 ((s[2]'q2).toNat : Int), .int .u8 ((s[3]'q3).toNat : Int), .int .u32 (val (cut s.data.toList 4 8) : Int), .int .u8 ((s[8]'q8).toNat : Int), .int .u16 (val (cut s.data.toList 9 11) : Int), .int .u16 (val (cut s.data.toList 11 13) : Int), .int .u32 (val (cut s.data.toList 13 17) : Int), .string (s.extract 18 (s.size - 4))] else #[Value.int .u8 0, .int .u8 0, .int .u8 0, .int .u32 0, .int .u8 0, .int .u16 0, .int .u16 0, .int .u32 0, .string ⟨#[]⟩]) := by
      split
      ·exact hv
      ·exact zero_v
     rw [hif];exact hd2
    ·have hse : sealB s.data.toList = false := by simp only [sealB, hl]; simpa using hsum
     have he : decErr s.data.toList = 2 := by simp [decErr, hf, hse]
     have hd : decMsg s.data.toList = Msg.zero := by simp [decMsg, he]
     rw [hd, he];exact refDecode_sum s h p0 p17 h0 h17 hsum w
   ·have hf : formB s.data.toList = false := by
     simp only [formB, at8_of s 17 p17, hl];simp [h17]
    have he : decErr s.data.toList = 1 := by simp [decErr, hf]
    have hd : decMsg s.data.toList = Msg.zero := by simp [decMsg, he]
    rw [hd, he];exact refDecode_len s hs h p0 p17 h0 h17 w
  ·have hf : formB s.data.toList = false := by
    simp only [formB, at8_of s 0 p0];simp [h0]
   have he : decErr s.data.toList = 1 := by simp [decErr, hf]
   have hd : decMsg s.data.toList = Msg.zero := by simp [decMsg, he]
   rw [hd, he];exact refDecode_first s hs h p0 h0 w
 ·have hf : formB s.data.toList = false := by
   simp only [formB, list_len];simp [h]
  have he : decErr s.data.toList = 1 := by simp [decErr, hf]
  have hd : decMsg s.data.toList = Msg.zero := by simp [decMsg, he]
  rw [hd, he];exact refDecode_short s (by omega) w
def openX (a : Nat) (ac : List Ac) : Nat := if hasB a ac then 9 else if 16 ≤ ac.length then 10 else 0
def openLog (a b : Nat) (ac : List Ac) : List UInt8 := if openX a ac = 0 then openTextOf a b else []
def openAc (a b : Nat) (ac : List Ac) : List Ac := if openX a ac = 0 then ac ++ [⟨a, b⟩] else ac
theorem eOpen_any (a b : Nat) (ha : a < 65536) (hb32 : b < 4294967296) (w : World) (B node : Nat) (ac : List Ac) (ls : List Lg) (va vl : Value) (hX : XB w B node ac ls va vl) (hap : Apart B va vl) (hok : ∀ x, x ∈ ac → x.ok) (hlen : ac.length ≤ 1000000) :
  Calls Tryz.prog 19 #[.pointer (some ⟨B, 0, none⟩), .int .u16 (a : Int), .int .u32 (b : Int)] w fun e w' =>
   ∃ va', e = .returned (.tuple #[.string (bs (openLog a b ac)), .int .i64 (openX a ac : Int)]) ∧ XBTo w w' B node (openAc a b ac) ls va vl va' vl := by
 have hO := hide (xOpen_any a b ha hb32 w B node ac ls va vl hX hap hok hlen)
 have hc : ∀ o, _ = _ := fun o => cell_at hX.blk o
 go_enter Tryz.func19, Tryz.ntmps19
 go_wp2_with fail
 refine hO.out.mono ?_
 rintro e w1 ⟨va', h⟩
 clear hO
 by_cases h1 : hasB a ac = true
 ·rw [if_pos h1] at h;obtain ⟨rfl, h⟩ := h;have e1 : openX a ac = 9 := by simp [openX, h1]
  have e2 : openAc a b ac = ac := by simp [openAc, e1]
  replace e1 := hide e1;replace e2 := hide e2;clear h1;go_wp2;go_ret2;exact ⟨va', by unfold openLog; rw [e1.out]; rfl, by rw [e2.out]; exact h⟩
 ·rw [if_neg h1] at h;by_cases h2 : 16 ≤ ac.length
  ·rw [if_pos h2] at h;obtain ⟨rfl, h⟩ := h;have e1 : openX a ac = 10 := by simp [openX, h1, h2]
   have e2 : openAc a b ac = ac := by simp [openAc, e1]
   replace e1 := hide e1;replace e2 := hide e2;clear h1 h2;go_wp2;go_ret2;exact ⟨va', by unfold openLog; rw [e1.out]; rfl, by rw [e2.out]; exact h⟩
  ·rw [if_neg h2] at h;obtain ⟨rfl, h⟩ := h;have e1 : openX a ac = 0 := by simp [openX, h1, h2]
   have e2 : openAc a b ac = ac ++ [⟨a, b⟩] := by simp [openAc, e1]
   replace e1 := hide e1;replace e2 := hide e2;clear h1 h2;go_wp2;go_ret2;exact ⟨va', by unfold openLog; rw [e1.out]; rfl, by rw [e2.out]; exact h⟩
theorem eLeg_any (id l : Nat) (hid : id < 4294967296) (hl : l < 256) (w : World) (B node : Nat) (ac : List Ac) (ls : List Lg) (va vl : Value) (hX : XB w B node ac ls va vl) (hok : ∀ x, x ∈ ls → x.ok) (hst : ∀ x, x ∈ ls → 1 ≤ x.st) (hlen : ls.length ≤ 1000000) :
  Calls Tryz.prog 47 #[.pointer (some ⟨B, 0, none⟩), .int .u32 (id : Int), .int .u8 (l : Int)] w fun e w' => (e = match ls[findB id l ls]? with | none => .returned (.tuple #[.int .u8 0, .int .i64 13]) | some x => .returned (.tuple #[.int .u8 (x.st : Int), .int .i64 0])) ∧ Below w.heap.size w w' := by
 have hO := hide (xLeg_any id l hid hl w B node ac ls va vl hX hok hst hlen)
 have hc : ∀ o, _ = _ := fun o => cell_at hX.blk o
 generalize ls[findB id l ls]? = R at *
 cases R with
 | none =>
  simp only at *;go_enter Tryz.func47, Tryz.ntmps47;go_wp2_with fail
  refine hO.out.mono ?_;rintro e w1 ⟨rfl, hb⟩;clear hO;go_wp2;go_ret2;exact ⟨rfl, hb⟩
 | some x =>
  obtain ⟨ei, el, es, ep, eg, ea, em⟩ := x;simp only at *;go_enter Tryz.func47, Tryz.ntmps47;go_wp2_with fail
  refine hO.out.mono ?_;rintro e w1 ⟨rfl, hb⟩;clear hO;go_wp2;go_ret2;exact ⟨rfl, hb⟩
theorem eFunds_any (a : Nat) (ha : a < 65536) (w : World) (B node : Nat) (ac : List Ac) (ls : List Lg) (va vl : Value) (hX : XB w B node ac ls va vl) (hoka : ∀ x, x ∈ ac → x.ok) (hokl : ∀ x, x ∈ ls → x.ok) (hlena : ac.length ≤ 1000000) (hlenl : ls.length ≤ 1000000)
  (hh : heldL a ls < 4294967296) (hd : dueL a ls < 4294967296) :
  Calls Tryz.prog 15 #[.pointer (some ⟨B, 0, none⟩), .int .u16 (a : Int)] w fun e w' => (e = if hasB a ac then .returned (.tuple #[.agg #[.int .u32 (balL a ac : Int), .int .u32 (heldL a ls : Int), .int .u32 (dueL a ls : Int)], .int .i64 0]) else .returned (.tuple #[.agg #[.int .u32 0, .int .u32 0, .int .u32 0], .int .i64 8])) ∧ Below w.heap.size w w' := by
 have hO := hide (fun u (hu : XB u B node ac ls va vl) => xFunds_any a ha u B node ac ls va vl hu hoka hokl hlena hlenl hh hd)
 generalize hasB a ac = hb at *
 generalize balL a ac = bl at *
 generalize heldL a ls = hl at *
 generalize dueL a ls = dl at *
 have main : ∀ (x y z er : Nat) (R : Ending), (∀ u, XB u B node ac ls va vl → Calls Tryz.prog 32 #[.pointer (some ⟨B, 0, none⟩), .int .u16 (a : Int)] u fun e w' => e = .returned (.tuple #[.agg #[.int .u32 (x : Int), .int .u32 (y : Int), .int .u32 (z : Int)], .int .i64 (er : Int)]) ∧ Below u.heap.size u w') → R = .returned (.tuple #[.agg #[.int .u32 (x : Int), .int .u32 (y : Int), .int .u32 (z : Int)], .int .i64 (er : Int)]) → Calls Tryz.prog 15 #[.pointer (some ⟨B, 0, none⟩), .int .u16 (a : Int)] w fun e w' => e = R ∧ Below w.heap.size w w' := by
  intro x y z er R hC hRR;subst hRR;replace hC := hide hC;clear hO;have hc : ∀ o, _ = _ := fun o => cell_at hX.blk o;have hBl := hX.lt;go_enter Tryz.func15, Tryz.ntmps15;go_wp2_with fail
  refine (hC.out _ (hX.below ((Below.refl _ _).alloc (Nat.le_refl _) _))).mono ?_;rintro e w2 ⟨rfl, hb2⟩;have hc2 := fun o => cel_kept hb2 o;have hf2 := fun o => fro_kept hb2 o;have hlt := lt_kept hb2;have hP := putL_whole [.int .u32 (x : Int), .int .u32 (y : Int), .int .u32 (z : Int)] (blk_kept hb2) rfl;have hB := (all_kept hb2).trans ((putL_kept [.int .u32 (x : Int), .int .u32 (y : Int), .int .u32 (z : Int)] w2 w.heap.size 0).below (all_kept hb2).size (fun k e => by omega));clear hC hb2 hc;go_wp2;have hc3 := fun o => cell_at hP o;simp only [putL] at hc3 hB;generalize World.setCell _ _ _ = u at *;exact bodyPost_ret (v := .tuple #[.agg #[.int .u32 (x : Int), .int .u32 (y : Int), .int .u32 (z : Int)], .int .i64 (er : Int)]) (by simp [results, Tryz.results15, go_sem, hc3]) rfl ⟨rfl, hB⟩
 cases hb with
 | true => exact main bl hl dl 0 _ hO.out rfl
 | false => exact main 0 0 0 8 _ hO.out rfl
def NewOf (n : Nat) (w : World) (e : Ending) (w' : World) : Prop := ∃ B, w.heap.size ≤ B ∧ e = .returned (.tuple #[.pointer (some ⟨B, 0, none⟩), .int .i64 0]) ∧ XB w' B n [] [] (.slice none 0 0) (.slice none 0 0)
theorem newBank_any (n : Nat) (hn : n < 256) (w : World) :
  Calls Tryz.prog 18 #[.int .u8 (n : Int)] w fun e w' => (if bankB n then NewOf n w e w' else e = .returned (.tuple #[.pointer none, .int .i64 4])) ∧ Below w.heap.size w w' := by
 have hI := hide (fun u => new_any n hn u)
 generalize bankB n = bb at *
 cases bb with
 | true =>
  simp only [if_true] at *;go_enter Tryz.func18, Tryz.ntmps18;go_wp2_with fail
  refine (hI.out _).mono ?_;rintro e w1 ⟨rfl, hb⟩;clear hI;go_wp2;go_ret2;refine ⟨⟨w1.heap.size + 1, by have := hb.size; omega, rfl, ⟨?_, RowOf.nil _ _, RowOf.nil _ _⟩⟩, (hb.alloc hb.size _).alloc (by simp; have := hb.size; omega) _⟩;refine ty_of (T := 92) ?_;rw [show w1.heap.size + 1 = (w1.alloc (.cells #[.int .u8 (n : Int), .slice none 0 0, .slice none 0 0] 90)).heap.size from by simp];exact heap_alloc_self _ _
 | false =>
  simp only [Bool.false_eq_true, if_false] at *;go_enter Tryz.func18, Tryz.ntmps18;go_wp2_with fail
  refine (hI.out _).mono ?_;rintro e w1 ⟨rfl, hb⟩;clear hI;go_wp2;go_ret2;exact ⟨rfl, hb.alloc hb.size _⟩
end Go.Proofs.YtjkhbjgfoopomabGreat
