import Derived.Test.YtjkhbjgfoopomaaGreatG10
import Derived.Deep.RegionHeld3
/-
  The walk over Decode, the code's: where the form and the checksum hold.
-/
namespace Go.Proofs.YtjkhbjgfoopomaaGreat
open Go.RowKit
set_option linter.unusedVariables false

theorem say_of (s : ByteArray) (h : 22 ≤ s.size) (q1 : 1 < s.size) (q2 : 2 < s.size) (q3 : 3 < s.size) (q8 : 8 < s.size) :
    sayOf s.data.toList = ⟨(s[1]'q1).toNat, (s[2]'q2).toNat, (s[3]'q3).toNat, val (cut s.data.toList 4 8), (s[8]'q8).toNat, val (cut s.data.toList 9 11), val (cut s.data.toList 11 13), val (cut s.data.toList 13 17), (s.extract 18 (s.size - 4)).data.toList⟩ := by
  rw [cut_of, ← at8_of s 1 q1, ← at8_of s 2 q2, ← at8_of s 3 q3, ← at8_of s 8 q8]
  unfold sayOf
  rw [list_len]
set_option maxRecDepth 100000 in
set_option maxHeartbeats 1000000 in
theorem decode_tail (s : ByteArray) (h : 22 ≤ s.size) (p0 : 0 < s.size) (p17 : 17 < s.size) (q1 : 1 < s.size) (q2 : 2 < s.size) (q3 : 3 < s.size) (q8 : 8 < s.size) (h0 : (s[0]'p0).toNat = 69) (h17 : s.size = 22 + (s[17]'p17).toNat)
    (hsum : val (cut s.data.toList (s.size - 4) s.size) = sumOf (cut s.data.toList 0 (s.size - 4))) (vi vp vg va fv : Nat) (e3 : val (cut s.data.toList 4 8) = vi) (e4 : val (cut s.data.toList 9 11) = vp) (e5 : val (cut s.data.toList 11 13) = vg) (e6 : val (cut s.data.toList 13 17) = va)
    (b3 : vi < 4294967296) (b4 : vp < 65536) (b5 : vg < 65536) (b6 : va < 4294967296)
    (hfault : ∀ u : World, Calls Tryz.prog 110 #[.agg #[Value.int .u8 ((s[1]'q1).toNat : Int), .int .u8 ((s[2]'q2).toNat : Int), .int .u8 ((s[3]'q3).toNat : Int), .int .u32 (vi : Int), .int .u8 ((s[8]'q8).toNat : Int), .int .u16 (vp : Int), .int .u16 (vg : Int), .int .u32 (va : Int), .string (s.extract 18 (s.size - 4))]] u fun e u' => e = .returned (.int .i64 (fv : Int)) ∧ Below u.heap.size u u') (w : World) :
    Calls Tryz.prog 87 #[.string s] w fun e w' => e = .returned (.tuple #[.agg (if fv = 0 then #[Value.int .u8 ((s[1]'q1).toNat : Int), .int .u8 ((s[2]'q2).toNat : Int), .int .u8 ((s[3]'q3).toNat : Int), .int .u32 (vi : Int), .int .u8 ((s[8]'q8).toNat : Int), .int .u16 (vp : Int), .int .u16 (vg : Int), .int .u32 (va : Int), .string (s.extract 18 (s.size - 4))] else #[Value.int .u8 0, .int .u8 0, .int .u8 0, .int .u32 0, .int .u8 0, .int .u16 0, .int .u16 0, .int .u32 0, .string ⟨#[]⟩]), .int .i64 (fv : Int)]) ∧ Below w.heap.size w w' := by
  have HF := hide hfault
  clear hfault
  have hb := byte_lt (s[17]'p17)
  have d0 : decide ((s.size : Int) < 22) = false := by simp; omega
  have d1 : (((s[0]'p0).toNat : Int) != 69) = false := by simp; omega
  have hsz : s.size ≤ 277 := by omega
  have d2 : ((s.size : Int) != (22 : Int) + ((s[17]'p17).toNat : Int)) = false := by simp; omega
  have z1 := ext_size s 0 (s.size - 4) (by omega)
  have z2 := ext_size s (s.size - 4) s.size (by omega)
  have z3 := ext_size s 4 8 (by omega)
  have z4 := ext_size s 9 11 (by omega)
  have z5 := ext_size s 11 13 (by omega)
  have z6 := ext_size s 13 17 (by omega)
  have c1 := hide (cut_of s 0 (s.size - 4))
  have c2 := hide (cut_of s (s.size - 4) s.size)
  have c3 : Hid (val (s.extract 4 8).data.toList = vi) := hide (by rw [cut_of]; exact e3)
  have c4 : Hid (val (s.extract 9 11).data.toList = vp) := hide (by rw [cut_of]; exact e4)
  have c5 : Hid (val (s.extract 11 13).data.toList = vg) := hide (by rw [cut_of]; exact e5)
  have c6 : Hid (val (s.extract 13 17).data.toList = va) := hide (by rw [cut_of]; exact e6)
  have Z1 : (s.extract 0 (s.size - 4)).size ≤ maxLen := by rw [z1]; unfold maxLen; omega
  have Z2 : (s.extract (s.size - 4) s.size).size ≤ 8 := by rw [z2]; omega
  have Z3 : (s.extract 4 8).size ≤ 8 := by rw [z3]; omega
  have Z4 : (s.extract 9 11).size ≤ 8 := by rw [z4]; omega
  have Z5 : (s.extract 11 13).size ≤ 8 := by rw [z5]; omega
  have Z6 : (s.extract 13 17).size ≤ 8 := by rw [z6]; omega
  have d3 : ((val (cut s.data.toList (s.size - 4) s.size) : Int) != (sumOf (cut s.data.toList 0 (s.size - 4)) : Int)) = false := by simp [hsum]
  clear h0 h17 hsum e3 e4 e5 e6 z1 z2 z3 z4 z5 z6
  go_enter Tryz.func87, Tryz.ntmps87
  go_wp2_with fail
  refine (size_at s (by unfold maxLen; omega) p17 _).mono ?_
  rintro e w1 ⟨rfl, rfl⟩
  go_wp2_with fail
  refine (frameSum_any _ Z1 _).mono ?_
  rintro e w1 ⟨rfl, rfl⟩
  rw [c1.out]
  go_wp2_with fail
  refine (number_any _ Z2 _).mono ?_
  rintro e w1 ⟨rfl, rfl⟩
  rw [c2.out]
  clear c1 c2 Z1 Z2
  have y32 := sumOf_lt (cut s.data.toList 0 (s.size - 4))
  generalize val (cut s.data.toList (s.size - 4) s.size) = x at *
  generalize sumOf (cut s.data.toList 0 (s.size - 4)) = y at *
  have wy : IntKind.u64.wrap (y : Int) = (y : Int) := by rw [IntKind.wrap_u64]; omega
  go_wp2_with fail
  refine (number_any _ Z3 _).mono ?_
  rintro e w1 ⟨rfl, rfl⟩
  rw [c3.out]
  clear c3 Z3
  go_wp2_with fail
  refine (number_any _ Z4 _).mono ?_
  rintro e w1 ⟨rfl, rfl⟩
  rw [c4.out]
  clear c4 Z4
  go_wp2_with fail
  refine (number_any _ Z5 _).mono ?_
  rintro e w1 ⟨rfl, rfl⟩
  rw [c5.out]
  clear c5 Z5
  go_wp2_with fail
  refine (number_any _ Z6 _).mono ?_
  rintro e w1 ⟨rfl, rfl⟩
  rw [c6.out]
  clear c6 Z6
  have s18 : (18 : Int) ≤ (s.size : Int) - 4 := by omega
  have s4 : (s.size : Int) - 4 ≤ (s.size : Int) := by omega
  have wp : IntKind.u16.wrap (vp : Int) = (vp : Int) := by rw [IntKind.wrap_u16]; omega
  have wi : IntKind.u32.wrap (vi : Int) = (vi : Int) := by rw [IntKind.wrap_u32]; omega
  have wa : IntKind.u32.wrap (va : Int) = (va : Int) := by rw [IntKind.wrap_u32]; omega
  have wg : IntKind.u16.wrap (vg : Int) = (vg : Int) := by rw [IntKind.wrap_u16]; omega
  go_wp2_with fail
  clear d0 d1 d2 d3
  have B1 := Box.mk0 w #[Value.int .u8 0, .int .u8 0, .int .u8 0, .int .u32 0, .int .u8 0, .int .u16 0, .int .u16 0, .int .u32 0, .string ⟨#[]⟩] 40
  generalize w.alloc _ = w1 at B1 ⊢
  have i1 : (1 : Int) < (s.size : Int) := by omega
  have i2 : (2 : Int) < (s.size : Int) := by omega
  have i3 : (3 : Int) < (s.size : Int) := by omega
  have i8 : (8 : Int) < (s.size : Int) := by omega
  go_region
  have B2 := Box.mk0 w1 #[Value.int .u8 ((s[1]'q1).toNat : Int), .int .u8 ((s[2]'q2).toNat : Int), .int .u8 ((s[3]'q3).toNat : Int), .int .u32 (vi : Int), .int .u8 ((s[8]'q8).toNat : Int), .int .u16 (vp : Int), .int .u16 (vg : Int), .int .u32 (va : Int), .string (s.extract 18 (s.size - 4))] 40
  replace B1 := B1.alloc (.cells #[Value.int .u8 ((s[1]'q1).toNat : Int), .int .u8 ((s[2]'q2).toNat : Int), .int .u8 ((s[3]'q3).toNat : Int), .int .u32 (vi : Int), .int .u8 ((s[8]'q8).toNat : Int), .int .u16 (vp : Int), .int .u16 (vg : Int), .int .u32 (va : Int), .string (s.extract 18 (s.size - 4))] 40)
  generalize w1.alloc _ = w2 at B1 B2 ⊢
  have hc := B2.cell
  go_wp2_with fail
  refine (HF.out _).mono ?_
  rintro e w3 ⟨rfl, hb3⟩
  replace B1 := B1.drew.below hb3
  replace B2 := B2.drew.below hb3
  replace hc := B2.cell
  have hc1 := B1.cell
  have hf1 := B1.fro
  clear HF hb3
  by_cases f0 : fv = 0
  · subst f0
    go_wp2
    exact bodyPost_ret (v := .tuple #[.agg #[Value.int .u8 ((s[1]'q1).toNat : Int), .int .u8 ((s[2]'q2).toNat : Int), .int .u8 ((s[3]'q3).toNat : Int), .int .u32 (vi : Int), .int .u8 ((s[8]'q8).toNat : Int), .int .u16 (vp : Int), .int .u16 (vg : Int), .int .u32 (va : Int), .string (s.extract 18 (s.size - 4))], .int .i64 0]) (by simp [results, Tryz.results87, go_sem, hc1]) rfl ⟨rfl, (((((((((B1.bel.setCell (Nat.le_refl _) _).setCell (Nat.le_refl _) _).setCell (Nat.le_refl _) _).setCell (Nat.le_refl _) _).setCell (Nat.le_refl _) _).setCell (Nat.le_refl _) _).setCell (Nat.le_refl _) _).setCell (Nat.le_refl _) _).setCell (Nat.le_refl _) _)⟩
  · have d0 : ((fv : Int) != 0) = true := by simp; omega
    go_wp2
    exact bodyPost_ret (v := .tuple #[.agg #[Value.int .u8 0, .int .u8 0, .int .u8 0, .int .u32 0, .int .u8 0, .int .u16 0, .int .u16 0, .int .u32 0, .string ⟨#[]⟩], .int .i64 (fv : Int)]) (by simp [results, Tryz.results87, go_sem, hc1]) rfl ⟨by first | rfl | rw [if_neg f0], (((((((((B1.bel.setCell (Nat.le_refl _) _).setCell (Nat.le_refl _) _).setCell (Nat.le_refl _) _).setCell (Nat.le_refl _) _).setCell (Nat.le_refl _) _).setCell (Nat.le_refl _) _).setCell (Nat.le_refl _) _).setCell (Nat.le_refl _) _).setCell (Nat.le_refl _) _)⟩
theorem decode_any (s : ByteArray) (hs : s.size ≤ maxLen) (w : World) :
    Calls Tryz.prog 87 #[.string s] w fun e w' => e = .returned (.tuple #[(decMsg s.data.toList).v, .int .i64 ((decErr s.data.toList : Nat) : Int)]) ∧ Below w.heap.size w w' := by
  by_cases h : 22 ≤ s.size
  · have p0 : 0 < s.size := by omega
    have p17 : 17 < s.size := by omega
    have hl := list_len s
    by_cases h0 : (s[0]'p0).toNat = 69
    · by_cases h17 : s.size = 22 + (s[17]'p17).toNat
      · have hf : formB s.data.toList = true := by
          simp [formB, at8_of s 0 p0, at8_of s 17 p17, h0, h, ← h17]
        by_cases hsum : val (cut s.data.toList (s.size - 4) s.size) = sumOf (cut s.data.toList 0 (s.size - 4))
        · have hse : sealB s.data.toList = true := by simp only [sealB, hl]; simpa using hsum
          have he : decErr s.data.toList = faultOf (sayOf s.data.toList) := by simp [decErr, hf, hse]
          have hd : decMsg s.data.toList = if faultOf (sayOf s.data.toList) = 0 then sayOf s.data.toList else Msg.zero := by unfold decMsg; rw [he]
          rw [hd, he]
          have q1 : 1 < s.size := by omega
          have q2 : 2 < s.size := by omega
          have q3 : 3 < s.size := by omega
          have q8 : 8 < s.size := by omega
          have hok : (sayOf s.data.toList).ok := sayOf_ok (by rw [list_len]; exact h)
          have hml : (sayOf s.data.toList).m.length ≤ 140737488351232 := by
            have hm : (sayOf s.data.toList).m.length ≤ s.data.toList.length := by simp [sayOf, cut]; omega
            have hb := byte_lt (s[17]'p17)
            omega
          have hfa := fault_any (sayOf s.data.toList) hok hml
          have hv : (sayOf s.data.toList).v = .agg #[Value.int .u8 ((s[1]'q1).toNat : Int), .int .u8 ((s[2]'q2).toNat : Int), .int .u8 ((s[3]'q3).toNat : Int), .int .u32 (val (cut s.data.toList 4 8) : Int), .int .u8 ((s[8]'q8).toNat : Int), .int .u16 (val (cut s.data.toList 9 11) : Int), .int .u16 (val (cut s.data.toList 11 13) : Int), .int .u32 (val (cut s.data.toList 13 17) : Int), .string (s.extract 18 (s.size - 4))] := by
            rw [say_of s h q1 q2 q3 q8]
            simp only [Msg.v, Msg.cells, bs_of]
          rw [hv] at hfa
          have hd2 := decode_tail s h p0 p17 q1 q2 q3 q8 h0 h17 hsum _ _ _ _ _ rfl rfl rfl rfl hok.2.2.2.1 hok.2.2.2.2.2.1 hok.2.2.2.2.2.2.1 hok.2.2.2.2.2.2.2 hfa w
          have hif : (if faultOf (sayOf s.data.toList) = 0 then sayOf s.data.toList else Msg.zero).v = .agg (if faultOf (sayOf s.data.toList) = 0 then #[Value.int .u8 ((s[1]'q1).toNat : Int), .int .u8 ((s[2]'q2).toNat : Int), .int .u8 ((s[3]'q3).toNat : Int), .int .u32 (val (cut s.data.toList 4 8) : Int), .int .u8 ((s[8]'q8).toNat : Int), .int .u16 (val (cut s.data.toList 9 11) : Int), .int .u16 (val (cut s.data.toList 11 13) : Int), .int .u32 (val (cut s.data.toList 13 17) : Int), .string (s.extract 18 (s.size - 4))] else #[Value.int .u8 0, .int .u8 0, .int .u8 0, .int .u32 0, .int .u8 0, .int .u16 0, .int .u16 0, .int .u32 0, .string ⟨#[]⟩]) := by
            split
            · exact hv
            · exact zero_v
          rw [hif]
          exact hd2
        · have hse : sealB s.data.toList = false := by simp only [sealB, hl]; simpa using hsum
          have he : decErr s.data.toList = 2 := by simp [decErr, hf, hse]
          have hd : decMsg s.data.toList = Msg.zero := by simp [decMsg, he]
          rw [hd, he]
          exact decode_sum s h p0 p17 h0 h17 hsum w
      · have hf : formB s.data.toList = false := by
          simp only [formB, at8_of s 17 p17, hl]
          simp [h17]
        have he : decErr s.data.toList = 1 := by simp [decErr, hf]
        have hd : decMsg s.data.toList = Msg.zero := by simp [decMsg, he]
        rw [hd, he]
        exact decode_len s hs h h0 h17 w
    · have hf : formB s.data.toList = false := by
        simp only [formB, at8_of s 0 p0]
        simp [h0]
      have he : decErr s.data.toList = 1 := by simp [decErr, hf]
      have hd : decMsg s.data.toList = Msg.zero := by simp [decMsg, he]
      rw [hd, he]
      exact decode_first s hs h h0 w
  · have hf : formB s.data.toList = false := by
      simp only [formB, list_len]
      simp [h]
    have he : decErr s.data.toList = 1 := by simp [decErr, hf]
    have hd : decMsg s.data.toList = Msg.zero := by simp [decMsg, he]
    rw [hd, he]
    exact decode_short s (by omega) w
end Go.Proofs.YtjkhbjgfoopomaaGreat
