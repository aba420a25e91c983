import Derived.Test.YtjkhbjgfoopomaaGreatG9
import Derived.Test.YtjkhbjgfoopomaaGreatG6
import Derived.Deep.RegionHeld3
/-
  The walk over Decode, the code's.
-/
namespace Go.Proofs.YtjkhbjgfoopomaaGreat
open Go.RowKit
set_option linter.unusedVariables false

theorem at8_of (s : ByteArray) (k : Nat) (h : k < s.size) : at8 s.data.toList k = s[k].toNat := by
  unfold at8
  rw [List.getD_eq_getElem?_getD, get_q s k h]
  rfl
theorem cut_of (s : ByteArray) (a b : Nat) : (s.extract a b).data.toList = cut s.data.toList a b := Lib.extract_data s a b

theorem zero_v : Msg.zero.v = .agg #[.int .u8 0, .int .u8 0, .int .u8 0, .int .u32 0, .int .u8 0, .int .u16 0, .int .u16 0, .int .u32 0, .string ⟨#[]⟩] := rfl
set_option maxRecDepth 100000 in
set_option maxHeartbeats 400000 in
theorem size_at (s : ByteArray) (hs : s.size ≤ maxLen) (p17 : 17 < s.size) (w : World) :
    Calls Tryz.prog 113 #[.string s] w fun e w' => e = .returned (.int .i64 (22 + ((s[17]'p17).toNat : Int))) ∧ w' = w := by
  have d0 : decide ((s.size : Int) ≤ 17) = false := by simp; omega
  have i17 : (17 : Int) < (s.size : Int) := by omega
  have hb := byte_lt (s[17]'p17)
  go_enter Tryz.func113, Tryz.ntmps113
  go_wp2
  go_ret
  exact ⟨rfl, rfl⟩
set_option maxRecDepth 100000 in
set_option maxHeartbeats 400000 in
theorem decode_short (s : ByteArray) (h : s.size < 22) (w : World) :
    Calls Tryz.prog 87 #[.string s] w fun e w' => e = .returned (.tuple #[Msg.zero.v, .int .i64 1]) ∧ Below w.heap.size w w' := by
  rw [zero_v]
  go_enter Tryz.func87, Tryz.ntmps87
  go_wp2
  exact bodyPost_ret (v := .tuple #[.agg #[.int .u8 0, .int .u8 0, .int .u8 0, .int .u32 0, .int .u8 0, .int .u16 0, .int .u16 0, .int .u32 0, .string ⟨#[]⟩], .int .i64 1]) (by simp [results, Tryz.results87, go_sem]) rfl ⟨rfl, (Below.refl _ _).alloc (Nat.le_refl _) _⟩
set_option maxRecDepth 100000 in
set_option maxHeartbeats 400000 in
theorem decode_first (s : ByteArray) (hs : s.size ≤ maxLen) (h : 22 ≤ s.size) (h0 : ¬ s[0].toNat = 69) (w : World) :
    Calls Tryz.prog 87 #[.string s] w fun e w' => e = .returned (.tuple #[Msg.zero.v, .int .i64 1]) ∧ Below w.heap.size w w' := by
  rw [zero_v]
  have d0 : decide ((s.size : Int) < 22) = false := by simp; omega
  have d1 : ((s[0].toNat : Int) != 69) = true := by simp; omega
  have p0 : 0 < s.size := by omega
  go_enter Tryz.func87, Tryz.ntmps87
  go_wp2
  exact bodyPost_ret (v := .tuple #[.agg #[.int .u8 0, .int .u8 0, .int .u8 0, .int .u32 0, .int .u8 0, .int .u16 0, .int .u16 0, .int .u32 0, .string ⟨#[]⟩], .int .i64 1]) (by simp [results, Tryz.results87, go_sem]) rfl ⟨rfl, (Below.refl _ _).alloc (Nat.le_refl _) _⟩
set_option maxRecDepth 100000 in
set_option maxHeartbeats 400000 in
theorem decode_len (s : ByteArray) (hs : s.size ≤ maxLen) (h : 22 ≤ s.size) (h0 : s[0].toNat = 69) (h17 : ¬ s.size = 22 + s[17].toNat) (w : World) :
    Calls Tryz.prog 87 #[.string s] w fun e w' => e = .returned (.tuple #[Msg.zero.v, .int .i64 1]) ∧ Below w.heap.size w w' := by
  rw [zero_v]
  have d0 : decide ((s.size : Int) < 22) = false := by simp; omega
  have d1 : ((s[0].toNat : Int) != 69) = false := by simp; omega
  have p0 : 0 < s.size := by omega
  have p17 : 17 < s.size := by omega
  have hb := byte_lt s[17]
  have d2 : ((s.size : Int) != 22 + (s[17].toNat : Int)) = true := by simp; omega
  clear h0
  go_enter Tryz.func87, Tryz.ntmps87
  go_wp2_with fail
  refine (size_at s hs p17 _).mono ?_
  rintro e w1 ⟨rfl, rfl⟩
  go_wp2
  exact bodyPost_ret (v := .tuple #[.agg #[.int .u8 0, .int .u8 0, .int .u8 0, .int .u32 0, .int .u8 0, .int .u16 0, .int .u16 0, .int .u32 0, .string ⟨#[]⟩], .int .i64 1]) (by simp [results, Tryz.results87, go_sem]) rfl ⟨rfl, (Below.refl _ _).alloc (Nat.le_refl _) _⟩
theorem ext_size (s : ByteArray) (a b : Nat) (h : b ≤ s.size) : (s.extract a b).size = b - a := by
  rw [← list_len, cut_of, cut_length (by rw [list_len]; exact h)]
set_option maxRecDepth 100000 in
set_option maxHeartbeats 400000 in
theorem decode_sum (s : ByteArray) (h : 22 ≤ s.size) (p0 : 0 < s.size) (p17 : 17 < s.size) (h0 : (s[0]'p0).toNat = 69) (h17 : s.size = 22 + (s[17]'p17).toNat) (hsum : ¬ val (cut s.data.toList (s.size - 4) s.size) = sumOf (cut s.data.toList 0 (s.size - 4))) (w : World) :
    Calls Tryz.prog 87 #[.string s] w fun e w' => e = .returned (.tuple #[Msg.zero.v, .int .i64 2]) ∧ Below w.heap.size w w' := by
  rw [zero_v]
  have hb := byte_lt (s[17]'p17)
  have d0 : decide ((s.size : Int) < 22) = false := by simp; omega
  have d1 : (((s[0]'p0).toNat : Int) != 69) = false := by simp; omega
  have hsz : s.size ≤ 277 := by omega
  have d2 : ((s.size : Int) != (22 : Int) + ((s[17]'p17).toNat : Int)) = false := by simp; omega
  have z1 := ext_size s 0 (s.size - 4) (by omega)
  have z2 := ext_size s (s.size - 4) s.size (by omega)
  have c1 := hide (cut_of s 0 (s.size - 4))
  have c2 := hide (cut_of s (s.size - 4) s.size)
  have Z1 : (s.extract 0 (s.size - 4)).size ≤ maxLen := by rw [z1]; unfold maxLen; omega
  have Z2 : (s.extract (s.size - 4) s.size).size ≤ 8 := by rw [z2]; omega
  have d3 : ((val (cut s.data.toList (s.size - 4) s.size) : Int) != (sumOf (cut s.data.toList 0 (s.size - 4)) : Int)) = true := by simpa using fun e => hsum (by omega)
  clear h0 h17 hsum z1 z2
  go_enter Tryz.func87, Tryz.ntmps87
  go_wp2_with fail
  refine (size_at s (by unfold maxLen; omega) p17 _).mono ?_
  rintro e w1 ⟨rfl, rfl⟩
  go_wp2_with fail
  refine (frameSum_any _ Z1 _).mono ?_
  rintro e w1 ⟨rfl, rfl⟩
  rw [c1.out]
  go_wp2_with fail
  refine (number_any _ Z2 _).mono ?_
  rintro e w1 ⟨rfl, rfl⟩
  rw [c2.out]
  have y32 := sumOf_lt (cut s.data.toList 0 (s.size - 4))
  generalize val (cut s.data.toList (s.size - 4) s.size) = x at *
  generalize sumOf (cut s.data.toList 0 (s.size - 4)) = y at *
  have wy : IntKind.u64.wrap (y : Int) = (y : Int) := by rw [IntKind.wrap_u64]; omega
  go_wp2
  exact bodyPost_ret (v := .tuple #[.agg #[.int .u8 0, .int .u8 0, .int .u8 0, .int .u32 0, .int .u8 0, .int .u16 0, .int .u16 0, .int .u32 0, .string ⟨#[]⟩], .int .i64 2]) (by simp [results, Tryz.results87, go_sem]) rfl ⟨rfl, (Below.refl _ _).alloc (Nat.le_refl _) _⟩
end Go.Proofs.YtjkhbjgfoopomaaGreat
/-
  The walk over Decode, the document's.
-/
namespace Go.Proofs.YtjkhbjgfoopomaaGreat
open Go.RowKit
set_option linter.unusedVariables false

set_option maxRecDepth 100000 in
set_option maxHeartbeats 400000 in
theorem refDecode_short (s : ByteArray) (h : s.size < 22) (w : World) :
    Calls Tryz.prog 53 #[.string s] w fun e w' => e = .returned (.tuple #[Msg.zero.v, .int .i64 1]) ∧ Below w.heap.size w w' := by
  rw [zero_v]
  have d0 : decide ((s.size : Int) < 22) = true := by simp; omega
  go_enter Tryz.func53, Tryz.ntmps53
  go_wp2
  exact bodyPost_ret (v := .tuple #[.agg #[.int .u8 0, .int .u8 0, .int .u8 0, .int .u32 0, .int .u8 0, .int .u16 0, .int .u16 0, .int .u32 0, .string ⟨#[]⟩], .int .i64 1]) (by simp [results, Tryz.results53, go_sem]) rfl ⟨rfl, (Below.refl _ _).alloc (Nat.le_refl _) _⟩
theorem ext_one (s : ByteArray) (p0 : 0 < s.size) : (s.extract 0 1).toList = [s[0]'p0] := by
  rw [ByteArray.toList_eq, cut_of]
  apply List.ext_getElem?
  intro i
  cases i with
  | zero =>
    have := get_q s 0 p0
    simp only [cut, List.drop_zero]
    rw [List.getElem?_take_of_lt (by decide), this]
    rfl
  | succ i =>
    rw [List.getElem?_eq_none (by simp [cut]; omega)]
    simp
theorem byte_E (b : UInt8) : ([b] == [69]) = decide (b.toNat = 69) := by
  rw [Bool.eq_iff_iff]
  simp
  exact ⟨fun h => by rw [h]; rfl, fun h => UInt8.toNat_inj.1 h⟩
theorem ext_E (s : ByteArray) (p0 : 0 < s.size) : ((s.extract 0 1).toList == [69]) = decide ((s[0]'p0).toNat = 69) := by rw [ext_one s p0, byte_E]
set_option maxRecDepth 100000 in
set_option maxHeartbeats 400000 in
theorem refDecode_first (s : ByteArray) (hs : s.size ≤ 140737488351232) (h : 22 ≤ s.size) (p0 : 0 < s.size) (h0 : ¬ (s[0]'p0).toNat = 69) (w : World) :
    Calls Tryz.prog 53 #[.string s] w fun e w' => e = .returned (.tuple #[Msg.zero.v, .int .i64 1]) ∧ Below w.heap.size w w' := by
  rw [zero_v]
  have d0 : decide ((s.size : Int) < 22) = false := by simp; omega
  have p1 : (1 : Int) ≤ (s.size : Int) := by omega
  have d1 : ((s.extract 0 1).toList == [69]) = false := by rw [ext_E s p0]; simp [h0]
  go_enter Tryz.func53, Tryz.ntmps53
  go_wp2_with fail
  exact bodyPost_ret (v := .tuple #[.agg #[Value.int .u8 0, .int .u8 0, .int .u8 0, .int .u32 0, .int .u8 0, .int .u16 0, .int .u16 0, .int .u32 0, .string ⟨#[]⟩], .int .i64 1]) (by simp [results, Tryz.results53, go_sem]) rfl ⟨rfl, (Below.refl _ _).alloc (Nat.le_refl _) _⟩
set_option maxRecDepth 100000 in
set_option maxHeartbeats 400000 in
theorem refDecode_len (s : ByteArray) (hs : s.size ≤ 140737488351232) (h : 22 ≤ s.size) (p0 : 0 < s.size) (p17 : 17 < s.size) (h0 : (s[0]'p0).toNat = 69) (h17 : ¬ s.size = 22 + (s[17]'p17).toNat) (w : World) :
    Calls Tryz.prog 53 #[.string s] w fun e w' => e = .returned (.tuple #[Msg.zero.v, .int .i64 1]) ∧ Below w.heap.size w w' := by
  rw [zero_v]
  have hb := byte_lt (s[17]'p17)
  have d0 : decide ((s.size : Int) < 22) = false := by simp; omega
  have p1 : (1 : Int) ≤ (s.size : Int) := by omega
  have d1 : ((s.extract 0 1).toList == [69]) = true := by rw [ext_E s p0]; simp [h0]
  have d2 : ((s.size : Int) - 22 != ((s[17]'p17).toNat : Int)) = true := by simp; omega
  clear h0
  go_enter Tryz.func53, Tryz.ntmps53
  go_wp2_with fail
  exact bodyPost_ret (v := .tuple #[.agg #[Value.int .u8 0, .int .u8 0, .int .u8 0, .int .u32 0, .int .u8 0, .int .u16 0, .int .u16 0, .int .u32 0, .string ⟨#[]⟩], .int .i64 1]) (by simp [results, Tryz.results53, go_sem]) rfl ⟨rfl, (Below.refl _ _).alloc (Nat.le_refl _) _⟩
set_option maxRecDepth 100000 in
set_option maxHeartbeats 400000 in
theorem refDecode_sum (s : ByteArray) (h : 22 ≤ s.size) (p0 : 0 < s.size) (p17 : 17 < s.size) (h0 : (s[0]'p0).toNat = 69) (h17 : s.size = 22 + (s[17]'p17).toNat) (hsum : ¬ val (cut s.data.toList (s.size - 4) s.size) = sumOf (cut s.data.toList 0 (s.size - 4))) (w : World) :
    Calls Tryz.prog 53 #[.string s] w fun e w' => e = .returned (.tuple #[Msg.zero.v, .int .i64 2]) ∧ Below w.heap.size w w' := by
  rw [zero_v]
  have hb := byte_lt (s[17]'p17)
  have d0 : decide ((s.size : Int) < 22) = false := by simp; omega
  have p1 : (1 : Int) ≤ (s.size : Int) := by omega
  have d1 : ((s.extract 0 1).toList == [69]) = true := by rw [ext_E s p0]; simp [h0]
  have hsz : s.size ≤ 277 := by omega
  have d2 : ((s.size : Int) - 22 != ((s[17]'p17).toNat : Int)) = false := by simp; omega
  have z1 := ext_size s 0 (s.size - 4) (by omega)
  have z2 := ext_size s (s.size - 4) s.size (by omega)
  have c1 := hide (cut_of s 0 (s.size - 4))
  have c2 := hide (cut_of s (s.size - 4) s.size)
  have Z1 : (s.extract 0 (s.size - 4)).size ≤ maxLen := by rw [z1]; unfold maxLen; omega
  have Z2 : (s.extract (s.size - 4) s.size).size ≤ 4 := by rw [z2]; omega
  have y1 := sumOf_lt (cut s.data.toList 0 (s.size - 4))
  have d3 : ((sumOf (cut s.data.toList 0 (s.size - 4)) : Int) != (val (cut s.data.toList (s.size - 4) s.size) : Int)) = true := by simpa using fun e => hsum (by omega)
  clear h0 h17 hsum z1 z2
  go_enter Tryz.func53, Tryz.ntmps53
  go_wp2_with fail
  refine (refSum_any _ Z1 _).mono ?_
  rintro e w1 ⟨rfl, rfl⟩
  rw [c1.out]
  generalize sumOf (cut s.data.toList 0 (s.size - 4)) = y at *
  go_wp2_with fail
  refine (value_any _ Z2 _).mono ?_
  rintro e w1 ⟨rfl, rfl⟩
  rw [c2.out]
  generalize val (cut s.data.toList (s.size - 4) s.size) = x at *
  go_wp2
  exact bodyPost_ret (v := .tuple #[.agg #[Value.int .u8 0, .int .u8 0, .int .u8 0, .int .u32 0, .int .u8 0, .int .u16 0, .int .u16 0, .int .u32 0, .string ⟨#[]⟩], .int .i64 2]) (by simp [results, Tryz.results53, go_sem]) rfl ⟨rfl, (Below.refl _ _).alloc (Nat.le_refl _) _⟩
end Go.Proofs.YtjkhbjgfoopomaaGreat
