/-
  The walks of the two checksums.
-/
import Derived.Test.YtjkhbjgfoopomaaGreatRows
import Derived.Test.YtjkhbjgfoopomaaGreatCrc
import Derived.WalkKit
import Derived.WalkSpells
import Derived.WalkLawsBesides
namespace Go.Proofs.YtjkhbjgfoopomaaGreat
open Go.RowKit

theorem hide {p : Prop} (h : p) : Hid p := h
theorem ret_int {k : IntKind} {a b : Int} (h : a = b) : Ending.returned (.int k a) = .returned (.int k b) := by rw [h]
theorem u32and1 (c : Nat) (h : c < 4294967296) : bits .and .u32 (c : Int) 1 = ((c % 2 : Nat) : Int) := by
  have e := u32_and_nat c 1 h (by decide)
  rw [Nat.and_one_is_mod] at e
  simpa using e
theorem u32xor_half (c : Nat) (h : c < 4294967296) : bits .xor .u32 ((c : Int) / 2) 3988292384 = (((c / 2) ^^^ 3988292384 : Nat) : Int) := by
  have e := u32_xor_nat (c / 2) 3988292384 (by omega) (by decide)
  simpa using e
theorem crcBit_odd {c : Nat} (h : c % 2 = 1) : crcBit c = (c / 2) ^^^ 3988292384 := by simp [crcBit, h]
theorem crcBit_even {c : Nat} (h : ¬ c % 2 = 1) : crcBit c = c / 2 := by simp [crcBit, h]

set_option maxHeartbeats 400000 in
theorem shiftOut_any (c : Nat) (h : c < 4294967296) (w : World) :
    Calls Tryz.prog 136 #[.int .u32 (c : Int)] w fun e w' => e = .returned (.int .u32 ((crcBits 8 c : Nat) : Int)) ∧ w' = w := by
  go_enter Tryz.func136, Tryz.ntmps136
  go_wp2
  go_loop [0, 3] (fun s i => ∃ k : Nat, k ≤ 8 ∧ i = .int .i64 k ∧ s = .int .u32 ((crcBits k c : Nat) : Int)) (fun _ i => 8 - (intOf i).toNat)
  case atStart => exact ⟨0, by decide, rfl, rfl⟩
  case round =>
    obtain ⟨k, hk, rfl, rfl⟩ := hrel
    have hd : crcBits k c < 4294967296 := crcBits_lt h
    by_cases hlt : k < 8
    · have hs : Hid (crcBits (k + 1) c = crcBit (crcBits k c)) := hide rfl
      generalize crcBits k c = x at *
      by_cases hp : x % 2 = 1
      · have e1 : bits .and .u32 (x : Int) 1 = 1 := by rw [u32and1 x hd, hp]; rfl
        have e2 := u32xor_half x hd
        have hq : Hid (crcBit x = (x / 2) ^^^ 3988292384) := hide (crcBit_odd hp)
        clear hp
        go_wp2
        exact ⟨⟨k + 1, by omega, by go_num, by rw [hs.out, hq.out]⟩, by simp [intOf]; omega⟩
      · have e1 : bits .and .u32 (x : Int) 1 = 0 := by rw [u32and1 x hd, show x % 2 = 0 by omega]; rfl
        have hq : Hid (crcBit x = x / 2) := hide (crcBit_even hp)
        clear hp
        go_wp2
        exact ⟨⟨k + 1, by omega, by go_num, by rw [hs.out, hq.out]; go_num⟩, by simp [intOf]; omega⟩
    · have e8 : k = 8 := by omega
      subst e8
      go_wp2
      go_ret
      exact ⟨rfl, rfl⟩

theorem take_snoc (s : ByteArray) (k : Nat) (h : k < s.size) : s.data.toList.take (k + 1) = s.data.toList.take k ++ [s[k]] := by
  rw [List.take_succ_eq_append_getElem (by simpa using h)]; rfl
theorem u32xor_byte (c : Nat) (b : UInt8) (h : c < 4294967296) : bits .xor .u32 (c : Int) ((b.toNat : Int) % 4294967296) = ((c ^^^ b.toNat : Nat) : Int) := by
  have hb := byte_lt b
  rw [show (b.toNat : Int) % 4294967296 = (b.toNat : Int) by omega]
  exact u32_xor_nat c b.toNat h (by omega)
theorem u32not (c : Nat) (h : c < 4294967296) : bits .xor .u32 IntKind.u32.max (c : Int) = ((4294967295 - c : Nat) : Int) := by
  have e := u32_xor_nat 4294967295 c (by decide) h
  rw [not32 h] at e
  rw [show IntKind.u32.max = ((4294967295 : Nat) : Int) by decide]
  exact e

set_option maxHeartbeats 400000 in
theorem frameSum_any (s : ByteArray) (hs : s.size ≤ maxLen) (w : World) :
    Calls Tryz.prog 114 #[.string s] w fun e w' => e = .returned (.int .u32 ((sumOf s.data.toList : Nat) : Int)) ∧ w' = w := by
  unfold maxLen at hs
  go_enter Tryz.func114, Tryz.ntmps114
  go_wp2
  go_loop [3, 4] (fun c i => ∃ k : Nat, k ≤ s.size ∧ i = .int .i64 k ∧ c = .int .u32 ((crcOf (s.data.toList.take k) : Nat) : Int)) (fun _ i => s.size - (intOf i).toNat)
  case atStart => exact ⟨0, Nat.zero_le _, rfl, rfl⟩
  case round =>
    obtain ⟨k, hk, rfl, rfl⟩ := hrel
    have hd : crcOf (s.data.toList.take k) < 4294967296 := crcOf_lt _
    by_cases hlt : k < s.size
    · have hn : Hid (crcOf (s.data.toList.take (k + 1)) = crcByte (crcOf (s.data.toList.take k)) s[k]) := hide (by rw [take_snoc s k hlt, crcOf_snoc])
      generalize crcOf (s.data.toList.take k) = x at *
      have e1 := u32xor_byte x s[k] hd
      have hx : x ^^^ s[k].toNat < 4294967296 := xor_lt32 hd (by have := byte_lt s[k]; omega)
      go_wp2_with (go_at_call 136; refine (shiftOut_any _ hx _).mono ?_; rintro e w' ⟨rfl, rfl⟩)
      exact ⟨⟨k + 1, by omega, by go_num, by rw [hn.out]; rfl⟩, by simp [intOf]; omega⟩
    · have e1 := u32not _ hd
      have hn : Hid (sumOf s.data.toList = 4294967295 - crcOf (s.data.toList.take k)) := hide (by unfold sumOf; rw [List.take_of_length_le (by simp; omega)])
      generalize crcOf (s.data.toList.take k) = x at *
      go_wp2
      go_ret
      exact ⟨ret_int (by rw [hn.out]), rfl⟩

theorem half_pow (v k : Nat) : v / 2 ^ k / 2 = v / 2 ^ (k + 1) := by rw [Nat.div_div_eq_div_mul, Nat.pow_succ]
set_option maxHeartbeats 400000 in
theorem turned_any (v n : Nat) (hv : v < 4294967296) (hn : n ≤ 32) (w : World) :
    Calls Tryz.prog 112 #[.int .u32 (v : Int), .int .i64 (n : Int)] w fun e w' => e = .returned (.int .u32 ((trn n v : Nat) : Int)) ∧ w' = w := by
  go_enter Tryz.func112, Tryz.ntmps112
  go_wp2
  go_loop [0, 5, 6] (fun s o i => ∃ k : Nat, k ≤ n ∧ i = .int .i64 k ∧ o = .int .u32 ((trn k v : Nat) : Int) ∧ s = .int .u32 ((v / 2 ^ k : Nat) : Int)) (fun _ _ i => n - (intOf i).toNat)
  case atStart => exact ⟨0, Nat.zero_le _, rfl, rfl, by simp⟩
  case round =>
    obtain ⟨k, hk, rfl, rfl, rfl⟩ := hrel
    have hx := trn_lt k v
    have hy : v / 2 ^ k < 4294967296 := Nat.lt_of_le_of_lt (Nat.div_le_self _ _) hv
    by_cases hlt : k < n
    · have hp : 2 ^ k ≤ 2147483648 := by
        have := Nat.pow_le_pow_right (n := 2) (by decide) (show k ≤ 31 by omega)
        omega
      have hn1 : Hid (trn (k + 1) v = trn k v * 2 + v / 2 ^ k % 2) := hide rfl
      have hn2 : Hid (v / 2 ^ (k + 1) = v / 2 ^ k / 2) := hide (half_pow v k).symm
      have hx2 : trn k v < 2147483648 := by omega
      clear hx hp
      generalize trn k v = x at *
      generalize v / 2 ^ k = y at *
      go_wp2
      exact ⟨⟨k + 1, by omega, by go_num, by rw [hn1.out]; go_num, by rw [hn2.out]; go_num⟩, by simp [intOf]; omega⟩
    · have e8 : k = n := by omega
      subst e8
      go_wp2
      go_ret
      exact ⟨rfl, rfl⟩

theorem refBit_one {r : Nat} (h : r / 2147483648 = 1) : refBit r = (r * 2 % 4294967296) ^^^ 79764919 := by simp [refBit, h]
theorem refBit_none {r : Nat} (h : ¬ r / 2147483648 = 1) : refBit r = r * 2 % 4294967296 := by simp [refBit, h]
theorem u32xor_dbl (r : Nat) : bits .xor .u32 ((r : Int) * 2 % 4294967296) 79764919 = (((r * 2 % 4294967296) ^^^ 79764919 : Nat) : Int) := by
  have e := u32_xor_nat (r * 2 % 4294967296) 79764919 (by omega) (by decide)
  simpa using e
theorem u32xor_high (r t : Nat) (h : r < 4294967296) (ht : t * 16777216 < 4294967296) : bits .xor .u32 (r : Int) ((t : Int) * 16777216) = ((r ^^^ (t * 16777216) : Nat) : Int) := by
  have e := u32_xor_nat r (t * 16777216) h ht
  simpa using e

set_option maxHeartbeats 1000000 in
theorem refSum_any (s : ByteArray) (hs : s.size ≤ maxLen) (w : World) :
    Calls Tryz.prog 86 #[.string s] w fun e w' => e = .returned (.int .u32 ((sumOf s.data.toList : Nat) : Int)) ∧ w' = w := by
  unfold maxLen at hs
  go_enter Tryz.func86, Tryz.ntmps86
  go_wp2
  go_loop [3, 4] (fun c i => ∃ k : Nat, k ≤ s.size ∧ i = .int .i64 k ∧ c = .int .u32 ((refOf (s.data.toList.take k) : Nat) : Int)) (fun _ i => s.size - (intOf i).toNat)
  case atStart => exact ⟨0, Nat.zero_le _, rfl, rfl⟩
  case round =>
    obtain ⟨k, hk, rfl, rfl⟩ := hrel
    have hd : refOf (s.data.toList.take k) < 4294967296 := refOf_lt _
    by_cases hlt : k < s.size
    · have hn : Hid (refOf (s.data.toList.take (k + 1)) = refByte (refOf (s.data.toList.take k)) s[k]) := hide (by rw [take_snoc s k hlt, refOf_snoc])
      generalize refOf (s.data.toList.take k) = x at *
      have hb := byte_lt s[k]
      have ht := trn8_mul s[k].toNat
      have e1 := u32xor_high x (trn 8 s[k].toNat) hd ht
      have hx : x ^^^ (trn 8 s[k].toNat * 16777216) < 4294967296 := xor_lt32 hd ht
      have hn2 : Hid (refByte x s[k] = refBits 8 (x ^^^ (trn 8 s[k].toNat * 16777216))) := hide rfl
      go_wp2_with fail
      refine (turned_any s[k].toNat 8 (by omega) (by decide) _).mono ?_
      rintro e w' ⟨rfl, rfl⟩
      go_wp2_with fail
      clear e1 ht
      generalize x ^^^ trn 8 s[k].toNat * 16777216 = z at *
      generalize trn 8 s[k].toNat = t at *
      go_loop [3, 6] (fun c i => ∃ j : Nat, j ≤ 8 ∧ i = .int .i64 j ∧ c = .int .u32 ((refBits j z : Nat) : Int)) (fun _ i => 8 - (intOf i).toNat)
      case atStart => exact ⟨0, by decide, rfl, rfl⟩
      case round =>
        obtain ⟨j, hj, rfl, rfl⟩ := hrel
        have hr : refBits j z < 4294967296 := refBits_lt hx
        by_cases hl : j < 8
        · have hq : Hid (refBits (j + 1) z = refBit (refBits j z)) := hide rfl
          generalize refBits j z = r at *
          by_cases hp : r / 2147483648 = 1
          · have e1 := u32xor_dbl r
            have e3 : ((r : Int) / 2147483648 == 1) = true := by simp; omega
            have hq2 : Hid (refBit r = (r * 2 % 4294967296) ^^^ 79764919) := hide (refBit_one hp)
            clear hp
            go_wp2
            exact ⟨⟨j + 1, by omega, by go_num, by rw [hq.out, hq2.out]⟩, by simp [intOf]; omega⟩
          · have e3 : ((r : Int) / 2147483648 == 1) = false := by simp; omega
            have hq2 : Hid (refBit r = r * 2 % 4294967296) := hide (refBit_none hp)
            clear hp
            go_wp2
            exact ⟨⟨j + 1, by omega, by go_num, by rw [hq.out, hq2.out]; go_num⟩, by simp [intOf]; omega⟩
        · have e8 : j = 8 := by omega
          subst e8
          go_wp2
          exact ⟨⟨k + 1, by omega, by go_num, by rw [hn.out, hn2.out]⟩, by simp [intOf]; omega⟩
    · have hn : Hid (4294967295 - trn 32 (refOf (s.data.toList.take k)) = sumOf s.data.toList) := hide (by rw [List.take_of_length_le (by simp; omega)]; exact refOf_sum _)
      generalize refOf (s.data.toList.take k) = x at *
      have ht := trn32_lt x
      go_wp2_with fail
      refine (turned_any x 32 (by omega) (by decide) _).mono ?_
      rintro e w' ⟨rfl, rfl⟩
      generalize trn 32 x = y at *
      go_wp2
      go_ret
      exact ⟨ret_int (by rw [← hn.out]; omega), rfl⟩
end Go.Proofs.YtjkhbjgfoopomaaGreat
