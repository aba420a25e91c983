/-
  The walks over numbers in bytes.
-/
import Derived.Test.YtjkhbjgfoopomaaGreatDecMath
import Derived.Test.YtjkhbjgfoopomaaGreatMemoWalks
namespace Go.Proofs.YtjkhbjgfoopomaaGreat
open Go.RowKit
set_option linter.unusedVariables false

theorem u64_or_low (x : Nat) (b : UInt8) (hx : x < 72057594037927936) : bits .or .u64 ((x : Int) * 256) (b.toNat : Int) = ((x * 256 + b.toNat : Nat) : Int) := by
  have hb := byte_lt b
  rw [show (x : Int) * 256 = ((x * 256 : Nat) : Int) by omega, u64_or_nat _ _ (by omega) (by omega)]
  congr 1
  have := Nat.two_pow_add_eq_or_of_lt (i := 8) (b := b.toNat) (by omega) x
  rw [show x * 256 = 2 ^ 8 * x by omega, this]
theorem val_lt7 {l : List UInt8} (h : l.length ≤ 7) : val l < 72057594037927936 := by
  have h1 := val_lt l
  have h2 : 256 ^ l.length ≤ 256 ^ 7 := Nat.pow_le_pow_right (by decide) h
  omega
theorem val_lt8 {l : List UInt8} (h : l.length ≤ 8) : val l < 18446744073709551616 := by
  have h1 := val_lt l
  have h2 : 256 ^ l.length ≤ 256 ^ 8 := Nat.pow_le_pow_right (by decide) h
  omega
set_option maxRecDepth 100000 in
set_option maxHeartbeats 400000 in
theorem number_any (s : ByteArray) (hs : s.size ≤ 8) (w : World) :
    Calls Tryz.prog 115 #[.string s] w fun e w' => e = .returned (.int .u64 ((val s.data.toList : Nat) : Int)) ∧ w' = w := by
  go_enter Tryz.func115, Tryz.ntmps115
  go_wp2
  go_loop [3, 4] (fun c i => ∃ k : Nat, k ≤ s.size ∧ i = .int .i64 k ∧ c = .int .u64 ((val (s.data.toList.take k) : Nat) : Int)) (fun _ i => s.size - (intOf i).toNat)
  case atStart => exact ⟨0, Nat.zero_le _, rfl, rfl⟩
  case round =>
    obtain ⟨k, hk, rfl, rfl⟩ := hrel
    by_cases hlt : k < s.size
    · have hd : val (s.data.toList.take k) < 72057594037927936 := val_lt7 (by simp; omega)
      have hn : Hid (val (s.data.toList.take (k + 1)) = val (s.data.toList.take k) * 256 + s[k].toNat) := hide (by rw [take_snoc s k hlt, val_snoc])
      generalize val (s.data.toList.take k) = x at *
      have hb := byte_lt s[k]
      have e1 := u64_or_low x s[k] hd
      go_wp2
      exact ⟨⟨k + 1, by omega, by go_num, by rw [hn.out]; go_num⟩, by simp [intOf]; omega⟩
    · have hn : Hid (s.data.toList.take k = s.data.toList) := hide (List.take_of_length_le (by simp; omega))
      go_wp2
      go_ret
      exact ⟨ret_int (by rw [hn.out]), rfl⟩
set_option maxRecDepth 100000 in
set_option maxHeartbeats 400000 in
theorem value_any (s : ByteArray) (hs : s.size ≤ 4) (w : World) :
    Calls Tryz.prog 88 #[.string s] w fun e w' => e = .returned (.int .u64 ((val s.data.toList : Nat) : Int)) ∧ w' = w := by
  go_enter Tryz.func88, Tryz.ntmps88
  go_wp2
  go_loop [3, 4] (fun c i => ∃ k : Nat, k ≤ s.size ∧ i = .int .i64 k ∧ c = .int .u64 ((val (s.data.toList.take k) : Nat) : Int)) (fun _ i => s.size - (intOf i).toNat)
  case atStart => exact ⟨0, Nat.zero_le _, rfl, rfl⟩
  case round =>
    obtain ⟨k, hk, rfl, rfl⟩ := hrel
    by_cases hlt : k < s.size
    · have hd : val (s.data.toList.take k) < 16777216 := val_lt3 (by simp; omega)
      have hn : Hid (val (s.data.toList.take (k + 1)) = val (s.data.toList.take k) * 256 + s[k].toNat) := hide (by rw [take_snoc s k hlt, val_snoc])
      generalize val (s.data.toList.take k) = x at *
      have hb := byte_lt s[k]
      go_wp2
      exact ⟨⟨k + 1, by omega, by go_num, by rw [hn.out]; go_num⟩, by simp [intOf]; omega⟩
    · have hn : Hid (s.data.toList.take k = s.data.toList) := hide (List.take_of_length_le (by simp; omega))
      go_wp2
      go_ret
      exact ⟨ret_int (by rw [hn.out]), rfl⟩
end Go.Proofs.YtjkhbjgfoopomaaGreat
