/-
  Every rune's bytes are a character.
-/
import Derived.Test.YtjkhbjgfoopomaaChars
import GoSem.Core.Utf8
namespace Go.Proofs.Ytjkhbjgfoopomaa

theorem ofNat_small {n : Nat} (h : n < 256) : (UInt8.ofNat n).toNat = n := by simp [UInt8.toNat_ofNat']; omega
theorem enc_one {c : Nat} (h : c < 128) : IsCh [UInt8.ofNat c] := by
  refine ⟨?_, by simp⟩
  have e : chLen (UInt8.ofNat c).toNat = 1 := by rw [ofNat_small (by omega)]; simp [chLen, h]
  rw [chSize_one (b := UInt8.ofNat c) rfl (by omega), e]
  rfl
theorem enc_two {c : Nat} (h : 128 ≤ c) (h2 : c < 2048) : IsCh [UInt8.ofNat (192 + c / 64), UInt8.ofNat (128 + c % 64)] := by
  refine ⟨?_, by simp⟩
  have e : chLen (UInt8.ofNat (192 + c / 64)).toNat = 2 := by rw [ofNat_small (by omega)]; unfold chLen; (repeat' split) <;> omega
  rw [chSize_ok (b := UInt8.ofNat (192 + c / 64)) (c := UInt8.ofNat (128 + c % 64)) rfl rfl (by omega) ?_ (fun j a b => by omega), e]
  · rfl
  · rw [ofNat_small (by omega), ofNat_small (by omega)]
    unfold chLo chHi
    (repeat' split) <;> omega
theorem enc_three {c : Nat} (h : 2048 ≤ c) (h2 : c < 65536) (hs : c < 55296 ∨ 57344 ≤ c) : IsCh [UInt8.ofNat (224 + c / 4096), UInt8.ofNat (128 + c / 64 % 64), UInt8.ofNat (128 + c % 64)] := by
  refine ⟨?_, by simp⟩
  have e : chLen (UInt8.ofNat (224 + c / 4096)).toNat = 3 := by rw [ofNat_small (by omega)]; unfold chLen; (repeat' split) <;> omega
  rw [chSize_ok (b := UInt8.ofNat (224 + c / 4096)) (c := UInt8.ofNat (128 + c / 64 % 64)) rfl rfl (by omega) ?_ ?_, e]
  · rfl
  · rw [ofNat_small (by omega), ofNat_small (by omega)]
    unfold chLo chHi
    (repeat' split) <;> omega
  · intro j a b
    rw [e] at b
    obtain rfl : j = 2 := by omega
    exact ⟨_, rfl, by rw [ofNat_small (by omega)]; omega, by rw [ofNat_small (by omega)]; omega⟩
theorem enc_four {c : Nat} (h : 65536 ≤ c) (h2 : c ≤ 1114111) : IsCh [UInt8.ofNat (240 + c / 262144), UInt8.ofNat (128 + c / 4096 % 64), UInt8.ofNat (128 + c / 64 % 64), UInt8.ofNat (128 + c % 64)] := by
  refine ⟨?_, by simp⟩
  have e : chLen (UInt8.ofNat (240 + c / 262144)).toNat = 4 := by rw [ofNat_small (by omega)]; unfold chLen; (repeat' split) <;> omega
  rw [chSize_ok (b := UInt8.ofNat (240 + c / 262144)) (c := UInt8.ofNat (128 + c / 4096 % 64)) rfl rfl (by omega) ?_ ?_, e]
  · rfl
  · rw [ofNat_small (by omega), ofNat_small (by omega)]
    unfold chLo chHi
    (repeat' split) <;> omega
  · intro j a b
    rw [e] at b
    obtain rfl | rfl : j = 2 ∨ j = 3 := by omega
    · exact ⟨_, rfl, by rw [ofNat_small (by omega)]; omega, by rw [ofNat_small (by omega)]; omega⟩
    · exact ⟨_, rfl, by rw [ofNat_small (by omega)]; omega, by rw [ofNat_small (by omega)]; omega⟩
theorem enc_ch (r : Int) : IsCh (Utf8.encode r).data.toList := by
  have hc : ∃ c : Nat, (c < 55296 ∨ (57344 ≤ c ∧ c ≤ 1114111)) ∧ (if Utf8.valid r then r.toNat else Utf8.runeError) = c := by
    refine ⟨_, ?_, rfl⟩
    cases hv : Utf8.valid r with
    | true =>
      simp [Utf8.valid] at hv
      simp
      omega
    | false => simp [Utf8.runeError]
  obtain ⟨c, hcb, hc⟩ := hc
  unfold Utf8.encode
  simp only [hc]
  by_cases h1 : c < 128
  · rw [if_pos h1]; exact enc_one h1
  · rw [if_neg h1]
    by_cases h2 : c < 2048
    · rw [if_pos h2]; exact enc_two (by omega) h2
    · rw [if_neg h2]
      by_cases h3 : c < 65536
      · rw [if_pos h3]; exact enc_three (by omega) h3 (by omega)
      · rw [if_neg h3]; exact enc_four (by omega) (by omega)
theorem dec_step (s : ByteArray) (pos : Nat) : 1 ≤ (Utf8.decode s pos).2 := by
  simp only [Utf8.decode]
  (repeat' split) <;> simp
end Go.Proofs.Ytjkhbjgfoopomaa
