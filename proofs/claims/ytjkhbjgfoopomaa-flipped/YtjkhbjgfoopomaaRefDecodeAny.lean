/-
  The document's Decode, for every text.
-/
import Derived.Test.YtjkhbjgfoopomaaRefDecodeSay
namespace Go.Proofs.Ytjkhbjgfoopomaa
open Go.RowKit
set_option linter.unusedVariables false

theorem refDecode_any (s : ByteArray) (hs : s.size ≤ 140737488351232) (w : World) :
    Calls Try.prog 19 #[.string s] w fun e w' => e = .returned (.tuple #[(decMsg s.data.toList).v, .int .i64 ((decErr s.data.toList : Nat) : Int)]) ∧ Below w.heap.size w w' := by
  by_cases h : 22 ≤ s.size
  · have p0 : 0 < s.size := by omega
    have p17 : 17 < s.size := by omega
    have hl := list_len s
    by_cases h0 : (s[0]'p0).toNat = 69
    · by_cases h17 : s.size = 22 + (s[17]'p17).toNat
      · have hf : formB s.data.toList = true := by
          simp [formB, at8_of s 0 p0, at8_of s 17 p17, h0, h, ← h17]
        by_cases hsum : val (cut s.data.toList (s.size - 4) s.size) = sumOf (cut s.data.toList 0 (s.size - 4))
        · have hse : sealB s.data.toList = true := by simp only [sealB, hl]; simpa using hsum
          have he : decErr s.data.toList = faultOf (sayOf s.data.toList) := by simp [decErr, hf, hse]
          have hd : decMsg s.data.toList = if faultOf (sayOf s.data.toList) = 0 then sayOf s.data.toList else Msg.zero := by unfold decMsg; rw [he]
          rw [hd, he]
          have q1 : 1 < s.size := by omega
          have q2 : 2 < s.size := by omega
          have q3 : 3 < s.size := by omega
          have q8 : 8 < s.size := by omega
          have hok : (sayOf s.data.toList).ok := sayOf_ok (by rw [list_len]; exact h)
          have hml : (sayOf s.data.toList).m.length ≤ 140737488351232 := by
            have hm : (sayOf s.data.toList).m.length ≤ s.data.toList.length := by simp [sayOf, cut]; omega
            have hb := byte_lt (s[17]'p17)
            omega
          have hfa := refFault_any (sayOf s.data.toList) hok hml
          have hv : (sayOf s.data.toList).v = .agg #[Value.int .u8 ((s[1]'q1).toNat : Int), .int .u8 ((s[2]'q2).toNat : Int), .int .u8 ((s[3]'q3).toNat : Int), .int .u32 (val (cut s.data.toList 4 8) : Int), .int .u8 ((s[8]'q8).toNat : Int), .int .u16 (val (cut s.data.toList 9 11) : Int), .int .u16 (val (cut s.data.toList 11 13) : Int), .int .u32 (val (cut s.data.toList 13 17) : Int), .string (s.extract 18 (s.size - 4))] := by
            rw [say_of s h q1 q2 q3 q8]
            simp only [Msg.v, Msg.cells, bs_of]
          rw [hv] at hfa
          have hd2 := refDecode_tail s h p0 p17 q1 q2 q3 q8 h0 h17 hsum _ _ _ _ _ rfl rfl rfl rfl hok.2.2.2.1 hok.2.2.2.2.2.1 hok.2.2.2.2.2.2.1 hok.2.2.2.2.2.2.2 hfa w
          have hif : (if faultOf (sayOf s.data.toList) = 0 then sayOf s.data.toList else Msg.zero).v = .agg (if faultOf (sayOf s.data.toList) = 0 then #[Value.int .u8 ((s[1]'q1).toNat : Int), .int .u8 ((s[2]'q2).toNat : Int), .int .u8 ((s[3]'q3).toNat : Int), .int .u32 (val (cut s.data.toList 4 8) : Int), .int .u8 ((s[8]'q8).toNat : Int), .int .u16 (val (cut s.data.toList 9 11) : Int), .int .u16 (val (cut s.data.toList 11 13) : Int), .int .u32 (val (cut s.data.toList 13 17) : Int), .string (s.extract 18 (s.size - 4))] else #[Value.int .u8 0, .int .u8 0, .int .u8 0, .int .u32 0, .int .u8 0, .int .u16 0, .int .u16 0, .int .u32 0, .string ⟨#[]⟩]) := by
            split
            · exact hv
            · exact zero_v
          rw [hif]
          exact hd2
        · have hse : sealB s.data.toList = false := by simp only [sealB, hl]; simpa using hsum
          have he : decErr s.data.toList = 2 := by simp [decErr, hf, hse]
          have hd : decMsg s.data.toList = Msg.zero := by simp [decMsg, he]
          rw [hd, he]
          exact refDecode_sum s h p0 p17 h0 h17 hsum w
      · have hf : formB s.data.toList = false := by
          simp only [formB, at8_of s 17 p17, hl]
          simp [h17]
        have he : decErr s.data.toList = 1 := by simp [decErr, hf]
        have hd : decMsg s.data.toList = Msg.zero := by simp [decMsg, he]
        rw [hd, he]
        exact refDecode_len s hs h p0 p17 h0 h17 w
    · have hf : formB s.data.toList = false := by
        simp only [formB, at8_of s 0 p0]
        simp [h0]
      have he : decErr s.data.toList = 1 := by simp [decErr, hf]
      have hd : decMsg s.data.toList = Msg.zero := by simp [decMsg, he]
      rw [hd, he]
      exact refDecode_first s hs h p0 h0 w
  · have hf : formB s.data.toList = false := by
      simp only [formB, list_len]
      simp [h]
    have he : decErr s.data.toList = 1 := by simp [decErr, hf]
    have hd : decMsg s.data.toList = Msg.zero := by simp [decMsg, he]
    rw [hd, he]
    exact refDecode_short s (by omega) w
end Go.Proofs.Ytjkhbjgfoopomaa
