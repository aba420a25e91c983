/-
  The walks over what a memo is, the code's and the document's.
-/
import Derived.Test.YtjkhbjgfoopomaaGreatLaw
import Derived.Test.YtjkhbjgfoopomaaGreatMemo
import Derived.Lib.Strings
namespace Go.Proofs.YtjkhbjgfoopomaaGreat
open Go.RowKit
set_option linter.unusedVariables false

set_option maxRecDepth 100000 in
set_option maxHeartbeats 400000 in
theorem sizeAfter_any (b : Nat) (hb : b < 256) (w : World) :
    Calls Tryz.prog 148 #[.int .u8 (b : Int)] w fun e w' => e = .returned (.int .i64 ((chLen b : Nat) : Int)) ∧ w' = w := by
  go_enter Tryz.func148, Tryz.ntmps148
  go_wp2
  all_goals go_ret
  all_goals refine ⟨ret_int ?_, rfl⟩
  all_goals unfold chLen
  all_goals (repeat' split) <;> omega
theorem lowest_any (b : Nat) (hb : b < 256) (w : World) :
    Calls Tryz.prog 149 #[.int .u8 (b : Int)] w fun e w' => e = .returned (.int .u8 ((chLo b : Nat) : Int)) ∧ w' = w := by
  go_enter Tryz.func149, Tryz.ntmps149
  go_wp2
  all_goals go_ret
  all_goals refine ⟨ret_int ?_, rfl⟩
  all_goals unfold chLo
  all_goals simp_all
  all_goals (repeat' split) <;> omega
theorem highest_any (b : Nat) (hb : b < 256) (w : World) :
    Calls Tryz.prog 150 #[.int .u8 (b : Int)] w fun e w' => e = .returned (.int .u8 ((chHi b : Nat) : Int)) ∧ w' = w := by
  go_enter Tryz.func150, Tryz.ntmps150
  go_wp2
  all_goals go_ret
  all_goals refine ⟨ret_int ?_, rfl⟩
  all_goals unfold chHi
  all_goals simp_all
  all_goals (repeat' split) <;> omega
def chFollow (b : Nat) (n lo hi : Int) : Prop := n = (chLen b : Int) - 1 ∧ (2 ≤ chLen b → lo = chLo b ∧ hi = chHi b)
theorem follow_ret {b : Nat} {n lo hi : Int} {w : World} (h : chFollow b n lo hi) :
    (∃ n' lo' hi' : Int, Ending.returned (.tuple #[.int .i64 n, .int .u8 lo, .int .u8 hi]) = .returned (.tuple #[.int .i64 n', .int .u8 lo', .int .u8 hi']) ∧ chFollow b n' lo' hi') ∧ w = w :=
  ⟨⟨n, lo, hi, rfl, h⟩, rfl⟩
set_option maxRecDepth 100000 in
set_option maxHeartbeats 400000 in
theorem follow_any (b : Nat) (hb : b < 256) (w : World) :
    Calls Tryz.prog 135 #[.int .u8 (b : Int)] w fun e w' => (∃ n lo hi : Int, e = .returned (.tuple #[.int .i64 n, .int .u8 lo, .int .u8 hi]) ∧ chFollow b n lo hi) ∧ w' = w := by
  go_enter Tryz.func135, Tryz.ntmps135
  go_wp2
  all_goals go_ret3
  all_goals refine follow_ret ?_
  all_goals try simp only [beq_iff_eq, beq_eq_false_iff_ne, ne_eq] at *
  all_goals unfold chFollow chLen chLo chHi
  all_goals (repeat' split) <;> omega

theorem ret_bool {a b : Bool} (h : a = b) : Ending.returned (.bool a) = .returned (.bool b) := by rw [h]
theorem empty_size {s : ByteArray} (h : s.size = 0) : s.toList.isEmpty = true := by
  rw [ByteArray.toList_eq]
  have : s.data.toList.length = 0 := by simpa using h
  rw [List.length_eq_zero_iff.1 this]
  rfl
theorem nonempty_size {s : ByteArray} (h : ¬ s.size = 0) : s.toList.isEmpty = false := by
  rw [ByteArray.toList_eq]
  have : ¬ s.data.toList.length = 0 := by simpa using h
  cases e : s.data.toList with
  | nil => rw [e] at this; simp at this
  | cons b r => rfl
theorem get_q (s : ByteArray) (k : Nat) (h : k < s.size) : s.data.toList[k]? = some s[k] := by
  rw [List.getElem?_eq_getElem (by simpa using h)]
  rfl
theorem list_len (s : ByteArray) : s.data.toList.length = s.size := by simp

set_option maxRecDepth 100000 in
set_option maxHeartbeats 1000000 in
theorem chSize_any (s : ByteArray) (hs : s.size ≤ maxLen) (w : World) :
    Calls Tryz.prog 147 #[.string s] w fun e w' => e = .returned (.int .i64 ((chSize s.data.toList : Nat) : Int)) ∧ w' = w := by
  unfold maxLen at hs
  by_cases h0 : s.size = 0
  · have he := empty_size h0
    have hf : Hid (chSize s.data.toList = 0) := hide (by
      have : s.data.toList.length = 0 := by simpa using h0
      rw [List.length_eq_zero_iff.1 this]; rfl)
    go_enter Tryz.func147, Tryz.ntmps147
    go_wp2_with fail
    go_ret
    exact ⟨ret_int (by rw [hf.out]; rfl), rfl⟩
  · have he := nonempty_size h0
    have hz : 0 < s.size := by omega
    have g0 := get_q s 0 hz
    have hb := byte_lt s[0]
    have h4 := chLen_le s[0].toNat
    have f1 : Hid (chLen s[0].toNat ≤ 1 → chSize s.data.toList = chLen s[0].toNat) := hide (chSize_one g0)
    have f2 : Hid (2 ≤ chLen s[0].toNat → s.size < chLen s[0].toNat → chSize s.data.toList = 0) := hide (fun a b => chSize_not g0 a (.inl (by simpa using b)))
    have f3 : Hid (2 ≤ chLen s[0].toNat → ∀ h1 : 1 < s.size, ¬ (chLo s[0].toNat ≤ s[1].toNat ∧ s[1].toNat ≤ chHi s[0].toNat) → chSize s.data.toList = 0) := hide (fun a h1 b => chSize_not g0 a (.inr (.inl ⟨_, get_q s 1 h1, b⟩)))
    have f4 : Hid (2 ≤ chLen s[0].toNat → ∀ j, ∀ hj : j < s.size, 2 ≤ j → j < chLen s[0].toNat → ¬ (128 ≤ s[j].toNat ∧ s[j].toNat ≤ 191) → chSize s.data.toList = 0) :=
      hide (fun a j hj h2 hl b => chSize_not g0 a (.inr (.inr ⟨j, _, h2, hl, get_q s j hj, b⟩)))
    have f5 : Hid (2 ≤ chLen s[0].toNat → ∀ h1 : 1 < s.size, chLo s[0].toNat ≤ s[1].toNat → s[1].toNat ≤ chHi s[0].toNat → (∀ j, 2 ≤ j → j < chLen s[0].toNat → ∃ x, s.data.toList[j]? = some x ∧ 128 ≤ x.toNat ∧ x.toNat ≤ 191) → chSize s.data.toList = chLen s[0].toNat) :=
      hide (fun a h1 b c d => chSize_ok g0 (get_q s 1 h1) a ⟨b, c⟩ d)
    clear g0
    generalize hF : chSize s.data.toList = F at *
    clear hF
    go_enter Tryz.func147, Tryz.ntmps147
    go_wp2_with fail
    refine (sizeAfter_any s[0].toNat hb _).mono ?_
    rintro e w' ⟨rfl, rfl⟩
    generalize chLen s[0].toNat = n at *
    by_cases n1 : n ≤ 1
    · have g1 := f1.out n1
      go_wp2_with fail
      go_ret
      exact ⟨ret_int (by first | rfl | rw [g1]), rfl⟩
    · by_cases n2 : s.size < n
      · have g1 := f2.out (by omega) n2
        go_wp2_with fail
        go_ret
        exact ⟨ret_int (by first | rfl | (rw [g1]; rfl)), rfl⟩
      · have h1 : 1 < s.size := by omega
        clear f1 f2
        go_wp2_with fail
        refine (lowest_any s[0].toNat hb _).mono ?_
        rintro e w' ⟨rfl, rfl⟩
        go_wp2_with fail
        refine (highest_any s[0].toNat hb _).mono ?_
        rintro e w' ⟨rfl, rfl⟩
        have hb1 := byte_lt s[1]
        generalize chLo s[0].toNat = lo at *
        generalize chHi s[0].toNat = hi at *
        by_cases c1 : s[1].toNat < lo
        · have g1 := f3.out (by omega) h1 (by omega)
          go_wp2_with fail
          go_ret
          exact ⟨ret_int (by first | rfl | (rw [g1]; rfl)), rfl⟩
        · by_cases c2 : hi < s[1].toNat
          · have g1 := f3.out (by omega) h1 (by omega)
            go_wp2_with fail
            go_ret
            exact ⟨ret_int (by first | rfl | (rw [g1]; rfl)), rfl⟩
          · clear f3
            go_wp2_with fail
            go_loop [7] (fun i => ∃ k : Nat, 2 ≤ k ∧ k ≤ n ∧ i = .int .i64 k ∧ Hid (∀ j, 2 ≤ j → j < k → ∃ x, s.data.toList[j]? = some x ∧ 128 ≤ x.toNat ∧ x.toNat ≤ 191)) (fun i => n - (intOf i).toNat)
            case atStart => exact ⟨2, by omega, by omega, rfl, hide (fun j a b => by omega)⟩
            case round =>
              obtain ⟨k, hk2, hkn, rfl, hq⟩ := hrel
              by_cases hlt : k < n
              · have hks : k < s.size := by omega
                have hbk := byte_lt s[k]
                by_cases d1 : s[k].toNat < 128
                · have g1 := f4.out (by omega) k hks hk2 hlt (by omega)
                  clear f4 f5
                  go_wp2
                  go_ret
                  exact ⟨ret_int (by first | rfl | (rw [g1]; rfl)), rfl⟩
                · by_cases d2 : 191 < s[k].toNat
                  · have g1 := f4.out (by omega) k hks hk2 hlt (by omega)
                    clear f4 f5
                    go_wp2
                    go_ret
                    exact ⟨ret_int (by first | rfl | (rw [g1]; rfl)), rfl⟩
                  · have hq' : Hid (∀ j, 2 ≤ j → j < k + 1 → ∃ x, s.data.toList[j]? = some x ∧ 128 ≤ x.toNat ∧ x.toNat ≤ 191) := hide (fun j a b => by
                      by_cases e : j < k
                      · exact hq.out j a e
                      · have e : j = k := by omega
                        subst e
                        exact ⟨_, get_q s j hks, by omega, by omega⟩)
                    clear hq f4 f5
                    go_wp2
                    exact ⟨⟨k + 1, by omega, by omega, by go_num, hq'⟩, by simp [intOf]; omega⟩
              · have e : k = n := by omega
                subst e
                have g1 := f5.out (by omega) h1 (by omega) (by omega) hq.out
                clear hq f4 f5
                go_wp2
                go_ret
                exact ⟨ret_int (by first | rfl | rw [g1]), rfl⟩

theorem drop_extract (s : ByteArray) (n : Nat) (h : n ≤ s.size) : (s.extract n s.size).data.toList = s.data.toList.drop n := by
  rw [Lib.extract_data, List.take_of_length_le (by rw [List.length_drop, list_len]; omega)]
set_option maxRecDepth 100000 in
set_option maxHeartbeats 1000000 in
theorem isMemo_any (s : ByteArray) (hs : s.size ≤ maxLen) (w : World) :
    Calls Tryz.prog 141 #[.string s] w fun e w' => e = .returned (.bool (memoB s.data.toList)) ∧ w' = w := by
  go_enter Tryz.func141, Tryz.ntmps141
  go_wp2
  go_loop [0, 3] (fun t i => ∃ (k : Nat) (r : ByteArray), k ≤ 16 ∧ i = .int .i64 k ∧ t = .string r ∧ r.size ≤ maxLen ∧ Hid (memoB s.data.toList = memoK (16 - k) r.data.toList)) (fun _ i => 16 - (intOf i).toNat)
  case atStart => exact ⟨0, s, by decide, rfl, rfl, hs, hide rfl⟩
  case round =>
    obtain ⟨k, r, hk, rfl, rfl, hr, hm⟩ := hrel
    by_cases hlt : k < 16
    · have hle : chSize r.data.toList ≤ r.size := by have := chSize_le r.data.toList; simpa using this
      have hm' : Hid (memoB s.data.toList = memoK (16 - (k + 1)) (r.extract (chSize r.data.toList) r.size).data.toList) := hide (by
        rw [hm.out, show 16 - k = (16 - (k + 1)) + 1 by omega, drop_extract _ _ hle]; rfl)
      have hz : (r.extract (chSize r.data.toList) r.size).size ≤ maxLen := by
        have h1 : (r.extract (chSize r.data.toList) r.size).size = r.size - chSize r.data.toList := by simp
        unfold maxLen at hr ⊢
        omega
      clear hm
      go_wp2_with fail
      refine (chSize_any r hr _).mono ?_
      rintro e w' ⟨rfl, rfl⟩
      generalize chSize r.data.toList = n at *
      go_wp2
      exact ⟨⟨k + 1, _, by omega, by go_num, rfl, hz, hm'⟩, by simp [intOf]; omega⟩
    · have e : k = 16 := by omega
      subst e
      go_wp2
      go_ret
      exact ⟨by rw [hm.out, ByteArray.toList_eq]; rfl, rfl⟩

end Go.Proofs.YtjkhbjgfoopomaaGreat
