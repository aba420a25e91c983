import Derived.Lib.Strings
import Derived.Test.YtjkhbjgfoopomabGreatA5
namespace Go.Proofs.YtjkhbjgfoopomabGreat
open Go.RowKit
set_option maxRecDepth 100000
set_option maxHeartbeats 1000000
set_option linter.unusedVariables false
theorem sizeAfter_any (b : Nat) (hb : b < 256) (w : World) :
  Calls Tryz.prog 152 #[.int .u8 (b : Int)] w fun e w' => e = .returned (.int .i64 ((chLen b : Nat) : Int)) ∧ w' = w := by
 go_enter Tryz.func152, Tryz.ntmps152
 go_wp2
 all_goals go_ret
 all_goals refine ⟨ret_int ?_, rfl⟩
 all_goals unfold chLen
 all_goals (repeat' split) <;> omega
theorem lowest_any (b : Nat) (hb : b < 256) (w : World) :
  Calls Tryz.prog 153 #[.int .u8 (b : Int)] w fun e w' => e = .returned (.int .u8 ((chLo b : Nat) : Int)) ∧ w' = w := by
 go_enter Tryz.func153, Tryz.ntmps153
 go_wp2
 all_goals go_ret
 all_goals refine ⟨ret_int ?_, rfl⟩
 all_goals unfold chLo
 all_goals simp_all
 all_goals (repeat' split) <;> omega
theorem highest_any (b : Nat) (hb : b < 256) (w : World) :
  Calls Tryz.prog 154 #[.int .u8 (b : Int)] w fun e w' => e = .returned (.int .u8 ((chHi b : Nat) : Int)) ∧ w' = w := by
 go_enter Tryz.func154, Tryz.ntmps154
 go_wp2
 all_goals go_ret
 all_goals refine ⟨ret_int ?_, rfl⟩
 all_goals unfold chHi
 all_goals simp_all
 all_goals (repeat' split) <;> omega
def chFollow (b : Nat) (n lo hi : Int) : Prop := n = (chLen b : Int) - 1 ∧ (2 ≤ chLen b → lo = chLo b ∧ hi = chHi b)
theorem follow_ret {b : Nat} {n lo hi : Int} {w : World} (h : chFollow b n lo hi) :
  (∃ n' lo' hi' : Int, Ending.returned (.tuple #[.int .i64 n, .int .u8 lo, .int .u8 hi]) = .returned (.tuple #[.int .i64 n', .int .u8 lo', .int .u8 hi']) ∧ chFollow b n' lo' hi') ∧ w = w :=
 ⟨⟨n, lo, hi, rfl, h⟩, rfl⟩
theorem follow_any (b : Nat) (hb : b < 256) (w : World) :
  Calls Tryz.prog 164 #[.int .u8 (b : Int)] w fun e w' => (∃ n lo hi : Int, e = .returned (.tuple #[.int .i64 n, .int .u8 lo, .int .u8 hi]) ∧ chFollow b n lo hi) ∧ w' = w := by
 go_enter Tryz.func164, Tryz.ntmps164
 go_wp2
 all_goals go_ret3
 all_goals refine follow_ret ?_
 all_goals try simp only [beq_iff_eq, beq_eq_false_iff_ne, ne_eq] at *
 all_goals unfold chFollow chLen chLo chHi
 all_goals (repeat' split) <;> omega
theorem ret_bool {a b : Bool} (h : a = b) : Ending.returned (.bool a) = .returned (.bool b) := by rw [h]
theorem empty_size {s : ByteArray} (h : s.size = 0) : s.toList.isEmpty = true := by
 rw [ByteArray.toList_eq]
 have : s.data.toList.length = 0 := by simpa using h
 rw [List.length_eq_zero_iff.1 this]
 rfl
theorem nonempty_size {s : ByteArray} (h : ¬ s.size = 0) : s.toList.isEmpty = false := by
 rw [ByteArray.toList_eq]
 have : ¬ s.data.toList.length = 0 := by simpa using h
 cases e : s.data.toList with
 | nil => rw [e] at this; simp at this
 | cons b r => rfl
theorem get_q (s : ByteArray) (k : Nat) (h : k < s.size) : s.data.toList[k]? = some s[k] := by
 rw [List.getElem?_eq_getElem (by simpa using h)]
 rfl
theorem list_len (s : ByteArray) : s.data.toList.length = s.size := by simp
theorem chSize_any (s : ByteArray) (hs : s.size ≤ maxLen) (w : World) :
  Calls Tryz.prog 136 #[.string s] w fun e w' => e = .returned (.int .i64 ((chSize s.data.toList : Nat) : Int)) ∧ w' = w := by
 unfold maxLen at hs
 by_cases h0 : s.size = 0
 ·have he := empty_size h0
  have hf : Hid (chSize s.data.toList = 0) := hide (by
   have : s.data.toList.length = 0 := by simpa using h0
   rw [List.length_eq_zero_iff.1 this]; rfl)
  go_enter Tryz.func136, Tryz.ntmps136;go_wp2_with fail
  go_ret;exact ⟨ret_int (by rw [hf.out]; rfl), rfl⟩
 ·have he := nonempty_size h0;have hz : 0 < s.size := by omega
  have g0 := get_q s 0 hz;have hb := byte_lt s[0];have h4 := chLen_le s[0].toNat;have f1 : Hid (chLen s[0].toNat ≤ 1 → chSize s.data.toList = chLen s[0].toNat) := hide (chSize_one g0);have f2 : Hid (2 ≤ chLen s[0].toNat → s.size < chLen s[0].toNat → chSize s.data.toList = 0) := hide (fun a b => chSize_not g0 a (.inl (by simpa using b)));have f3 : Hid (2 ≤ chLen s[0].toNat → ∀ h1 : 1 < s.size, ¬ (chLo s[0].toNat ≤ s[1].toNat ∧ s[1].toNat ≤ chHi s[0].toNat) → chSize s.data.toList = 0) := hide (fun a h1 b => chSize_not g0 a (.inr (.inl ⟨_, get_q s 1 h1, b⟩)))
  have f4 : Hid (2 ≤ chLen s[0].toNat → ∀ j, ∀ hj : j < s.size, 2 ≤ j → j < chLen s[0].toNat → ¬ (128 ≤ s[j].toNat ∧ s[j].toNat ≤ 191) → chSize s.data.toList = 0) :=
   hide (fun a j hj h2 hl b => chSize_not g0 a (.inr (.inr ⟨j, _, h2, hl, get_q s j hj, b⟩)))
  have f5 : Hid (2 ≤ chLen s[0].toNat → ∀ h1 : 1 < s.size, chLo s[0].toNat ≤ s[1].toNat → s[1].toNat ≤ chHi s[0].toNat → (∀ j, 2 ≤ j → j < chLen s[0].toNat → ∃ x, s.data.toList[j]? = some x ∧ 128 ≤ x.toNat ∧ x.toNat ≤ 191) → chSize s.data.toList = chLen s[0].toNat) :=
   hide (fun a h1 b c d => chSize_ok g0 (get_q s 1 h1) a ⟨b, c⟩ d)
  clear g0;generalize hF : chSize s.data.toList = F at *;clear hF;go_enter Tryz.func136, Tryz.ntmps136;go_wp2_with fail
  refine (sizeAfter_any s[0].toNat hb _).mono ?_;rintro e w' ⟨rfl, rfl⟩;generalize chLen s[0].toNat = n at *;by_cases n1 : n ≤ 1
  ·have g1 := f1.out n1;go_wp2_with fail
   go_ret;exact ⟨ret_int (by first | rfl | rw [g1]), rfl⟩
  ·by_cases n2 : s.size < n
   ·have g1 := f2.out (by omega) n2;go_wp2_with fail
    go_ret;exact ⟨ret_int (by first | rfl | (rw [g1]; rfl)), rfl⟩
   ·have h1 : 1 < s.size := by omega
    clear f1 f2;go_wp2_with fail
    refine (lowest_any s[0].toNat hb _).mono ?_;rintro e w' ⟨rfl, rfl⟩;go_wp2_with fail
    refine (highest_any s[0].toNat hb _).mono ?_;rintro e w' ⟨rfl, rfl⟩;have hb1 := byte_lt s[1];generalize chLo s[0].toNat = lo at *;generalize chHi s[0].toNat = hi at *;by_cases c1 : s[1].toNat < lo
    ·have g1 := f3.out (by omega) h1 (by omega);go_wp2_with fail
     go_ret;exact ⟨ret_int (by first | rfl | (rw [g1]; rfl)), rfl⟩
    ·by_cases c2 : hi < s[1].toNat
     ·have g1 := f3.out (by omega) h1 (by omega);go_wp2_with fail
      go_ret;exact ⟨ret_int (by first | rfl | (rw [g1]; rfl)), rfl⟩
     ·clear f3;go_wp2_with fail
      go_loop [7] (fun i => ∃ k : Nat, 2 ≤ k ∧ k ≤ n ∧ i = .int .i64 k ∧ Hid (∀ j, 2 ≤ j → j < k → ∃ x, s.data.toList[j]? = some x ∧ 128 ≤ x.toNat ∧ x.toNat ≤ 191)) (fun i => n - (intOf i).toNat)
      case atStart => exact ⟨2, by omega, by omega, rfl, hide (fun j a b => by omega)⟩
      case round =>
       obtain ⟨k, hk2, hkn, rfl, hq⟩ := hrel;by_cases hlt : k < n
       ·have hks : k < s.size := by omega
        have hbk := byte_lt s[k];by_cases d1 : s[k].toNat < 128
        ·have g1 := f4.out (by omega) k hks hk2 hlt (by omega);clear f4 f5;go_wp2;go_ret;exact ⟨ret_int (by first | rfl | (rw [g1]; rfl)), rfl⟩
        ·by_cases d2 : 191 < s[k].toNat
         ·have g1 := f4.out (by omega) k hks hk2 hlt (by omega);clear f4 f5;go_wp2;go_ret;exact ⟨ret_int (by first | rfl | (rw [g1]; rfl)), rfl⟩
         ·have hq' : Hid (∀ j, 2 ≤ j → j < k + 1 → ∃ x, s.data.toList[j]? = some x ∧ 128 ≤ x.toNat ∧ x.toNat ≤ 191) := hide (fun j a b => by
           by_cases e : j < k
           ·exact hq.out j a e
           ·have e : j = k := by omega
            subst e
            exact ⟨_, get_q s j hks, by omega, by omega⟩)
          clear hq f4 f5;go_wp2;exact ⟨⟨k + 1, by omega, by omega, by go_num, hq'⟩, by simp [intOf]; omega⟩
       ·have e : k = n := by omega
        subst e;have g1 := f5.out (by omega) h1 (by omega) (by omega) hq.out;clear hq f4 f5;go_wp2;go_ret;exact ⟨ret_int (by first | rfl | rw [g1]), rfl⟩
theorem drop_extract (s : ByteArray) (n : Nat) (h : n ≤ s.size) : (s.extract n s.size).data.toList = s.data.toList.drop n := by
 rw [Lib.extract_data, List.take_of_length_le (by rw [List.length_drop, list_len]; omega)]
theorem isMemo_any (s : ByteArray) (hs : s.size ≤ maxLen) (w : World) :
  Calls Tryz.prog 102 #[.string s] w fun e w' => e = .returned (.bool (memoB s.data.toList)) ∧ w' = w := by
 go_enter Tryz.func102, Tryz.ntmps102
 go_wp2
 go_loop [0, 3] (fun t i => ∃ (k : Nat) (r : ByteArray), k ≤ 16 ∧ i = .int .i64 k ∧ t = .string r ∧ r.size ≤ maxLen ∧ Hid (memoB s.data.toList = memoK (16 - k) r.data.toList)) (fun _ i => 16 - (intOf i).toNat)
 case atStart => exact ⟨0, s, by decide, rfl, rfl, hs, hide rfl⟩
 case round =>
  obtain ⟨k, r, hk, rfl, rfl, hr, hm⟩ := hrel;by_cases hlt : k < 16
  ·have hle : chSize r.data.toList ≤ r.size := by have := chSize_le r.data.toList; simpa using this
   have hm' : Hid (memoB s.data.toList = memoK (16 - (k + 1)) (r.extract (chSize r.data.toList) r.size).data.toList) := hide (by
    rw [hm.out, show 16 - k = (16 - (k + 1)) + 1 by omega, drop_extract _ _ hle]; rfl)
   have hz : (r.extract (chSize r.data.toList) r.size).size ≤ maxLen := by
    have h1 : (r.extract (chSize r.data.toList) r.size).size = r.size - chSize r.data.toList := by simp
    unfold maxLen at hr ⊢;omega
   clear hm;go_wp2_with fail
   refine (chSize_any r hr _).mono ?_;rintro e w' ⟨rfl, rfl⟩;generalize chSize r.data.toList = n at *;go_wp2;exact ⟨⟨k + 1, _, by omega, by go_num, rfl, hz, hm'⟩, by simp [intOf]; omega⟩
  ·have e : k = 16 := by omega
   subst e;go_wp2;go_ret;exact ⟨by rw [hm.out, ByteArray.toList_eq]; rfl, rfl⟩
theorem get_drop (s : ByteArray) (i k : Nat) (h : i + k < s.size) : (s.data.toList.drop i)[k]? = some s[i + k] := by
 rw [List.getElem?_drop]; exact get_q s _ h
theorem index_sum (s : ByteArray) (k j : Nat) (h : k + j < s.size) (u : World) : (Instr.index 9 (.string s) (.int .i64 ((k : Int) + (j : Int)))).run Tryz.prog u = .ok (.int .u8 (s[k + j].toNat : Int)) u := by
 rw [run_index_string u 9 s .i64 _ Tryz.underlying9]
 have e : ((k : Int) + (j : Int)).toNat = k + j := by omega
 rw [dif_pos (by omega)]
 simp only [e]
def pickLo (j clo : Nat) : Nat := if j = 1 then clo else 128
def pickHi (j chi : Nat) : Nat := if j = 1 then chi else 191
theorem pickLo_late {j clo : Nat} (h : ¬ j = 1) : pickLo j clo = 128 := by simp [pickLo, h]
theorem pickHi_late {j chi : Nat} (h : ¬ j = 1) : pickHi j chi = 191 := by simp [pickHi, h]
theorem refMemo_any (s : ByteArray) (hs : s.size ≤ 140737488351232) (w : World) :
  Calls Tryz.prog 150 #[.string s] w fun e w' => e = .returned (.bool (memoB s.data.toList)) ∧ w' = w := by
 go_enter Tryz.func150, Tryz.ntmps150
 go_wp2
 go_loop [3, 4] (fun c i => ∃ (k m : Nat), k ≤ s.size ∧ m ≤ k ∧ i = .int .i64 k ∧ c = .int .i64 m ∧ Hid (MemoAt s.data.toList k m)) (fun _ i => s.size - (intOf i).toNat)
 case atStart => exact ⟨0, 0, by omega, by omega, rfl, rfl, hide (memoAt_zero _)⟩
 case round =>
  obtain ⟨k, m, hk, hmk, rfl, rfl, hm⟩ := hrel;by_cases hlt : k < s.size
  ·have g0 := get_drop s k 0 hlt;have hb := byte_lt s[k];have h4 := chLen_le s[k].toNat;have f0 : Hid (chSize (s.data.toList.drop k) = 0 → memoB s.data.toList = false) := hide (fun h => memoAt_none hm.out (by rw [list_len]; exact hlt) h);have f1 : Hid (chLen s[k].toNat ≤ 1 → chSize (s.data.toList.drop k) = chLen s[k].toNat) := hide (fun h => chSize_one g0 h);have f2 : Hid (2 ≤ chLen s[k].toNat → s.size - k < chLen s[k].toNat → chSize (s.data.toList.drop k) = 0) := hide (fun a b => chSize_not g0 a (.inl (by rw [List.length_drop, list_len]; exact b)));have f3 : Hid (2 ≤ chLen s[k].toNat → ∀ h1 : k + 1 < s.size, ¬ (chLo s[k].toNat ≤ s[k + 1].toNat ∧ s[k + 1].toNat ≤ chHi s[k].toNat) → chSize (s.data.toList.drop k) = 0) := hide (fun a h1 b => chSize_not g0 a (.inr (.inl ⟨_, get_drop s k 1 h1, b⟩)))
   have f4 : Hid (2 ≤ chLen s[k].toNat → ∀ j, ∀ hj : k + j < s.size, 2 ≤ j → j < chLen s[k].toNat → ¬ (128 ≤ s[k + j].toNat ∧ s[k + j].toNat ≤ 191) → chSize (s.data.toList.drop k) = 0) :=
    hide (fun a j hj h2 hl b => chSize_not g0 a (.inr (.inr ⟨j, _, h2, hl, get_drop s k j hj, b⟩)))
   have f5 : Hid (2 ≤ chLen s[k].toNat → ∀ h1 : k + 1 < s.size, chLo s[k].toNat ≤ s[k + 1].toNat → s[k + 1].toNat ≤ chHi s[k].toNat → (∀ j, 2 ≤ j → j < chLen s[k].toNat → ∃ x, (s.data.toList.drop k)[j]? = some x ∧ 128 ≤ x.toNat ∧ x.toNat ≤ 191) → chSize (s.data.toList.drop k) = chLen s[k].toNat) :=
    hide (fun a h1 b c d => chSize_ok g0 (get_drop s k 1 h1) a ⟨b, c⟩ d)
   have f6 : Hid (MemoAt s.data.toList (k + chSize (s.data.toList.drop k)) (m + 1)) := hide (memoAt_succ hm.out (by rw [list_len]; exact hlt));clear g0 hm;generalize hN : chSize (s.data.toList.drop k) = N at *;clear hN;go_wp2_with fail
   refine (follow_any s[k].toNat hb _).mono ?_;rintro e w' ⟨⟨q, lo, hi, rfl, hq, hlh⟩, rfl⟩;generalize chLen s[k].toNat = n at *;generalize chLo s[k].toNat = clo at *;generalize chHi s[k].toNat = chi at *;by_cases n0 : n = 0
   ·subst n0;obtain rfl : q = -1 := by omega
    have g1 : Hid (memoB s.data.toList = false) := hide (f0.out (f1.out (by omega)));clear f0 f1 f2 f3 f4 f5 f6 hlh hq;go_wp2_with fail
    go_ret;exact ⟨ret_bool (by rw [g1.out]), rfl⟩
   ·obtain ⟨p, rfl⟩ : ∃ p, n = p + 1 := ⟨n - 1, by omega⟩;obtain rfl : q = (p : Int) := by omega
    have hp0 : decide ((p : Int) < 0) = false := by simp
    by_cases n2 : s.size ≤ k + p
    ·have n3 : decide ((s.size : Int) ≤ (k : Int) + (p : Int)) = true := by simp; omega
     have g1 : Hid (memoB s.data.toList = false) := hide (f0.out (by
      by_cases p0 : p = 0
      ·omega
      ·exact f2.out (by omega) (by omega)))
     clear f0 f1 f2 f3 f4 f5 f6 hlh hq;go_wp2_with fail
     go_ret;exact ⟨ret_bool (by rw [g1.out]), rfl⟩
    ·have hp : k + p < s.size := by omega
     have hlh' : 1 ≤ p → lo = (clo : Int) ∧ hi = (chi : Int) := fun h => hlh (by omega);have g6 : Hid ((p = 0 → N = 1) ∧ MemoAt s.data.toList (k + N) (m + 1)) := hide ⟨fun e => by subst e; exact f1.out (by omega), f6.out⟩;clear f1 f2 f6 hlh hq n2;have H0 := hide hlh';clear hlh';go_wp2_with fail
     go_loop [6, 7, 8] (fun a b c => ∃ (j : Nat) (x y : Int), 1 ≤ j ∧ j ≤ p + 1 ∧ a = .int .u8 x ∧ b = .int .u8 y ∧ c = .int .i64 j ∧ Hid (1 ≤ p → x = (pickLo j clo : Nat) ∧ y = (pickHi j chi : Nat)) ∧
      Hid ((1 < j → ∃ h1 : k + 1 < s.size, clo ≤ s[k + 1].toNat ∧ s[k + 1].toNat ≤ chi) ∧ ∀ i, 2 ≤ i → i < j → ∃ x, (s.data.toList.drop k)[i]? = some x ∧ 128 ≤ x.toNat ∧ x.toNat ≤ 191)) (fun _ _ c => p + 1 - (intOf c).toNat)
     case atStart => exact ⟨1, lo, hi, by omega, by omega, rfl, rfl, rfl, H0, hide ⟨fun h => by omega, fun i a b => by omega⟩⟩
     case round =>
      obtain ⟨j, x, y, hj1, hjp, rfl, rfl, rfl, hxy, hq⟩ := hrel;by_cases hl : j ≤ p
      ·obtain ⟨rfl, rfl⟩ := hxy.out (by omega);have hkj : k + j < s.size := by omega
       have hbj := byte_lt s[k + j]
       have hne : Hid (¬ (pickLo j clo ≤ s[k + j].toNat ∧ s[k + j].toNat ≤ pickHi j chi) → memoB s.data.toList = false) := hide (fun h => f0.out (by
        by_cases e : j = 1
        ·subst e;exact f3.out (by omega) hkj h
        ·rw [pickLo_late e, pickHi_late e] at h
         exact f4.out (by omega) j hkj (by omega) (by omega) h))
       have hnx : Hid (pickLo j clo ≤ s[k + j].toNat → s[k + j].toNat ≤ pickHi j chi → ((1 < j + 1 → ∃ h1 : k + 1 < s.size, clo ≤ s[k + 1].toNat ∧ s[k + 1].toNat ≤ chi) ∧ ∀ i, 2 ≤ i → i < j + 1 → ∃ x, (s.data.toList.drop k)[i]? = some x ∧ 128 ≤ x.toNat ∧ x.toNat ≤ 191)) := hide (fun a b => by
        by_cases e : j = 1
        ·subst e;exact ⟨fun _ => ⟨hkj, a, b⟩, fun i a b => by omega⟩
        ·rw [pickLo_late e] at a;rw [pickHi_late e] at b;refine ⟨fun _ => hq.out.1 (by omega), fun i h2 hi => ?_⟩;by_cases ei : i < j
         ·exact hq.out.2 i h2 ei
         ·obtain rfl : i = j := by omega
          exact ⟨_, get_drop s k i hkj, a, b⟩)
       have hlate : Hid (1 ≤ p → (128 : Int) = (pickLo (j + 1) clo : Nat) ∧ (191 : Int) = (pickHi (j + 1) chi : Nat)) := hide (fun _ => by rw [pickLo_late (by omega), pickHi_late (by omega)]; exact ⟨rfl, rfl⟩);clear hxy hq f0 f3 f4 f5;generalize pickLo j clo = x at *;generalize pickHi j chi = y at *;have hidx : ∀ u : World, (Instr.index 9 (.string s) (.int .i64 ((k : Int) + (j : Int)))).run Tryz.prog u = .ok (.int .u8 (s[k + j].toNat : Int)) u := fun u => index_sum s k j hkj u;by_cases d1 : s[k + j].toNat < x
       ·have g1 : Hid (memoB s.data.toList = false) := hide (hne.out (by omega));clear hne hnx hlate;go_wp2;go_ret;exact ⟨ret_bool (by rw [g1.out]), rfl⟩
       ·have e1 : decide ((s[k + j].toNat : Int) < (x : Int)) = false := by simp; omega
        by_cases d2 : y < s[k + j].toNat
        ·have e2 : decide ((y : Int) < (s[k + j].toNat : Int)) = true := by simp; omega
         have g1 : Hid (memoB s.data.toList = false) := hide (hne.out (by omega));clear hne hnx hlate;go_wp2;go_ret;exact ⟨ret_bool (by rw [g1.out]), rfl⟩
        ·have e2 : decide ((y : Int) < (s[k + j].toNat : Int)) = false := by simp; omega
         have g1 := hide (hnx.out (by omega) (by omega));clear hne hnx;go_wp2;exact ⟨⟨j + 1, 128, 191, by omega, by omega, rfl, rfl, by go_num, hlate, g1⟩, by simp [intOf]; omega⟩
      ·obtain rfl : j = p + 1 := by omega
       have hN : N = p + 1 := by
        by_cases p0 : p = 0
        ·subst p0; exact g6.out.1 rfl
        ·obtain ⟨h1, a, b⟩ := hq.out.1 (by omega);exact f5.out (by omega) h1 a b hq.out.2
       have g7 : Hid (MemoAt s.data.toList (k + (p + 1)) (m + 1)) := hide (by rw [← hN]; exact g6.out.2);clear hxy hq f0 f3 f4 f5 hN g6;go_wp2;exact ⟨⟨k + (p + 1), m + 1, by omega, by omega, by go_num, by go_num, g7⟩, by simp [intOf]; omega⟩
  ·have g1 : Hid (memoB s.data.toList = decide ((m : Int) ≤ 16)) := hide (by
    rw [memoAt_end hm.out (by rw [list_len]; omega)]
    exact decide_eq_decide.2 (by omega))
   clear hm;go_wp2;go_ret;exact ⟨ret_bool (by rw [g1.out]), rfl⟩
theorem box_kept {w w1 : World} {cs : Array Value} {t : TypeId} (hb : Below (w.alloc (.cells cs t)).heap.size (w.alloc (.cells cs t)) w1) (o : Nat) : w1.cell? ⟨w.heap.size, o, none⟩ = cs[o]? := by
 rw [hb.cell (p := ⟨w.heap.size, o, none⟩) (by simp), World.cell?_alloc_new]
theorem box_below {w w1 : World} {cs : Array Value} {t : TypeId} (hb : Below (w.alloc (.cells cs t)).heap.size (w.alloc (.cells cs t)) w1) : Below w.heap.size w w1 :=
 ((Below.refl _ _).alloc (Nat.le_refl _) _).trans (hb.mono (by simp))
theorem isBank_any (n : Nat) (hn : n < 256) (w : World) :
  Calls Tryz.prog 57 #[.int .u8 (n : Int)] w fun e w' => e = .returned (.bool (bankB n)) ∧ w' = w := by
 by_cases h : n = 0
 ·subst h;go_enter Tryz.func57, Tryz.ntmps57;go_wp2;go_ret;exact ⟨rfl, rfl⟩
 ·have h1 : ((n : Int) != 0) = true := by simp; omega
  have e : Hid (bankB n = decide ((n : Int) ≤ 7)) := hide (by
   have : 1 ≤ n := by omega
   simp only [bankB, this, decide_true, Bool.true_and]
   exact decide_eq_decide.2 (by omega))
  go_enter Tryz.func57, Tryz.ntmps57;go_wp2;go_ret;exact ⟨ret_bool (by rw [e.out]), rfl⟩
theorem way_any (x : Msg) (hx : x.ok) (w : World) :
  Calls Tryz.prog 156 #[x.v] w fun e w' => e = .returned (.bool (wayB x)) ∧ Below w.heap.size w w' := by
 obtain ⟨k, f, t, i, l, p, g, a, m⟩ := x
 obtain ⟨hk, hf, ht, hi, hl, hp, hg, ha⟩ := hx
 simp only [Msg.v, Msg.cells] at *
 by_cases h3 : k ≤ 3
 ·have d3 : decide ((k : Int) ≤ 3) = true := by simp; omega
  by_cases h0 : f = 0
  ·subst h0;have e : Hid (wayB ⟨k, 0, t, i, l, p, g, a, m⟩ = bankB t) := hide (by simp [wayB, h3]);go_enter Tryz.func156, Tryz.ntmps156;go_wp2_with fail
   refine (isBank_any t ht _).mono ?_;rintro e w1 ⟨rfl, rfl⟩;go_wp2;go_ret;exact ⟨ret_bool (by rw [e.out]), (Below.refl _ _).alloc (Nat.le_refl _) _⟩
  ·have d0 : ((f : Int) == 0) = false := by simp; omega
   have e : Hid (wayB ⟨k, f, t, i, l, p, g, a, m⟩ = false) := hide (by simp [wayB, h3, h0]);go_enter Tryz.func156, Tryz.ntmps156;go_wp2_with fail
   go_ret;exact ⟨ret_bool (by rw [e.out]), (Below.refl _ _).alloc (Nat.le_refl _) _⟩
 ·have d3 : decide ((k : Int) ≤ 3) = false := by simp; omega
  by_cases h0 : t = 0
  ·subst h0;have e : Hid (wayB ⟨k, f, 0, i, l, p, g, a, m⟩ = bankB f) := hide (by simp [wayB, h3]);go_enter Tryz.func156, Tryz.ntmps156;go_wp2_with fail
   refine (isBank_any f hf _).mono ?_;rintro e w1 ⟨rfl, rfl⟩;go_wp2;go_ret;exact ⟨ret_bool (by rw [e.out]), (Below.refl _ _).alloc (Nat.le_refl _) _⟩
  ·have d0 : ((t : Int) == 0) = false := by simp; omega
   have e : Hid (wayB ⟨k, f, t, i, l, p, g, a, m⟩ = false) := hide (by simp [wayB, h3, h0]);go_enter Tryz.func156, Tryz.ntmps156;go_wp2_with fail
   go_ret;exact ⟨ret_bool (by rw [e.out]), (Below.refl _ _).alloc (Nat.le_refl _) _⟩
theorem terms_any (x : Msg) (hx : x.ok) (hm : x.m.length ≤ 140737488351232) (w : World) :
  Calls Tryz.prog 157 #[x.v] w fun e w' => e = .returned (.int .i64 ((termsOf x : Nat) : Int)) ∧ Below w.heap.size w w' := by
 obtain ⟨k, f, t, i, l, p, g, a, m⟩ := x
 obtain ⟨hk, hf, ht, hi, hl, hp, hg, ha⟩ := hx
 simp only [Msg.v, Msg.cells] at *
 by_cases h0 : a = 0
 ·subst h0;have e : Hid (termsOf ⟨k, f, t, i, l, p, g, 0, m⟩ = 6) := hide (by simp [termsOf]);go_enter Tryz.func157, Tryz.ntmps157;go_wp2_with fail
  go_ret;exact ⟨ret_int (by rw [e.out]; rfl), (Below.refl _ _).alloc (Nat.le_refl _) _⟩
 ·have d0 : ((a : Int) == 0) = false := by simp; omega
  have e : Hid (termsOf ⟨k, f, t, i, l, p, g, a, m⟩ = if memoB m then 0 else 7) := hide (by simp [termsOf, h0]);have hms : (bs m).size ≤ maxLen := by rw [bs_size]; unfold maxLen; omega
  have hmd := bs_data m;go_enter Tryz.func157, Tryz.ntmps157;go_wp2_with fail
  refine (isMemo_any (bs m) hms _).mono ?_;rintro e w1 ⟨rfl, rfl⟩;rw [hmd];clear hmd;cases hb : memoB m with
  | true =>
   rw [hb] at e;clear hb;go_wp2;go_ret;exact ⟨ret_int (by rw [e.out]; rfl), (Below.refl _ _).alloc (Nat.le_refl _) _⟩
  | false =>
   rw [hb] at e;clear hb;go_wp2;go_ret;exact ⟨ret_int (by rw [e.out]; rfl), (Below.refl _ _).alloc (Nat.le_refl _) _⟩
theorem fault_any (x : Msg) (hx : x.ok) (hm : x.m.length ≤ 140737488351232) (w : World) :
  Calls Tryz.prog 143 #[x.v] w fun e w' => e = .returned (.int .i64 ((faultOf x : Nat) : Int)) ∧ Below w.heap.size w w' := by
 have hway := way_any x hx
 have hterm := terms_any x hx hm
 obtain ⟨k, f, t, i, l, p, g, a, m⟩ := x
 obtain ⟨hk, hf, ht, hi, hl, hp, hg, ha⟩ := hx
 generalize hwb : wayB ⟨k, f, t, i, l, p, g, a, m⟩ = wb at *
 generalize htb : termsOf ⟨k, f, t, i, l, p, g, a, m⟩ = tb at *
 simp only [Msg.v, Msg.cells] at *
 have Hway := hide hway
 have Hterm := hide hterm
 clear hway hterm
 by_cases k1 : 1 ≤ k
 ·have dk1 : decide ((k : Int) < 1) = false := by simp; omega
  by_cases k6 : k ≤ 6
  ·have dk6 : decide (6 < (k : Int)) = false := by simp; omega
   cases wb with
   | false =>
    have e : Hid (faultOf ⟨k, f, t, i, l, p, g, a, m⟩ = 4) := hide (by simp [faultOf, kindB, k1, k6, hwb]);clear hwb htb;go_enter Tryz.func143, Tryz.ntmps143;go_wp2_with fail
    refine (Hway.out _).mono ?_;rintro e w1 ⟨rfl, hb⟩;go_wp2;go_ret;exact ⟨ret_int (by rw [e.out]; rfl), box_below hb⟩
   | true =>
    by_cases l4 : 4 ≤ l
    ·have e : Hid (faultOf ⟨k, f, t, i, l, p, g, a, m⟩ = 5) := hide (by simp [faultOf, kindB, k1, k6, hwb, l4]);clear hwb htb;go_enter Tryz.func143, Tryz.ntmps143;go_wp2_with fail
     refine (Hway.out _).mono ?_;rintro e w1 ⟨rfl, hb⟩;have hc := box_kept hb;go_wp2;go_ret;exact ⟨ret_int (by rw [e.out]; rfl), box_below hb⟩
    ·by_cases ke : k = 1
     ·have dke : ((k : Int) == 1) = true := by simp; omega
      have e : Hid (faultOf ⟨k, f, t, i, l, p, g, a, m⟩ = tb) := hide (by subst ke; simp [faultOf, kindB, hwb, l4, htb]);clear hwb htb ke;go_enter Tryz.func143, Tryz.ntmps143;go_wp2_with fail
      refine (Hway.out _).mono ?_;rintro e w1 ⟨rfl, hb⟩;have hc := box_kept hb;go_wp2_with fail
      refine (Hterm.out _).mono ?_;rintro e w2 ⟨rfl, hb2⟩;go_wp2;go_ret;exact ⟨ret_int (by rw [e.out]), box_below (hb.trans (hb2.mono hb.size))⟩
     ·have dke : ((k : Int) == 1) = false := by simp; omega
      have e0 : Hid (faultOf ⟨k, f, t, i, l, p, g, a, m⟩ = if bareB ⟨k, f, t, i, l, p, g, a, m⟩ then 0 else 3) := hide (by simp [faultOf, kindB, k1, k6, ke, hwb, l4]);clear hwb htb ke Hterm;by_cases p0 : p = 0
      ·have dp : ((p : Int) != 0) = false := by simp; omega
       by_cases g0 : g = 0
       ·have dg : ((g : Int) != 0) = false := by simp; omega
        by_cases a0 : a = 0
        ·have da : ((a : Int) != 0) = false := by simp; omega
         cases m with
         | nil =>
          have dm : (bs []).toList.isEmpty = true := empty_size (by rw [bs_size]; rfl);have e : Hid (faultOf ⟨k, f, t, i, l, p, g, a, []⟩ = 0) := hide (by rw [e0.out]; simp [bareB, p0, g0, a0]);clear e0 p0 g0 a0;go_enter Tryz.func143, Tryz.ntmps143;go_wp2_with fail
          refine (Hway.out _).mono ?_;rintro e w1 ⟨rfl, hb⟩;have hc := box_kept hb;go_wp2;go_ret;exact ⟨ret_int (by rw [e.out]; rfl), box_below hb⟩
         | cons b r =>
          have dm : (bs (b :: r)).toList.isEmpty = false := nonempty_size (by rw [bs_size]; simp);have e : Hid (faultOf ⟨k, f, t, i, l, p, g, a, b :: r⟩ = 3) := hide (by rw [e0.out]; simp [bareB]);clear e0 p0 g0 a0;go_enter Tryz.func143, Tryz.ntmps143;go_wp2_with fail
          refine (Hway.out _).mono ?_;rintro e w1 ⟨rfl, hb⟩;have hc := box_kept hb;go_wp2;go_ret;exact ⟨ret_int (by rw [e.out]; rfl), box_below hb⟩
        ·have da : ((a : Int) != 0) = true := by simp; omega
         have e : Hid (faultOf ⟨k, f, t, i, l, p, g, a, m⟩ = 3) := hide (by rw [e0.out]; simp [bareB, a0]);clear e0 p0 g0 a0;go_enter Tryz.func143, Tryz.ntmps143;go_wp2_with fail
         refine (Hway.out _).mono ?_;rintro e w1 ⟨rfl, hb⟩;have hc := box_kept hb;go_wp2;go_ret;exact ⟨ret_int (by rw [e.out]; rfl), box_below hb⟩
       ·have dg : ((g : Int) != 0) = true := by simp; omega
        have e : Hid (faultOf ⟨k, f, t, i, l, p, g, a, m⟩ = 3) := hide (by rw [e0.out]; simp [bareB, g0]);clear e0 p0 g0;go_enter Tryz.func143, Tryz.ntmps143;go_wp2_with fail
        refine (Hway.out _).mono ?_;rintro e w1 ⟨rfl, hb⟩;have hc := box_kept hb;go_wp2;go_ret;exact ⟨ret_int (by rw [e.out]; rfl), box_below hb⟩
      ·have dp : ((p : Int) != 0) = true := by simp; omega
       have e : Hid (faultOf ⟨k, f, t, i, l, p, g, a, m⟩ = 3) := hide (by rw [e0.out]; simp [bareB, p0]);clear e0 p0;go_enter Tryz.func143, Tryz.ntmps143;go_wp2_with fail
       refine (Hway.out _).mono ?_;rintro e w1 ⟨rfl, hb⟩;have hc := box_kept hb;go_wp2;go_ret;exact ⟨ret_int (by rw [e.out]; rfl), box_below hb⟩
  ·have dk6 : decide (6 < (k : Int)) = true := by simp; omega
   have e : Hid (faultOf ⟨k, f, t, i, l, p, g, a, m⟩ = 3) := hide (by simp [faultOf, kindB, k6]);clear Hway Hterm hwb htb;go_enter Tryz.func143, Tryz.ntmps143;go_wp2_with fail
   go_ret;exact ⟨ret_int (by rw [e.out]; rfl), (Below.refl _ _).alloc (Nat.le_refl _) _⟩
 ·have dk1 : decide ((k : Int) < 1) = true := by simp; omega
  have e : Hid (faultOf ⟨k, f, t, i, l, p, g, a, m⟩ = 3) := hide (by simp [faultOf, kindB, k1]);clear Hway Hterm hwb htb;go_enter Tryz.func143, Tryz.ntmps143;go_wp2_with fail
  go_ret;exact ⟨ret_int (by rw [e.out]; rfl), (Below.refl _ _).alloc (Nat.le_refl _) _⟩
theorem u64_or_low (x : Nat) (b : UInt8) (hx : x < 72057594037927936) : bits .or .u64 ((x : Int) * 256) (b.toNat : Int) = ((x * 256 + b.toNat : Nat) : Int) := by
 have hb := byte_lt b
 rw [show (x : Int) * 256 = ((x * 256 : Nat) : Int) by omega, u64_or_nat _ _ (by omega) (by omega)]
 congr 1
 have := Nat.two_pow_add_eq_or_of_lt (i := 8) (b := b.toNat) (by omega) x
 rw [show x * 256 = 2 ^ 8 * x by omega, this]
theorem val_lt7 {l : List UInt8} (h : l.length ≤ 7) : val l < 72057594037927936 := by
 have h1 := val_lt l
 have h2 : 256 ^ l.length ≤ 256 ^ 7 := Nat.pow_le_pow_right (by decide) h
 omega
theorem val_lt8 {l : List UInt8} (h : l.length ≤ 8) : val l < 18446744073709551616 := by
 have h1 := val_lt l
 have h2 : 256 ^ l.length ≤ 256 ^ 8 := Nat.pow_le_pow_right (by decide) h
 omega
theorem number_any (s : ByteArray) (hs : s.size ≤ 8) (w : World) :
  Calls Tryz.prog 141 #[.string s] w fun e w' => e = .returned (.int .u64 ((val s.data.toList : Nat) : Int)) ∧ w' = w := by
 go_enter Tryz.func141, Tryz.ntmps141
 go_wp2
 go_loop [3, 4] (fun c i => ∃ k : Nat, k ≤ s.size ∧ i = .int .i64 k ∧ c = .int .u64 ((val (s.data.toList.take k) : Nat) : Int)) (fun _ i => s.size - (intOf i).toNat)
 case atStart => exact ⟨0, Nat.zero_le _, rfl, rfl⟩
 case round =>
  obtain ⟨k, hk, rfl, rfl⟩ := hrel;by_cases hlt : k < s.size
  ·have hd : val (s.data.toList.take k) < 72057594037927936 := val_lt7 (by simp; omega);have hn : Hid (val (s.data.toList.take (k + 1)) = val (s.data.toList.take k) * 256 + s[k].toNat) := hide (by rw [take_snoc s k hlt, val_snoc]);generalize val (s.data.toList.take k) = x at *;have hb := byte_lt s[k];have e1 := u64_or_low x s[k] hd;go_wp2;exact ⟨⟨k + 1, by omega, by go_num, by rw [hn.out]; go_num⟩, by simp [intOf]; omega⟩
  ·have hn : Hid (s.data.toList.take k = s.data.toList) := hide (List.take_of_length_le (by simp; omega));go_wp2;go_ret;exact ⟨ret_int (by rw [hn.out]), rfl⟩
theorem value_any (s : ByteArray) (hs : s.size ≤ 4) (w : World) :
  Calls Tryz.prog 135 #[.string s] w fun e w' => e = .returned (.int .u64 ((val s.data.toList : Nat) : Int)) ∧ w' = w := by
 go_enter Tryz.func135, Tryz.ntmps135
 go_wp2
 go_loop [3, 4] (fun c i => ∃ k : Nat, k ≤ s.size ∧ i = .int .i64 k ∧ c = .int .u64 ((val (s.data.toList.take k) : Nat) : Int)) (fun _ i => s.size - (intOf i).toNat)
 case atStart => exact ⟨0, Nat.zero_le _, rfl, rfl⟩
 case round =>
  obtain ⟨k, hk, rfl, rfl⟩ := hrel;by_cases hlt : k < s.size
  ·have hd : val (s.data.toList.take k) < 16777216 := val_lt3 (by simp; omega);have hn : Hid (val (s.data.toList.take (k + 1)) = val (s.data.toList.take k) * 256 + s[k].toNat) := hide (by rw [take_snoc s k hlt, val_snoc]);generalize val (s.data.toList.take k) = x at *;have hb := byte_lt s[k];go_wp2;exact ⟨⟨k + 1, by omega, by go_num, by rw [hn.out]; go_num⟩, by simp [intOf]; omega⟩
  ·have hn : Hid (s.data.toList.take k = s.data.toList) := hide (List.take_of_length_le (by simp; omega));go_wp2;go_ret;exact ⟨ret_int (by rw [hn.out]), rfl⟩
end Go.Proofs.YtjkhbjgfoopomabGreat
