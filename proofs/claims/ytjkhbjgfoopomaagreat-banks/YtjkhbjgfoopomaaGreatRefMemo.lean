/-
  The walk over the document's Memo.
-/
import Derived.Test.YtjkhbjgfoopomaaGreatMemoWalks
namespace Go.Proofs.YtjkhbjgfoopomaaGreat
open Go.RowKit
set_option linter.unusedVariables false

theorem get_drop (s : ByteArray) (i k : Nat) (h : i + k < s.size) : (s.data.toList.drop i)[k]? = some s[i + k] := by
  rw [List.getElem?_drop]; exact get_q s _ h
theorem index_sum (s : ByteArray) (k j : Nat) (h : k + j < s.size) (u : World) : (Instr.index 9 (.string s) (.int .i64 ((k : Int) + (j : Int)))).run Tryz.prog u = .ok (.int .u8 (s[k + j].toNat : Int)) u := by
  rw [run_index_string u 9 s .i64 _ Tryz.underlying9]
  have e : ((k : Int) + (j : Int)).toNat = k + j := by omega
  rw [dif_pos (by omega)]
  simp only [e]
def pickLo (j clo : Nat) : Nat := if j = 1 then clo else 128
def pickHi (j chi : Nat) : Nat := if j = 1 then chi else 191
theorem pickLo_late {j clo : Nat} (h : ¬ j = 1) : pickLo j clo = 128 := by simp [pickLo, h]
theorem pickHi_late {j chi : Nat} (h : ¬ j = 1) : pickHi j chi = 191 := by simp [pickHi, h]
set_option maxRecDepth 100000 in
set_option maxHeartbeats 1000000 in
theorem refMemo_any (s : ByteArray) (hs : s.size ≤ 140737488351232) (w : World) :
    Calls Tryz.prog 111 #[.string s] w fun e w' => e = .returned (.bool (memoB s.data.toList)) ∧ w' = w := by
  go_enter Tryz.func111, Tryz.ntmps111
  go_wp2
  go_loop [3, 4] (fun c i => ∃ (k m : Nat), k ≤ s.size ∧ m ≤ k ∧ i = .int .i64 k ∧ c = .int .i64 m ∧ Hid (MemoAt s.data.toList k m)) (fun _ i => s.size - (intOf i).toNat)
  case atStart => exact ⟨0, 0, by omega, by omega, rfl, rfl, hide (memoAt_zero _)⟩
  case round =>
    obtain ⟨k, m, hk, hmk, rfl, rfl, hm⟩ := hrel
    by_cases hlt : k < s.size
    · have g0 := get_drop s k 0 hlt
      have hb := byte_lt s[k]
      have h4 := chLen_le s[k].toNat
      have f0 : Hid (chSize (s.data.toList.drop k) = 0 → memoB s.data.toList = false) := hide (fun h => memoAt_none hm.out (by rw [list_len]; exact hlt) h)
      have f1 : Hid (chLen s[k].toNat ≤ 1 → chSize (s.data.toList.drop k) = chLen s[k].toNat) := hide (fun h => chSize_one g0 h)
      have f2 : Hid (2 ≤ chLen s[k].toNat → s.size - k < chLen s[k].toNat → chSize (s.data.toList.drop k) = 0) := hide (fun a b => chSize_not g0 a (.inl (by rw [List.length_drop, list_len]; exact b)))
      have f3 : Hid (2 ≤ chLen s[k].toNat → ∀ h1 : k + 1 < s.size, ¬ (chLo s[k].toNat ≤ s[k + 1].toNat ∧ s[k + 1].toNat ≤ chHi s[k].toNat) → chSize (s.data.toList.drop k) = 0) := hide (fun a h1 b => chSize_not g0 a (.inr (.inl ⟨_, get_drop s k 1 h1, b⟩)))
      have f4 : Hid (2 ≤ chLen s[k].toNat → ∀ j, ∀ hj : k + j < s.size, 2 ≤ j → j < chLen s[k].toNat → ¬ (128 ≤ s[k + j].toNat ∧ s[k + j].toNat ≤ 191) → chSize (s.data.toList.drop k) = 0) :=
        hide (fun a j hj h2 hl b => chSize_not g0 a (.inr (.inr ⟨j, _, h2, hl, get_drop s k j hj, b⟩)))
      have f5 : Hid (2 ≤ chLen s[k].toNat → ∀ h1 : k + 1 < s.size, chLo s[k].toNat ≤ s[k + 1].toNat → s[k + 1].toNat ≤ chHi s[k].toNat → (∀ j, 2 ≤ j → j < chLen s[k].toNat → ∃ x, (s.data.toList.drop k)[j]? = some x ∧ 128 ≤ x.toNat ∧ x.toNat ≤ 191) → chSize (s.data.toList.drop k) = chLen s[k].toNat) :=
        hide (fun a h1 b c d => chSize_ok g0 (get_drop s k 1 h1) a ⟨b, c⟩ d)
      have f6 : Hid (MemoAt s.data.toList (k + chSize (s.data.toList.drop k)) (m + 1)) := hide (memoAt_succ hm.out (by rw [list_len]; exact hlt))
      clear g0 hm
      generalize hN : chSize (s.data.toList.drop k) = N at *
      clear hN
      go_wp2_with fail
      refine (follow_any s[k].toNat hb _).mono ?_
      rintro e w' ⟨⟨q, lo, hi, rfl, hq, hlh⟩, rfl⟩
      generalize chLen s[k].toNat = n at *
      generalize chLo s[k].toNat = clo at *
      generalize chHi s[k].toNat = chi at *
      by_cases n0 : n = 0
      · subst n0
        obtain rfl : q = -1 := by omega
        have g1 : Hid (memoB s.data.toList = false) := hide (f0.out (f1.out (by omega)))
        clear f0 f1 f2 f3 f4 f5 f6 hlh hq
        go_wp2_with fail
        go_ret
        exact ⟨ret_bool (by rw [g1.out]), rfl⟩
      · obtain ⟨p, rfl⟩ : ∃ p, n = p + 1 := ⟨n - 1, by omega⟩
        obtain rfl : q = (p : Int) := by omega
        have hp0 : decide ((p : Int) < 0) = false := by simp
        by_cases n2 : s.size ≤ k + p
        · have n3 : decide ((s.size : Int) ≤ (k : Int) + (p : Int)) = true := by simp; omega
          have g1 : Hid (memoB s.data.toList = false) := hide (f0.out (by
            by_cases p0 : p = 0
            · omega
            · exact f2.out (by omega) (by omega)))
          clear f0 f1 f2 f3 f4 f5 f6 hlh hq
          go_wp2_with fail
          go_ret
          exact ⟨ret_bool (by rw [g1.out]), rfl⟩
        · have hp : k + p < s.size := by omega
          have hlh' : 1 ≤ p → lo = (clo : Int) ∧ hi = (chi : Int) := fun h => hlh (by omega)
          have g6 : Hid ((p = 0 → N = 1) ∧ MemoAt s.data.toList (k + N) (m + 1)) := hide ⟨fun e => by subst e; exact f1.out (by omega), f6.out⟩
          clear f1 f2 f6 hlh hq n2
          have H0 := hide hlh'
          clear hlh'
          go_wp2_with fail
          go_loop [6, 7, 8] (fun a b c => ∃ (j : Nat) (x y : Int), 1 ≤ j ∧ j ≤ p + 1 ∧ a = .int .u8 x ∧ b = .int .u8 y ∧ c = .int .i64 j ∧ Hid (1 ≤ p → x = (pickLo j clo : Nat) ∧ y = (pickHi j chi : Nat)) ∧
            Hid ((1 < j → ∃ h1 : k + 1 < s.size, clo ≤ s[k + 1].toNat ∧ s[k + 1].toNat ≤ chi) ∧ ∀ i, 2 ≤ i → i < j → ∃ x, (s.data.toList.drop k)[i]? = some x ∧ 128 ≤ x.toNat ∧ x.toNat ≤ 191)) (fun _ _ c => p + 1 - (intOf c).toNat)
          case atStart => exact ⟨1, lo, hi, by omega, by omega, rfl, rfl, rfl, H0, hide ⟨fun h => by omega, fun i a b => by omega⟩⟩
          case round =>
            obtain ⟨j, x, y, hj1, hjp, rfl, rfl, rfl, hxy, hq⟩ := hrel
            by_cases hl : j ≤ p
            · obtain ⟨rfl, rfl⟩ := hxy.out (by omega)
              have hkj : k + j < s.size := by omega
              have hbj := byte_lt s[k + j]
              have hne : Hid (¬ (pickLo j clo ≤ s[k + j].toNat ∧ s[k + j].toNat ≤ pickHi j chi) → memoB s.data.toList = false) := hide (fun h => f0.out (by
                by_cases e : j = 1
                · subst e
                  exact f3.out (by omega) hkj h
                · rw [pickLo_late e, pickHi_late e] at h
                  exact f4.out (by omega) j hkj (by omega) (by omega) h))
              have hnx : Hid (pickLo j clo ≤ s[k + j].toNat → s[k + j].toNat ≤ pickHi j chi → ((1 < j + 1 → ∃ h1 : k + 1 < s.size, clo ≤ s[k + 1].toNat ∧ s[k + 1].toNat ≤ chi) ∧ ∀ i, 2 ≤ i → i < j + 1 → ∃ x, (s.data.toList.drop k)[i]? = some x ∧ 128 ≤ x.toNat ∧ x.toNat ≤ 191)) := hide (fun a b => by
                by_cases e : j = 1
                · subst e
                  exact ⟨fun _ => ⟨hkj, a, b⟩, fun i a b => by omega⟩
                · rw [pickLo_late e] at a
                  rw [pickHi_late e] at b
                  refine ⟨fun _ => hq.out.1 (by omega), fun i h2 hi => ?_⟩
                  by_cases ei : i < j
                  · exact hq.out.2 i h2 ei
                  · obtain rfl : i = j := by omega
                    exact ⟨_, get_drop s k i hkj, a, b⟩)
              have hlate : Hid (1 ≤ p → (128 : Int) = (pickLo (j + 1) clo : Nat) ∧ (191 : Int) = (pickHi (j + 1) chi : Nat)) := hide (fun _ => by rw [pickLo_late (by omega), pickHi_late (by omega)]; exact ⟨rfl, rfl⟩)
              clear hxy hq f0 f3 f4 f5
              generalize pickLo j clo = x at *
              generalize pickHi j chi = y at *
              have hidx : ∀ u : World, (Instr.index 9 (.string s) (.int .i64 ((k : Int) + (j : Int)))).run Tryz.prog u = .ok (.int .u8 (s[k + j].toNat : Int)) u := fun u => index_sum s k j hkj u
              by_cases d1 : s[k + j].toNat < x
              · have g1 : Hid (memoB s.data.toList = false) := hide (hne.out (by omega))
                clear hne hnx hlate
                go_wp2
                go_ret
                exact ⟨ret_bool (by rw [g1.out]), rfl⟩
              · have e1 : decide ((s[k + j].toNat : Int) < (x : Int)) = false := by simp; omega
                by_cases d2 : y < s[k + j].toNat
                · have e2 : decide ((y : Int) < (s[k + j].toNat : Int)) = true := by simp; omega
                  have g1 : Hid (memoB s.data.toList = false) := hide (hne.out (by omega))
                  clear hne hnx hlate
                  go_wp2
                  go_ret
                  exact ⟨ret_bool (by rw [g1.out]), rfl⟩
                · have e2 : decide ((y : Int) < (s[k + j].toNat : Int)) = false := by simp; omega
                  have g1 := hide (hnx.out (by omega) (by omega))
                  clear hne hnx
                  go_wp2
                  exact ⟨⟨j + 1, 128, 191, by omega, by omega, rfl, rfl, by go_num, hlate, g1⟩, by simp [intOf]; omega⟩
            · obtain rfl : j = p + 1 := by omega
              have hN : N = p + 1 := by
                by_cases p0 : p = 0
                · subst p0; exact g6.out.1 rfl
                · obtain ⟨h1, a, b⟩ := hq.out.1 (by omega)
                  exact f5.out (by omega) h1 a b hq.out.2
              have g7 : Hid (MemoAt s.data.toList (k + (p + 1)) (m + 1)) := hide (by rw [← hN]; exact g6.out.2)
              clear hxy hq f0 f3 f4 f5 hN g6
              go_wp2
              exact ⟨⟨k + (p + 1), m + 1, by omega, by omega, by go_num, by go_num, g7⟩, by simp [intOf]; omega⟩
    · have g1 : Hid (memoB s.data.toList = decide ((m : Int) ≤ 16)) := hide (by
        rw [memoAt_end hm.out (by rw [list_len]; omega)]
        exact decide_eq_decide.2 (by omega))
      clear hm
      go_wp2
      go_ret
      exact ⟨ret_bool (by rw [g1.out]), rfl⟩
end Go.Proofs.YtjkhbjgfoopomaaGreat
