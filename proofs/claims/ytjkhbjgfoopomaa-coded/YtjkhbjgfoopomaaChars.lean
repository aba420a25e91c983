/-
  Plain: characters laid one behind the other.
-/
import Derived.Test.YtjkhbjgfoopomaaMemo
namespace Go.Proofs.Ytjkhbjgfoopomaa
/-! characters laid one behind the other -/
def IsCh (c : List UInt8) : Prop := chSize c = c.length ∧ c ≠ []
theorem okTail_append {n : Nat} {r : List UInt8} (h : okTail n r = true) (q : List UInt8) : okTail n (r ++ q) = true := by
  induction n generalizing r with
  | zero => rfl
  | succ n ih =>
    cases r with
    | nil => simp [okTail] at h
    | cons b r =>
      simp only [okTail, Bool.and_eq_true, List.cons_append] at h ⊢
      exact ⟨h.1, ih h.2⟩
theorem ch_append {c : List UInt8} (h : IsCh c) (q : List UInt8) : chSize (c ++ q) = c.length := by
  obtain ⟨h, hne⟩ := h
  match c, hne with
  | [b], _ =>
    simp only [chSize, List.length_singleton] at h
    split at h
    · rename_i hb
      rw [chSize_one (b := b) (by simp) (by omega), hb]
      rfl
    · omega
  | b :: c1 :: r, _ =>
    simp only [chSize, List.length_cons] at h
    split at h
    · omega
    · rename_i h1
      split at h
      · rename_i h2
        simp only [Bool.and_eq_true] at h2
        have h3 := okTail_append h2.2 q
        simp only [List.cons_append, chSize, List.length_cons]
        rw [if_neg h1, if_pos (by simp only [Bool.and_eq_true]; exact ⟨h2.1, h3⟩), h]
      · omega
def Chs (n : Nat) (l : List UInt8) : Prop := ∃ cs : List (List UInt8), cs.length = n ∧ l = cs.flatten ∧ ∀ c, c ∈ cs → IsCh c
theorem chs_nil : Chs 0 [] := ⟨[], rfl, rfl, fun c h => by cases h⟩
theorem chs_snoc {n : Nat} {l c : List UInt8} (h : Chs n l) (hc : IsCh c) : Chs (n + 1) (l ++ c) := by
  obtain ⟨cs, h1, h2, h3⟩ := h
  refine ⟨cs ++ [c], by simp [h1], by simp [h2], fun d hd => ?_⟩
  simp only [List.mem_append, List.mem_singleton] at hd
  rcases hd with hd | hd
  · exact h3 d hd
  · rw [hd]; exact hc
theorem chs_memo {n k : Nat} {l : List UInt8} (h : Chs n l) (hk : n ≤ k) : memoK k l = true := by
  obtain ⟨cs, h1, h2, h3⟩ := h
  induction cs generalizing n k l with
  | nil => rw [h2]; exact memoK_nil k
  | cons c cs ih =>
    obtain ⟨j, rfl⟩ : ∃ j, k = j + 1 := ⟨k - 1, by simp at h1; omega⟩
    have e : l = c ++ cs.flatten := by rw [h2]; rfl
    simp only [memoK]
    rw [e, ch_append (h3 c (by simp)), List.drop_left]
    exact ih (n := cs.length) (by simp at h1; omega) rfl rfl (fun d hd => h3 d (by simp [hd]))
theorem chs_len {n : Nat} {l : List UInt8} (h : Chs n l) (hn : n ≤ 16) : l.length ≤ 64 := memoB_len (chs_memo h hn)
end Go.Proofs.Ytjkhbjgfoopomaa
