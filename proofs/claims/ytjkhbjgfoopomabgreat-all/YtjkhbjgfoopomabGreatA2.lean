
namespace Go.Proofs.YtjkhbjgfoopomabGreat
def chLen (b : Nat) : Nat := if b < 128 then 1 else if b < 194 then 0 else if b < 224 then 2 else if b < 240 then 3 else if b < 245 then 4 else 0
def chLo (b : Nat) : Nat := if b = 224 then 160 else if b = 240 then 144 else 128
def chHi (b : Nat) : Nat := if b = 237 then 159 else if b = 244 then 143 else 191
theorem chLen_le (b : Nat) : chLen b ≤ 4 := by unfold chLen; (repeat' split) <;> omega
def okTail : Nat → List UInt8 → Bool
 | 0, _ => true
 | _ + 1, [] => false
 | n + 1, b :: r => decide (128 ≤ b.toNat ∧ b.toNat ≤ 191) && okTail n r
def chSize : List UInt8 → Nat
 | [] => 0
 | [b] => if chLen b.toNat = 1 then 1 else 0
 | b :: c :: r => if chLen b.toNat ≤ 1 then chLen b.toNat
   else if decide (chLo b.toNat ≤ c.toNat ∧ c.toNat ≤ chHi b.toNat) && okTail (chLen b.toNat - 2) r then chLen b.toNat else 0
theorem okTail_le {n : Nat} {r : List UInt8} (h : okTail n r = true) : n ≤ r.length := by
 induction n generalizing r with
 | zero => omega
 | succ n ih =>
  cases r with
  | nil => simp [okTail] at h
  | cons b r => simp [okTail] at h; have := ih h.2; simp; omega
theorem chSize_le (l : List UInt8) : chSize l ≤ l.length := by
 match l with
 | [] => simp [chSize]
 | [b] => simp only [chSize]; split <;> simp
 | b :: c :: r =>
  simp only [chSize, List.length_cons];split
  ·omega
  ·split
   ·rename_i h1 h2;simp only [Bool.and_eq_true] at h2;have := okTail_le h2.2;omega
   ·omega
theorem chSize_le4 (l : List UInt8) : chSize l ≤ 4 := by
 match l with
 | [] => simp [chSize]
 | [b] => simp only [chSize]; split <;> omega
 | b :: c :: r => have := chLen_le b.toNat; simp only [chSize]; (repeat' split) <;> omega
def memoK : Nat → List UInt8 → Bool
 | 0, l => l.isEmpty
 | k + 1, l => memoK k (l.drop (chSize l))
def memoB (l : List UInt8) : Bool := memoK 16 l
theorem memoK_nil (k : Nat) : memoK k [] = true := by
 induction k with
 | zero => rfl
 | succ k ih => simpa [memoK, chSize] using ih
theorem memoK_stuck {l : List UInt8} (hl : l ≠ []) (h : chSize l = 0) (k : Nat) : memoK k l = false := by
 induction k with
 | zero => cases l with
  | nil => exact absurd rfl hl
  | cons b r => rfl
 | succ k ih => simpa [memoK, h] using ih
theorem memoK_len {l : List UInt8} {k : Nat} (h : memoK k l = true) : l.length ≤ 4 * k := by
 induction k generalizing l with
 | zero => cases l with
  | nil => simp
  | cons b r => simp [memoK] at h
 | succ k ih =>
  simp only [memoK] at h;have h1 := ih h;have h2 := chSize_le4 l;simp at h1;omega
theorem memoB_len {l : List UInt8} (h : memoB l = true) : l.length ≤ 64 := memoK_len h
def MemoAt (l : List UInt8) (i c : Nat) : Prop := (∀ k, memoK (c + k) l = memoK k (l.drop i)) ∧ ∀ k, k < c → memoK k l = false
theorem memoAt_zero (l : List UInt8) : MemoAt l 0 0 := ⟨fun k => by simp, fun k h => by omega⟩
theorem memoAt_succ {l : List UInt8} {i c : Nat} (h : MemoAt l i c) (hi : i < l.length) : MemoAt l (i + chSize (l.drop i)) (c + 1) := by
 refine ⟨fun k => ?_, fun k hk => ?_⟩
 ·have := h.1 (k + 1);rw [show c + 1 + k = c + (k + 1) by omega, this];simp only [memoK, List.drop_drop]
 ·by_cases e : k < c
  ·exact h.2 k e
  ·have e : k = c := by omega
   subst e;have := h.1 0;simp only [Nat.add_zero, memoK] at this;rw [this];simp;omega
theorem memoAt_end {l : List UInt8} {i c : Nat} (h : MemoAt l i c) (hi : l.length ≤ i) : memoB l = decide (c ≤ 16) := by
 by_cases e : c ≤ 16
 ·have := h.1 (16 - c);rw [show c + (16 - c) = 16 by omega, List.drop_eq_nil_of_le hi, memoK_nil] at this;simp [memoB, this, e]
 ·simp [memoB, h.2 16 (by omega), e]
theorem memoAt_none {l : List UInt8} {i c : Nat} (h : MemoAt l i c) (hi : i < l.length) (hz : chSize (l.drop i) = 0) : memoB l = false := by
 by_cases e : c ≤ 16
 ·have := h.1 (16 - c);rw [show c + (16 - c) = 16 by omega, memoK_stuck (by simp; omega) hz] at this;exact this
 ·exact h.2 16 (by omega)
theorem okTail_iff (n : Nat) (r : List UInt8) : okTail n r = true ↔ ∀ j, j < n → ∃ x, r[j]? = some x ∧ 128 ≤ x.toNat ∧ x.toNat ≤ 191 := by
 induction n generalizing r with
 | zero => simp [okTail]
 | succ n ih =>
  cases r with
  | nil =>
   simp only [okTail, Bool.false_eq_true, false_iff];intro h;obtain ⟨x, hx, _⟩ := h 0 (by omega);simp at hx
  | cons b r =>
   simp only [okTail, Bool.and_eq_true, decide_eq_true_eq, ih];constructor
   ·intro ⟨h1, h2⟩ j hj;cases j with
    | zero => exact ⟨b, rfl, h1⟩
    | succ j => simpa using h2 j (by omega)
   ·intro h;refine ⟨?_, fun j hj => by simpa using h (j + 1) (by omega)⟩;obtain ⟨x, hx, h1⟩ := h 0 (by omega);simp at hx;subst hx;exact h1
theorem chSize_one {l : List UInt8} {b : UInt8} (h : l[0]? = some b) (hn : chLen b.toNat ≤ 1) : chSize l = chLen b.toNat := by
 match l, h with
 | [x], h => simp at h; subst h; simp only [chSize]; split <;> omega
 | x :: c :: r, h => simp at h; subst h; simp [chSize, hn]
theorem chSize_ok {l : List UInt8} {b c : UInt8} (h : l[0]? = some b) (h1 : l[1]? = some c) (hn : 2 ≤ chLen b.toNat) (hc : chLo b.toNat ≤ c.toNat ∧ c.toNat ≤ chHi b.toNat)
  (ht : ∀ j, 2 ≤ j → j < chLen b.toNat → ∃ x, l[j]? = some x ∧ 128 ≤ x.toNat ∧ x.toNat ≤ 191) : chSize l = chLen b.toNat := by
 match l, h, h1 with
 | x :: y :: r, h, h1 =>
  simp at h h1;subst h; subst h1
  have ho : okTail (chLen x.toNat - 2) r = true := (okTail_iff _ _).2 fun j hj => by
   have := ht (j + 2) (by omega) (by omega);simpa using this
  simp [chSize, ho, hc, show ¬ chLen x.toNat ≤ 1 by omega]
theorem chSize_not {l : List UInt8} {b : UInt8} (h : l[0]? = some b) (hn : 2 ≤ chLen b.toNat)
  (hb : l.length < chLen b.toNat ∨ (∃ c, l[1]? = some c ∧ ¬ (chLo b.toNat ≤ c.toNat ∧ c.toNat ≤ chHi b.toNat)) ∨ ∃ j x, 2 ≤ j ∧ j < chLen b.toNat ∧ l[j]? = some x ∧ ¬ (128 ≤ x.toNat ∧ x.toNat ≤ 191)) : chSize l = 0 := by
 match l, h with
 | [x], h => simp at h; subst h; simp only [chSize]; split <;> omega
 | x :: c :: r, h =>
  simp at h;subst h
  have hx : (decide (chLo x.toNat ≤ c.toNat ∧ c.toNat ≤ chHi x.toNat) && okTail (chLen x.toNat - 2) r) = false := by
   cases ho : okTail (chLen x.toNat - 2) r with
   | false => simp
   | true =>
    rcases hb with hb | ⟨c', hc, hb⟩ | ⟨j, y, h2, hj, hy, hb⟩
    ·have := okTail_le ho;simp at hb;omega
    ·simp at hc;subst hc;simpa using hb
    ·exfalso;obtain ⟨z, hz, hz2⟩ := (okTail_iff _ _).1 ho (j - 2) (by omega);obtain ⟨i, rfl⟩ : ∃ i, j = i + 2 := ⟨j - 2, by omega⟩;simp at hy hz;rw [hy] at hz;cases hz;exact hb hz2
  simp only [chSize, hx];rw [if_neg (by omega)];simp
end Go.Proofs.YtjkhbjgfoopomabGreat
