/-
  Plain arithmetic of the checksum: no program in sight.
-/
namespace Go.Proofs.YtjkhbjgfoopomaaGreat

/-- one bit falls out -/
def crcBit (c : Nat) : Nat := if c % 2 = 1 then (c / 2) ^^^ 3988292384 else c / 2
def crcBits : Nat → Nat → Nat
  | 0, c => c
  | n + 1, c => crcBit (crcBits n c)
def crcByte (c : Nat) (b : UInt8) : Nat := crcBits 8 (c ^^^ b.toNat)
def crcOf (l : List UInt8) : Nat := l.foldl crcByte 4294967295
def sumOf (l : List UInt8) : Nat := 4294967295 - crcOf l

theorem xor_lt32 {a b : Nat} (ha : a < 4294967296) (hb : b < 4294967296) : a ^^^ b < 4294967296 := by
  have := Nat.xor_lt_two_pow (n := 32) (x := a) (y := b) (by omega) (by omega)
  omega
theorem crcBit_lt {c : Nat} (h : c < 4294967296) : crcBit c < 4294967296 := by
  unfold crcBit
  split
  · exact xor_lt32 (by omega) (by decide)
  · omega
theorem crcBits_lt {n c : Nat} (h : c < 4294967296) : crcBits n c < 4294967296 := by
  induction n with
  | zero => exact h
  | succ n ih => exact crcBit_lt ih
theorem byte_lt (b : UInt8) : b.toNat < 256 := b.toNat_lt
theorem crcByte_lt {c : Nat} (h : c < 4294967296) (b : UInt8) : crcByte c b < 4294967296 :=
  crcBits_lt (xor_lt32 h (by have := byte_lt b; omega))
theorem crcFold_lt (l : List UInt8) : ∀ {c : Nat}, c < 4294967296 → l.foldl crcByte c < 4294967296 := by
  induction l with
  | nil => intro c h; exact h
  | cons b l ih => intro c h; exact ih (crcByte_lt h b)
theorem crcOf_lt (l : List UInt8) : crcOf l < 4294967296 := crcFold_lt l (by decide)
theorem crcOf_snoc (l : List UInt8) (b : UInt8) : crcOf (l ++ [b]) = crcByte (crcOf l) b := by
  simp [crcOf, List.foldl_append]
theorem sumOf_lt (l : List UInt8) : sumOf l < 4294967296 := by unfold sumOf; omega
theorem not32 {c : Nat} (h : c < 4294967296) : 4294967295 ^^^ c = 4294967295 - c := by
  have e : 4294967295 ^^^ c = (~~~ (BitVec.ofNat 32 c)).toNat := by
    rw [← BitVec.allOnes_xor, BitVec.toNat_xor, BitVec.toNat_allOnes, BitVec.toNat_ofNat, Nat.mod_eq_of_lt (by omega)]
  rw [e, BitVec.toNat_not, BitVec.toNat_ofNat, Nat.mod_eq_of_lt (by omega)]

/-- the lowest n bits the other way round -/
def trn : Nat → Nat → Nat
  | 0, _ => 0
  | n + 1, v => trn n v * 2 + v / 2 ^ n % 2
theorem trn_lt (n v : Nat) : trn n v < 2 ^ n := by
  induction n with
  | zero => simp [trn]
  | succ n ih => simp only [trn, Nat.pow_succ]; omega
theorem trn_bit (n v j : Nat) : (trn n v).testBit j = (decide (j < n) && v.testBit (n - 1 - j)) := by
  induction n generalizing j with
  | zero => simp [trn]
  | succ n ih =>
    cases j with
    | zero =>
      rw [Nat.testBit_zero]
      have h1 : trn (n + 1) v % 2 = v / 2 ^ n % 2 := by simp only [trn]; omega
      rw [h1]
      simp [Nat.testBit_eq_decide_div_mod_eq]
    | succ j =>
      rw [Nat.testBit_succ]
      have h1 : trn (n + 1) v / 2 = trn n v := by simp only [trn]; omega
      rw [h1, ih]
      have e : n + 1 - 1 - (j + 1) = n - 1 - j := by omega
      rw [e]
      simp
theorem eq_of_bits32 {a b : Nat} (ha : a < 4294967296) (hb : b < 4294967296) (h : ∀ i, i < 32 → a.testBit i = b.testBit i) : a = b := by
  apply Nat.eq_of_testBit_eq
  intro i
  by_cases hi : i < 32
  · exact h i hi
  · have p : 2 ^ 32 ≤ 2 ^ i := Nat.pow_le_pow_right (by decide) (by omega)
    rw [Nat.testBit_lt_two_pow (by omega), Nat.testBit_lt_two_pow (by omega)]
theorem trn32_lt (v : Nat) : trn 32 v < 4294967296 := by have := trn_lt 32 v; omega
theorem poly_bits : ∀ i, i < 32 → Nat.testBit 3988292384 i = Nat.testBit 79764919 (31 - i) := by decide
/-- one step of the division -/
def refBit (r : Nat) : Nat := if r / 2147483648 = 1 then (r * 2 % 4294967296) ^^^ 79764919 else r * 2 % 4294967296
theorem refBit_lt {r : Nat} : refBit r < 4294967296 := by
  unfold refBit
  split
  · exact xor_lt32 (by omega) (by decide)
  · omega
theorem dbl_bit (r i : Nat) (hi : i < 32) : (r * 2 % 4294967296).testBit i = (decide (1 ≤ i) && r.testBit (i - 1)) := by
  rw [show (4294967296 : Nat) = 2 ^ 32 by decide, Nat.testBit_mod_two_pow, show r * 2 = 2 ^ 1 * r by omega, Nat.testBit_two_pow_mul]
  simp [hi]
theorem trn_refBit {r : Nat} (h : r < 4294967296) : trn 32 (refBit r) = crcBit (trn 32 r) := by
  have hb := trn_bit 32 r 0
  rw [Nat.testBit_zero] at hb
  have h31 : r.testBit 31 = decide (r / 2147483648 = 1) := by
    rw [Nat.testBit_eq_decide_div_mod_eq, show (2 : Nat) ^ 31 = 2147483648 by decide, Nat.mod_eq_of_lt (by omega)]
  have hp : (trn 32 r % 2 = 1) ↔ (r / 2147483648 = 1) := by
    have : decide (trn 32 r % 2 = 1) = decide (r / 2147483648 = 1) := by rw [hb, ← h31]; simp
    simpa using this
  apply eq_of_bits32 (trn32_lt _) (crcBit_lt (trn32_lt _))
  intro i hi
  rw [trn_bit]
  have hd : (r * 2 % 4294967296).testBit (32 - 1 - i) = (trn 32 r / 2).testBit i := by
    rw [dbl_bit r _ (by omega), ← Nat.testBit_succ, trn_bit]
    by_cases h0 : i = 31
    · subst h0; simp
    · have a1 : 1 ≤ 32 - 1 - i := by omega
      have a2 : i + 1 < 32 := by omega
      have a3 : 32 - 1 - i - 1 = 32 - 1 - (i + 1) := by omega
      simp [a1, a2, a3]
  unfold refBit crcBit
  by_cases hc : r / 2147483648 = 1
  · rw [if_pos hc, if_pos (hp.2 hc), Nat.testBit_xor, Nat.testBit_xor, hd, poly_bits i hi]
    simp [hi]
  · rw [if_neg hc, if_neg (fun x => hc (hp.1 x)), hd]
    simp [hi]
def refBits : Nat → Nat → Nat
  | 0, c => c
  | n + 1, c => refBit (refBits n c)
theorem refBits_lt {n r : Nat} (h : r < 4294967296) : refBits n r < 4294967296 := by
  cases n with
  | zero => exact h
  | succ n => exact refBit_lt
theorem trn_refBits {n r : Nat} (h : r < 4294967296) : trn 32 (refBits n r) = crcBits n (trn 32 r) := by
  induction n with
  | zero => rfl
  | succ n ih => simp only [refBits, crcBits]; rw [trn_refBit (refBits_lt h), ih]
theorem trn_xor (a b : Nat) : trn 32 (a ^^^ b) = trn 32 a ^^^ trn 32 b := by
  apply eq_of_bits32 (trn32_lt _) (xor_lt32 (trn32_lt _) (trn32_lt _))
  intro i hi
  rw [Nat.testBit_xor, trn_bit, trn_bit, trn_bit, Nat.testBit_xor]
  simp [hi]
theorem trn_trn8 {b : Nat} (h : b < 256) : trn 32 (trn 8 b * 16777216) = b := by
  apply eq_of_bits32 (trn32_lt _) (by omega)
  intro i hi
  rw [trn_bit, show trn 8 b * 16777216 = 2 ^ 24 * trn 8 b by omega, Nat.testBit_two_pow_mul, trn_bit]
  by_cases h8 : i < 8
  · have a1 : 24 ≤ 32 - 1 - i := by omega
    have a2 : 32 - 1 - i - 24 < 8 := by omega
    have a3 : 8 - 1 - (32 - 1 - i - 24) = i := by omega
    simp [hi, a1, a2, a3]
  · have a1 : ¬ 24 ≤ 32 - 1 - i := by omega
    have p : 2 ^ 8 ≤ 2 ^ i := Nat.pow_le_pow_right (by decide) (by omega)
    have e : b.testBit i = false := Nat.testBit_lt_two_pow (by omega)
    simp [a1, e]
def refByte (r : Nat) (b : UInt8) : Nat := refBits 8 (r ^^^ (trn 8 b.toNat * 16777216))
def refOf (l : List UInt8) : Nat := l.foldl refByte 4294967295
theorem trn8_lt (v : Nat) : trn 8 v < 256 := by have := trn_lt 8 v; omega
theorem trn8_mul (v : Nat) : trn 8 v * 16777216 < 4294967296 := by have := trn8_lt v; omega
theorem refByte_lt {r : Nat} (h : r < 4294967296) (b : UInt8) : refByte r b < 4294967296 :=
  refBits_lt (xor_lt32 h (trn8_mul _))
theorem refFold_trn (l : List UInt8) : ∀ {r c : Nat}, r < 4294967296 → trn 32 r = c → trn 32 (l.foldl refByte r) = l.foldl crcByte c := by
  induction l with
  | nil => intro r c _ e; exact e
  | cons b l ih =>
    intro r c h e
    refine ih (refByte_lt h b) ?_
    unfold refByte crcByte
    rw [trn_refBits (xor_lt32 h (trn8_mul _)), trn_xor, e, trn_trn8 (byte_lt b)]
theorem refFold_lt (l : List UInt8) : ∀ {r : Nat}, r < 4294967296 → l.foldl refByte r < 4294967296 := by
  induction l with
  | nil => intro c h; exact h
  | cons b l ih => intro c h; exact ih (refByte_lt h b)
theorem refOf_lt (l : List UInt8) : refOf l < 4294967296 := refFold_lt l (by decide)
theorem refOf_snoc (l : List UInt8) (b : UInt8) : refOf (l ++ [b]) = refByte (refOf l) b := by
  simp [refOf, List.foldl_append]
theorem trn_ones : trn 32 4294967295 = 4294967295 := by decide
/-- the division and the shifting say one number -/
theorem refOf_sum (l : List UInt8) : 4294967295 - trn 32 (refOf l) = sumOf l := by
  unfold sumOf crcOf refOf
  rw [refFold_trn l (by decide) trn_ones]

/-! the checksum is linear, and one to one -/
theorem xor_div2 (a b : Nat) : (a ^^^ b) / 2 = a / 2 ^^^ b / 2 := by
  apply Nat.eq_of_testBit_eq
  intro i
  rw [← Nat.testBit_succ, Nat.testBit_xor, Nat.testBit_xor, Nat.testBit_succ, Nat.testBit_succ]
theorem xor_mod2 (a b : Nat) : (a ^^^ b) % 2 = (a % 2 + b % 2) % 2 := by
  have h := Nat.testBit_xor a b 0
  rw [Nat.testBit_zero, Nat.testBit_zero, Nat.testBit_zero] at h
  have hm : (a ^^^ b) % 2 = 0 ∨ (a ^^^ b) % 2 = 1 := Nat.mod_two_eq_zero_or_one _
  rcases Nat.mod_two_eq_zero_or_one a with ha | ha <;> rcases Nat.mod_two_eq_zero_or_one b with hb | hb <;> rcases hm with hm | hm <;> rw [ha, hb, hm] at h <;> first | (rw [ha, hb, hm]; done) | (exact absurd h (by decide))
theorem crcBit_xor (a b : Nat) : crcBit (a ^^^ b) = crcBit a ^^^ crcBit b := by
  unfold crcBit
  rw [xor_div2, xor_mod2]
  rcases Nat.mod_two_eq_zero_or_one a with ha | ha <;> rcases Nat.mod_two_eq_zero_or_one b with hb | hb
  · simp [ha, hb]
  · simp [ha, hb, Nat.xor_assoc]
  · simp only [ha, hb]
    simp only [if_true, if_false, Nat.zero_ne_one]
    rw [Nat.xor_assoc, Nat.xor_assoc, Nat.xor_comm 3988292384]
  · simp only [ha, hb]
    simp only [Nat.reduceAdd, Nat.reduceMod, if_true, if_false, Nat.zero_ne_one]
    rw [Nat.xor_assoc, Nat.xor_comm 3988292384 (b / 2 ^^^ 3988292384), Nat.xor_assoc, Nat.xor_self, Nat.xor_zero]
theorem crcBits_xor (n a b : Nat) : crcBits n (a ^^^ b) = crcBits n a ^^^ crcBits n b := by
  induction n with
  | zero => rfl
  | succ n ih => simp only [crcBits]; rw [ih, crcBit_xor]
theorem crcBit_dbl (y : Nat) : crcBit (2 * y) = y := by
  unfold crcBit
  rw [if_neg (by omega)]
  omega
theorem crcBits_pow (n y : Nat) : crcBits n (2 ^ n * y) = y := by
  induction n generalizing y with
  | zero => simp [crcBits]
  | succ n ih => simp only [crcBits]; rw [Nat.pow_succ, Nat.mul_assoc, ih, crcBit_dbl]
theorem crcBits_add (m n c : Nat) : crcBits (m + n) c = crcBits m (crcBits n c) := by
  induction m with
  | zero => simp [crcBits]
  | succ m ih => rw [Nat.succ_add]; simp only [crcBits]; rw [ih]
theorem low_xor (X : Nat) : X = X % 256 ^^^ 256 * (X / 256) := by
  apply Nat.eq_of_testBit_eq
  intro i
  rw [Nat.testBit_xor, show (256 : Nat) = 2 ^ 8 by decide, Nat.testBit_mod_two_pow, Nat.testBit_two_pow_mul, Nat.testBit_div_two_pow]
  by_cases h : i < 8
  · have h2 : ¬ 8 ≤ i := by omega
    simp [h, h2]
  · have h2 : 8 ≤ i := by omega
    have h3 : 8 + (i - 8) = i := by omega
    have h4 : i - 8 + 8 = i := by omega
    simp [h, h2, h4]
/-- a byte of a number is shifted out, the rest of it stays laid over -/
theorem crcByte_low (c X : Nat) : crcBits 8 (c ^^^ X) = crcByte c (UInt8.ofNat X) ^^^ (X / 256) := by
  have hb : (UInt8.ofNat X).toNat = X % 256 := by simp [UInt8.toNat_ofNat']
  unfold crcByte
  rw [hb]
  conv => lhs; rw [low_xor X]
  rw [← Nat.xor_assoc, crcBits_xor, show 256 * (X / 256) = 2 ^ 8 * (X / 256) by omega, crcBits_pow]
/-- four bytes, the low one first -/
theorem crc_four (c X : Nat) (h : X < 4294967296) :
    crcByte (crcByte (crcByte (crcByte c (UInt8.ofNat X)) (UInt8.ofNat (X / 256))) (UInt8.ofNat (X / 65536))) (UInt8.ofNat (X / 16777216)) = crcBits 32 (c ^^^ X) := by
  rw [show (32 : Nat) = 8 + (8 + (8 + 8)) by decide, crcBits_add, crcBits_add, crcBits_add, crcByte_low, crcByte_low, crcByte_low, crcByte_low,
    Nat.div_div_eq_div_mul, Nat.div_div_eq_div_mul, Nat.div_div_eq_div_mul]
  rw [show X / (256 * 256 * 256 * 256) = 0 from Nat.div_eq_of_lt (by omega), Nat.xor_zero]
theorem xor_not {c : Nat} (h : c < 4294967296) : c ^^^ (4294967295 - c) = 4294967295 := by
  rw [← not32 h, Nat.xor_comm 4294967295 c, ← Nat.xor_assoc, Nat.xor_self, Nat.zero_xor]
theorem crc_ones : crcBits 32 4294967295 = 3736805603 := by decide
theorem sum_joined (l : List UInt8) : sumOf (l ++ [UInt8.ofNat (sumOf l), UInt8.ofNat (sumOf l / 256), UInt8.ofNat (sumOf l / 65536), UInt8.ofNat (sumOf l / 16777216)]) = 558161692 := by
  have h : crcOf (l ++ [UInt8.ofNat (sumOf l), UInt8.ofNat (sumOf l / 256), UInt8.ofNat (sumOf l / 65536), UInt8.ofNat (sumOf l / 16777216)]) = 3736805603 := by
    have e : crcOf (l ++ [UInt8.ofNat (sumOf l), UInt8.ofNat (sumOf l / 256), UInt8.ofNat (sumOf l / 65536), UInt8.ofNat (sumOf l / 16777216)]) =
        crcByte (crcByte (crcByte (crcByte (crcOf l) (UInt8.ofNat (sumOf l))) (UInt8.ofNat (sumOf l / 256))) (UInt8.ofNat (sumOf l / 65536))) (UInt8.ofNat (sumOf l / 16777216)) := by
      simp [crcOf, List.foldl_append]
    rw [e, crc_four _ _ (sumOf_lt l)]
    unfold sumOf
    rw [xor_not (crcOf_lt l), crc_ones]
  unfold sumOf at h ⊢
  rw [h]
theorem poly_top (a : Nat) (h : a < 2147483648) : (a ^^^ 3988292384) / 2147483648 = 1 := by
  have h1 : (a ^^^ 3988292384).testBit 31 = true := by
    rw [Nat.testBit_xor, Nat.testBit_lt_two_pow (x := a) (by omega)]
    decide
  have h2 : a ^^^ 3988292384 < 4294967296 := xor_lt32 (by omega) (by decide)
  rw [Nat.testBit_eq_decide_div_mod_eq, show (2 : Nat) ^ 31 = 2147483648 by decide] at h1
  have h3 := of_decide_eq_true h1
  omega
theorem crcBit_zero {d : Nat} (hd : d < 4294967296) (h : crcBit d = 0) : d = 0 := by
  unfold crcBit at h
  split at h
  · have := poly_top (d / 2) (by omega)
    rw [h] at this
    omega
  · omega
theorem crcBits_zero {n d : Nat} (hd : d < 4294967296) (h : crcBits n d = 0) : d = 0 := by
  induction n with
  | zero => exact h
  | succ n ih => exact ih (crcBit_zero (crcBits_lt hd) h)
theorem xor_eq_zero {a b : Nat} (h : a ^^^ b = 0) : a = b := by
  have : a ^^^ b ^^^ b = b := by rw [h, Nat.zero_xor]
  rwa [Nat.xor_assoc, Nat.xor_self, Nat.xor_zero] at this
theorem crcBits_inj {n a b : Nat} (ha : a < 4294967296) (hb : b < 4294967296) (h : crcBits n a = crcBits n b) : a = b := by
  apply xor_eq_zero
  apply crcBits_zero (n := n) (xor_lt32 ha hb)
  rw [crcBits_xor, h, Nat.xor_self]
theorem xor_right_inj {a b c : Nat} (h : a ^^^ c = b ^^^ c) : a = b := by
  have : a ^^^ c ^^^ c = b ^^^ c ^^^ c := by rw [h]
  rwa [Nat.xor_assoc, Nat.xor_assoc, Nat.xor_self, Nat.xor_zero, Nat.xor_zero] at this
theorem crcByte_inj {a b : Nat} (ha : a < 4294967296) (hb : b < 4294967296) {x : UInt8} (h : crcByte a x = crcByte b x) : a = b := by
  have hx := byte_lt x
  exact xor_right_inj (crcBits_inj (xor_lt32 ha (by omega)) (xor_lt32 hb (by omega)) h)
theorem crcByte_inj2 {a : Nat} (ha : a < 4294967296) {x y : UInt8} (h : crcByte a x = crcByte a y) : x = y := by
  have hx := byte_lt x
  have hy := byte_lt y
  have := crcBits_inj (xor_lt32 ha (by omega)) (xor_lt32 ha (by omega)) h
  rw [Nat.xor_comm a, Nat.xor_comm a] at this
  exact UInt8.toNat_inj.1 (xor_right_inj this)
theorem crcFold_inj (l : List UInt8) : ∀ {a b : Nat}, a < 4294967296 → b < 4294967296 → l.foldl crcByte a = l.foldl crcByte b → a = b := by
  induction l with
  | nil => intro a b _ _ h; exact h
  | cons x l ih => intro a b ha hb h; exact crcByte_inj ha hb (ih (crcByte_lt ha x) (crcByte_lt hb x) h)
/-- another byte at one place: another checksum -/
theorem sum_flip (l r : List UInt8) {x y : UInt8} (h : x ≠ y) : sumOf (l ++ x :: r) ≠ sumOf (l ++ y :: r) := by
  intro e
  have h1 := crcOf_lt (l ++ x :: r)
  have h2 := crcOf_lt (l ++ y :: r)
  have e2 : crcOf (l ++ x :: r) = crcOf (l ++ y :: r) := by unfold sumOf at e; omega
  simp only [crcOf, List.foldl_append, List.foldl_cons] at e2
  have hl := crcFold_lt l (c := 4294967295) (by decide)
  exact h (crcByte_inj2 hl (crcFold_inj r (crcByte_lt hl x) (crcByte_lt hl y) e2))
end Go.Proofs.YtjkhbjgfoopomaaGreat
