import Derived.Test.YtjkhbjgfoopomabGreatRows
import Derived.WalkSpells
import Derived.WalkLawsBesides
import Derived.ProofKit
import Derived.OpenShut
import Derived.ShutString
import Derived.Test.YtjkhbjgfoopomabGreatA2
import Derived.Test.YtjkhbjgfoopomabGreatA1
namespace Go.Proofs.YtjkhbjgfoopomabGreat
def crcBit (c : Nat) : Nat := if c % 2 = 1 then (c / 2) ^^^ 3988292384 else c / 2
def crcBits : Nat → Nat → Nat
 | 0, c => c
 | n + 1, c => crcBit (crcBits n c)
def crcByte (c : Nat) (b : UInt8) : Nat := crcBits 8 (c ^^^ b.toNat)
def crcOf (l : List UInt8) : Nat := l.foldl crcByte 4294967295
def sumOf (l : List UInt8) : Nat := 4294967295 - crcOf l
theorem xor_lt32 {a b : Nat} (ha : a < 4294967296) (hb : b < 4294967296) : a ^^^ b < 4294967296 := by
 have := Nat.xor_lt_two_pow (n := 32) (x := a) (y := b) (by omega) (by omega)
 omega
theorem crcBit_lt {c : Nat} (h : c < 4294967296) : crcBit c < 4294967296 := by
 unfold crcBit
 split
 ·exact xor_lt32 (by omega) (by decide)
 ·omega
theorem crcBits_lt {n c : Nat} (h : c < 4294967296) : crcBits n c < 4294967296 := by
 induction n with
 | zero => exact h
 | succ n ih => exact crcBit_lt ih
theorem byte_lt (b : UInt8) : b.toNat < 256 := b.toNat_lt
theorem crcByte_lt {c : Nat} (h : c < 4294967296) (b : UInt8) : crcByte c b < 4294967296 :=
 crcBits_lt (xor_lt32 h (by have := byte_lt b; omega))
theorem crcFold_lt (l : List UInt8) : ∀ {c : Nat}, c < 4294967296 → l.foldl crcByte c < 4294967296 := by
 induction l with
 | nil => intro c h; exact h
 | cons b l ih => intro c h; exact ih (crcByte_lt h b)
theorem crcOf_lt (l : List UInt8) : crcOf l < 4294967296 := crcFold_lt l (by decide)
theorem crcOf_snoc (l : List UInt8) (b : UInt8) : crcOf (l ++ [b]) = crcByte (crcOf l) b := by
 simp [crcOf, List.foldl_append]
theorem sumOf_lt (l : List UInt8) : sumOf l < 4294967296 := by unfold sumOf; omega
theorem not32 {c : Nat} (h : c < 4294967296) : 4294967295 ^^^ c = 4294967295 - c := by
 have e : 4294967295 ^^^ c = (~~~ (BitVec.ofNat 32 c)).toNat := by
  rw [← BitVec.allOnes_xor, BitVec.toNat_xor, BitVec.toNat_allOnes, BitVec.toNat_ofNat, Nat.mod_eq_of_lt (by omega)]
 rw [e, BitVec.toNat_not, BitVec.toNat_ofNat, Nat.mod_eq_of_lt (by omega)]
def trn : Nat → Nat → Nat
 | 0, _ => 0
 | n + 1, v => trn n v * 2 + v / 2 ^ n % 2
theorem trn_lt (n v : Nat) : trn n v < 2 ^ n := by
 induction n with
 | zero => simp [trn]
 | succ n ih => simp only [trn, Nat.pow_succ]; omega
theorem trn_bit (n v j : Nat) : (trn n v).testBit j = (decide (j < n) && v.testBit (n - 1 - j)) := by
 induction n generalizing j with
 | zero => simp [trn]
 | succ n ih =>
  cases j with
  | zero =>
   rw [Nat.testBit_zero];have h1 : trn (n + 1) v % 2 = v / 2 ^ n % 2 := by simp only [trn]; omega
   rw [h1];simp [Nat.testBit_eq_decide_div_mod_eq]
  | succ j =>
   rw [Nat.testBit_succ];have h1 : trn (n + 1) v / 2 = trn n v := by simp only [trn]; omega
   rw [h1, ih];have e : n + 1 - 1 - (j + 1) = n - 1 - j := by omega
   rw [e];simp
theorem eq_of_bits32 {a b : Nat} (ha : a < 4294967296) (hb : b < 4294967296) (h : ∀ i, i < 32 → a.testBit i = b.testBit i) : a = b := by
 apply Nat.eq_of_testBit_eq
 intro i
 by_cases hi : i < 32
 ·exact h i hi
 ·have p : 2 ^ 32 ≤ 2 ^ i := Nat.pow_le_pow_right (by decide) (by omega);rw [Nat.testBit_lt_two_pow (by omega), Nat.testBit_lt_two_pow (by omega)]
theorem trn32_lt (v : Nat) : trn 32 v < 4294967296 := by have := trn_lt 32 v; omega
theorem poly_bits : ∀ i, i < 32 → Nat.testBit 3988292384 i = Nat.testBit 79764919 (31 - i) := by decide
def refBit (r : Nat) : Nat := if r / 2147483648 = 1 then (r * 2 % 4294967296) ^^^ 79764919 else r * 2 % 4294967296
theorem refBit_lt {r : Nat} : refBit r < 4294967296 := by
 unfold refBit
 split
 ·exact xor_lt32 (by omega) (by decide)
 ·omega
theorem dbl_bit (r i : Nat) (hi : i < 32) : (r * 2 % 4294967296).testBit i = (decide (1 ≤ i) && r.testBit (i - 1)) := by
 rw [show (4294967296 : Nat) = 2 ^ 32 by decide, Nat.testBit_mod_two_pow, show r * 2 = 2 ^ 1 * r by omega, Nat.testBit_two_pow_mul]
 simp [hi]
theorem trn_refBit {r : Nat} (h : r < 4294967296) : trn 32 (refBit r) = crcBit (trn 32 r) := by
 have hb := trn_bit 32 r 0
 rw [Nat.testBit_zero] at hb
 have h31 : r.testBit 31 = decide (r / 2147483648 = 1) := by
  rw [Nat.testBit_eq_decide_div_mod_eq, show (2 : Nat) ^ 31 = 2147483648 by decide, Nat.mod_eq_of_lt (by omega)]
 have hp : (trn 32 r % 2 = 1) ↔ (r / 2147483648 = 1) := by
  have : decide (trn 32 r % 2 = 1) = decide (r / 2147483648 = 1) := by rw [hb, ← h31]; simp
  simpa using this
 apply eq_of_bits32 (trn32_lt _) (crcBit_lt (trn32_lt _))
 intro i hi
 rw [trn_bit]
 have hd : (r * 2 % 4294967296).testBit (32 - 1 - i) = (trn 32 r / 2).testBit i := by
  rw [dbl_bit r _ (by omega), ← Nat.testBit_succ, trn_bit];by_cases h0 : i = 31
  ·subst h0; simp
  ·have a1 : 1 ≤ 32 - 1 - i := by omega
   have a2 : i + 1 < 32 := by omega
   have a3 : 32 - 1 - i - 1 = 32 - 1 - (i + 1) := by omega
   simp [a1, a2, a3]
 unfold refBit crcBit
 by_cases hc : r / 2147483648 = 1
 ·rw [if_pos hc, if_pos (hp.2 hc), Nat.testBit_xor, Nat.testBit_xor, hd, poly_bits i hi];simp [hi]
 ·rw [if_neg hc, if_neg (fun x => hc (hp.1 x)), hd];simp [hi]
def refBits : Nat → Nat → Nat
 | 0, c => c
 | n + 1, c => refBit (refBits n c)
theorem refBits_lt {n r : Nat} (h : r < 4294967296) : refBits n r < 4294967296 := by
 cases n with
 | zero => exact h
 | succ n => exact refBit_lt
theorem trn_refBits {n r : Nat} (h : r < 4294967296) : trn 32 (refBits n r) = crcBits n (trn 32 r) := by
 induction n with
 | zero => rfl
 | succ n ih => simp only [refBits, crcBits]; rw [trn_refBit (refBits_lt h), ih]
theorem trn_xor (a b : Nat) : trn 32 (a ^^^ b) = trn 32 a ^^^ trn 32 b := by
 apply eq_of_bits32 (trn32_lt _) (xor_lt32 (trn32_lt _) (trn32_lt _))
 intro i hi
 rw [Nat.testBit_xor, trn_bit, trn_bit, trn_bit, Nat.testBit_xor]
 simp [hi]
theorem trn_trn8 {b : Nat} (h : b < 256) : trn 32 (trn 8 b * 16777216) = b := by
 apply eq_of_bits32 (trn32_lt _) (by omega)
 intro i hi
 rw [trn_bit, show trn 8 b * 16777216 = 2 ^ 24 * trn 8 b by omega, Nat.testBit_two_pow_mul, trn_bit]
 by_cases h8 : i < 8
 ·have a1 : 24 ≤ 32 - 1 - i := by omega
  have a2 : 32 - 1 - i - 24 < 8 := by omega
  have a3 : 8 - 1 - (32 - 1 - i - 24) = i := by omega
  simp [hi, a1, a2, a3]
 ·have a1 : ¬ 24 ≤ 32 - 1 - i := by omega
  have p : 2 ^ 8 ≤ 2 ^ i := Nat.pow_le_pow_right (by decide) (by omega);have e : b.testBit i = false := Nat.testBit_lt_two_pow (by omega);simp [a1, e]
def refByte (r : Nat) (b : UInt8) : Nat := refBits 8 (r ^^^ (trn 8 b.toNat * 16777216))
def refOf (l : List UInt8) : Nat := l.foldl refByte 4294967295
theorem trn8_lt (v : Nat) : trn 8 v < 256 := by have := trn_lt 8 v; omega
theorem trn8_mul (v : Nat) : trn 8 v * 16777216 < 4294967296 := by have := trn8_lt v; omega
theorem refByte_lt {r : Nat} (h : r < 4294967296) (b : UInt8) : refByte r b < 4294967296 :=
 refBits_lt (xor_lt32 h (trn8_mul _))
theorem refFold_trn (l : List UInt8) : ∀ {r c : Nat}, r < 4294967296 → trn 32 r = c → trn 32 (l.foldl refByte r) = l.foldl crcByte c := by
 induction l with
 | nil => intro r c _ e; exact e
 | cons b l ih =>
  intro r c h e;refine ih (refByte_lt h b) ?_;unfold refByte crcByte;rw [trn_refBits (xor_lt32 h (trn8_mul _)), trn_xor, e, trn_trn8 (byte_lt b)]
theorem refFold_lt (l : List UInt8) : ∀ {r : Nat}, r < 4294967296 → l.foldl refByte r < 4294967296 := by
 induction l with
 | nil => intro c h; exact h
 | cons b l ih => intro c h; exact ih (refByte_lt h b)
theorem refOf_lt (l : List UInt8) : refOf l < 4294967296 := refFold_lt l (by decide)
theorem refOf_snoc (l : List UInt8) (b : UInt8) : refOf (l ++ [b]) = refByte (refOf l) b := by
 simp [refOf, List.foldl_append]
theorem trn_ones : trn 32 4294967295 = 4294967295 := by decide
theorem refOf_sum (l : List UInt8) : 4294967295 - trn 32 (refOf l) = sumOf l := by
 unfold sumOf crcOf refOf
 rw [refFold_trn l (by decide) trn_ones]
end Go.Proofs.YtjkhbjgfoopomabGreat
namespace Go.Proofs.YtjkhbjgfoopomabGreat
open Go.RowKit
set_option maxHeartbeats 1000000
theorem hide {p : Prop} (h : p) : Hid p := h
theorem ret_int {k : IntKind} {a b : Int} (h : a = b) : Ending.returned (.int k a) = .returned (.int k b) := by rw [h]
theorem u32and1 (c : Nat) (h : c < 4294967296) : bits .and .u32 (c : Int) 1 = ((c % 2 : Nat) : Int) := by
 have e := u32_and_nat c 1 h (by decide)
 rw [Nat.and_one_is_mod] at e
 simpa using e
theorem u32xor_half (c : Nat) (h : c < 4294967296) : bits .xor .u32 ((c : Int) / 2) 3988292384 = (((c / 2) ^^^ 3988292384 : Nat) : Int) := by
 have e := u32_xor_nat (c / 2) 3988292384 (by omega) (by decide)
 simpa using e
theorem crcBit_odd {c : Nat} (h : c % 2 = 1) : crcBit c = (c / 2) ^^^ 3988292384 := by simp [crcBit, h]
theorem crcBit_even {c : Nat} (h : ¬ c % 2 = 1) : crcBit c = c / 2 := by simp [crcBit, h]
theorem shiftOut_any (c : Nat) (h : c < 4294967296) (w : World) :
  Calls Tryz.prog 155 #[.int .u32 (c : Int)] w fun e w' => e = .returned (.int .u32 ((crcBits 8 c : Nat) : Int)) ∧ w' = w := by
 go_enter Tryz.func155, Tryz.ntmps155
 go_wp2
 go_loop [0, 3] (fun s i => ∃ k : Nat, k ≤ 8 ∧ i = .int .i64 k ∧ s = .int .u32 ((crcBits k c : Nat) : Int)) (fun _ i => 8 - (intOf i).toNat)
 case atStart => exact ⟨0, by decide, rfl, rfl⟩
 case round =>
  obtain ⟨k, hk, rfl, rfl⟩ := hrel;have hd : crcBits k c < 4294967296 := crcBits_lt h;by_cases hlt : k < 8
  ·have hs : Hid (crcBits (k + 1) c = crcBit (crcBits k c)) := hide rfl;generalize crcBits k c = x at *;by_cases hp : x % 2 = 1
   ·have e1 : bits .and .u32 (x : Int) 1 = 1 := by rw [u32and1 x hd, hp]; rfl
    have e2 := u32xor_half x hd;have hq : Hid (crcBit x = (x / 2) ^^^ 3988292384) := hide (crcBit_odd hp);clear hp;go_wp2;exact ⟨⟨k + 1, by omega, by go_num, by rw [hs.out, hq.out]⟩, by simp [intOf]; omega⟩
   ·have e1 : bits .and .u32 (x : Int) 1 = 0 := by rw [u32and1 x hd, show x % 2 = 0 by omega]; rfl
    have hq : Hid (crcBit x = x / 2) := hide (crcBit_even hp);clear hp;go_wp2;exact ⟨⟨k + 1, by omega, by go_num, by rw [hs.out, hq.out]; go_num⟩, by simp [intOf]; omega⟩
  ·have e8 : k = 8 := by omega
   subst e8;go_wp2;go_ret;exact ⟨rfl, rfl⟩
theorem take_snoc (s : ByteArray) (k : Nat) (h : k < s.size) : s.data.toList.take (k + 1) = s.data.toList.take k ++ [s[k]] := by
 rw [List.take_succ_eq_append_getElem (by simpa using h)]; rfl
theorem u32xor_byte (c : Nat) (b : UInt8) (h : c < 4294967296) : bits .xor .u32 (c : Int) ((b.toNat : Int) % 4294967296) = ((c ^^^ b.toNat : Nat) : Int) := by
 have hb := byte_lt b
 rw [show (b.toNat : Int) % 4294967296 = (b.toNat : Int) by omega]
 exact u32_xor_nat c b.toNat h (by omega)
theorem u32not (c : Nat) (h : c < 4294967296) : bits .xor .u32 IntKind.u32.max (c : Int) = ((4294967295 - c : Nat) : Int) := by
 have e := u32_xor_nat 4294967295 c (by decide) h
 rw [not32 h] at e
 rw [show IntKind.u32.max = ((4294967295 : Nat) : Int) by decide]
 exact e
theorem frameSum_any (s : ByteArray) (hs : s.size ≤ maxLen) (w : World) :
  Calls Tryz.prog 142 #[.string s] w fun e w' => e = .returned (.int .u32 ((sumOf s.data.toList : Nat) : Int)) ∧ w' = w := by
 unfold maxLen at hs
 go_enter Tryz.func142, Tryz.ntmps142
 go_wp2
 go_loop [3, 4] (fun c i => ∃ k : Nat, k ≤ s.size ∧ i = .int .i64 k ∧ c = .int .u32 ((crcOf (s.data.toList.take k) : Nat) : Int)) (fun _ i => s.size - (intOf i).toNat)
 case atStart => exact ⟨0, Nat.zero_le _, rfl, rfl⟩
 case round =>
  obtain ⟨k, hk, rfl, rfl⟩ := hrel;have hd : crcOf (s.data.toList.take k) < 4294967296 := crcOf_lt _;by_cases hlt : k < s.size
  ·have hn : Hid (crcOf (s.data.toList.take (k + 1)) = crcByte (crcOf (s.data.toList.take k)) s[k]) := hide (by rw [take_snoc s k hlt, crcOf_snoc]);generalize crcOf (s.data.toList.take k) = x at *;have e1 := u32xor_byte x s[k] hd;have hx : x ^^^ s[k].toNat < 4294967296 := xor_lt32 hd (by have := byte_lt s[k]; omega);go_wp2_with (go_at_call 155; refine (shiftOut_any _ hx _).mono ?_; rintro e w' ⟨rfl, rfl⟩)
   exact ⟨⟨k + 1, by omega, by go_num, by rw [hn.out]; rfl⟩, by simp [intOf]; omega⟩
  ·have e1 := u32not _ hd;have hn : Hid (sumOf s.data.toList = 4294967295 - crcOf (s.data.toList.take k)) := hide (by unfold sumOf; rw [List.take_of_length_le (by simp; omega)]);generalize crcOf (s.data.toList.take k) = x at *;go_wp2;go_ret;exact ⟨ret_int (by rw [hn.out]), rfl⟩
theorem half_pow (v k : Nat) : v / 2 ^ k / 2 = v / 2 ^ (k + 1) := by rw [Nat.div_div_eq_div_mul, Nat.pow_succ]
theorem turned_any (v n : Nat) (hv : v < 4294967296) (hn : n ≤ 32) (w : World) :
  Calls Tryz.prog 151 #[.int .u32 (v : Int), .int .i64 (n : Int)] w fun e w' => e = .returned (.int .u32 ((trn n v : Nat) : Int)) ∧ w' = w := by
 go_enter Tryz.func151, Tryz.ntmps151
 go_wp2
 go_loop [0, 5, 6] (fun s o i => ∃ k : Nat, k ≤ n ∧ i = .int .i64 k ∧ o = .int .u32 ((trn k v : Nat) : Int) ∧ s = .int .u32 ((v / 2 ^ k : Nat) : Int)) (fun _ _ i => n - (intOf i).toNat)
 case atStart => exact ⟨0, Nat.zero_le _, rfl, rfl, by simp⟩
 case round =>
  obtain ⟨k, hk, rfl, rfl, rfl⟩ := hrel;have hx := trn_lt k v;have hy : v / 2 ^ k < 4294967296 := Nat.lt_of_le_of_lt (Nat.div_le_self _ _) hv;by_cases hlt : k < n
  ·have hp : 2 ^ k ≤ 2147483648 := by
    have := Nat.pow_le_pow_right (n := 2) (by decide) (show k ≤ 31 by omega);omega
   have hn1 : Hid (trn (k + 1) v = trn k v * 2 + v / 2 ^ k % 2) := hide rfl;have hn2 : Hid (v / 2 ^ (k + 1) = v / 2 ^ k / 2) := hide (half_pow v k).symm;have hx2 : trn k v < 2147483648 := by omega
   clear hx hp;generalize trn k v = x at *;generalize v / 2 ^ k = y at *;go_wp2;exact ⟨⟨k + 1, by omega, by go_num, by rw [hn1.out]; go_num, by rw [hn2.out]; go_num⟩, by simp [intOf]; omega⟩
  ·have e8 : k = n := by omega
   subst e8;go_wp2;go_ret;exact ⟨rfl, rfl⟩
theorem refBit_one {r : Nat} (h : r / 2147483648 = 1) : refBit r = (r * 2 % 4294967296) ^^^ 79764919 := by simp [refBit, h]
theorem refBit_none {r : Nat} (h : ¬ r / 2147483648 = 1) : refBit r = r * 2 % 4294967296 := by simp [refBit, h]
theorem u32xor_dbl (r : Nat) : bits .xor .u32 ((r : Int) * 2 % 4294967296) 79764919 = (((r * 2 % 4294967296) ^^^ 79764919 : Nat) : Int) := by
 have e := u32_xor_nat (r * 2 % 4294967296) 79764919 (by omega) (by decide)
 simpa using e
theorem u32xor_high (r t : Nat) (h : r < 4294967296) (ht : t * 16777216 < 4294967296) : bits .xor .u32 (r : Int) ((t : Int) * 16777216) = ((r ^^^ (t * 16777216) : Nat) : Int) := by
 have e := u32_xor_nat r (t * 16777216) h ht
 simpa using e
theorem refSum_any (s : ByteArray) (hs : s.size ≤ maxLen) (w : World) :
  Calls Tryz.prog 134 #[.string s] w fun e w' => e = .returned (.int .u32 ((sumOf s.data.toList : Nat) : Int)) ∧ w' = w := by
 unfold maxLen at hs
 go_enter Tryz.func134, Tryz.ntmps134
 go_wp2
 go_loop [3, 4] (fun c i => ∃ k : Nat, k ≤ s.size ∧ i = .int .i64 k ∧ c = .int .u32 ((refOf (s.data.toList.take k) : Nat) : Int)) (fun _ i => s.size - (intOf i).toNat)
 case atStart => exact ⟨0, Nat.zero_le _, rfl, rfl⟩
 case round =>
  obtain ⟨k, hk, rfl, rfl⟩ := hrel;have hd : refOf (s.data.toList.take k) < 4294967296 := refOf_lt _;by_cases hlt : k < s.size
  ·have hn : Hid (refOf (s.data.toList.take (k + 1)) = refByte (refOf (s.data.toList.take k)) s[k]) := hide (by rw [take_snoc s k hlt, refOf_snoc]);generalize refOf (s.data.toList.take k) = x at *;have hb := byte_lt s[k];have ht := trn8_mul s[k].toNat;have e1 := u32xor_high x (trn 8 s[k].toNat) hd ht;have hx : x ^^^ (trn 8 s[k].toNat * 16777216) < 4294967296 := xor_lt32 hd ht;have hn2 : Hid (refByte x s[k] = refBits 8 (x ^^^ (trn 8 s[k].toNat * 16777216))) := hide rfl;go_wp2_with fail
   refine (turned_any s[k].toNat 8 (by omega) (by decide) _).mono ?_;rintro e w' ⟨rfl, rfl⟩;go_wp2_with fail
   clear e1 ht;generalize x ^^^ trn 8 s[k].toNat * 16777216 = z at *;generalize trn 8 s[k].toNat = t at *
   go_loop [3, 6] (fun c i => ∃ j : Nat, j ≤ 8 ∧ i = .int .i64 j ∧ c = .int .u32 ((refBits j z : Nat) : Int)) (fun _ i => 8 - (intOf i).toNat)
   case atStart => exact ⟨0, by decide, rfl, rfl⟩
   case round =>
    obtain ⟨j, hj, rfl, rfl⟩ := hrel;have hr : refBits j z < 4294967296 := refBits_lt hx;by_cases hl : j < 8
    ·have hq : Hid (refBits (j + 1) z = refBit (refBits j z)) := hide rfl;generalize refBits j z = r at *;by_cases hp : r / 2147483648 = 1
     ·have e1 := u32xor_dbl r;have e3 : ((r : Int) / 2147483648 == 1) = true := by simp; omega
      have hq2 : Hid (refBit r = (r * 2 % 4294967296) ^^^ 79764919) := hide (refBit_one hp);clear hp;go_wp2;exact ⟨⟨j + 1, by omega, by go_num, by rw [hq.out, hq2.out]⟩, by simp [intOf]; omega⟩
     ·have e3 : ((r : Int) / 2147483648 == 1) = false := by simp; omega
      have hq2 : Hid (refBit r = r * 2 % 4294967296) := hide (refBit_none hp);clear hp;go_wp2;exact ⟨⟨j + 1, by omega, by go_num, by rw [hq.out, hq2.out]; go_num⟩, by simp [intOf]; omega⟩
    ·have e8 : j = 8 := by omega
     subst e8;go_wp2;exact ⟨⟨k + 1, by omega, by go_num, by rw [hn.out, hn2.out]⟩, by simp [intOf]; omega⟩
  ·have hn : Hid (4294967295 - trn 32 (refOf (s.data.toList.take k)) = sumOf s.data.toList) := hide (by rw [List.take_of_length_le (by simp; omega)]; exact refOf_sum _);generalize refOf (s.data.toList.take k) = x at *;have ht := trn32_lt x;go_wp2_with fail
   refine (turned_any x 32 (by omega) (by decide) _).mono ?_;rintro e w' ⟨rfl, rfl⟩;generalize trn 32 x = y at *;go_wp2;go_ret;exact ⟨ret_int (by rw [← hn.out]; omega), rfl⟩
end Go.Proofs.YtjkhbjgfoopomabGreat
namespace Go.Proofs.YtjkhbjgfoopomabGreat
open Go.RowKit
set_option maxHeartbeats 400000
def bs (l : List UInt8) : ByteArray := ⟨l.toArray⟩
theorem bs_data (l : List UInt8) : (bs l).data.toList = l := by simp [bs]
theorem bs_toList (l : List UInt8) : (bs l).toList = l := by rw [ByteArray.toList_eq, bs_data]
theorem bs_size (l : List UInt8) : (bs l).size = l.length := by simp [bs, ByteArray.size]
theorem bs_append (x y : List UInt8) : bs x ++ bs y = bs (x ++ y) := ByteArray.mk_append_mk x y
theorem bs_of (s : ByteArray) : bs s.data.toList = s := by
 cases s with
 | mk d => simp [bs]
def be : Nat → Nat → List UInt8
 | 0, _ => []
 | n + 1, v => UInt8.ofNat (v / 256 ^ n % 256) :: be n v
theorem be_length (n v : Nat) : (be n v).length = n := by
 induction n with
 | zero => rfl
 | succ n ih => simp [be, ih]
theorem strOfNums_bs (xs : List Int) : strOfNums xs = bs (xs.map fun n => UInt8.ofNat n.toNat) := rfl
theorem cellAt {w : World} {cs : Array Value} {t : TypeId} {i : Nat} (v : Value) (h : cs[i]? = some v) : (w.alloc (.cells cs t)).cell? ⟨w.heap.size, 0 + i, none⟩ = some v := by
 rw [Nat.zero_add, World.cell?_alloc_new]; exact h
theorem conv1 (w : World) (a : Int) : (convert 193 9 (.slice (some ⟨w.heap.size, 0, none⟩) 1 1)).run Tryz.prog (w.alloc (.cells #[.int .u8 a] 5)) =
  .ok (.string (bs [UInt8.ofNat a.toNat])) (w.alloc (.cells #[.int .u8 a] 5)) :=
 run_convert_bytes_arg _ 193 5 Tryz.underlying193 Tryz.underlying5 _ 0 1 1 [a] rfl (fun i hi => by
  match i, hi with
  | 0, _ => exact cellAt _ rfl) _ Tryz.underlying9
theorem conv2 (w : World) (a b : Int) : (convert 193 9 (.slice (some ⟨w.heap.size, 0, none⟩) 2 2)).run Tryz.prog (w.alloc (.cells #[.int .u8 a, .int .u8 b] 5)) =
  .ok (.string (bs [UInt8.ofNat a.toNat, UInt8.ofNat b.toNat])) (w.alloc (.cells #[.int .u8 a, .int .u8 b] 5)) :=
 run_convert_bytes_arg _ 193 5 Tryz.underlying193 Tryz.underlying5 _ 0 2 2 [a, b] rfl (fun i hi => by
  match i, hi with
  | 0, _ => exact cellAt _ rfl
  | 1, _ => exact cellAt _ rfl) _ Tryz.underlying9
theorem conv4 (w : World) (a b c d : Int) : (convert 193 9 (.slice (some ⟨w.heap.size, 0, none⟩) 4 4)).run Tryz.prog (w.alloc (.cells #[.int .u8 a, .int .u8 b, .int .u8 c, .int .u8 d] 5)) =
  .ok (.string (bs [UInt8.ofNat a.toNat, UInt8.ofNat b.toNat, UInt8.ofNat c.toNat, UInt8.ofNat d.toNat])) (w.alloc (.cells #[.int .u8 a, .int .u8 b, .int .u8 c, .int .u8 d] 5)) :=
 run_convert_bytes_arg _ 193 5 Tryz.underlying193 Tryz.underlying5 _ 0 4 4 [a, b, c, d] rfl (fun i hi => by
  match i, hi with
  | 0, _ => exact cellAt _ rfl
  | 1, _ => exact cellAt _ rfl
  | 2, _ => exact cellAt _ rfl
  | 3, _ => exact cellAt _ rfl) _ Tryz.underlying9
attribute [local go_sem] conv1 conv2 conv4
theorem ret_str {a b : List UInt8} (h : a = b) : Ending.returned (.string (bs a)) = .returned (.string (bs b)) := by rw [h]
theorem be4 (n : Nat) (hn : n < 4294967296) : [UInt8.ofNat ((n : Int) / 16777216).toNat, UInt8.ofNat ((n : Int) / 65536 % 256).toNat, UInt8.ofNat ((n : Int) / 256 % 256).toNat, UInt8.ofNat ((n : Int) % 256).toNat] = be 4 n := by
 have e1 : ((n : Int) / 16777216).toNat = n / 256 ^ 3 % 256 := by omega
 have e2 : ((n : Int) / 65536 % 256).toNat = n / 256 ^ 2 % 256 := by omega
 have e3 : ((n : Int) / 256 % 256).toNat = n / 256 ^ 1 % 256 := by omega
 have e4 : ((n : Int) % 256).toNat = n / 256 ^ 0 % 256 := by omega
 rw [e1, e2, e3, e4]
 rfl
theorem be2 (n : Nat) (hn : n < 65536) : [UInt8.ofNat ((n : Int) / 256).toNat, UInt8.ofNat ((n : Int) % 256).toNat] = be 2 n := by
 have e3 : ((n : Int) / 256).toNat = n / 256 ^ 1 % 256 := by omega
 have e4 : ((n : Int) % 256).toNat = n / 256 ^ 0 % 256 := by omega
 rw [e3, e4]
 rfl
theorem be1 (n : Nat) (hn : n < 256) : [UInt8.ofNat n] = be 1 n := by
 have e4 : n = n / 256 ^ 0 % 256 := by omega
 show _ = [UInt8.ofNat (n / 256 ^ 0 % 256)]
 rw [← e4]
theorem four_any (n : Nat) (hn : n < 4294967296) (w : World) :
  Calls Tryz.prog 101 #[.int .u32 (n : Int)] w fun e w' => e = .returned (.string (bs (be 4 n))) ∧ Below w.heap.size w w' := by
 go_enter Tryz.func101, Tryz.ntmps101
 go_wp2
 go_ret
 exact ⟨ret_str (be4 n hn), (Below.refl _ _).alloc (Nat.le_refl _) _⟩
theorem two_any (n : Nat) (hn : n < 65536) (w : World) :
  Calls Tryz.prog 100 #[.int .u16 (n : Int)] w fun e w' => e = .returned (.string (bs (be 2 n))) ∧ Below w.heap.size w w' := by
 go_enter Tryz.func100, Tryz.ntmps100
 go_wp2
 go_ret
 exact ⟨ret_str (be2 n hn), (Below.refl _ _).alloc (Nat.le_refl _) _⟩
end Go.Proofs.YtjkhbjgfoopomabGreat
namespace Go.Proofs.YtjkhbjgfoopomabGreat
theorem own : ownKnob Tryz.prog.godebug = none := by kernel_rfl
theorem laidOut : laidOutB Tryz.prog = true := by kernel_rfl
end Go.Proofs.YtjkhbjgfoopomabGreat
namespace Go.Proofs.YtjkhbjgfoopomabGreat
open Go.RowKit
set_option linter.unusedVariables false
theorem num_any (n : Int) (w : World) : Calls Tryz.prog 76 #[.int .i64 n] w fun e w' => e = .returned (.int .i64 n) ∧ w' = w := by
 go_enter Tryz.func76, Tryz.ntmps76
 go_wp2
 go_ret
 exact ⟨rfl, rfl⟩
end Go.Proofs.YtjkhbjgfoopomabGreat
namespace Go.Proofs.YtjkhbjgfoopomabGreat
set_option linter.unusedVariables false
structure Msg where
 k : Nat
 f : Nat
 t : Nat
 i : Nat
 l : Nat
 p : Nat
 g : Nat
 a : Nat
 m : List UInt8
def Msg.ok (x : Msg) : Prop := x.k < 256 ∧ x.f < 256 ∧ x.t < 256 ∧ x.i < 4294967296 ∧ x.l < 256 ∧ x.p < 65536 ∧ x.g < 65536 ∧ x.a < 4294967296
def Msg.cells (x : Msg) : Array Value := #[.int .u8 (x.k : Int), .int .u8 (x.f : Int), .int .u8 (x.t : Int), .int .u32 (x.i : Int), .int .u8 (x.l : Int), .int .u16 (x.p : Int), .int .u16 (x.g : Int), .int .u32 (x.a : Int), .string (bs x.m)]
def Msg.v (x : Msg) : Value := .agg x.cells
def bankB (n : Nat) : Bool := decide (1 ≤ n) && decide (n ≤ 7)
def wayB (x : Msg) : Bool := if x.k ≤ 3 then decide (x.f = 0) && bankB x.t else decide (x.t = 0) && bankB x.f
def termsOf (x : Msg) : Nat := if x.a = 0 then 6 else if memoB x.m then 0 else 7
def bareB (x : Msg) : Bool := decide (x.p = 0) && decide (x.g = 0) && decide (x.a = 0) && x.m.isEmpty
def kindB (x : Msg) : Bool := decide (1 ≤ x.k) && decide (x.k ≤ 6)
def faultOf (x : Msg) : Nat :=
 if !kindB x then 3 else if !wayB x then 4 else if 4 ≤ x.l then 5 else if x.k = 1 then termsOf x else if bareB x then 0 else 3
def bodyOf (x : Msg) : List UInt8 := 69 :: UInt8.ofNat x.k :: UInt8.ofNat x.f :: UInt8.ofNat x.t :: (be 4 x.i ++ UInt8.ofNat x.l :: (be 2 x.p ++ (be 2 x.g ++ (be 4 x.a ++ UInt8.ofNat x.m.length :: x.m))))
theorem bodyOf_length (x : Msg) : (bodyOf x).length = 18 + x.m.length := by simp [bodyOf, be_length]; omega
def frameOf (x : Msg) : List UInt8 := bodyOf x ++ be 4 (sumOf (bodyOf x))
def encOf (x : Msg) : List UInt8 := if faultOf x = 0 then frameOf x else []
structure Ev where
 kind : Nat
 msg : Msg
 held : Bool
def Ev.ok (e : Ev) : Prop := e.kind < 4 ∧ e.msg.ok
def Ev.cells (e : Ev) : List Value := [.int .i64 (e.kind : Int), .int .u8 (e.msg.k : Int), .int .u8 (e.msg.f : Int), .int .u8 (e.msg.t : Int), .int .u32 (e.msg.i : Int), .int .u8 (e.msg.l : Int), .int .u16 (e.msg.p : Int), .int .u16 (e.msg.g : Int), .int .u32 (e.msg.a : Int), .string (bs e.msg.m), .bool e.held]
theorem Ev.cells_length (e : Ev) : e.cells.length = 11 := rfl
theorem take_snoc_ev {α : Type} (l : List α) (k : Nat) (h : k < l.length) : l.take (k + 1) = l.take k ++ [l[k]] := by
 rw [List.take_succ_eq_append_getElem h]
def openedStep (a : Nat) (s : Nat × Bool × Nat) (e : Ev) : Nat × Bool × Nat :=
 if e.kind = 0 then (if e.msg.p = a then (e.msg.a, true, s.2.2 + 1) else (s.1, s.2.1, s.2.2 + 1)) else s
def openedOf (a : Nat) (evs : List Ev) : Nat × Bool × Nat := evs.foldl (openedStep a) (0, false, 0)
theorem openedOf_snoc (a : Nat) (evs : List Ev) (e : Ev) : openedOf a (evs ++ [e]) = openedStep a (openedOf a evs) e := by simp [openedOf, List.foldl_append]
theorem openedFold_bd (a : Nat) (evs : List Ev) (hok : ∀ e, e ∈ evs → e.ok) : ∀ s : Nat × Bool × Nat, s.1 < 4294967296 → (evs.foldl (openedStep a) s).1 < 4294967296 ∧ (evs.foldl (openedStep a) s).2.2 ≤ s.2.2 + evs.length := by
 induction evs with
 | nil => intro s h; exact ⟨h, Nat.le_refl _⟩
 | cons e r ih =>
  intro s h;have he := hok e (by simp)
  have h1 : (openedStep a s e).1 < 4294967296 ∧ (openedStep a s e).2.2 ≤ s.2.2 + 1 := by
   unfold openedStep;split
   ·split
    ·exact ⟨he.2.2.2.2.2.2.2.2, Nat.le_refl _⟩
    ·exact ⟨h, Nat.le_refl _⟩
   ·exact ⟨h, Nat.le_succ _⟩
  have h2 := ih (fun x hx => hok x (by simp [hx])) _ h1.1;refine ⟨h2.1, ?_⟩;have := h2.2;simp only [List.foldl_cons, List.length_cons];omega
theorem openedOf_bd (a : Nat) (evs : List Ev) (hok : ∀ e, e ∈ evs → e.ok) : (openedOf a evs).1 < 4294967296 ∧ (openedOf a evs).2.2 ≤ evs.length := by
 have := openedFold_bd a evs hok (0, false, 0) (by decide)
 refine ⟨this.1, ?_⟩
 have h2 := this.2
 show (List.foldl (openedStep a) (0, false, 0) evs).2.2 ≤ evs.length
 simpa using h2
def legStep (id l : Nat) (s : Nat × Msg × Bool) (e : Ev) : Nat × Msg × Bool :=
 if e.kind = 0 then s else if e.msg.i ≠ id then s else if e.msg.l ≠ l then s
 else if e.kind = 1 then (if e.held then (1, e.msg, true) else (2, e.msg, true))
 else if e.kind = 2 then (3, s.2.1, s.2.2) else (4, s.2.1, s.2.2)
def noMsg : Msg := ⟨0, 0, 0, 0, 0, 0, 0, 0, []⟩
theorem noMsg_ok : noMsg.ok := by simp [Msg.ok, noMsg]
def legOf (id l : Nat) (evs : List Ev) : Nat × Msg × Bool := evs.foldl (legStep id l) (0, noMsg, false)
theorem legOf_snoc (id l : Nat) (evs : List Ev) (e : Ev) : legOf id l (evs ++ [e]) = legStep id l (legOf id l evs) e := by simp [legOf, List.foldl_append]
theorem legFold_ok (id l : Nat) (evs : List Ev) (hok : ∀ e, e ∈ evs → e.ok) : ∀ s : Nat × Msg × Bool, s.1 < 5 ∧ s.2.1.ok → (evs.foldl (legStep id l) s).1 < 5 ∧ (evs.foldl (legStep id l) s).2.1.ok := by
 induction evs with
 | nil => intro s h; exact h
 | cons e r ih =>
  intro s h;have he := hok e (by simp);refine ih (fun x hx => hok x (by simp [hx])) _ ?_;unfold legStep
  (repeat' split) <;> first | exact h | exact ⟨by simp, he.2⟩ | exact ⟨by simp, h.2⟩
theorem legOf_ok (id l : Nat) (evs : List Ev) (hok : ∀ e, e ∈ evs → e.ok) : (legOf id l evs).1 < 5 ∧ (legOf id l evs).2.1.ok := legFold_ok id l evs hok _ ⟨by decide, noMsg_ok⟩
def ofLeg (id l : Nat) (e : Ev) : Bool := decide (e.kind ≠ 0) && (decide (e.msg.i = id) && decide (e.msg.l = l))
def firstB (evs : List Ev) (i : Nat) : Bool :=
 match evs[i]? with
 | none => false
 | some e => decide (e.kind ≠ 0) && (evs.take i).all fun x => !ofLeg e.msg.i e.msg.l x
theorem firstB_at {evs : List Ev} {i : Nat} (h : i < evs.length) : firstB evs i = (decide (evs[i].kind ≠ 0) && (evs.take i).all fun x => !ofLeg evs[i].msg.i evs[i].msg.l x) := by
 simp [firstB, h]
def keysTo (evs : List Ev) : Nat → List (Nat × Nat)
 | 0 => []
 | k + 1 => match evs[k]? with
  | none => keysTo evs k
  | some e => if firstB evs k then keysTo evs k ++ [(e.msg.i, e.msg.l)] else keysTo evs k
theorem keysTo_yes {evs : List Ev} {k : Nat} (h : k < evs.length) (hf : firstB evs k = true) : keysTo evs (k + 1) = keysTo evs k ++ [(evs[k].msg.i, evs[k].msg.l)] := by
 simp [keysTo, h, hf]
theorem keysTo_no {evs : List Ev} {k : Nat} (h : k < evs.length) (hf : firstB evs k = false) : keysTo evs (k + 1) = keysTo evs k := by
 simp [keysTo, h, hf]
def keysOf (evs : List Ev) : List (Nat × Nat) := keysTo evs evs.length
theorem keysTo_length (evs : List Ev) (k : Nat) : (keysTo evs k).length ≤ k := by
 induction k with
 | zero => simp [keysTo]
 | succ k ih =>
  simp only [keysTo];split
  ·omega
  ·split
   ·simp; omega
   ·omega
def sumBy (ks : List (Nat × Nat)) (g : Nat × Nat → Nat) : Nat := (ks.map g).sum
theorem sumBy_snoc (ks : List (Nat × Nat)) (x : Nat × Nat) (g : Nat × Nat → Nat) : sumBy (ks ++ [x]) g = sumBy ks g + g x := by simp [sumBy]
theorem sumBy_le (ks : List (Nat × Nat)) (g : Nat × Nat → Nat) (b : Nat) (h : ∀ x, g x ≤ b) : sumBy ks g ≤ ks.length * b := by
 induction ks with
 | nil => simp [sumBy]
 | cons x r ih =>
  have := h x;simp only [sumBy, List.map_cons, List.sum_cons, List.length_cons, Nat.add_mul, Nat.one_mul] at *;omega
def amtPay (st a : Nat) (s : Nat × Msg × Bool) : Nat := if s.2.2 = true ∧ s.1 = st ∧ s.2.1.p = a then s.2.1.a else 0
def amtGet (st a : Nat) (s : Nat × Msg × Bool) : Nat := if s.2.2 = true ∧ s.1 = st ∧ s.2.1.g = a then s.2.1.a else 0
def outOf (a : Nat) (evs : List Ev) (ks : List (Nat × Nat)) : Nat := sumBy ks fun x => amtPay 3 a (legOf x.1 x.2 evs)
def inOf (a : Nat) (evs : List Ev) (ks : List (Nat × Nat)) : Nat := sumBy ks fun x => amtGet 3 a (legOf x.1 x.2 evs)
def staysOf (a : Nat) (evs : List Ev) (ks : List (Nat × Nat)) : Nat := sumBy ks fun x => amtPay 1 a (legOf x.1 x.2 evs)
def comesOf (a : Nat) (evs : List Ev) (ks : List (Nat × Nat)) : Nat := sumBy ks fun x => amtGet 1 a (legOf x.1 x.2 evs)
theorem amtPay_le (st a id l : Nat) (evs : List Ev) (hok : ∀ e, e ∈ evs → e.ok) : amtPay st a (legOf id l evs) ≤ 4294967295 := by
 have := (legOf_ok id l evs hok).2.2.2.2.2.2.2.2
 unfold amtPay
 split <;> omega
theorem amtGet_le (st a id l : Nat) (evs : List Ev) (hok : ∀ e, e ∈ evs → e.ok) : amtGet st a (legOf id l evs) ≤ 4294967295 := by
 have := (legOf_ok id l evs hok).2.2.2.2.2.2.2.2
 unfold amtGet
 split <;> omega
theorem sums_bd (a : Nat) (evs : List Ev) (hok : ∀ e, e ∈ evs → e.ok) (ks : List (Nat × Nat)) (h : ks.length ≤ 1000000) :
  outOf a evs ks ≤ 4294967295000000 ∧ inOf a evs ks ≤ 4294967295000000 ∧ staysOf a evs ks ≤ 4294967295000000 ∧ comesOf a evs ks ≤ 4294967295000000 := by
 have h1 : outOf a evs ks ≤ ks.length * 4294967295 := sumBy_le ks _ 4294967295 fun x => amtPay_le _ _ _ _ _ hok
 have h2 : inOf a evs ks ≤ ks.length * 4294967295 := sumBy_le ks _ 4294967295 fun x => amtGet_le _ _ _ _ _ hok
 have h3 : staysOf a evs ks ≤ ks.length * 4294967295 := sumBy_le ks _ 4294967295 fun x => amtPay_le _ _ _ _ _ hok
 have h4 : comesOf a evs ks ≤ ks.length * 4294967295 := sumBy_le ks _ 4294967295 fun x => amtGet_le _ _ _ _ _ hok
 have h5 : ks.length * 4294967295 ≤ 1000000 * 4294967295 := Nat.mul_le_mul_right _ h
 omega
end Go.Proofs.YtjkhbjgfoopomabGreat
namespace Go.Proofs.YtjkhbjgfoopomabGreat
open Go.RowKit
set_option maxRecDepth 100000
set_option maxHeartbeats 1000000
set_option linter.unusedVariables false
structure RB (w : World) (B node : Nat) (evs : List Ev) (v : Value) : Prop where
 blk : w.heap[B]? = some (.cells #[.int .u8 (node : Int), v] 163 (0, 0))
 row : RowOf w 207 11 Ev.cells v evs
theorem RB.lt {w : World} {B node : Nat} {evs : List Ev} {v : Value} (h : RB w B node evs v) : B < w.heap.size := block_lt h.blk
theorem RB.below {w u : World} {B node : Nat} {evs : List Ev} {v : Value} (h : RB w B node evs v) (hb : Below w.heap.size w u) : RB u B node evs v :=
 ⟨by rw [hb.block B h.lt]; exact h.blk, h.row.below hb⟩
theorem RB.form {w : World} {B node : Nat} {evs : List Ev} {v : Value} (h : RB w B node evs v) : ∃ (ad : Option Addr) (cap : Nat), v = .slice ad evs.length cap ∧ ∀ k (hk : k < evs.length), ∃ g, ad = some ⟨g, 0, none⟩ ∧ (∀ j, j < 11 → w.cell? ⟨g, k * 11 + j, none⟩ = evs[k].cells[j]?) ∧ ∀ j, w.frozen? ⟨g, j, none⟩ = false := h.row.form Ev.cells_length
theorem opened_any (a : Nat) (ha : a < 65536) (w : World) (B node : Nat) (evs : List Ev) (v : Value) (hR : RB w B node evs v) (hok : ∀ e, e ∈ evs → e.ok) (hlen : evs.length ≤ 1000000) :
  Calls Tryz.prog 116 #[.pointer (some ⟨B, 0, none⟩), .int .u16 (a : Int)] w fun e w' =>
   e = .returned (.tuple #[.int .u64 ((openedOf a evs).1 : Int), .bool (openedOf a evs).2.1, .int .i64 ((openedOf a evs).2.2 : Int)]) ∧ Below w.heap.size w w' := by
 obtain ⟨ad, cap, hv, hev⟩ := hR.form
 subst hv
 go_enter Tryz.func116, Tryz.ntmps116
 go_wp2
 go_loopw [7, 8, 9, 10] (fun x y z c u => ∃ k : Nat, k ≤ evs.length ∧ c = .int .i64 k ∧ x = .int .u64 ((openedOf a (evs.take k)).1 : Int) ∧ y = .bool (openedOf a (evs.take k)).2.1 ∧ z = .int .i64 ((openedOf a (evs.take k)).2.2 : Int) ∧ Below w.heap.size w u) (fun _ _ _ c _ => evs.length - (intOf c).toNat)
 case atStart => exact ⟨0, Nat.zero_le _, rfl, rfl, rfl, rfl, Below.refl _ _⟩
 case round =>
  obtain ⟨k, hk, rfl, rfl, rfl, rfl, hb⟩ := hrel;have hRu := hR.below hb;have hc : ∀ o, _ = _ := fun o => cell_at hRu.blk o;have hbd := openedOf_bd a (evs.take k) (fun e he => hok e (List.mem_of_mem_take he));have hl : (evs.take k).length ≤ k := List.length_take_le _ _;by_cases hlt : k < evs.length
  ·obtain ⟨ad', cap', hv', hev'⟩ := hRu.form;obtain ⟨g, hg, hcell, _⟩ := hev' k hlt;have ead : ad = ad' := by injection hv'
   subst ead;subst hg;have hs : Hid (openedOf a (evs.take (k + 1)) = openedStep a (openedOf a (evs.take k)) evs[k]) := hide (by rw [take_snoc_ev evs k hlt, openedOf_snoc]);have c0 := hcell 0 (by decide);have c1 := hcell 1 (by decide);have c2 := hcell 2 (by decide);have c3 := hcell 3 (by decide);have c4 := hcell 4 (by decide);have c5 := hcell 5 (by decide);have c6 := hcell 6 (by decide);have c7 := hcell 7 (by decide);have c8 := hcell 8 (by decide);have c9 := hcell 9 (by decide);have c10 := hcell 10 (by decide);have hek := hok evs[k] (List.getElem_mem hlt);clear hcell hev hev' hv';generalize openedOf a (evs.take k) = S at *;generalize evs[k] = E at *;obtain ⟨kind, ⟨mk, mf, mt, mi, ml, mp, mg, ma, mm⟩, held⟩ := E;obtain ⟨s1, s2, s3⟩ := S;obtain ⟨hk4, hmk, hmf, hmt, hmi, hml, hmp, hmg, hma⟩ := hek;simp only [Ev.cells, List.getElem?_cons_zero, List.getElem?_cons_succ, Nat.add_zero] at c0 c1 c2 c3 c4 c5 c6 c7 c8 c9 c10 hk4 hmk hmf hmt hmi hml hmp hmg hma hbd;by_cases hz : kind = 0
   ·have dz : ((kind : Int) == 0) = true := by simp; omega
    by_cases hp : mp = a
    ·have dp : ((mp : Int) == (a : Int)) = true := by simp; omega
     have hq : Hid (openedOf a (evs.take (k + 1)) = (ma, true, s3 + 1)) := hide (by rw [hs.out]; simp [openedStep, hz, hp]);clear hs hz hp;go_wp2;exact ⟨⟨k + 1, hlt, by go_num, by rw [hq.out], by rw [hq.out], by rw [hq.out]; go_num, hb.alloc hb.size _⟩, by simp [intOf]; omega⟩
    ·have dp : ((mp : Int) == (a : Int)) = false := by simp; omega
     have hq : Hid (openedOf a (evs.take (k + 1)) = (s1, s2, s3 + 1)) := hide (by rw [hs.out]; simp [openedStep, hz, hp]);clear hs hz hp;go_wp2;exact ⟨⟨k + 1, hlt, by go_num, by rw [hq.out], by rw [hq.out], by rw [hq.out]; go_num, hb.alloc hb.size _⟩, by simp [intOf]; omega⟩
   ·have dz : ((kind : Int) == 0) = false := by simp; omega
    have hq : Hid (openedOf a (evs.take (k + 1)) = (s1, s2, s3)) := hide (by rw [hs.out]; simp [openedStep, hz]);clear hs hz;go_wp2;exact ⟨⟨k + 1, hlt, by go_num, by rw [hq.out], by rw [hq.out], by rw [hq.out], hb.alloc hb.size _⟩, by simp [intOf]; omega⟩
  ·obtain rfl : k = evs.length := by omega
   rw [List.take_length];rw [List.take_length] at hbd;go_wp2;go_ret3;exact ⟨rfl, hb⟩
end Go.Proofs.YtjkhbjgfoopomabGreat
