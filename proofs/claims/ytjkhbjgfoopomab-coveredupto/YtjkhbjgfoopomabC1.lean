import Derived.Test.YtjkhbjgfoopomabRows
import Derived.WalkKit
import Derived.WalkSpells
import Derived.WalkLawsBesides
import Derived.Laws.BytesArg
import Derived.ProofKit
import Derived.OpenShut
import Derived.ShutString
import Derived.ChangeOld
import Derived.SizedLaws
/-
  Plain arithmetic of the checksum: no program in sight.
-/
namespace Go.Proofs.Ytjkhbjgfoopomab

/-- one bit falls out -/
def crcBit (c : Nat) : Nat := if c % 2 = 1 then (c / 2) ^^^ 3988292384 else c / 2
def crcBits : Nat → Nat → Nat
  | 0, c => c
  | n + 1, c => crcBit (crcBits n c)
def crcByte (c : Nat) (b : UInt8) : Nat := crcBits 8 (c ^^^ b.toNat)
def crcOf (l : List UInt8) : Nat := l.foldl crcByte 4294967295
def sumOf (l : List UInt8) : Nat := 4294967295 - crcOf l

theorem xor_lt32 {a b : Nat} (ha : a < 4294967296) (hb : b < 4294967296) : a ^^^ b < 4294967296 := by
  have := Nat.xor_lt_two_pow (n := 32) (x := a) (y := b) (by omega) (by omega)
  omega
theorem crcBit_lt {c : Nat} (h : c < 4294967296) : crcBit c < 4294967296 := by
  unfold crcBit
  split
  · exact xor_lt32 (by omega) (by decide)
  · omega
theorem crcBits_lt {n c : Nat} (h : c < 4294967296) : crcBits n c < 4294967296 := by
  induction n with
  | zero => exact h
  | succ n ih => exact crcBit_lt ih
theorem byte_lt (b : UInt8) : b.toNat < 256 := b.toNat_lt
theorem crcByte_lt {c : Nat} (h : c < 4294967296) (b : UInt8) : crcByte c b < 4294967296 :=
  crcBits_lt (xor_lt32 h (by have := byte_lt b; omega))
theorem crcFold_lt (l : List UInt8) : ∀ {c : Nat}, c < 4294967296 → l.foldl crcByte c < 4294967296 := by
  induction l with
  | nil => intro c h; exact h
  | cons b l ih => intro c h; exact ih (crcByte_lt h b)
theorem crcOf_lt (l : List UInt8) : crcOf l < 4294967296 := crcFold_lt l (by decide)
theorem crcOf_snoc (l : List UInt8) (b : UInt8) : crcOf (l ++ [b]) = crcByte (crcOf l) b := by
  simp [crcOf, List.foldl_append]
theorem sumOf_lt (l : List UInt8) : sumOf l < 4294967296 := by unfold sumOf; omega
theorem not32 {c : Nat} (h : c < 4294967296) : 4294967295 ^^^ c = 4294967295 - c := by
  have e : 4294967295 ^^^ c = (~~~ (BitVec.ofNat 32 c)).toNat := by
    rw [← BitVec.allOnes_xor, BitVec.toNat_xor, BitVec.toNat_allOnes, BitVec.toNat_ofNat, Nat.mod_eq_of_lt (by omega)]
  rw [e, BitVec.toNat_not, BitVec.toNat_ofNat, Nat.mod_eq_of_lt (by omega)]

/-! the checksum is linear, and one to one -/
end Go.Proofs.Ytjkhbjgfoopomab
/-
  The walks of the two checksums.
-/
namespace Go.Proofs.Ytjkhbjgfoopomab
open Go.RowKit

theorem hide {p : Prop} (h : p) : Hid p := h
theorem ret_int {k : IntKind} {a b : Int} (h : a = b) : Ending.returned (.int k a) = .returned (.int k b) := by rw [h]
theorem u32and1 (c : Nat) (h : c < 4294967296) : bits .and .u32 (c : Int) 1 = ((c % 2 : Nat) : Int) := by
  have e := u32_and_nat c 1 h (by decide)
  rw [Nat.and_one_is_mod] at e
  simpa using e
theorem u32xor_half (c : Nat) (h : c < 4294967296) : bits .xor .u32 ((c : Int) / 2) 3988292384 = (((c / 2) ^^^ 3988292384 : Nat) : Int) := by
  have e := u32_xor_nat (c / 2) 3988292384 (by omega) (by decide)
  simpa using e
theorem crcBit_odd {c : Nat} (h : c % 2 = 1) : crcBit c = (c / 2) ^^^ 3988292384 := by simp [crcBit, h]
theorem crcBit_even {c : Nat} (h : ¬ c % 2 = 1) : crcBit c = c / 2 := by simp [crcBit, h]

set_option maxHeartbeats 400000 in
theorem shiftOut_any (c : Nat) (h : c < 4294967296) (w : World) :
    Calls Try.prog 87 #[.int .u32 (c : Int)] w fun e w' => e = .returned (.int .u32 ((crcBits 8 c : Nat) : Int)) ∧ w' = w := by
  go_enter Try.func87, Try.ntmps87
  go_wp2
  go_loop [0, 3] (fun s i => ∃ k : Nat, k ≤ 8 ∧ i = .int .i64 k ∧ s = .int .u32 ((crcBits k c : Nat) : Int)) (fun _ i => 8 - (intOf i).toNat)
  case atStart => exact ⟨0, by decide, rfl, rfl⟩
  case round =>
    obtain ⟨k, hk, rfl, rfl⟩ := hrel
    have hd : crcBits k c < 4294967296 := crcBits_lt h
    by_cases hlt : k < 8
    · have hs : Hid (crcBits (k + 1) c = crcBit (crcBits k c)) := hide rfl
      generalize crcBits k c = x at *
      by_cases hp : x % 2 = 1
      · have e1 : bits .and .u32 (x : Int) 1 = 1 := by rw [u32and1 x hd, hp]; rfl
        have e2 := u32xor_half x hd
        have hq : Hid (crcBit x = (x / 2) ^^^ 3988292384) := hide (crcBit_odd hp)
        clear hp
        go_wp2
        exact ⟨⟨k + 1, by omega, by go_num, by rw [hs.out, hq.out]⟩, by simp [intOf]; omega⟩
      · have e1 : bits .and .u32 (x : Int) 1 = 0 := by rw [u32and1 x hd, show x % 2 = 0 by omega]; rfl
        have hq : Hid (crcBit x = x / 2) := hide (crcBit_even hp)
        clear hp
        go_wp2
        exact ⟨⟨k + 1, by omega, by go_num, by rw [hs.out, hq.out]; go_num⟩, by simp [intOf]; omega⟩
    · have e8 : k = 8 := by omega
      subst e8
      go_wp2
      go_ret
      exact ⟨rfl, rfl⟩

theorem take_snoc (s : ByteArray) (k : Nat) (h : k < s.size) : s.data.toList.take (k + 1) = s.data.toList.take k ++ [s[k]] := by
  rw [List.take_succ_eq_append_getElem (by simpa using h)]; rfl
theorem u32xor_byte (c : Nat) (b : UInt8) (h : c < 4294967296) : bits .xor .u32 (c : Int) ((b.toNat : Int) % 4294967296) = ((c ^^^ b.toNat : Nat) : Int) := by
  have hb := byte_lt b
  rw [show (b.toNat : Int) % 4294967296 = (b.toNat : Int) by omega]
  exact u32_xor_nat c b.toNat h (by omega)
theorem u32not (c : Nat) (h : c < 4294967296) : bits .xor .u32 IntKind.u32.max (c : Int) = ((4294967295 - c : Nat) : Int) := by
  have e := u32_xor_nat 4294967295 c (by decide) h
  rw [not32 h] at e
  rw [show IntKind.u32.max = ((4294967295 : Nat) : Int) by decide]
  exact e

set_option maxHeartbeats 400000 in
theorem frameSum_any (s : ByteArray) (hs : s.size ≤ maxLen) (w : World) :
    Calls Try.prog 78 #[.string s] w fun e w' => e = .returned (.int .u32 ((sumOf s.data.toList : Nat) : Int)) ∧ w' = w := by
  unfold maxLen at hs
  go_enter Try.func78, Try.ntmps78
  go_wp2
  go_loop [3, 4] (fun c i => ∃ k : Nat, k ≤ s.size ∧ i = .int .i64 k ∧ c = .int .u32 ((crcOf (s.data.toList.take k) : Nat) : Int)) (fun _ i => s.size - (intOf i).toNat)
  case atStart => exact ⟨0, Nat.zero_le _, rfl, rfl⟩
  case round =>
    obtain ⟨k, hk, rfl, rfl⟩ := hrel
    have hd : crcOf (s.data.toList.take k) < 4294967296 := crcOf_lt _
    by_cases hlt : k < s.size
    · have hn : Hid (crcOf (s.data.toList.take (k + 1)) = crcByte (crcOf (s.data.toList.take k)) s[k]) := hide (by rw [take_snoc s k hlt, crcOf_snoc])
      generalize crcOf (s.data.toList.take k) = x at *
      have e1 := u32xor_byte x s[k] hd
      have hx : x ^^^ s[k].toNat < 4294967296 := xor_lt32 hd (by have := byte_lt s[k]; omega)
      go_wp2_with (go_at_call 87; refine (shiftOut_any _ hx _).mono ?_; rintro e w' ⟨rfl, rfl⟩)
      exact ⟨⟨k + 1, by omega, by go_num, by rw [hn.out]; rfl⟩, by simp [intOf]; omega⟩
    · have e1 := u32not _ hd
      have hn : Hid (sumOf s.data.toList = 4294967295 - crcOf (s.data.toList.take k)) := hide (by unfold sumOf; rw [List.take_of_length_le (by simp; omega)])
      generalize crcOf (s.data.toList.take k) = x at *
      go_wp2
      go_ret
      exact ⟨ret_int (by rw [hn.out]), rfl⟩

end Go.Proofs.Ytjkhbjgfoopomab
/-
  Strings as lists of bytes; numbers as bytes, the high one first.
-/
namespace Go.Proofs.Ytjkhbjgfoopomab
open Go.RowKit

/-- the string of a list of bytes -/
def bs (l : List UInt8) : ByteArray := ⟨l.toArray⟩
theorem bs_data (l : List UInt8) : (bs l).data.toList = l := by simp [bs]
theorem bs_toList (l : List UInt8) : (bs l).toList = l := by rw [ByteArray.toList_eq, bs_data]
theorem bs_size (l : List UInt8) : (bs l).size = l.length := by simp [bs, ByteArray.size]
theorem bs_append (x y : List UInt8) : bs x ++ bs y = bs (x ++ y) := ByteArray.mk_append_mk x y
theorem bs_of (s : ByteArray) : bs s.data.toList = s := by
  cases s with
  | mk d => simp [bs]
/-- a number as n bytes, the high one first -/
def be : Nat → Nat → List UInt8
  | 0, _ => []
  | n + 1, v => UInt8.ofNat (v / 256 ^ n % 256) :: be n v
theorem be_length (n v : Nat) : (be n v).length = n := by
  induction n with
  | zero => rfl
  | succ n ih => simp [be, ih]
theorem strOfNums_bs (xs : List Int) : strOfNums xs = bs (xs.map fun n => UInt8.ofNat n.toNat) := rfl

theorem cellAt {w : World} {cs : Array Value} {t : TypeId} {i : Nat} (v : Value) (h : cs[i]? = some v) : (w.alloc (.cells cs t)).cell? ⟨w.heap.size, 0 + i, none⟩ = some v := by
  rw [Nat.zero_add, World.cell?_alloc_new]; exact h
theorem conv1 (w : World) (a : Int) : (convert 125 9 (.slice (some ⟨w.heap.size, 0, none⟩) 1 1)).run Try.prog (w.alloc (.cells #[.int .u8 a] 5)) =
    .ok (.string (bs [UInt8.ofNat a.toNat])) (w.alloc (.cells #[.int .u8 a] 5)) :=
  run_convert_bytes_arg _ 125 5 Try.underlying125 Try.underlying5 _ 0 1 1 [a] rfl (fun i hi => by
    match i, hi with
    | 0, _ => exact cellAt _ rfl) _ Try.underlying9
theorem conv2 (w : World) (a b : Int) : (convert 125 9 (.slice (some ⟨w.heap.size, 0, none⟩) 2 2)).run Try.prog (w.alloc (.cells #[.int .u8 a, .int .u8 b] 5)) =
    .ok (.string (bs [UInt8.ofNat a.toNat, UInt8.ofNat b.toNat])) (w.alloc (.cells #[.int .u8 a, .int .u8 b] 5)) :=
  run_convert_bytes_arg _ 125 5 Try.underlying125 Try.underlying5 _ 0 2 2 [a, b] rfl (fun i hi => by
    match i, hi with
    | 0, _ => exact cellAt _ rfl
    | 1, _ => exact cellAt _ rfl) _ Try.underlying9
theorem conv4 (w : World) (a b c d : Int) : (convert 125 9 (.slice (some ⟨w.heap.size, 0, none⟩) 4 4)).run Try.prog (w.alloc (.cells #[.int .u8 a, .int .u8 b, .int .u8 c, .int .u8 d] 5)) =
    .ok (.string (bs [UInt8.ofNat a.toNat, UInt8.ofNat b.toNat, UInt8.ofNat c.toNat, UInt8.ofNat d.toNat])) (w.alloc (.cells #[.int .u8 a, .int .u8 b, .int .u8 c, .int .u8 d] 5)) :=
  run_convert_bytes_arg _ 125 5 Try.underlying125 Try.underlying5 _ 0 4 4 [a, b, c, d] rfl (fun i hi => by
    match i, hi with
    | 0, _ => exact cellAt _ rfl
    | 1, _ => exact cellAt _ rfl
    | 2, _ => exact cellAt _ rfl
    | 3, _ => exact cellAt _ rfl) _ Try.underlying9
attribute [local go_sem] conv1 conv2 conv4

theorem ret_str {a b : List UInt8} (h : a = b) : Ending.returned (.string (bs a)) = .returned (.string (bs b)) := by rw [h]
theorem be4 (n : Nat) (hn : n < 4294967296) : [UInt8.ofNat ((n : Int) / 16777216).toNat, UInt8.ofNat ((n : Int) / 65536 % 256).toNat, UInt8.ofNat ((n : Int) / 256 % 256).toNat, UInt8.ofNat ((n : Int) % 256).toNat] = be 4 n := by
  have e1 : ((n : Int) / 16777216).toNat = n / 256 ^ 3 % 256 := by omega
  have e2 : ((n : Int) / 65536 % 256).toNat = n / 256 ^ 2 % 256 := by omega
  have e3 : ((n : Int) / 256 % 256).toNat = n / 256 ^ 1 % 256 := by omega
  have e4 : ((n : Int) % 256).toNat = n / 256 ^ 0 % 256 := by omega
  rw [e1, e2, e3, e4]
  rfl
theorem be2 (n : Nat) (hn : n < 65536) : [UInt8.ofNat ((n : Int) / 256).toNat, UInt8.ofNat ((n : Int) % 256).toNat] = be 2 n := by
  have e3 : ((n : Int) / 256).toNat = n / 256 ^ 1 % 256 := by omega
  have e4 : ((n : Int) % 256).toNat = n / 256 ^ 0 % 256 := by omega
  rw [e3, e4]
  rfl
set_option maxHeartbeats 400000 in
theorem four_any (n : Nat) (hn : n < 4294967296) (w : World) :
    Calls Try.prog 58 #[.int .u32 (n : Int)] w fun e w' => e = .returned (.string (bs (be 4 n))) ∧ Below w.heap.size w w' := by
  go_enter Try.func58, Try.ntmps58
  go_wp2
  go_ret
  exact ⟨ret_str (be4 n hn), (Below.refl _ _).alloc (Nat.le_refl _) _⟩
set_option maxHeartbeats 400000 in
theorem two_any (n : Nat) (hn : n < 65536) (w : World) :
    Calls Try.prog 57 #[.int .u16 (n : Int)] w fun e w' => e = .returned (.string (bs (be 2 n))) ∧ Below w.heap.size w w' := by
  go_enter Try.func57, Try.ntmps57
  go_wp2
  go_ret
  exact ⟨ret_str (be2 n hn), (Below.refl _ _).alloc (Nat.le_refl _) _⟩
end Go.Proofs.Ytjkhbjgfoopomab
/-
  Plain: what a memo is.
-/
namespace Go.Proofs.Ytjkhbjgfoopomab

/-- how many bytes a character has that begins with this byte -/
def chLen (b : Nat) : Nat := if b < 128 then 1 else if b < 194 then 0 else if b < 224 then 2 else if b < 240 then 3 else if b < 245 then 4 else 0
def chLo (b : Nat) : Nat := if b = 224 then 160 else if b = 240 then 144 else 128
def chHi (b : Nat) : Nat := if b = 237 then 159 else if b = 244 then 143 else 191
theorem chLen_le (b : Nat) : chLen b ≤ 4 := by unfold chLen; (repeat' split) <;> omega
/-- so many bytes that go on -/
def okTail : Nat → List UInt8 → Bool
  | 0, _ => true
  | _ + 1, [] => false
  | n + 1, b :: r => decide (128 ≤ b.toNat ∧ b.toNat ≤ 191) && okTail n r
/-- the size of the character at a text's head; 0: none -/
def chSize : List UInt8 → Nat
  | [] => 0
  | [b] => if chLen b.toNat = 1 then 1 else 0
  | b :: c :: r => if chLen b.toNat ≤ 1 then chLen b.toNat
      else if decide (chLo b.toNat ≤ c.toNat ∧ c.toNat ≤ chHi b.toNat) && okTail (chLen b.toNat - 2) r then chLen b.toNat else 0
theorem okTail_le {n : Nat} {r : List UInt8} (h : okTail n r = true) : n ≤ r.length := by
  induction n generalizing r with
  | zero => omega
  | succ n ih =>
    cases r with
    | nil => simp [okTail] at h
    | cons b r => simp [okTail] at h; have := ih h.2; simp; omega
theorem chSize_le (l : List UInt8) : chSize l ≤ l.length := by
  match l with
  | [] => simp [chSize]
  | [b] => simp only [chSize]; split <;> simp
  | b :: c :: r =>
    simp only [chSize, List.length_cons]
    split
    · omega
    · split
      · rename_i h1 h2
        simp only [Bool.and_eq_true] at h2
        have := okTail_le h2.2
        omega
      · omega
theorem chSize_le4 (l : List UInt8) : chSize l ≤ 4 := by
  match l with
  | [] => simp [chSize]
  | [b] => simp only [chSize]; split <;> omega
  | b :: c :: r => have := chLen_le b.toNat; simp only [chSize]; (repeat' split) <;> omega
/-- at most so many characters, and nothing behind -/
def memoK : Nat → List UInt8 → Bool
  | 0, l => l.isEmpty
  | k + 1, l => memoK k (l.drop (chSize l))
def memoB (l : List UInt8) : Bool := memoK 16 l
theorem memoK_len {l : List UInt8} {k : Nat} (h : memoK k l = true) : l.length ≤ 4 * k := by
  induction k generalizing l with
  | zero => cases l with
    | nil => simp
    | cons b r => simp [memoK] at h
  | succ k ih =>
    simp only [memoK] at h
    have h1 := ih h
    have h2 := chSize_le4 l
    simp at h1
    omega
theorem memoB_len {l : List UInt8} (h : memoB l = true) : l.length ≤ 64 := memoK_len h
/-! the size of a character, by the bytes that are there -/
theorem okTail_iff (n : Nat) (r : List UInt8) : okTail n r = true ↔ ∀ j, j < n → ∃ x, r[j]? = some x ∧ 128 ≤ x.toNat ∧ x.toNat ≤ 191 := by
  induction n generalizing r with
  | zero => simp [okTail]
  | succ n ih =>
    cases r with
    | nil =>
      simp only [okTail, Bool.false_eq_true, false_iff]
      intro h
      obtain ⟨x, hx, _⟩ := h 0 (by omega)
      simp at hx
    | cons b r =>
      simp only [okTail, Bool.and_eq_true, decide_eq_true_eq, ih]
      constructor
      · intro ⟨h1, h2⟩ j hj
        cases j with
        | zero => exact ⟨b, rfl, h1⟩
        | succ j => simpa using h2 j (by omega)
      · intro h
        refine ⟨?_, fun j hj => by simpa using h (j + 1) (by omega)⟩
        obtain ⟨x, hx, h1⟩ := h 0 (by omega)
        simp at hx
        subst hx
        exact h1
theorem chSize_one {l : List UInt8} {b : UInt8} (h : l[0]? = some b) (hn : chLen b.toNat ≤ 1) : chSize l = chLen b.toNat := by
  match l, h with
  | [x], h => simp at h; subst h; simp only [chSize]; split <;> omega
  | x :: c :: r, h => simp at h; subst h; simp [chSize, hn]
theorem chSize_ok {l : List UInt8} {b c : UInt8} (h : l[0]? = some b) (h1 : l[1]? = some c) (hn : 2 ≤ chLen b.toNat) (hc : chLo b.toNat ≤ c.toNat ∧ c.toNat ≤ chHi b.toNat)
    (ht : ∀ j, 2 ≤ j → j < chLen b.toNat → ∃ x, l[j]? = some x ∧ 128 ≤ x.toNat ∧ x.toNat ≤ 191) : chSize l = chLen b.toNat := by
  match l, h, h1 with
  | x :: y :: r, h, h1 =>
    simp at h h1
    subst h; subst h1
    have ho : okTail (chLen x.toNat - 2) r = true := (okTail_iff _ _).2 fun j hj => by
      have := ht (j + 2) (by omega) (by omega)
      simpa using this
    simp [chSize, ho, hc, show ¬ chLen x.toNat ≤ 1 by omega]
theorem chSize_not {l : List UInt8} {b : UInt8} (h : l[0]? = some b) (hn : 2 ≤ chLen b.toNat)
    (hb : l.length < chLen b.toNat ∨ (∃ c, l[1]? = some c ∧ ¬ (chLo b.toNat ≤ c.toNat ∧ c.toNat ≤ chHi b.toNat)) ∨ ∃ j x, 2 ≤ j ∧ j < chLen b.toNat ∧ l[j]? = some x ∧ ¬ (128 ≤ x.toNat ∧ x.toNat ≤ 191)) : chSize l = 0 := by
  match l, h with
  | [x], h => simp at h; subst h; simp only [chSize]; split <;> omega
  | x :: c :: r, h =>
    simp at h
    subst h
    have hx : (decide (chLo x.toNat ≤ c.toNat ∧ c.toNat ≤ chHi x.toNat) && okTail (chLen x.toNat - 2) r) = false := by
      cases ho : okTail (chLen x.toNat - 2) r with
      | false => simp
      | true =>
        rcases hb with hb | ⟨c', hc, hb⟩ | ⟨j, y, h2, hj, hy, hb⟩
        · have := okTail_le ho
          simp at hb
          omega
        · simp at hc
          subst hc
          simpa using hb
        · exfalso
          obtain ⟨z, hz, hz2⟩ := (okTail_iff _ _).1 ho (j - 2) (by omega)
          obtain ⟨i, rfl⟩ : ∃ i, j = i + 2 := ⟨j - 2, by omega⟩
          simp at hy hz
          rw [hy] at hz
          cases hz
          exact hb hz2
    simp only [chSize, hx]
    rw [if_neg (by omega)]
    simp
end Go.Proofs.Ytjkhbjgfoopomab
/-
  Plain: messages, what is wrong with one, its frame.
-/
namespace Go.Proofs.Ytjkhbjgfoopomab

/-- what a frame says -/
structure Msg where
  k : Nat
  f : Nat
  t : Nat
  i : Nat
  l : Nat
  p : Nat
  g : Nat
  a : Nat
  m : List UInt8
def Msg.ok (x : Msg) : Prop := x.k < 256 ∧ x.f < 256 ∧ x.t < 256 ∧ x.i < 4294967296 ∧ x.l < 256 ∧ x.p < 65536 ∧ x.g < 65536 ∧ x.a < 4294967296
def Msg.cells (x : Msg) : Array Value := #[.int .u8 (x.k : Int), .int .u8 (x.f : Int), .int .u8 (x.t : Int), .int .u32 (x.i : Int), .int .u8 (x.l : Int), .int .u16 (x.p : Int), .int .u16 (x.g : Int), .int .u32 (x.a : Int), .string (bs x.m)]
def Msg.v (x : Msg) : Value := .agg x.cells
def bankB (n : Nat) : Bool := decide (1 ≤ n) && decide (n ≤ 7)
def wayB (x : Msg) : Bool := if x.k ≤ 3 then decide (x.f = 0) && bankB x.t else decide (x.t = 0) && bankB x.f
def termsOf (x : Msg) : Nat := if x.a = 0 then 6 else if memoB x.m then 0 else 7
def bareB (x : Msg) : Bool := decide (x.p = 0) && decide (x.g = 0) && decide (x.a = 0) && x.m.isEmpty
def kindB (x : Msg) : Bool := decide (1 ≤ x.k) && decide (x.k ≤ 6)
/-- P4: the error of a message -/
def faultOf (x : Msg) : Nat :=
  if !kindB x then 3 else if !wayB x then 4 else if 4 ≤ x.l then 5 else if x.k = 1 then termsOf x else if bareB x then 0 else 3
/-- all bytes of a frame ahead of its checksum -/
def bodyOf (x : Msg) : List UInt8 := 69 :: UInt8.ofNat x.k :: UInt8.ofNat x.f :: UInt8.ofNat x.t :: (be 4 x.i ++ UInt8.ofNat x.l :: (be 2 x.p ++ (be 2 x.g ++ (be 4 x.a ++ UInt8.ofNat x.m.length :: x.m))))
theorem bodyOf_length (x : Msg) : (bodyOf x).length = 18 + x.m.length := by simp [bodyOf, be_length]; omega
def frameOf (x : Msg) : List UInt8 := bodyOf x ++ be 4 (sumOf (bodyOf x))
/-- P4: Encode -/
def encOf (x : Msg) : List UInt8 := if faultOf x = 0 then frameOf x else []
end Go.Proofs.Ytjkhbjgfoopomab
/-
  Plain: what has changed a notary, and what the document reckons of it.
-/
namespace Go.Proofs.Ytjkhbjgfoopomab
set_option linter.unusedVariables false

/-- a leg of a payment -/
structure Pl where
  b : Nat
  p : Nat
  g : Nat
  a : Nat
def Pl.ok (x : Pl) : Prop := x.b < 256 ∧ x.p < 65536 ∧ x.g < 65536 ∧ x.a < 4294967296
def Pl.cells (x : Pl) : List Value := [.int .u8 (x.b : Int), .int .u16 (x.p : Int), .int .u16 (x.g : Int), .int .u32 (x.a : Int)]
theorem Pl.cells_length (x : Pl) : x.cells.length = 4 := rfl
/-- a payment; la, lc: where its legs lie, and how many places there are -/
structure Pm where
  id : Nat
  dl : Nat
  memo : List UInt8
  legs : List Pl
  la : Option Addr
  lc : Nat
/-- the slice of its legs -/
def Pm.lv (x : Pm) : Value := .slice x.la x.legs.length x.lc
def Pm.ok (x : Pm) : Prop := x.id < 4294967296 ∧ x.dl < 18446744073709551616 ∧ ∀ l, l ∈ x.legs → l.ok
def Pm.v (x : Pm) : Value := .agg #[.int .u32 (x.id : Int), .int .u64 (x.dl : Int), .string (bs x.memo), x.lv]
def noPm : Pm := ⟨0, 0, [], [], none, 0⟩
/-- what has changed a notary -/
structure Dt where
  kind : Int
  pay : Pm
  msg : Msg
def Dt.ok (x : Dt) : Prop := -1 ≤ x.kind ∧ x.kind ≤ 6 ∧ x.pay.ok ∧ x.msg.ok
def Dt.cells (x : Dt) : List Value := [.int .i64 x.kind, .int .u32 (x.pay.id : Int), .int .u64 (x.pay.dl : Int), .string (bs x.pay.memo), x.pay.lv, .int .u8 (x.msg.k : Int), .int .u8 (x.msg.f : Int), .int .u8 (x.msg.t : Int), .int .u32 (x.msg.i : Int), .int .u8 (x.msg.l : Int), .int .u16 (x.msg.p : Int), .int .u16 (x.msg.g : Int), .int .u32 (x.msg.a : Int), .string (bs x.msg.m)]
theorem Dt.cells_length (x : Dt) : x.cells.length = 14 := rfl

/-- P11: the clock -/
def clockStep (n : Nat) (x : Dt) : Nat := if x.kind = 0 then n + 1 else n
def clockOf (acts : List Dt) : Nat := acts.foldl clockStep 0
theorem clockOf_snoc (acts : List Dt) (x : Dt) : clockOf (acts ++ [x]) = clockStep (clockOf acts) x := by simp [clockOf, List.foldl_append]
/-- the payment of a number; is it kept; how many are -/
def findStep (id : Nat) (s : Pm × Bool × Nat) (x : Dt) : Pm × Bool × Nat := if x.kind = -1 then (if x.pay.id = id then (x.pay, true, s.2.2 + 1) else (s.1, s.2.1, s.2.2 + 1)) else s
def findOf (id : Nat) (acts : List Dt) : Pm × Bool × Nat := acts.foldl (findStep id) (noPm, false, 0)
theorem findOf_snoc (id : Nat) (acts : List Dt) (x : Dt) : findOf id (acts ++ [x]) = findStep id (findOf id acts) x := by simp [findOf, List.foldl_append]
def fullOf (n : Nat) : Nat := 2 ^ n - 1
def withOf (bits leg : Nat) : Nat := if bits / 2 ^ leg % 2 = 1 then bits else bits + 2 ^ leg
def askKind (st : Nat) : Nat := if st = 1 then 1 else if st = 2 then 2 else 3
end Go.Proofs.Ytjkhbjgfoopomab
/-
  What every law's row wants of the program.
-/
namespace Go.Proofs.Ytjkhbjgfoopomab
theorem own : ownKnob Try.prog.godebug = none := by kernel_rfl
theorem laidOut : laidOutB Try.prog = true := by kernel_rfl
end Go.Proofs.Ytjkhbjgfoopomab
