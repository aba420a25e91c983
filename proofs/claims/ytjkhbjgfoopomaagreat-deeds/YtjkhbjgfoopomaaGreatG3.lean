import Derived.Test.YtjkhbjgfoopomaaGreatRows
import Derived.Test.YtjkhbjgfoopomaaGreatG2
import Derived.WalkKit
import Derived.WalkSpells
import Derived.WalkLawsBesides
import Derived.Laws.BytesArg
import Derived.ProofKit
import Derived.OpenShut
import Derived.ShutString
import Derived.ChangeOld
import Derived.SizedLaws
import Derived.Test.YtjkhbjgfoopomaaGreatG1
/-
  The walks of the two checksums.
-/
namespace Go.Proofs.YtjkhbjgfoopomaaGreat
open Go.RowKit

theorem hide {p : Prop} (h : p) : Hid p := h
theorem ret_int {k : IntKind} {a b : Int} (h : a = b) : Ending.returned (.int k a) = .returned (.int k b) := by rw [h]
theorem u32and1 (c : Nat) (h : c < 4294967296) : bits .and .u32 (c : Int) 1 = ((c % 2 : Nat) : Int) := by
  have e := u32_and_nat c 1 h (by decide)
  rw [Nat.and_one_is_mod] at e
  simpa using e
theorem u32xor_half (c : Nat) (h : c < 4294967296) : bits .xor .u32 ((c : Int) / 2) 3988292384 = (((c / 2) ^^^ 3988292384 : Nat) : Int) := by
  have e := u32_xor_nat (c / 2) 3988292384 (by omega) (by decide)
  simpa using e
theorem crcBit_odd {c : Nat} (h : c % 2 = 1) : crcBit c = (c / 2) ^^^ 3988292384 := by simp [crcBit, h]
theorem crcBit_even {c : Nat} (h : ¬ c % 2 = 1) : crcBit c = c / 2 := by simp [crcBit, h]

set_option maxHeartbeats 400000 in
theorem shiftOut_any (c : Nat) (h : c < 4294967296) (w : World) :
    Calls Tryz.prog 136 #[.int .u32 (c : Int)] w fun e w' => e = .returned (.int .u32 ((crcBits 8 c : Nat) : Int)) ∧ w' = w := by
  go_enter Tryz.func136, Tryz.ntmps136
  go_wp2
  go_loop [0, 3] (fun s i => ∃ k : Nat, k ≤ 8 ∧ i = .int .i64 k ∧ s = .int .u32 ((crcBits k c : Nat) : Int)) (fun _ i => 8 - (intOf i).toNat)
  case atStart => exact ⟨0, by decide, rfl, rfl⟩
  case round =>
    obtain ⟨k, hk, rfl, rfl⟩ := hrel
    have hd : crcBits k c < 4294967296 := crcBits_lt h
    by_cases hlt : k < 8
    · have hs : Hid (crcBits (k + 1) c = crcBit (crcBits k c)) := hide rfl
      generalize crcBits k c = x at *
      by_cases hp : x % 2 = 1
      · have e1 : bits .and .u32 (x : Int) 1 = 1 := by rw [u32and1 x hd, hp]; rfl
        have e2 := u32xor_half x hd
        have hq : Hid (crcBit x = (x / 2) ^^^ 3988292384) := hide (crcBit_odd hp)
        clear hp
        go_wp2
        exact ⟨⟨k + 1, by omega, by go_num, by rw [hs.out, hq.out]⟩, by simp [intOf]; omega⟩
      · have e1 : bits .and .u32 (x : Int) 1 = 0 := by rw [u32and1 x hd, show x % 2 = 0 by omega]; rfl
        have hq : Hid (crcBit x = x / 2) := hide (crcBit_even hp)
        clear hp
        go_wp2
        exact ⟨⟨k + 1, by omega, by go_num, by rw [hs.out, hq.out]; go_num⟩, by simp [intOf]; omega⟩
    · have e8 : k = 8 := by omega
      subst e8
      go_wp2
      go_ret
      exact ⟨rfl, rfl⟩

theorem take_snoc (s : ByteArray) (k : Nat) (h : k < s.size) : s.data.toList.take (k + 1) = s.data.toList.take k ++ [s[k]] := by
  rw [List.take_succ_eq_append_getElem (by simpa using h)]; rfl
theorem u32xor_byte (c : Nat) (b : UInt8) (h : c < 4294967296) : bits .xor .u32 (c : Int) ((b.toNat : Int) % 4294967296) = ((c ^^^ b.toNat : Nat) : Int) := by
  have hb := byte_lt b
  rw [show (b.toNat : Int) % 4294967296 = (b.toNat : Int) by omega]
  exact u32_xor_nat c b.toNat h (by omega)
theorem u32not (c : Nat) (h : c < 4294967296) : bits .xor .u32 IntKind.u32.max (c : Int) = ((4294967295 - c : Nat) : Int) := by
  have e := u32_xor_nat 4294967295 c (by decide) h
  rw [not32 h] at e
  rw [show IntKind.u32.max = ((4294967295 : Nat) : Int) by decide]
  exact e

set_option maxHeartbeats 400000 in
theorem frameSum_any (s : ByteArray) (hs : s.size ≤ maxLen) (w : World) :
    Calls Tryz.prog 114 #[.string s] w fun e w' => e = .returned (.int .u32 ((sumOf s.data.toList : Nat) : Int)) ∧ w' = w := by
  unfold maxLen at hs
  go_enter Tryz.func114, Tryz.ntmps114
  go_wp2
  go_loop [3, 4] (fun c i => ∃ k : Nat, k ≤ s.size ∧ i = .int .i64 k ∧ c = .int .u32 ((crcOf (s.data.toList.take k) : Nat) : Int)) (fun _ i => s.size - (intOf i).toNat)
  case atStart => exact ⟨0, Nat.zero_le _, rfl, rfl⟩
  case round =>
    obtain ⟨k, hk, rfl, rfl⟩ := hrel
    have hd : crcOf (s.data.toList.take k) < 4294967296 := crcOf_lt _
    by_cases hlt : k < s.size
    · have hn : Hid (crcOf (s.data.toList.take (k + 1)) = crcByte (crcOf (s.data.toList.take k)) s[k]) := hide (by rw [take_snoc s k hlt, crcOf_snoc])
      generalize crcOf (s.data.toList.take k) = x at *
      have e1 := u32xor_byte x s[k] hd
      have hx : x ^^^ s[k].toNat < 4294967296 := xor_lt32 hd (by have := byte_lt s[k]; omega)
      go_wp2_with (go_at_call 136; refine (shiftOut_any _ hx _).mono ?_; rintro e w' ⟨rfl, rfl⟩)
      exact ⟨⟨k + 1, by omega, by go_num, by rw [hn.out]; rfl⟩, by simp [intOf]; omega⟩
    · have e1 := u32not _ hd
      have hn : Hid (sumOf s.data.toList = 4294967295 - crcOf (s.data.toList.take k)) := hide (by unfold sumOf; rw [List.take_of_length_le (by simp; omega)])
      generalize crcOf (s.data.toList.take k) = x at *
      go_wp2
      go_ret
      exact ⟨ret_int (by rw [hn.out]), rfl⟩

theorem half_pow (v k : Nat) : v / 2 ^ k / 2 = v / 2 ^ (k + 1) := by rw [Nat.div_div_eq_div_mul, Nat.pow_succ]
set_option maxHeartbeats 400000 in
theorem turned_any (v n : Nat) (hv : v < 4294967296) (hn : n ≤ 32) (w : World) :
    Calls Tryz.prog 112 #[.int .u32 (v : Int), .int .i64 (n : Int)] w fun e w' => e = .returned (.int .u32 ((trn n v : Nat) : Int)) ∧ w' = w := by
  go_enter Tryz.func112, Tryz.ntmps112
  go_wp2
  go_loop [0, 5, 6] (fun s o i => ∃ k : Nat, k ≤ n ∧ i = .int .i64 k ∧ o = .int .u32 ((trn k v : Nat) : Int) ∧ s = .int .u32 ((v / 2 ^ k : Nat) : Int)) (fun _ _ i => n - (intOf i).toNat)
  case atStart => exact ⟨0, Nat.zero_le _, rfl, rfl, by simp⟩
  case round =>
    obtain ⟨k, hk, rfl, rfl, rfl⟩ := hrel
    have hx := trn_lt k v
    have hy : v / 2 ^ k < 4294967296 := Nat.lt_of_le_of_lt (Nat.div_le_self _ _) hv
    by_cases hlt : k < n
    · have hp : 2 ^ k ≤ 2147483648 := by
        have := Nat.pow_le_pow_right (n := 2) (by decide) (show k ≤ 31 by omega)
        omega
      have hn1 : Hid (trn (k + 1) v = trn k v * 2 + v / 2 ^ k % 2) := hide rfl
      have hn2 : Hid (v / 2 ^ (k + 1) = v / 2 ^ k / 2) := hide (half_pow v k).symm
      have hx2 : trn k v < 2147483648 := by omega
      clear hx hp
      generalize trn k v = x at *
      generalize v / 2 ^ k = y at *
      go_wp2
      exact ⟨⟨k + 1, by omega, by go_num, by rw [hn1.out]; go_num, by rw [hn2.out]; go_num⟩, by simp [intOf]; omega⟩
    · have e8 : k = n := by omega
      subst e8
      go_wp2
      go_ret
      exact ⟨rfl, rfl⟩

theorem refBit_one {r : Nat} (h : r / 2147483648 = 1) : refBit r = (r * 2 % 4294967296) ^^^ 79764919 := by simp [refBit, h]
theorem refBit_none {r : Nat} (h : ¬ r / 2147483648 = 1) : refBit r = r * 2 % 4294967296 := by simp [refBit, h]
theorem u32xor_dbl (r : Nat) : bits .xor .u32 ((r : Int) * 2 % 4294967296) 79764919 = (((r * 2 % 4294967296) ^^^ 79764919 : Nat) : Int) := by
  have e := u32_xor_nat (r * 2 % 4294967296) 79764919 (by omega) (by decide)
  simpa using e
theorem u32xor_high (r t : Nat) (h : r < 4294967296) (ht : t * 16777216 < 4294967296) : bits .xor .u32 (r : Int) ((t : Int) * 16777216) = ((r ^^^ (t * 16777216) : Nat) : Int) := by
  have e := u32_xor_nat r (t * 16777216) h ht
  simpa using e

set_option maxHeartbeats 1000000 in
theorem refSum_any (s : ByteArray) (hs : s.size ≤ maxLen) (w : World) :
    Calls Tryz.prog 86 #[.string s] w fun e w' => e = .returned (.int .u32 ((sumOf s.data.toList : Nat) : Int)) ∧ w' = w := by
  unfold maxLen at hs
  go_enter Tryz.func86, Tryz.ntmps86
  go_wp2
  go_loop [3, 4] (fun c i => ∃ k : Nat, k ≤ s.size ∧ i = .int .i64 k ∧ c = .int .u32 ((refOf (s.data.toList.take k) : Nat) : Int)) (fun _ i => s.size - (intOf i).toNat)
  case atStart => exact ⟨0, Nat.zero_le _, rfl, rfl⟩
  case round =>
    obtain ⟨k, hk, rfl, rfl⟩ := hrel
    have hd : refOf (s.data.toList.take k) < 4294967296 := refOf_lt _
    by_cases hlt : k < s.size
    · have hn : Hid (refOf (s.data.toList.take (k + 1)) = refByte (refOf (s.data.toList.take k)) s[k]) := hide (by rw [take_snoc s k hlt, refOf_snoc])
      generalize refOf (s.data.toList.take k) = x at *
      have hb := byte_lt s[k]
      have ht := trn8_mul s[k].toNat
      have e1 := u32xor_high x (trn 8 s[k].toNat) hd ht
      have hx : x ^^^ (trn 8 s[k].toNat * 16777216) < 4294967296 := xor_lt32 hd ht
      have hn2 : Hid (refByte x s[k] = refBits 8 (x ^^^ (trn 8 s[k].toNat * 16777216))) := hide rfl
      go_wp2_with fail
      refine (turned_any s[k].toNat 8 (by omega) (by decide) _).mono ?_
      rintro e w' ⟨rfl, rfl⟩
      go_wp2_with fail
      clear e1 ht
      generalize x ^^^ trn 8 s[k].toNat * 16777216 = z at *
      generalize trn 8 s[k].toNat = t at *
      go_loop [3, 6] (fun c i => ∃ j : Nat, j ≤ 8 ∧ i = .int .i64 j ∧ c = .int .u32 ((refBits j z : Nat) : Int)) (fun _ i => 8 - (intOf i).toNat)
      case atStart => exact ⟨0, by decide, rfl, rfl⟩
      case round =>
        obtain ⟨j, hj, rfl, rfl⟩ := hrel
        have hr : refBits j z < 4294967296 := refBits_lt hx
        by_cases hl : j < 8
        · have hq : Hid (refBits (j + 1) z = refBit (refBits j z)) := hide rfl
          generalize refBits j z = r at *
          by_cases hp : r / 2147483648 = 1
          · have e1 := u32xor_dbl r
            have e3 : ((r : Int) / 2147483648 == 1) = true := by simp; omega
            have hq2 : Hid (refBit r = (r * 2 % 4294967296) ^^^ 79764919) := hide (refBit_one hp)
            clear hp
            go_wp2
            exact ⟨⟨j + 1, by omega, by go_num, by rw [hq.out, hq2.out]⟩, by simp [intOf]; omega⟩
          · have e3 : ((r : Int) / 2147483648 == 1) = false := by simp; omega
            have hq2 : Hid (refBit r = r * 2 % 4294967296) := hide (refBit_none hp)
            clear hp
            go_wp2
            exact ⟨⟨j + 1, by omega, by go_num, by rw [hq.out, hq2.out]; go_num⟩, by simp [intOf]; omega⟩
        · have e8 : j = 8 := by omega
          subst e8
          go_wp2
          exact ⟨⟨k + 1, by omega, by go_num, by rw [hn.out, hn2.out]⟩, by simp [intOf]; omega⟩
    · have hn : Hid (4294967295 - trn 32 (refOf (s.data.toList.take k)) = sumOf s.data.toList) := hide (by rw [List.take_of_length_le (by simp; omega)]; exact refOf_sum _)
      generalize refOf (s.data.toList.take k) = x at *
      have ht := trn32_lt x
      go_wp2_with fail
      refine (turned_any x 32 (by omega) (by decide) _).mono ?_
      rintro e w' ⟨rfl, rfl⟩
      generalize trn 32 x = y at *
      go_wp2
      go_ret
      exact ⟨ret_int (by rw [← hn.out]; omega), rfl⟩
end Go.Proofs.YtjkhbjgfoopomaaGreat
/-
  Strings as lists of bytes; numbers as bytes, the high one first.
-/
namespace Go.Proofs.YtjkhbjgfoopomaaGreat
open Go.RowKit

/-- the string of a list of bytes -/
def bs (l : List UInt8) : ByteArray := ⟨l.toArray⟩
theorem bs_data (l : List UInt8) : (bs l).data.toList = l := by simp [bs]
theorem bs_toList (l : List UInt8) : (bs l).toList = l := by rw [ByteArray.toList_eq, bs_data]
theorem bs_size (l : List UInt8) : (bs l).size = l.length := by simp [bs, ByteArray.size]
theorem bs_append (x y : List UInt8) : bs x ++ bs y = bs (x ++ y) := ByteArray.mk_append_mk x y
theorem bs_of (s : ByteArray) : bs s.data.toList = s := by
  cases s with
  | mk d => simp [bs]
/-- a number as n bytes, the high one first -/
def be : Nat → Nat → List UInt8
  | 0, _ => []
  | n + 1, v => UInt8.ofNat (v / 256 ^ n % 256) :: be n v
theorem be_length (n v : Nat) : (be n v).length = n := by
  induction n with
  | zero => rfl
  | succ n ih => simp [be, ih]
theorem strOfNums_bs (xs : List Int) : strOfNums xs = bs (xs.map fun n => UInt8.ofNat n.toNat) := rfl

theorem cellAt {w : World} {cs : Array Value} {t : TypeId} {i : Nat} (v : Value) (h : cs[i]? = some v) : (w.alloc (.cells cs t)).cell? ⟨w.heap.size, 0 + i, none⟩ = some v := by
  rw [Nat.zero_add, World.cell?_alloc_new]; exact h
theorem conv1 (w : World) (a : Int) : (convert 131 9 (.slice (some ⟨w.heap.size, 0, none⟩) 1 1)).run Tryz.prog (w.alloc (.cells #[.int .u8 a] 5)) =
    .ok (.string (bs [UInt8.ofNat a.toNat])) (w.alloc (.cells #[.int .u8 a] 5)) :=
  run_convert_bytes_arg _ 131 5 Tryz.underlying131 Tryz.underlying5 _ 0 1 1 [a] rfl (fun i hi => by
    match i, hi with
    | 0, _ => exact cellAt _ rfl) _ Tryz.underlying9
theorem conv2 (w : World) (a b : Int) : (convert 131 9 (.slice (some ⟨w.heap.size, 0, none⟩) 2 2)).run Tryz.prog (w.alloc (.cells #[.int .u8 a, .int .u8 b] 5)) =
    .ok (.string (bs [UInt8.ofNat a.toNat, UInt8.ofNat b.toNat])) (w.alloc (.cells #[.int .u8 a, .int .u8 b] 5)) :=
  run_convert_bytes_arg _ 131 5 Tryz.underlying131 Tryz.underlying5 _ 0 2 2 [a, b] rfl (fun i hi => by
    match i, hi with
    | 0, _ => exact cellAt _ rfl
    | 1, _ => exact cellAt _ rfl) _ Tryz.underlying9
theorem conv4 (w : World) (a b c d : Int) : (convert 131 9 (.slice (some ⟨w.heap.size, 0, none⟩) 4 4)).run Tryz.prog (w.alloc (.cells #[.int .u8 a, .int .u8 b, .int .u8 c, .int .u8 d] 5)) =
    .ok (.string (bs [UInt8.ofNat a.toNat, UInt8.ofNat b.toNat, UInt8.ofNat c.toNat, UInt8.ofNat d.toNat])) (w.alloc (.cells #[.int .u8 a, .int .u8 b, .int .u8 c, .int .u8 d] 5)) :=
  run_convert_bytes_arg _ 131 5 Tryz.underlying131 Tryz.underlying5 _ 0 4 4 [a, b, c, d] rfl (fun i hi => by
    match i, hi with
    | 0, _ => exact cellAt _ rfl
    | 1, _ => exact cellAt _ rfl
    | 2, _ => exact cellAt _ rfl
    | 3, _ => exact cellAt _ rfl) _ Tryz.underlying9
attribute [local go_sem] conv1 conv2 conv4

theorem ret_str {a b : List UInt8} (h : a = b) : Ending.returned (.string (bs a)) = .returned (.string (bs b)) := by rw [h]
theorem be4 (n : Nat) (hn : n < 4294967296) : [UInt8.ofNat ((n : Int) / 16777216).toNat, UInt8.ofNat ((n : Int) / 65536 % 256).toNat, UInt8.ofNat ((n : Int) / 256 % 256).toNat, UInt8.ofNat ((n : Int) % 256).toNat] = be 4 n := by
  have e1 : ((n : Int) / 16777216).toNat = n / 256 ^ 3 % 256 := by omega
  have e2 : ((n : Int) / 65536 % 256).toNat = n / 256 ^ 2 % 256 := by omega
  have e3 : ((n : Int) / 256 % 256).toNat = n / 256 ^ 1 % 256 := by omega
  have e4 : ((n : Int) % 256).toNat = n / 256 ^ 0 % 256 := by omega
  rw [e1, e2, e3, e4]
  rfl
theorem be2 (n : Nat) (hn : n < 65536) : [UInt8.ofNat ((n : Int) / 256).toNat, UInt8.ofNat ((n : Int) % 256).toNat] = be 2 n := by
  have e3 : ((n : Int) / 256).toNat = n / 256 ^ 1 % 256 := by omega
  have e4 : ((n : Int) % 256).toNat = n / 256 ^ 0 % 256 := by omega
  rw [e3, e4]
  rfl
theorem be1 (n : Nat) (hn : n < 256) : [UInt8.ofNat n] = be 1 n := by
  have e4 : n = n / 256 ^ 0 % 256 := by omega
  show _ = [UInt8.ofNat (n / 256 ^ 0 % 256)]
  rw [← e4]

set_option maxHeartbeats 400000 in
theorem four_any (n : Nat) (hn : n < 4294967296) (w : World) :
    Calls Tryz.prog 117 #[.int .u32 (n : Int)] w fun e w' => e = .returned (.string (bs (be 4 n))) ∧ Below w.heap.size w w' := by
  go_enter Tryz.func117, Tryz.ntmps117
  go_wp2
  go_ret
  exact ⟨ret_str (be4 n hn), (Below.refl _ _).alloc (Nat.le_refl _) _⟩
set_option maxHeartbeats 400000 in
theorem two_any (n : Nat) (hn : n < 65536) (w : World) :
    Calls Tryz.prog 116 #[.int .u16 (n : Int)] w fun e w' => e = .returned (.string (bs (be 2 n))) ∧ Below w.heap.size w w' := by
  go_enter Tryz.func116, Tryz.ntmps116
  go_wp2
  go_ret
  exact ⟨ret_str (be2 n hn), (Below.refl _ _).alloc (Nat.le_refl _) _⟩
end Go.Proofs.YtjkhbjgfoopomaaGreat
/-
  What every law's row wants of the program.
-/
namespace Go.Proofs.YtjkhbjgfoopomaaGreat
theorem own : ownKnob Tryz.prog.godebug = none := by kernel_rfl
theorem laidOut : laidOutB Tryz.prog = true := by kernel_rfl
end Go.Proofs.YtjkhbjgfoopomaaGreat
/-
  The statements' num.
-/
namespace Go.Proofs.YtjkhbjgfoopomaaGreat
open Go.RowKit
set_option linter.unusedVariables false
theorem num_any (n : Int) (w : World) : Calls Tryz.prog 18 #[.int .i64 n] w fun e w' => e = .returned (.int .i64 n) ∧ w' = w := by
  go_enter Tryz.func18, Tryz.ntmps18
  go_wp2
  go_ret
  exact ⟨rfl, rfl⟩
end Go.Proofs.YtjkhbjgfoopomaaGreat
/-
  append of one struct to a row of structs, as one step of the walk.
-/
namespace Go.Proofs.YtjkhbjgfoopomaaGreat
open Go.RowKit
set_option linter.unusedVariables false
theorem wpList_row {P : Program} {ops : Array Oper} {rest : List Oper} {o : Oper} {a : Act} {Q : Exit → Act → World → Prop} {α : Type} {f : α → List Value} {sz : Nat} (hf : ∀ x, (f x).length = sz) (w : World) (hgd : o.guard = none) (s x : Operand) (t : TypeId)
    (ho : o.op = .call { callee := .builtin .append, args := #[s, x], argTypes := #[t, t] }) (e : TypeId) (i : TypeInfo) (z : Value) (bytes : Nat) (ht : P.underlying t = some (.slice e)) (hi : P.info? e = some i) (hz : i.zero = some z)
    (hsize : i.size = sz) (hby : i.bytes = bytes) (hzs : z.cells.size = sz) (hsz : 0 < sz) (v : Value) (xs : List α) (hs : a.eval s = v) (hrow : RowOf w e sz f v xs) (c : Nat) (y : α) (hx : a.eval x = .slice (some ⟨w.heap.size, 0, none⟩) 1 c)
    (h1 : ∀ u ∈ f y, u.oneCell' = true) (h63 : xs.length + 1 ≤ maxLen) (hbytes : (xs.length + 1) * bytes ≤ 140737488355328)
    (h : ∀ g cap w', RowOf w' e sz f (.slice (some ⟨g, 0, none⟩) (xs.length + 1) cap) (xs ++ [y]) → Kept (fun k => v.ownBlock = some k) w w' → (v.ownBlock = some g ∨ w.heap.size ≤ g) → g < w'.heap.size → wpList P ops Q rest (a.put o.dst (.slice (some ⟨g, 0, none⟩) (xs.length + 1) cap)) w') :
    ∀ W, W = w.alloc (.cells (f y).toArray e) → wpList P ops Q (o :: rest) a W := by
  rintro W rfl
  have hrow' : RowOf (w.alloc (.cells (f y).toArray e)) e sz f v xs := hrow.below ((Below.refl _ _).alloc (Nat.le_refl _) _)
  refine wpList_append_lies _ hgd s x t ho 0 e i z sz bytes ht hi hz hsize hby hzs hsz v xs.length (xs.flatMap f) hs hrow' ⟨w.heap.size, 0, none⟩ 1 c (f y) hx (by rw [hf]; omega) ?_ h1 (by decide) h63 hbytes (Nat.zero_le _) _ rfl ?_
  · intro j u hu
    exact World.news_of_block (heap_alloc_self w (.cells (f y).toArray e)) j u hu
  · intro g cap w' hown hgrow hat hlt
    refine h g cap w' (RowOf.to (xs := xs) hf hown (by simp) (by simp)) ?_ ?_ hlt
    · exact (Kept.of_alloc w _).trans (Kept.of_grown hgrow) (fun k hk => .inl hk)
    · rcases hat with h' | h'
      · exact .inl h'
      · right
        rw [h']
        simp
end Go.Proofs.YtjkhbjgfoopomaaGreat
