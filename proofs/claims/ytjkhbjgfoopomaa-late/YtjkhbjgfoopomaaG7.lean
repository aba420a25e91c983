import Derived.Test.YtjkhbjgfoopomaaG4
import Derived.Test.YtjkhbjgfoopomaaG6
import Derived.Deep.RegionWith
import Derived.Test.YtjkhbjgfoopomaaG1
import Derived.Test.YtjkhbjgfoopomaaG2
import Derived.WalkKit
import Derived.BigQuiet
import Derived.Deep.RegionHeld3
import Derived.Test.YtjkhbjgfoopomaaG3
/-
  The document's Reminds.
-/
namespace Go.Proofs.Ytjkhbjgfoopomaa
open Go.RowKit
set_option linter.unusedVariables false
set_option linter.unusedSimpArgs false
/-- P11: what is said again of a payment -/
def remindsOf (p : Pm) (acts : List Dt) : List (List UInt8) := if (stOf p acts).1 = 1 then asksOf p 1 (stOf p acts).2.1 else asksOf p (askKind (stOf p acts).1) (stOf p acts).2.2.1
end Go.Proofs.Ytjkhbjgfoopomaa
/-
  The document's Bank.Open.
-/
namespace Go.Proofs.Ytjkhbjgfoopomaa
open Go.RowKit
set_option linter.unusedVariables false
set_option linter.unusedSimpArgs false

def openEv (a b : Nat) : Ev := ⟨0, ⟨0, 0, 0, 0, 0, a, 0, b, []⟩, false⟩
def openErr (a : Nat) (evs : List Ev) : Nat := if (openedOf a evs).2.1 then 9 else if 16 ≤ (openedOf a evs).2.2 then 10 else 0
def openEvs (a b : Nat) (evs : List Ev) : List Ev := if openErr a evs = 0 then evs ++ [openEv a b] else evs

end Go.Proofs.Ytjkhbjgfoopomaa
/-
  The document's Bank.first and Bank.kept.
-/
namespace Go.Proofs.Ytjkhbjgfoopomaa
open Go.RowKit
set_option linter.unusedVariables false
theorem _root_.Go.RowKit.Below.drewN {B : Nat} {a w : World} (h : Below B a w) (n : Nat) : Below B a (w.drewN n) := ⟨h.os, h.tape, h.output, h.size, h.block⟩

end Go.Proofs.Ytjkhbjgfoopomaa
/-
  The document's Bank.can.
-/
namespace Go.Proofs.Ytjkhbjgfoopomaa
open Go.RowKit
set_option linter.unusedVariables false
set_option linter.unusedSimpArgs false

def balOf (a : Nat) (evs : List Ev) : Nat := (openedOf a evs).1 + inOf a evs (keysOf evs) - outOf a evs (keysOf evs)
def heldOf (a : Nat) (evs : List Ev) : Nat := staysOf a evs (keysOf evs)
def dueOf (a : Nat) (evs : List Ev) : Nat := comesOf a evs (keysOf evs)
def canB (x : Msg) (evs : List Ev) : Bool := (openedOf x.p evs).2.1 && ((openedOf x.g evs).2.1 && (decide (heldOf x.p evs + x.a ≤ balOf x.p evs) && decide (balOf x.g evs + dueOf x.g evs + x.a ≤ 4294967295)))
end Go.Proofs.Ytjkhbjgfoopomaa
/-
  Plain: what a frame says.
-/
namespace Go.Proofs.Ytjkhbjgfoopomaa

/-- the number that bytes say, the high one first -/
def val (l : List UInt8) : Nat := l.foldl (fun v b => v * 256 + b.toNat) 0
theorem val_snoc (l : List UInt8) (b : UInt8) : val (l ++ [b]) = val l * 256 + b.toNat := by simp [val, List.foldl_append]
theorem val_from (l : List UInt8) : ∀ (v k : Nat), v < 256 ^ k → l.foldl (fun v b => v * 256 + b.toNat) v < 256 ^ (k + l.length) := by
  induction l with
  | nil => intro v k h; exact h
  | cons b l ih =>
    intro v k h
    have hb := b.toNat_lt
    have := ih (v * 256 + b.toNat) (k + 1) (by rw [Nat.pow_succ]; omega)
    simp only [List.foldl_cons, List.length_cons]
    rwa [show k + (l.length + 1) = k + 1 + l.length by omega]
theorem val_lt (l : List UInt8) : val l < 256 ^ l.length := by
  have := val_from l 0 0 (by decide)
  rwa [Nat.zero_add] at this
theorem val_lt4 {l : List UInt8} (h : l.length ≤ 4) : val l < 4294967296 := by
  have h1 := val_lt l
  have h2 : 256 ^ l.length ≤ 256 ^ 4 := Nat.pow_le_pow_right (by decide) h
  omega
theorem val_lt2 {l : List UInt8} (h : l.length ≤ 2) : val l < 65536 := by
  have h1 := val_lt l
  have h2 : 256 ^ l.length ≤ 256 ^ 2 := Nat.pow_le_pow_right (by decide) h
  omega
/-- the byte at a place -/
def at8 (l : List UInt8) (i : Nat) : Nat := (l.getD i 0).toNat
theorem at8_lt (l : List UInt8) (i : Nat) : at8 l i < 256 := (l.getD i 0).toNat_lt
/-- from one place to another -/
def cut (l : List UInt8) (a b : Nat) : List UInt8 := (l.drop a).take (b - a)
theorem cut_length {l : List UInt8} {a b : Nat} (h : b ≤ l.length) : (cut l a b).length = b - a := by
  simp [cut]; omega
/-- what a text says, if it is a frame -/
def sayOf (l : List UInt8) : Msg := ⟨at8 l 1, at8 l 2, at8 l 3, val (cut l 4 8), at8 l 8, val (cut l 9 11), val (cut l 11 13), val (cut l 13 17), cut l 18 (l.length - 4)⟩
def formB (l : List UInt8) : Bool := decide (22 ≤ l.length) && decide (at8 l 0 = 69) && decide (l.length = 22 + at8 l 17)
def sealB (l : List UInt8) : Bool := decide (val (cut l (l.length - 4) l.length) = sumOf (cut l 0 (l.length - 4)))
/-- P5: the error of a text -/
def decErr (l : List UInt8) : Nat := if !formB l then 1 else if !sealB l then 2 else faultOf (sayOf l)
def Msg.zero : Msg := ⟨0, 0, 0, 0, 0, 0, 0, 0, []⟩
/-- P5: Decode -/
def decMsg (l : List UInt8) : Msg := if decErr l = 0 then sayOf l else Msg.zero
theorem sayOf_ok {l : List UInt8} (h : 22 ≤ l.length) : (sayOf l).ok :=
  ⟨at8_lt _ _, at8_lt _ _, at8_lt _ _, val_lt4 (by rw [cut_length (by omega)]; decide), at8_lt _ _, val_lt2 (by rw [cut_length (by omega)]; decide), val_lt2 (by rw [cut_length (by omega)]; decide), val_lt4 (by rw [cut_length (by omega)]; decide)⟩
theorem zero_ok : Msg.zero.ok := ⟨by decide, by decide, by decide, by decide, by decide, by decide, by decide, by decide⟩
end Go.Proofs.Ytjkhbjgfoopomaa
/-
  The walks over numbers in bytes.
-/
namespace Go.Proofs.Ytjkhbjgfoopomaa
open Go.RowKit
set_option linter.unusedVariables false

theorem u64_or_low (x : Nat) (b : UInt8) (hx : x < 72057594037927936) : bits .or .u64 ((x : Int) * 256) (b.toNat : Int) = ((x * 256 + b.toNat : Nat) : Int) := by
  have hb := byte_lt b
  rw [show (x : Int) * 256 = ((x * 256 : Nat) : Int) by omega, u64_or_nat _ _ (by omega) (by omega)]
  congr 1
  have := Nat.two_pow_add_eq_or_of_lt (i := 8) (b := b.toNat) (by omega) x
  rw [show x * 256 = 2 ^ 8 * x by omega, this]
theorem val_lt7 {l : List UInt8} (h : l.length ≤ 7) : val l < 72057594037927936 := by
  have h1 := val_lt l
  have h2 : 256 ^ l.length ≤ 256 ^ 7 := Nat.pow_le_pow_right (by decide) h
  omega
set_option maxRecDepth 100000 in
set_option maxHeartbeats 400000 in
theorem number_any (s : ByteArray) (hs : s.size ≤ 8) (w : World) :
    Calls Try.prog 68 #[.string s] w fun e w' => e = .returned (.int .u64 ((val s.data.toList : Nat) : Int)) ∧ w' = w := by
  go_enter Try.func68, Try.ntmps68
  go_wp2
  go_loop [3, 4] (fun c i => ∃ k : Nat, k ≤ s.size ∧ i = .int .i64 k ∧ c = .int .u64 ((val (s.data.toList.take k) : Nat) : Int)) (fun _ i => s.size - (intOf i).toNat)
  case atStart => exact ⟨0, Nat.zero_le _, rfl, rfl⟩
  case round =>
    obtain ⟨k, hk, rfl, rfl⟩ := hrel
    by_cases hlt : k < s.size
    · have hd : val (s.data.toList.take k) < 72057594037927936 := val_lt7 (by simp; omega)
      have hn : Hid (val (s.data.toList.take (k + 1)) = val (s.data.toList.take k) * 256 + s[k].toNat) := hide (by rw [take_snoc s k hlt, val_snoc])
      generalize val (s.data.toList.take k) = x at *
      have hb := byte_lt s[k]
      have e1 := u64_or_low x s[k] hd
      go_wp2
      exact ⟨⟨k + 1, by omega, by go_num, by rw [hn.out]; go_num⟩, by simp [intOf]; omega⟩
    · have hn : Hid (s.data.toList.take k = s.data.toList) := hide (List.take_of_length_le (by simp; omega))
      go_wp2
      go_ret
      exact ⟨ret_int (by rw [hn.out]), rfl⟩
end Go.Proofs.Ytjkhbjgfoopomaa
/-
  The walk over Decode, the code's.
-/
namespace Go.Proofs.Ytjkhbjgfoopomaa
open Go.RowKit
set_option linter.unusedVariables false

theorem at8_of (s : ByteArray) (k : Nat) (h : k < s.size) : at8 s.data.toList k = s[k].toNat := by
  unfold at8
  rw [List.getD_eq_getElem?_getD, get_q s k h]
  rfl
theorem cut_of (s : ByteArray) (a b : Nat) : (s.extract a b).data.toList = cut s.data.toList a b := Lib.extract_data s a b

theorem zero_v : Msg.zero.v = .agg #[.int .u8 0, .int .u8 0, .int .u8 0, .int .u32 0, .int .u8 0, .int .u16 0, .int .u16 0, .int .u32 0, .string ⟨#[]⟩] := rfl
set_option maxRecDepth 100000 in
set_option maxHeartbeats 400000 in
theorem size_at (s : ByteArray) (hs : s.size ≤ maxLen) (p17 : 17 < s.size) (w : World) :
    Calls Try.prog 67 #[.string s] w fun e w' => e = .returned (.int .i64 (22 + ((s[17]'p17).toNat : Int))) ∧ w' = w := by
  have d0 : decide ((s.size : Int) ≤ 17) = false := by simp; omega
  have i17 : (17 : Int) < (s.size : Int) := by omega
  have hb := byte_lt (s[17]'p17)
  go_enter Try.func67, Try.ntmps67
  go_wp2
  go_ret
  exact ⟨rfl, rfl⟩
set_option maxRecDepth 100000 in
set_option maxHeartbeats 400000 in
theorem decode_short (s : ByteArray) (h : s.size < 22) (w : World) :
    Calls Try.prog 46 #[.string s] w fun e w' => e = .returned (.tuple #[Msg.zero.v, .int .i64 1]) ∧ Below w.heap.size w w' := by
  rw [zero_v]
  go_enter Try.func46, Try.ntmps46
  go_wp2
  exact bodyPost_ret (v := .tuple #[.agg #[.int .u8 0, .int .u8 0, .int .u8 0, .int .u32 0, .int .u8 0, .int .u16 0, .int .u16 0, .int .u32 0, .string ⟨#[]⟩], .int .i64 1]) (by simp [results, Try.results46, go_sem]) rfl ⟨rfl, (Below.refl _ _).alloc (Nat.le_refl _) _⟩
set_option maxRecDepth 100000 in
set_option maxHeartbeats 400000 in
theorem decode_first (s : ByteArray) (hs : s.size ≤ maxLen) (h : 22 ≤ s.size) (h0 : ¬ s[0].toNat = 69) (w : World) :
    Calls Try.prog 46 #[.string s] w fun e w' => e = .returned (.tuple #[Msg.zero.v, .int .i64 1]) ∧ Below w.heap.size w w' := by
  rw [zero_v]
  have d0 : decide ((s.size : Int) < 22) = false := by simp; omega
  have d1 : ((s[0].toNat : Int) != 69) = true := by simp; omega
  have p0 : 0 < s.size := by omega
  go_enter Try.func46, Try.ntmps46
  go_wp2
  exact bodyPost_ret (v := .tuple #[.agg #[.int .u8 0, .int .u8 0, .int .u8 0, .int .u32 0, .int .u8 0, .int .u16 0, .int .u16 0, .int .u32 0, .string ⟨#[]⟩], .int .i64 1]) (by simp [results, Try.results46, go_sem]) rfl ⟨rfl, (Below.refl _ _).alloc (Nat.le_refl _) _⟩
set_option maxRecDepth 100000 in
set_option maxHeartbeats 400000 in
theorem decode_len (s : ByteArray) (hs : s.size ≤ maxLen) (h : 22 ≤ s.size) (h0 : s[0].toNat = 69) (h17 : ¬ s.size = 22 + s[17].toNat) (w : World) :
    Calls Try.prog 46 #[.string s] w fun e w' => e = .returned (.tuple #[Msg.zero.v, .int .i64 1]) ∧ Below w.heap.size w w' := by
  rw [zero_v]
  have d0 : decide ((s.size : Int) < 22) = false := by simp; omega
  have d1 : ((s[0].toNat : Int) != 69) = false := by simp; omega
  have p0 : 0 < s.size := by omega
  have p17 : 17 < s.size := by omega
  have hb := byte_lt s[17]
  have d2 : ((s.size : Int) != 22 + (s[17].toNat : Int)) = true := by simp; omega
  clear h0
  go_enter Try.func46, Try.ntmps46
  go_wp2_with fail
  refine (size_at s hs p17 _).mono ?_
  rintro e w1 ⟨rfl, rfl⟩
  go_wp2
  exact bodyPost_ret (v := .tuple #[.agg #[.int .u8 0, .int .u8 0, .int .u8 0, .int .u32 0, .int .u8 0, .int .u16 0, .int .u16 0, .int .u32 0, .string ⟨#[]⟩], .int .i64 1]) (by simp [results, Try.results46, go_sem]) rfl ⟨rfl, (Below.refl _ _).alloc (Nat.le_refl _) _⟩
theorem ext_size (s : ByteArray) (a b : Nat) (h : b ≤ s.size) : (s.extract a b).size = b - a := by
  rw [← list_len, cut_of, cut_length (by rw [list_len]; exact h)]
set_option maxRecDepth 100000 in
set_option maxHeartbeats 400000 in
theorem decode_sum (s : ByteArray) (h : 22 ≤ s.size) (p0 : 0 < s.size) (p17 : 17 < s.size) (h0 : (s[0]'p0).toNat = 69) (h17 : s.size = 22 + (s[17]'p17).toNat) (hsum : ¬ val (cut s.data.toList (s.size - 4) s.size) = sumOf (cut s.data.toList 0 (s.size - 4))) (w : World) :
    Calls Try.prog 46 #[.string s] w fun e w' => e = .returned (.tuple #[Msg.zero.v, .int .i64 2]) ∧ Below w.heap.size w w' := by
  rw [zero_v]
  have hb := byte_lt (s[17]'p17)
  have d0 : decide ((s.size : Int) < 22) = false := by simp; omega
  have d1 : (((s[0]'p0).toNat : Int) != 69) = false := by simp; omega
  have hsz : s.size ≤ 277 := by omega
  have d2 : ((s.size : Int) != (22 : Int) + ((s[17]'p17).toNat : Int)) = false := by simp; omega
  have z1 := ext_size s 0 (s.size - 4) (by omega)
  have z2 := ext_size s (s.size - 4) s.size (by omega)
  have c1 := hide (cut_of s 0 (s.size - 4))
  have c2 := hide (cut_of s (s.size - 4) s.size)
  have Z1 : (s.extract 0 (s.size - 4)).size ≤ maxLen := by rw [z1]; unfold maxLen; omega
  have Z2 : (s.extract (s.size - 4) s.size).size ≤ 8 := by rw [z2]; omega
  have d3 : ((val (cut s.data.toList (s.size - 4) s.size) : Int) != (sumOf (cut s.data.toList 0 (s.size - 4)) : Int)) = true := by simpa using fun e => hsum (by omega)
  clear h0 h17 hsum z1 z2
  go_enter Try.func46, Try.ntmps46
  go_wp2_with fail
  refine (size_at s (by unfold maxLen; omega) p17 _).mono ?_
  rintro e w1 ⟨rfl, rfl⟩
  go_wp2_with fail
  refine (frameSum_any _ Z1 _).mono ?_
  rintro e w1 ⟨rfl, rfl⟩
  rw [c1.out]
  go_wp2_with fail
  refine (number_any _ Z2 _).mono ?_
  rintro e w1 ⟨rfl, rfl⟩
  rw [c2.out]
  have y32 := sumOf_lt (cut s.data.toList 0 (s.size - 4))
  generalize val (cut s.data.toList (s.size - 4) s.size) = x at *
  generalize sumOf (cut s.data.toList 0 (s.size - 4)) = y at *
  have wy : IntKind.u64.wrap (y : Int) = (y : Int) := by rw [IntKind.wrap_u64]; omega
  go_wp2
  exact bodyPost_ret (v := .tuple #[.agg #[.int .u8 0, .int .u8 0, .int .u8 0, .int .u32 0, .int .u8 0, .int .u16 0, .int .u16 0, .int .u32 0, .string ⟨#[]⟩], .int .i64 2]) (by simp [results, Try.results46, go_sem]) rfl ⟨rfl, (Below.refl _ _).alloc (Nat.le_refl _) _⟩
end Go.Proofs.Ytjkhbjgfoopomaa
