import Derived.Test.YtjkhbjgfoopomabC4
import Derived.Test.YtjkhbjgfoopomabC6
import Derived.Deep.RegionWith
import Derived.Test.YtjkhbjgfoopomabC1
import Derived.Test.YtjkhbjgfoopomabC2
import Derived.WalkKit
import Derived.BigQuiet
import Derived.Deep.RegionHeld3
import Derived.Test.YtjkhbjgfoopomabC3
/-
  The document's Reminds.
-/
namespace Go.Proofs.Ytjkhbjgfoopomab
open Go.RowKit
set_option linter.unusedVariables false
set_option linter.unusedSimpArgs false
/-- P11: what is said again of a payment -/
def remindsOf (p : Pm) (acts : List Dt) : List (List UInt8) := if (stOf p acts).1 = 1 then asksOf p 1 (stOf p acts).2.1 else asksOf p (askKind (stOf p acts).1) (stOf p acts).2.2.1
end Go.Proofs.Ytjkhbjgfoopomab
/-
  The document's Bank.Open.
-/
namespace Go.Proofs.Ytjkhbjgfoopomab
open Go.RowKit
set_option linter.unusedVariables false
set_option linter.unusedSimpArgs false

def openEv (a b : Nat) : Ev := ⟨0, ⟨0, 0, 0, 0, 0, a, 0, b, []⟩, false⟩
def openErr (a : Nat) (evs : List Ev) : Nat := if (openedOf a evs).2.1 then 9 else if 16 ≤ (openedOf a evs).2.2 then 10 else 0
def openEvs (a b : Nat) (evs : List Ev) : List Ev := if openErr a evs = 0 then evs ++ [openEv a b] else evs

end Go.Proofs.Ytjkhbjgfoopomab
/-
  The document's Bank.first and Bank.kept.
-/
namespace Go.Proofs.Ytjkhbjgfoopomab
open Go.RowKit
set_option linter.unusedVariables false
theorem _root_.Go.RowKit.Below.drewN {B : Nat} {a w : World} (h : Below B a w) (n : Nat) : Below B a (w.drewN n) := ⟨h.os, h.tape, h.output, h.size, h.block⟩

end Go.Proofs.Ytjkhbjgfoopomab
/-
  The document's Bank.can.
-/
namespace Go.Proofs.Ytjkhbjgfoopomab
open Go.RowKit
set_option linter.unusedVariables false
set_option linter.unusedSimpArgs false

def balOf (a : Nat) (evs : List Ev) : Nat := (openedOf a evs).1 + inOf a evs (keysOf evs) - outOf a evs (keysOf evs)
def heldOf (a : Nat) (evs : List Ev) : Nat := staysOf a evs (keysOf evs)
def dueOf (a : Nat) (evs : List Ev) : Nat := comesOf a evs (keysOf evs)
def canB (x : Msg) (evs : List Ev) : Bool := (openedOf x.p evs).2.1 && ((openedOf x.g evs).2.1 && (decide (heldOf x.p evs + x.a ≤ balOf x.p evs) && decide (balOf x.g evs + dueOf x.g evs + x.a ≤ 4294967295)))
end Go.Proofs.Ytjkhbjgfoopomab
/-
  Plain: what a frame says.
-/
namespace Go.Proofs.Ytjkhbjgfoopomab

/-- the number that bytes say, the high one first -/
def val (l : List UInt8) : Nat := l.foldl (fun v b => v * 256 + b.toNat) 0
theorem val_snoc (l : List UInt8) (b : UInt8) : val (l ++ [b]) = val l * 256 + b.toNat := by simp [val, List.foldl_append]
theorem val_from (l : List UInt8) : ∀ (v k : Nat), v < 256 ^ k → l.foldl (fun v b => v * 256 + b.toNat) v < 256 ^ (k + l.length) := by
  induction l with
  | nil => intro v k h; exact h
  | cons b l ih =>
    intro v k h
    have hb := b.toNat_lt
    have := ih (v * 256 + b.toNat) (k + 1) (by rw [Nat.pow_succ]; omega)
    simp only [List.foldl_cons, List.length_cons]
    rwa [show k + (l.length + 1) = k + 1 + l.length by omega]
theorem val_lt (l : List UInt8) : val l < 256 ^ l.length := by
  have := val_from l 0 0 (by decide)
  rwa [Nat.zero_add] at this
theorem val_lt4 {l : List UInt8} (h : l.length ≤ 4) : val l < 4294967296 := by
  have h1 := val_lt l
  have h2 : 256 ^ l.length ≤ 256 ^ 4 := Nat.pow_le_pow_right (by decide) h
  omega
theorem val_lt2 {l : List UInt8} (h : l.length ≤ 2) : val l < 65536 := by
  have h1 := val_lt l
  have h2 : 256 ^ l.length ≤ 256 ^ 2 := Nat.pow_le_pow_right (by decide) h
  omega
/-- the byte at a place -/
def at8 (l : List UInt8) (i : Nat) : Nat := (l.getD i 0).toNat
theorem at8_lt (l : List UInt8) (i : Nat) : at8 l i < 256 := (l.getD i 0).toNat_lt
/-- from one place to another -/
def cut (l : List UInt8) (a b : Nat) : List UInt8 := (l.drop a).take (b - a)
theorem cut_length {l : List UInt8} {a b : Nat} (h : b ≤ l.length) : (cut l a b).length = b - a := by
  simp [cut]; omega
/-- what a text says, if it is a frame -/
def sayOf (l : List UInt8) : Msg := ⟨at8 l 1, at8 l 2, at8 l 3, val (cut l 4 8), at8 l 8, val (cut l 9 11), val (cut l 11 13), val (cut l 13 17), cut l 18 (l.length - 4)⟩
def formB (l : List UInt8) : Bool := decide (22 ≤ l.length) && decide (at8 l 0 = 69) && decide (l.length = 22 + at8 l 17)
def sealB (l : List UInt8) : Bool := decide (val (cut l (l.length - 4) l.length) = sumOf (cut l 0 (l.length - 4)))
/-- P5: the error of a text -/
def decErr (l : List UInt8) : Nat := if !formB l then 1 else if !sealB l then 2 else faultOf (sayOf l)
def Msg.zero : Msg := ⟨0, 0, 0, 0, 0, 0, 0, 0, []⟩
/-- P5: Decode -/
def decMsg (l : List UInt8) : Msg := if decErr l = 0 then sayOf l else Msg.zero
theorem sayOf_ok {l : List UInt8} (h : 22 ≤ l.length) : (sayOf l).ok :=
  ⟨at8_lt _ _, at8_lt _ _, at8_lt _ _, val_lt4 (by rw [cut_length (by omega)]; decide), at8_lt _ _, val_lt2 (by rw [cut_length (by omega)]; decide), val_lt2 (by rw [cut_length (by omega)]; decide), val_lt4 (by rw [cut_length (by omega)]; decide)⟩
theorem zero_ok : Msg.zero.ok := ⟨by decide, by decide, by decide, by decide, by decide, by decide, by decide, by decide⟩
end Go.Proofs.Ytjkhbjgfoopomab
/-
  The walks over numbers in bytes.
-/
namespace Go.Proofs.Ytjkhbjgfoopomab
open Go.RowKit
set_option linter.unusedVariables false

theorem u64_or_low (x : Nat) (b : UInt8) (hx : x < 72057594037927936) : bits .or .u64 ((x : Int) * 256) (b.toNat : Int) = ((x * 256 + b.toNat : Nat) : Int) := by
  have hb := byte_lt b
  rw [show (x : Int) * 256 = ((x * 256 : Nat) : Int) by omega, u64_or_nat _ _ (by omega) (by omega)]
  congr 1
  have := Nat.two_pow_add_eq_or_of_lt (i := 8) (b := b.toNat) (by omega) x
  rw [show x * 256 = 2 ^ 8 * x by omega, this]
theorem val_lt7 {l : List UInt8} (h : l.length ≤ 7) : val l < 72057594037927936 := by
  have h1 := val_lt l
  have h2 : 256 ^ l.length ≤ 256 ^ 7 := Nat.pow_le_pow_right (by decide) h
  omega
theorem val_lt8 {l : List UInt8} (h : l.length ≤ 8) : val l < 18446744073709551616 := by
  have h1 := val_lt l
  have h2 : 256 ^ l.length ≤ 256 ^ 8 := Nat.pow_le_pow_right (by decide) h
  omega
set_option maxRecDepth 100000 in
set_option maxHeartbeats 400000 in
theorem number_any (s : ByteArray) (hs : s.size ≤ 8) (w : World) :
    Calls Try.prog 77 #[.string s] w fun e w' => e = .returned (.int .u64 ((val s.data.toList : Nat) : Int)) ∧ w' = w := by
  go_enter Try.func77, Try.ntmps77
  go_wp2
  go_loop [3, 4] (fun c i => ∃ k : Nat, k ≤ s.size ∧ i = .int .i64 k ∧ c = .int .u64 ((val (s.data.toList.take k) : Nat) : Int)) (fun _ i => s.size - (intOf i).toNat)
  case atStart => exact ⟨0, Nat.zero_le _, rfl, rfl⟩
  case round =>
    obtain ⟨k, hk, rfl, rfl⟩ := hrel
    by_cases hlt : k < s.size
    · have hd : val (s.data.toList.take k) < 72057594037927936 := val_lt7 (by simp; omega)
      have hn : Hid (val (s.data.toList.take (k + 1)) = val (s.data.toList.take k) * 256 + s[k].toNat) := hide (by rw [take_snoc s k hlt, val_snoc])
      generalize val (s.data.toList.take k) = x at *
      have hb := byte_lt s[k]
      have e1 := u64_or_low x s[k] hd
      go_wp2
      exact ⟨⟨k + 1, by omega, by go_num, by rw [hn.out]; go_num⟩, by simp [intOf]; omega⟩
    · have hn : Hid (s.data.toList.take k = s.data.toList) := hide (List.take_of_length_le (by simp; omega))
      go_wp2
      go_ret
      exact ⟨ret_int (by rw [hn.out]), rfl⟩
end Go.Proofs.Ytjkhbjgfoopomab
/-
  The walk over Decode, the code's.
-/
namespace Go.Proofs.Ytjkhbjgfoopomab
open Go.RowKit
set_option linter.unusedVariables false

theorem at8_of (s : ByteArray) (k : Nat) (h : k < s.size) : at8 s.data.toList k = s[k].toNat := by
  unfold at8
  rw [List.getD_eq_getElem?_getD, get_q s k h]
  rfl
theorem cut_of (s : ByteArray) (a b : Nat) : (s.extract a b).data.toList = cut s.data.toList a b := Lib.extract_data s a b

theorem zero_v : Msg.zero.v = .agg #[.int .u8 0, .int .u8 0, .int .u8 0, .int .u32 0, .int .u8 0, .int .u16 0, .int .u16 0, .int .u32 0, .string ⟨#[]⟩] := rfl
set_option maxRecDepth 100000 in
set_option maxHeartbeats 400000 in
theorem size_at (s : ByteArray) (hs : s.size ≤ maxLen) (p17 : 17 < s.size) (w : World) :
    Calls Try.prog 75 #[.string s] w fun e w' => e = .returned (.int .i64 (22 + ((s[17]'p17).toNat : Int))) ∧ w' = w := by
  have d0 : decide ((s.size : Int) ≤ 17) = false := by simp; omega
  have i17 : (17 : Int) < (s.size : Int) := by omega
  have hb := byte_lt (s[17]'p17)
  go_enter Try.func75, Try.ntmps75
  go_wp2
  go_ret
  exact ⟨rfl, rfl⟩
set_option maxRecDepth 100000 in
set_option maxHeartbeats 400000 in
theorem size_short (s : ByteArray) (h : s.size ≤ 17) (w : World) :
    Calls Try.prog 75 #[.string s] w fun e w' => e = .returned (.int .i64 22) ∧ w' = w := by
  have d0 : decide ((s.size : Int) ≤ 17) = true := by simp; omega
  go_enter Try.func75, Try.ntmps75
  go_wp2
  go_ret
  exact ⟨rfl, rfl⟩
set_option maxRecDepth 100000 in
set_option maxHeartbeats 400000 in
theorem decode_short (s : ByteArray) (h : s.size < 22) (w : World) :
    Calls Try.prog 69 #[.string s] w fun e w' => e = .returned (.tuple #[Msg.zero.v, .int .i64 1]) ∧ Below w.heap.size w w' := by
  rw [zero_v]
  go_enter Try.func69, Try.ntmps69
  go_wp2
  exact bodyPost_ret (v := .tuple #[.agg #[.int .u8 0, .int .u8 0, .int .u8 0, .int .u32 0, .int .u8 0, .int .u16 0, .int .u16 0, .int .u32 0, .string ⟨#[]⟩], .int .i64 1]) (by simp [results, Try.results69, go_sem]) rfl ⟨rfl, (Below.refl _ _).alloc (Nat.le_refl _) _⟩
set_option maxRecDepth 100000 in
set_option maxHeartbeats 400000 in
theorem decode_first (s : ByteArray) (hs : s.size ≤ maxLen) (h : 22 ≤ s.size) (h0 : ¬ s[0].toNat = 69) (w : World) :
    Calls Try.prog 69 #[.string s] w fun e w' => e = .returned (.tuple #[Msg.zero.v, .int .i64 1]) ∧ Below w.heap.size w w' := by
  rw [zero_v]
  have d0 : decide ((s.size : Int) < 22) = false := by simp; omega
  have d1 : ((s[0].toNat : Int) != 69) = true := by simp; omega
  have p0 : 0 < s.size := by omega
  go_enter Try.func69, Try.ntmps69
  go_wp2
  exact bodyPost_ret (v := .tuple #[.agg #[.int .u8 0, .int .u8 0, .int .u8 0, .int .u32 0, .int .u8 0, .int .u16 0, .int .u16 0, .int .u32 0, .string ⟨#[]⟩], .int .i64 1]) (by simp [results, Try.results69, go_sem]) rfl ⟨rfl, (Below.refl _ _).alloc (Nat.le_refl _) _⟩
set_option maxRecDepth 100000 in
set_option maxHeartbeats 400000 in
theorem decode_len (s : ByteArray) (hs : s.size ≤ maxLen) (h : 22 ≤ s.size) (h0 : s[0].toNat = 69) (h17 : ¬ s.size = 22 + s[17].toNat) (w : World) :
    Calls Try.prog 69 #[.string s] w fun e w' => e = .returned (.tuple #[Msg.zero.v, .int .i64 1]) ∧ Below w.heap.size w w' := by
  rw [zero_v]
  have d0 : decide ((s.size : Int) < 22) = false := by simp; omega
  have d1 : ((s[0].toNat : Int) != 69) = false := by simp; omega
  have p0 : 0 < s.size := by omega
  have p17 : 17 < s.size := by omega
  have hb := byte_lt s[17]
  have d2 : ((s.size : Int) != 22 + (s[17].toNat : Int)) = true := by simp; omega
  clear h0
  go_enter Try.func69, Try.ntmps69
  go_wp2_with fail
  refine (size_at s hs p17 _).mono ?_
  rintro e w1 ⟨rfl, rfl⟩
  go_wp2
  exact bodyPost_ret (v := .tuple #[.agg #[.int .u8 0, .int .u8 0, .int .u8 0, .int .u32 0, .int .u8 0, .int .u16 0, .int .u16 0, .int .u32 0, .string ⟨#[]⟩], .int .i64 1]) (by simp [results, Try.results69, go_sem]) rfl ⟨rfl, (Below.refl _ _).alloc (Nat.le_refl _) _⟩
theorem ext_size (s : ByteArray) (a b : Nat) (h : b ≤ s.size) : (s.extract a b).size = b - a := by
  rw [← list_len, cut_of, cut_length (by rw [list_len]; exact h)]
set_option maxRecDepth 100000 in
set_option maxHeartbeats 400000 in
theorem decode_sum (s : ByteArray) (h : 22 ≤ s.size) (p0 : 0 < s.size) (p17 : 17 < s.size) (h0 : (s[0]'p0).toNat = 69) (h17 : s.size = 22 + (s[17]'p17).toNat) (hsum : ¬ val (cut s.data.toList (s.size - 4) s.size) = sumOf (cut s.data.toList 0 (s.size - 4))) (w : World) :
    Calls Try.prog 69 #[.string s] w fun e w' => e = .returned (.tuple #[Msg.zero.v, .int .i64 2]) ∧ Below w.heap.size w w' := by
  rw [zero_v]
  have hb := byte_lt (s[17]'p17)
  have d0 : decide ((s.size : Int) < 22) = false := by simp; omega
  have d1 : (((s[0]'p0).toNat : Int) != 69) = false := by simp; omega
  have hsz : s.size ≤ 277 := by omega
  have d2 : ((s.size : Int) != (22 : Int) + ((s[17]'p17).toNat : Int)) = false := by simp; omega
  have z1 := ext_size s 0 (s.size - 4) (by omega)
  have z2 := ext_size s (s.size - 4) s.size (by omega)
  have c1 := hide (cut_of s 0 (s.size - 4))
  have c2 := hide (cut_of s (s.size - 4) s.size)
  have Z1 : (s.extract 0 (s.size - 4)).size ≤ maxLen := by rw [z1]; unfold maxLen; omega
  have Z2 : (s.extract (s.size - 4) s.size).size ≤ 8 := by rw [z2]; omega
  have d3 : ((val (cut s.data.toList (s.size - 4) s.size) : Int) != (sumOf (cut s.data.toList 0 (s.size - 4)) : Int)) = true := by simpa using fun e => hsum (by omega)
  clear h0 h17 hsum z1 z2
  go_enter Try.func69, Try.ntmps69
  go_wp2_with fail
  refine (size_at s (by unfold maxLen; omega) p17 _).mono ?_
  rintro e w1 ⟨rfl, rfl⟩
  go_wp2_with fail
  refine (frameSum_any _ Z1 _).mono ?_
  rintro e w1 ⟨rfl, rfl⟩
  rw [c1.out]
  go_wp2_with fail
  refine (number_any _ Z2 _).mono ?_
  rintro e w1 ⟨rfl, rfl⟩
  rw [c2.out]
  have y32 := sumOf_lt (cut s.data.toList 0 (s.size - 4))
  generalize val (cut s.data.toList (s.size - 4) s.size) = x at *
  generalize sumOf (cut s.data.toList 0 (s.size - 4)) = y at *
  have wy : IntKind.u64.wrap (y : Int) = (y : Int) := by rw [IntKind.wrap_u64]; omega
  go_wp2
  exact bodyPost_ret (v := .tuple #[.agg #[.int .u8 0, .int .u8 0, .int .u8 0, .int .u32 0, .int .u8 0, .int .u16 0, .int .u16 0, .int .u32 0, .string ⟨#[]⟩], .int .i64 2]) (by simp [results, Try.results69, go_sem]) rfl ⟨rfl, (Below.refl _ _).alloc (Nat.le_refl _) _⟩
end Go.Proofs.Ytjkhbjgfoopomab
/-
  The walk over Decode, the code's: where the form and the checksum hold.
-/
namespace Go.Proofs.Ytjkhbjgfoopomab
open Go.RowKit
set_option linter.unusedVariables false

theorem say_of (s : ByteArray) (h : 22 ≤ s.size) (q1 : 1 < s.size) (q2 : 2 < s.size) (q3 : 3 < s.size) (q8 : 8 < s.size) :
    sayOf s.data.toList = ⟨(s[1]'q1).toNat, (s[2]'q2).toNat, (s[3]'q3).toNat, val (cut s.data.toList 4 8), (s[8]'q8).toNat, val (cut s.data.toList 9 11), val (cut s.data.toList 11 13), val (cut s.data.toList 13 17), (s.extract 18 (s.size - 4)).data.toList⟩ := by
  rw [cut_of, ← at8_of s 1 q1, ← at8_of s 2 q2, ← at8_of s 3 q3, ← at8_of s 8 q8]
  unfold sayOf
  rw [list_len]
set_option maxRecDepth 100000 in
set_option maxHeartbeats 1000000 in
theorem decode_tail (s : ByteArray) (h : 22 ≤ s.size) (p0 : 0 < s.size) (p17 : 17 < s.size) (q1 : 1 < s.size) (q2 : 2 < s.size) (q3 : 3 < s.size) (q8 : 8 < s.size) (h0 : (s[0]'p0).toNat = 69) (h17 : s.size = 22 + (s[17]'p17).toNat)
    (hsum : val (cut s.data.toList (s.size - 4) s.size) = sumOf (cut s.data.toList 0 (s.size - 4))) (vi vp vg va fv : Nat) (e3 : val (cut s.data.toList 4 8) = vi) (e4 : val (cut s.data.toList 9 11) = vp) (e5 : val (cut s.data.toList 11 13) = vg) (e6 : val (cut s.data.toList 13 17) = va)
    (b3 : vi < 4294967296) (b4 : vp < 65536) (b5 : vg < 65536) (b6 : va < 4294967296)
    (hfault : ∀ u : World, Calls Try.prog 79 #[.agg #[Value.int .u8 ((s[1]'q1).toNat : Int), .int .u8 ((s[2]'q2).toNat : Int), .int .u8 ((s[3]'q3).toNat : Int), .int .u32 (vi : Int), .int .u8 ((s[8]'q8).toNat : Int), .int .u16 (vp : Int), .int .u16 (vg : Int), .int .u32 (va : Int), .string (s.extract 18 (s.size - 4))]] u fun e u' => e = .returned (.int .i64 (fv : Int)) ∧ Below u.heap.size u u') (w : World) :
    Calls Try.prog 69 #[.string s] w fun e w' => e = .returned (.tuple #[.agg (if fv = 0 then #[Value.int .u8 ((s[1]'q1).toNat : Int), .int .u8 ((s[2]'q2).toNat : Int), .int .u8 ((s[3]'q3).toNat : Int), .int .u32 (vi : Int), .int .u8 ((s[8]'q8).toNat : Int), .int .u16 (vp : Int), .int .u16 (vg : Int), .int .u32 (va : Int), .string (s.extract 18 (s.size - 4))] else #[Value.int .u8 0, .int .u8 0, .int .u8 0, .int .u32 0, .int .u8 0, .int .u16 0, .int .u16 0, .int .u32 0, .string ⟨#[]⟩]), .int .i64 (fv : Int)]) ∧ Below w.heap.size w w' := by
  have HF := hide hfault
  clear hfault
  have hb := byte_lt (s[17]'p17)
  have d0 : decide ((s.size : Int) < 22) = false := by simp; omega
  have d1 : (((s[0]'p0).toNat : Int) != 69) = false := by simp; omega
  have hsz : s.size ≤ 277 := by omega
  have d2 : ((s.size : Int) != (22 : Int) + ((s[17]'p17).toNat : Int)) = false := by simp; omega
  have z1 := ext_size s 0 (s.size - 4) (by omega)
  have z2 := ext_size s (s.size - 4) s.size (by omega)
  have z3 := ext_size s 4 8 (by omega)
  have z4 := ext_size s 9 11 (by omega)
  have z5 := ext_size s 11 13 (by omega)
  have z6 := ext_size s 13 17 (by omega)
  have c1 := hide (cut_of s 0 (s.size - 4))
  have c2 := hide (cut_of s (s.size - 4) s.size)
  have c3 : Hid (val (s.extract 4 8).data.toList = vi) := hide (by rw [cut_of]; exact e3)
  have c4 : Hid (val (s.extract 9 11).data.toList = vp) := hide (by rw [cut_of]; exact e4)
  have c5 : Hid (val (s.extract 11 13).data.toList = vg) := hide (by rw [cut_of]; exact e5)
  have c6 : Hid (val (s.extract 13 17).data.toList = va) := hide (by rw [cut_of]; exact e6)
  have Z1 : (s.extract 0 (s.size - 4)).size ≤ maxLen := by rw [z1]; unfold maxLen; omega
  have Z2 : (s.extract (s.size - 4) s.size).size ≤ 8 := by rw [z2]; omega
  have Z3 : (s.extract 4 8).size ≤ 8 := by rw [z3]; omega
  have Z4 : (s.extract 9 11).size ≤ 8 := by rw [z4]; omega
  have Z5 : (s.extract 11 13).size ≤ 8 := by rw [z5]; omega
  have Z6 : (s.extract 13 17).size ≤ 8 := by rw [z6]; omega
  have d3 : ((val (cut s.data.toList (s.size - 4) s.size) : Int) != (sumOf (cut s.data.toList 0 (s.size - 4)) : Int)) = false := by simp [hsum]
  clear h0 h17 hsum e3 e4 e5 e6 z1 z2 z3 z4 z5 z6
  go_enter Try.func69, Try.ntmps69
  go_wp2_with fail
  refine (size_at s (by unfold maxLen; omega) p17 _).mono ?_
  rintro e w1 ⟨rfl, rfl⟩
  go_wp2_with fail
  refine (frameSum_any _ Z1 _).mono ?_
  rintro e w1 ⟨rfl, rfl⟩
  rw [c1.out]
  go_wp2_with fail
  refine (number_any _ Z2 _).mono ?_
  rintro e w1 ⟨rfl, rfl⟩
  rw [c2.out]
  clear c1 c2 Z1 Z2
  have y32 := sumOf_lt (cut s.data.toList 0 (s.size - 4))
  generalize val (cut s.data.toList (s.size - 4) s.size) = x at *
  generalize sumOf (cut s.data.toList 0 (s.size - 4)) = y at *
  have wy : IntKind.u64.wrap (y : Int) = (y : Int) := by rw [IntKind.wrap_u64]; omega
  go_wp2_with fail
  refine (number_any _ Z3 _).mono ?_
  rintro e w1 ⟨rfl, rfl⟩
  rw [c3.out]
  clear c3 Z3
  go_wp2_with fail
  refine (number_any _ Z4 _).mono ?_
  rintro e w1 ⟨rfl, rfl⟩
  rw [c4.out]
  clear c4 Z4
  go_wp2_with fail
  refine (number_any _ Z5 _).mono ?_
  rintro e w1 ⟨rfl, rfl⟩
  rw [c5.out]
  clear c5 Z5
  go_wp2_with fail
  refine (number_any _ Z6 _).mono ?_
  rintro e w1 ⟨rfl, rfl⟩
  rw [c6.out]
  clear c6 Z6
  have s18 : (18 : Int) ≤ (s.size : Int) - 4 := by omega
  have s4 : (s.size : Int) - 4 ≤ (s.size : Int) := by omega
  have wp : IntKind.u16.wrap (vp : Int) = (vp : Int) := by rw [IntKind.wrap_u16]; omega
  have wi : IntKind.u32.wrap (vi : Int) = (vi : Int) := by rw [IntKind.wrap_u32]; omega
  have wa : IntKind.u32.wrap (va : Int) = (va : Int) := by rw [IntKind.wrap_u32]; omega
  have wg : IntKind.u16.wrap (vg : Int) = (vg : Int) := by rw [IntKind.wrap_u16]; omega
  go_wp2_with fail
  clear d0 d1 d2 d3
  have B1 := Box.mk0 w #[Value.int .u8 0, .int .u8 0, .int .u8 0, .int .u32 0, .int .u8 0, .int .u16 0, .int .u16 0, .int .u32 0, .string ⟨#[]⟩] 121
  generalize w.alloc _ = w1 at B1 ⊢
  have i1 : (1 : Int) < (s.size : Int) := by omega
  have i2 : (2 : Int) < (s.size : Int) := by omega
  have i3 : (3 : Int) < (s.size : Int) := by omega
  have i8 : (8 : Int) < (s.size : Int) := by omega
  go_region
  have B2 := Box.mk0 w1 #[Value.int .u8 ((s[1]'q1).toNat : Int), .int .u8 ((s[2]'q2).toNat : Int), .int .u8 ((s[3]'q3).toNat : Int), .int .u32 (vi : Int), .int .u8 ((s[8]'q8).toNat : Int), .int .u16 (vp : Int), .int .u16 (vg : Int), .int .u32 (va : Int), .string (s.extract 18 (s.size - 4))] 121
  replace B1 := B1.alloc (.cells #[Value.int .u8 ((s[1]'q1).toNat : Int), .int .u8 ((s[2]'q2).toNat : Int), .int .u8 ((s[3]'q3).toNat : Int), .int .u32 (vi : Int), .int .u8 ((s[8]'q8).toNat : Int), .int .u16 (vp : Int), .int .u16 (vg : Int), .int .u32 (va : Int), .string (s.extract 18 (s.size - 4))] 121)
  generalize w1.alloc _ = w2 at B1 B2 ⊢
  have hc := B2.cell
  go_wp2_with fail
  refine (HF.out _).mono ?_
  rintro e w3 ⟨rfl, hb3⟩
  replace B1 := B1.drew.below hb3
  replace B2 := B2.drew.below hb3
  replace hc := B2.cell
  have hc1 := B1.cell
  have hf1 := B1.fro
  clear HF hb3
  by_cases f0 : fv = 0
  · subst f0
    go_wp2
    exact bodyPost_ret (v := .tuple #[.agg #[Value.int .u8 ((s[1]'q1).toNat : Int), .int .u8 ((s[2]'q2).toNat : Int), .int .u8 ((s[3]'q3).toNat : Int), .int .u32 (vi : Int), .int .u8 ((s[8]'q8).toNat : Int), .int .u16 (vp : Int), .int .u16 (vg : Int), .int .u32 (va : Int), .string (s.extract 18 (s.size - 4))], .int .i64 0]) (by simp [results, Try.results69, go_sem, hc1]) rfl ⟨rfl, (((((((((B1.bel.setCell (Nat.le_refl _) _).setCell (Nat.le_refl _) _).setCell (Nat.le_refl _) _).setCell (Nat.le_refl _) _).setCell (Nat.le_refl _) _).setCell (Nat.le_refl _) _).setCell (Nat.le_refl _) _).setCell (Nat.le_refl _) _).setCell (Nat.le_refl _) _)⟩
  · have d0 : ((fv : Int) != 0) = true := by simp; omega
    go_wp2
    exact bodyPost_ret (v := .tuple #[.agg #[Value.int .u8 0, .int .u8 0, .int .u8 0, .int .u32 0, .int .u8 0, .int .u16 0, .int .u16 0, .int .u32 0, .string ⟨#[]⟩], .int .i64 (fv : Int)]) (by simp [results, Try.results69, go_sem, hc1]) rfl ⟨by first | rfl | rw [if_neg f0], (((((((((B1.bel.setCell (Nat.le_refl _) _).setCell (Nat.le_refl _) _).setCell (Nat.le_refl _) _).setCell (Nat.le_refl _) _).setCell (Nat.le_refl _) _).setCell (Nat.le_refl _) _).setCell (Nat.le_refl _) _).setCell (Nat.le_refl _) _).setCell (Nat.le_refl _) _)⟩
theorem decode_any (s : ByteArray) (hs : s.size ≤ maxLen) (w : World) :
    Calls Try.prog 69 #[.string s] w fun e w' => e = .returned (.tuple #[(decMsg s.data.toList).v, .int .i64 ((decErr s.data.toList : Nat) : Int)]) ∧ Below w.heap.size w w' := by
  by_cases h : 22 ≤ s.size
  · have p0 : 0 < s.size := by omega
    have p17 : 17 < s.size := by omega
    have hl := list_len s
    by_cases h0 : (s[0]'p0).toNat = 69
    · by_cases h17 : s.size = 22 + (s[17]'p17).toNat
      · have hf : formB s.data.toList = true := by
          simp [formB, at8_of s 0 p0, at8_of s 17 p17, h0, h, ← h17]
        by_cases hsum : val (cut s.data.toList (s.size - 4) s.size) = sumOf (cut s.data.toList 0 (s.size - 4))
        · have hse : sealB s.data.toList = true := by simp only [sealB, hl]; simpa using hsum
          have he : decErr s.data.toList = faultOf (sayOf s.data.toList) := by simp [decErr, hf, hse]
          have hd : decMsg s.data.toList = if faultOf (sayOf s.data.toList) = 0 then sayOf s.data.toList else Msg.zero := by unfold decMsg; rw [he]
          rw [hd, he]
          have q1 : 1 < s.size := by omega
          have q2 : 2 < s.size := by omega
          have q3 : 3 < s.size := by omega
          have q8 : 8 < s.size := by omega
          have hok : (sayOf s.data.toList).ok := sayOf_ok (by rw [list_len]; exact h)
          have hml : (sayOf s.data.toList).m.length ≤ 140737488351232 := by
            have hm : (sayOf s.data.toList).m.length ≤ s.data.toList.length := by simp [sayOf, cut]; omega
            have hb := byte_lt (s[17]'p17)
            omega
          have hfa := fault_any (sayOf s.data.toList) hok hml
          have hv : (sayOf s.data.toList).v = .agg #[Value.int .u8 ((s[1]'q1).toNat : Int), .int .u8 ((s[2]'q2).toNat : Int), .int .u8 ((s[3]'q3).toNat : Int), .int .u32 (val (cut s.data.toList 4 8) : Int), .int .u8 ((s[8]'q8).toNat : Int), .int .u16 (val (cut s.data.toList 9 11) : Int), .int .u16 (val (cut s.data.toList 11 13) : Int), .int .u32 (val (cut s.data.toList 13 17) : Int), .string (s.extract 18 (s.size - 4))] := by
            rw [say_of s h q1 q2 q3 q8]
            simp only [Msg.v, Msg.cells, bs_of]
          rw [hv] at hfa
          have hd2 := decode_tail s h p0 p17 q1 q2 q3 q8 h0 h17 hsum _ _ _ _ _ rfl rfl rfl rfl hok.2.2.2.1 hok.2.2.2.2.2.1 hok.2.2.2.2.2.2.1 hok.2.2.2.2.2.2.2 hfa w
          have hif : (if faultOf (sayOf s.data.toList) = 0 then sayOf s.data.toList else Msg.zero).v = .agg (if faultOf (sayOf s.data.toList) = 0 then #[Value.int .u8 ((s[1]'q1).toNat : Int), .int .u8 ((s[2]'q2).toNat : Int), .int .u8 ((s[3]'q3).toNat : Int), .int .u32 (val (cut s.data.toList 4 8) : Int), .int .u8 ((s[8]'q8).toNat : Int), .int .u16 (val (cut s.data.toList 9 11) : Int), .int .u16 (val (cut s.data.toList 11 13) : Int), .int .u32 (val (cut s.data.toList 13 17) : Int), .string (s.extract 18 (s.size - 4))] else #[Value.int .u8 0, .int .u8 0, .int .u8 0, .int .u32 0, .int .u8 0, .int .u16 0, .int .u16 0, .int .u32 0, .string ⟨#[]⟩]) := by
            split
            · exact hv
            · exact zero_v
          rw [hif]
          exact hd2
        · have hse : sealB s.data.toList = false := by simp only [sealB, hl]; simpa using hsum
          have he : decErr s.data.toList = 2 := by simp [decErr, hf, hse]
          have hd : decMsg s.data.toList = Msg.zero := by simp [decMsg, he]
          rw [hd, he]
          exact decode_sum s h p0 p17 h0 h17 hsum w
      · have hf : formB s.data.toList = false := by
          simp only [formB, at8_of s 17 p17, hl]
          simp [h17]
        have he : decErr s.data.toList = 1 := by simp [decErr, hf]
        have hd : decMsg s.data.toList = Msg.zero := by simp [decMsg, he]
        rw [hd, he]
        exact decode_len s hs h h0 h17 w
    · have hf : formB s.data.toList = false := by
        simp only [formB, at8_of s 0 p0]
        simp [h0]
      have he : decErr s.data.toList = 1 := by simp [decErr, hf]
      have hd : decMsg s.data.toList = Msg.zero := by simp [decMsg, he]
      rw [hd, he]
      exact decode_first s hs h h0 w
  · have hf : formB s.data.toList = false := by
      simp only [formB, list_len]
      simp [h]
    have he : decErr s.data.toList = 1 := by simp [decErr, hf]
    have hd : decMsg s.data.toList = Msg.zero := by simp [decMsg, he]
    rw [hd, he]
    exact decode_short s (by omega) w
end Go.Proofs.Ytjkhbjgfoopomab
/-
  What the document's Bank.Handle does: plain, and how its answer lies in memory.
-/
namespace Go.Proofs.Ytjkhbjgfoopomab
open Go.RowKit
set_option linter.unusedVariables false
set_option linter.unusedSimpArgs false

theorem bs_same (a b : List UInt8) : ((bs a).toList == (bs b).toList) = decide (a = b) := by rw [bs_toList, bs_toList]; by_cases h : a = b <;> simp [h]
theorem legFold_asked (id l : Nat) (evs : List Ev) : ∀ s : Nat × Msg × Bool, (s.2.2 = true → s.1 ≠ 0) → ((evs.foldl (legStep id l) s).2.2 = true → (evs.foldl (legStep id l) s).1 ≠ 0) := by
  induction evs with
  | nil => intro s h; exact h
  | cons e r ih =>
    intro s h
    refine ih _ ?_
    unfold legStep
    (repeat' split) <;> first | exact h | (intro _; simp)
theorem legOf_asked (id l : Nat) (evs : List Ev) : (legOf id l evs).2.2 = true → (legOf id l evs).1 ≠ 0 := legFold_asked id l evs _ (by simp)

def otherB (x y : Msg) : Bool := decide (y.p ≠ x.p) || (decide (y.g ≠ x.g) || (decide (y.a ≠ x.a) || decide (y.m ≠ x.m)))
/-- the error of a message that is to this bank -/
def hErrT (x : Msg) (T : Nat × Msg × Bool) (n : Nat) : Nat :=
  if x.k = 1 ∧ T.2.2 = true ∧ otherB x T.2.1 = true then 11
  else if (x.k = 2 ∧ T.1 ≠ 1 ∧ T.1 ≠ 3) ∨ (x.k = 3 ∧ T.1 = 3) then 14
  else if x.k ≠ 2 ∧ T.1 = 0 ∧ 128 ≤ n then 10 else 0
def hErrOf (x : Msg) (evs : List Ev) : Nat := hErrT x (legOf x.i x.l evs) (keysOf evs).length
def hNewT (x : Msg) (T : Nat × Msg × Bool) (n : Nat) (can : Bool) : List Ev :=
  if hErrT x T n ≠ 0 then [] else if x.k = 1 ∧ T.1 = 0 then [⟨1, x, can⟩] else if x.k = 2 ∧ T.1 = 1 then [⟨2, x, false⟩] else if x.k = 3 ∧ T.1 ≠ 4 then [⟨3, x, false⟩] else []
/-- what has changed the bank behind it -/
def hEvsOf (x : Msg) (evs : List Ev) : List Ev := evs ++ hNewT x (legOf x.i x.l evs) (keysOf evs).length (canB x evs)

def strCell (l : List UInt8) : List Value := [.string (bs l)]
theorem strCell_length (l : List UInt8) : (strCell l).length = 1 := rfl
end Go.Proofs.Ytjkhbjgfoopomab
