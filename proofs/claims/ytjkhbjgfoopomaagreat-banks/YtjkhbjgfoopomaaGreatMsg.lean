/-
  Plain: messages, what is wrong with one, its frame.
-/
import Derived.Test.YtjkhbjgfoopomaaGreatBytes
import Derived.Test.YtjkhbjgfoopomaaGreatMemo
namespace Go.Proofs.YtjkhbjgfoopomaaGreat

/-- what a frame says -/
structure Msg where
  k : Nat
  f : Nat
  t : Nat
  i : Nat
  l : Nat
  p : Nat
  g : Nat
  a : Nat
  m : List UInt8
def Msg.ok (x : Msg) : Prop := x.k < 256 ∧ x.f < 256 ∧ x.t < 256 ∧ x.i < 4294967296 ∧ x.l < 256 ∧ x.p < 65536 ∧ x.g < 65536 ∧ x.a < 4294967296
def Msg.cells (x : Msg) : Array Value := #[.int .u8 (x.k : Int), .int .u8 (x.f : Int), .int .u8 (x.t : Int), .int .u32 (x.i : Int), .int .u8 (x.l : Int), .int .u16 (x.p : Int), .int .u16 (x.g : Int), .int .u32 (x.a : Int), .string (bs x.m)]
def Msg.v (x : Msg) : Value := .agg x.cells
def bankB (n : Nat) : Bool := decide (1 ≤ n) && decide (n ≤ 7)
def wayB (x : Msg) : Bool := if x.k ≤ 3 then decide (x.f = 0) && bankB x.t else decide (x.t = 0) && bankB x.f
def termsOf (x : Msg) : Nat := if x.a = 0 then 6 else if memoB x.m then 0 else 7
def bareB (x : Msg) : Bool := decide (x.p = 0) && decide (x.g = 0) && decide (x.a = 0) && x.m.isEmpty
def kindB (x : Msg) : Bool := decide (1 ≤ x.k) && decide (x.k ≤ 6)
/-- P4: the error of a message -/
def faultOf (x : Msg) : Nat :=
  if !kindB x then 3 else if !wayB x then 4 else if 4 ≤ x.l then 5 else if x.k = 1 then termsOf x else if bareB x then 0 else 3
/-- all bytes of a frame ahead of its checksum -/
def bodyOf (x : Msg) : List UInt8 := 69 :: UInt8.ofNat x.k :: UInt8.ofNat x.f :: UInt8.ofNat x.t :: (be 4 x.i ++ UInt8.ofNat x.l :: (be 2 x.p ++ (be 2 x.g ++ (be 4 x.a ++ UInt8.ofNat x.m.length :: x.m))))
theorem bodyOf_length (x : Msg) : (bodyOf x).length = 18 + x.m.length := by simp [bodyOf, be_length]; omega
def frameOf (x : Msg) : List UInt8 := bodyOf x ++ be 4 (sumOf (bodyOf x))
/-- P4: Encode -/
def encOf (x : Msg) : List UInt8 := if faultOf x = 0 then frameOf x else []
end Go.Proofs.YtjkhbjgfoopomaaGreat
