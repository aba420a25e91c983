/-
  Plain: what a frame says.
-/
import Derived.Test.YtjkhbjgfoopomaaGreatMsg
namespace Go.Proofs.YtjkhbjgfoopomaaGreat

/-- the number that bytes say, the high one first -/
def val (l : List UInt8) : Nat := l.foldl (fun v b => v * 256 + b.toNat) 0
theorem val_snoc (l : List UInt8) (b : UInt8) : val (l ++ [b]) = val l * 256 + b.toNat := by simp [val, List.foldl_append]
theorem val_from (l : List UInt8) : ∀ (v k : Nat), v < 256 ^ k → l.foldl (fun v b => v * 256 + b.toNat) v < 256 ^ (k + l.length) := by
  induction l with
  | nil => intro v k h; exact h
  | cons b l ih =>
    intro v k h
    have hb := b.toNat_lt
    have := ih (v * 256 + b.toNat) (k + 1) (by rw [Nat.pow_succ]; omega)
    simp only [List.foldl_cons, List.length_cons]
    rwa [show k + (l.length + 1) = k + 1 + l.length by omega]
theorem val_lt (l : List UInt8) : val l < 256 ^ l.length := by
  have := val_from l 0 0 (by decide)
  rwa [Nat.zero_add] at this
theorem val_lt4 {l : List UInt8} (h : l.length ≤ 4) : val l < 4294967296 := by
  have h1 := val_lt l
  have h2 : 256 ^ l.length ≤ 256 ^ 4 := Nat.pow_le_pow_right (by decide) h
  omega
theorem val_lt2 {l : List UInt8} (h : l.length ≤ 2) : val l < 65536 := by
  have h1 := val_lt l
  have h2 : 256 ^ l.length ≤ 256 ^ 2 := Nat.pow_le_pow_right (by decide) h
  omega
theorem val_lt3 {l : List UInt8} (h : l.length ≤ 3) : val l < 16777216 := by
  have h1 := val_lt l
  have h2 : 256 ^ l.length ≤ 256 ^ 3 := Nat.pow_le_pow_right (by decide) h
  omega

/-- the byte at a place -/
def at8 (l : List UInt8) (i : Nat) : Nat := (l.getD i 0).toNat
theorem at8_lt (l : List UInt8) (i : Nat) : at8 l i < 256 := (l.getD i 0).toNat_lt
/-- from one place to another -/
def cut (l : List UInt8) (a b : Nat) : List UInt8 := (l.drop a).take (b - a)
theorem cut_length {l : List UInt8} {a b : Nat} (h : b ≤ l.length) : (cut l a b).length = b - a := by
  simp [cut]; omega
/-- what a text says, if it is a frame -/
def sayOf (l : List UInt8) : Msg := ⟨at8 l 1, at8 l 2, at8 l 3, val (cut l 4 8), at8 l 8, val (cut l 9 11), val (cut l 11 13), val (cut l 13 17), cut l 18 (l.length - 4)⟩
def formB (l : List UInt8) : Bool := decide (22 ≤ l.length) && decide (at8 l 0 = 69) && decide (l.length = 22 + at8 l 17)
def sealB (l : List UInt8) : Bool := decide (val (cut l (l.length - 4) l.length) = sumOf (cut l 0 (l.length - 4)))
/-- P5: the error of a text -/
def decErr (l : List UInt8) : Nat := if !formB l then 1 else if !sealB l then 2 else faultOf (sayOf l)
def Msg.zero : Msg := ⟨0, 0, 0, 0, 0, 0, 0, 0, []⟩
/-- P5: Decode -/
def decMsg (l : List UInt8) : Msg := if decErr l = 0 then sayOf l else Msg.zero
theorem sayOf_ok {l : List UInt8} (h : 22 ≤ l.length) : (sayOf l).ok :=
  ⟨at8_lt _ _, at8_lt _ _, at8_lt _ _, val_lt4 (by rw [cut_length (by omega)]; decide), at8_lt _ _, val_lt2 (by rw [cut_length (by omega)]; decide), val_lt2 (by rw [cut_length (by omega)]; decide), val_lt4 (by rw [cut_length (by omega)]; decide)⟩
theorem zero_ok : Msg.zero.ok := ⟨by decide, by decide, by decide, by decide, by decide, by decide, by decide, by decide⟩
end Go.Proofs.YtjkhbjgfoopomaaGreat
