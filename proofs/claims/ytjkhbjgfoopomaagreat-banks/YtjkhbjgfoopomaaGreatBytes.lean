/-
  Strings as lists of bytes; numbers as bytes, the high one first.
-/
import Derived.Test.YtjkhbjgfoopomaaGreatSumWalks
import Derived.Laws.BytesArg
namespace Go.Proofs.YtjkhbjgfoopomaaGreat
open Go.RowKit

/-- the string of a list of bytes -/
def bs (l : List UInt8) : ByteArray := ⟨l.toArray⟩
theorem bs_data (l : List UInt8) : (bs l).data.toList = l := by simp [bs]
theorem bs_toList (l : List UInt8) : (bs l).toList = l := by rw [ByteArray.toList_eq, bs_data]
theorem bs_size (l : List UInt8) : (bs l).size = l.length := by simp [bs, ByteArray.size]
theorem bs_append (x y : List UInt8) : bs x ++ bs y = bs (x ++ y) := ByteArray.mk_append_mk x y
theorem bs_of (s : ByteArray) : bs s.data.toList = s := by
  cases s with
  | mk d => simp [bs]
theorem bs_nil : bs [] = ⟨#[]⟩ := rfl
theorem bs_inj {x y : List UInt8} (h : bs x = bs y) : x = y := by
  have := congrArg (fun s : ByteArray => s.data.toList) h
  simpa [bs_data] using this
/-- a number as n bytes, the high one first -/
def be : Nat → Nat → List UInt8
  | 0, _ => []
  | n + 1, v => UInt8.ofNat (v / 256 ^ n % 256) :: be n v
theorem be_length (n v : Nat) : (be n v).length = n := by
  induction n with
  | zero => rfl
  | succ n ih => simp [be, ih]
theorem u8_ofNat_mod (v : Nat) : UInt8.ofNat (v % 256) = UInt8.ofNat v := by
  apply UInt8.toNat_inj.1
  simp [UInt8.toNat_ofNat']
theorem strOfNums_bs (xs : List Int) : strOfNums xs = bs (xs.map fun n => UInt8.ofNat n.toNat) := rfl

theorem cellAt {w : World} {cs : Array Value} {t : TypeId} {i : Nat} (v : Value) (h : cs[i]? = some v) : (w.alloc (.cells cs t)).cell? ⟨w.heap.size, 0 + i, none⟩ = some v := by
  rw [Nat.zero_add, World.cell?_alloc_new]; exact h
theorem conv1 (w : World) (a : Int) : (convert 131 9 (.slice (some ⟨w.heap.size, 0, none⟩) 1 1)).run Tryz.prog (w.alloc (.cells #[.int .u8 a] 5)) =
    .ok (.string (bs [UInt8.ofNat a.toNat])) (w.alloc (.cells #[.int .u8 a] 5)) :=
  run_convert_bytes_arg _ 131 5 Tryz.underlying131 Tryz.underlying5 _ 0 1 1 [a] rfl (fun i hi => by
    match i, hi with
    | 0, _ => exact cellAt _ rfl) _ Tryz.underlying9
theorem conv2 (w : World) (a b : Int) : (convert 131 9 (.slice (some ⟨w.heap.size, 0, none⟩) 2 2)).run Tryz.prog (w.alloc (.cells #[.int .u8 a, .int .u8 b] 5)) =
    .ok (.string (bs [UInt8.ofNat a.toNat, UInt8.ofNat b.toNat])) (w.alloc (.cells #[.int .u8 a, .int .u8 b] 5)) :=
  run_convert_bytes_arg _ 131 5 Tryz.underlying131 Tryz.underlying5 _ 0 2 2 [a, b] rfl (fun i hi => by
    match i, hi with
    | 0, _ => exact cellAt _ rfl
    | 1, _ => exact cellAt _ rfl) _ Tryz.underlying9
theorem conv4 (w : World) (a b c d : Int) : (convert 131 9 (.slice (some ⟨w.heap.size, 0, none⟩) 4 4)).run Tryz.prog (w.alloc (.cells #[.int .u8 a, .int .u8 b, .int .u8 c, .int .u8 d] 5)) =
    .ok (.string (bs [UInt8.ofNat a.toNat, UInt8.ofNat b.toNat, UInt8.ofNat c.toNat, UInt8.ofNat d.toNat])) (w.alloc (.cells #[.int .u8 a, .int .u8 b, .int .u8 c, .int .u8 d] 5)) :=
  run_convert_bytes_arg _ 131 5 Tryz.underlying131 Tryz.underlying5 _ 0 4 4 [a, b, c, d] rfl (fun i hi => by
    match i, hi with
    | 0, _ => exact cellAt _ rfl
    | 1, _ => exact cellAt _ rfl
    | 2, _ => exact cellAt _ rfl
    | 3, _ => exact cellAt _ rfl) _ Tryz.underlying9
attribute [local go_sem] conv1 conv2 conv4

theorem ret_str {a b : List UInt8} (h : a = b) : Ending.returned (.string (bs a)) = .returned (.string (bs b)) := by rw [h]
theorem be4 (n : Nat) (hn : n < 4294967296) : [UInt8.ofNat ((n : Int) / 16777216).toNat, UInt8.ofNat ((n : Int) / 65536 % 256).toNat, UInt8.ofNat ((n : Int) / 256 % 256).toNat, UInt8.ofNat ((n : Int) % 256).toNat] = be 4 n := by
  have e1 : ((n : Int) / 16777216).toNat = n / 256 ^ 3 % 256 := by omega
  have e2 : ((n : Int) / 65536 % 256).toNat = n / 256 ^ 2 % 256 := by omega
  have e3 : ((n : Int) / 256 % 256).toNat = n / 256 ^ 1 % 256 := by omega
  have e4 : ((n : Int) % 256).toNat = n / 256 ^ 0 % 256 := by omega
  rw [e1, e2, e3, e4]
  rfl
theorem be2 (n : Nat) (hn : n < 65536) : [UInt8.ofNat ((n : Int) / 256).toNat, UInt8.ofNat ((n : Int) % 256).toNat] = be 2 n := by
  have e3 : ((n : Int) / 256).toNat = n / 256 ^ 1 % 256 := by omega
  have e4 : ((n : Int) % 256).toNat = n / 256 ^ 0 % 256 := by omega
  rw [e3, e4]
  rfl
theorem be1 (n : Nat) (hn : n < 256) : [UInt8.ofNat n] = be 1 n := by
  have e4 : n = n / 256 ^ 0 % 256 := by omega
  show _ = [UInt8.ofNat (n / 256 ^ 0 % 256)]
  rw [← e4]

set_option maxHeartbeats 400000 in
theorem four_any (n : Nat) (hn : n < 4294967296) (w : World) :
    Calls Tryz.prog 117 #[.int .u32 (n : Int)] w fun e w' => e = .returned (.string (bs (be 4 n))) ∧ Below w.heap.size w w' := by
  go_enter Tryz.func117, Tryz.ntmps117
  go_wp2
  go_ret
  exact ⟨ret_str (be4 n hn), (Below.refl _ _).alloc (Nat.le_refl _) _⟩
set_option maxHeartbeats 400000 in
theorem two_any (n : Nat) (hn : n < 65536) (w : World) :
    Calls Tryz.prog 116 #[.int .u16 (n : Int)] w fun e w' => e = .returned (.string (bs (be 2 n))) ∧ Below w.heap.size w w' := by
  go_enter Tryz.func116, Tryz.ntmps116
  go_wp2
  go_ret
  exact ⟨ret_str (be2 n hn), (Below.refl _ _).alloc (Nat.le_refl _) _⟩
end Go.Proofs.YtjkhbjgfoopomaaGreat
