import Derived.Test.YtjkhbjgfoopomaaG7
import Derived.Deep.RegionHeld3
import Derived.Test.YtjkhbjgfoopomaaG4
import Derived.Test.YtjkhbjgfoopomaaG3
import Derived.Deep.RegionLaw
import Derived.BigQuiet
/-
  The walk over Decode, the code's: where the form and the checksum hold.
-/
namespace Go.Proofs.Ytjkhbjgfoopomaa
open Go.RowKit
set_option linter.unusedVariables false

theorem say_of (s : ByteArray) (h : 22 ≤ s.size) (q1 : 1 < s.size) (q2 : 2 < s.size) (q3 : 3 < s.size) (q8 : 8 < s.size) :
    sayOf s.data.toList = ⟨(s[1]'q1).toNat, (s[2]'q2).toNat, (s[3]'q3).toNat, val (cut s.data.toList 4 8), (s[8]'q8).toNat, val (cut s.data.toList 9 11), val (cut s.data.toList 11 13), val (cut s.data.toList 13 17), (s.extract 18 (s.size - 4)).data.toList⟩ := by
  rw [cut_of, ← at8_of s 1 q1, ← at8_of s 2 q2, ← at8_of s 3 q3, ← at8_of s 8 q8]
  unfold sayOf
  rw [list_len]
set_option maxRecDepth 100000 in
set_option maxHeartbeats 1000000 in
theorem decode_tail (s : ByteArray) (h : 22 ≤ s.size) (p0 : 0 < s.size) (p17 : 17 < s.size) (q1 : 1 < s.size) (q2 : 2 < s.size) (q3 : 3 < s.size) (q8 : 8 < s.size) (h0 : (s[0]'p0).toNat = 69) (h17 : s.size = 22 + (s[17]'p17).toNat)
    (hsum : val (cut s.data.toList (s.size - 4) s.size) = sumOf (cut s.data.toList 0 (s.size - 4))) (vi vp vg va fv : Nat) (e3 : val (cut s.data.toList 4 8) = vi) (e4 : val (cut s.data.toList 9 11) = vp) (e5 : val (cut s.data.toList 11 13) = vg) (e6 : val (cut s.data.toList 13 17) = va)
    (b3 : vi < 4294967296) (b4 : vp < 65536) (b5 : vg < 65536) (b6 : va < 4294967296)
    (hfault : ∀ u : World, Calls Try.prog 64 #[.agg #[Value.int .u8 ((s[1]'q1).toNat : Int), .int .u8 ((s[2]'q2).toNat : Int), .int .u8 ((s[3]'q3).toNat : Int), .int .u32 (vi : Int), .int .u8 ((s[8]'q8).toNat : Int), .int .u16 (vp : Int), .int .u16 (vg : Int), .int .u32 (va : Int), .string (s.extract 18 (s.size - 4))]] u fun e u' => e = .returned (.int .i64 (fv : Int)) ∧ Below u.heap.size u u') (w : World) :
    Calls Try.prog 46 #[.string s] w fun e w' => e = .returned (.tuple #[.agg (if fv = 0 then #[Value.int .u8 ((s[1]'q1).toNat : Int), .int .u8 ((s[2]'q2).toNat : Int), .int .u8 ((s[3]'q3).toNat : Int), .int .u32 (vi : Int), .int .u8 ((s[8]'q8).toNat : Int), .int .u16 (vp : Int), .int .u16 (vg : Int), .int .u32 (va : Int), .string (s.extract 18 (s.size - 4))] else #[Value.int .u8 0, .int .u8 0, .int .u8 0, .int .u32 0, .int .u8 0, .int .u16 0, .int .u16 0, .int .u32 0, .string ⟨#[]⟩]), .int .i64 (fv : Int)]) ∧ Below w.heap.size w w' := by
  have HF := hide hfault
  clear hfault
  have hb := byte_lt (s[17]'p17)
  have d0 : decide ((s.size : Int) < 22) = false := by simp; omega
  have d1 : (((s[0]'p0).toNat : Int) != 69) = false := by simp; omega
  have hsz : s.size ≤ 277 := by omega
  have d2 : ((s.size : Int) != (22 : Int) + ((s[17]'p17).toNat : Int)) = false := by simp; omega
  have z1 := ext_size s 0 (s.size - 4) (by omega)
  have z2 := ext_size s (s.size - 4) s.size (by omega)
  have z3 := ext_size s 4 8 (by omega)
  have z4 := ext_size s 9 11 (by omega)
  have z5 := ext_size s 11 13 (by omega)
  have z6 := ext_size s 13 17 (by omega)
  have c1 := hide (cut_of s 0 (s.size - 4))
  have c2 := hide (cut_of s (s.size - 4) s.size)
  have c3 : Hid (val (s.extract 4 8).data.toList = vi) := hide (by rw [cut_of]; exact e3)
  have c4 : Hid (val (s.extract 9 11).data.toList = vp) := hide (by rw [cut_of]; exact e4)
  have c5 : Hid (val (s.extract 11 13).data.toList = vg) := hide (by rw [cut_of]; exact e5)
  have c6 : Hid (val (s.extract 13 17).data.toList = va) := hide (by rw [cut_of]; exact e6)
  have Z1 : (s.extract 0 (s.size - 4)).size ≤ maxLen := by rw [z1]; unfold maxLen; omega
  have Z2 : (s.extract (s.size - 4) s.size).size ≤ 8 := by rw [z2]; omega
  have Z3 : (s.extract 4 8).size ≤ 8 := by rw [z3]; omega
  have Z4 : (s.extract 9 11).size ≤ 8 := by rw [z4]; omega
  have Z5 : (s.extract 11 13).size ≤ 8 := by rw [z5]; omega
  have Z6 : (s.extract 13 17).size ≤ 8 := by rw [z6]; omega
  have d3 : ((val (cut s.data.toList (s.size - 4) s.size) : Int) != (sumOf (cut s.data.toList 0 (s.size - 4)) : Int)) = false := by simp [hsum]
  clear h0 h17 hsum e3 e4 e5 e6 z1 z2 z3 z4 z5 z6
  go_enter Try.func46, Try.ntmps46
  go_wp2_with fail
  refine (size_at s (by unfold maxLen; omega) p17 _).mono ?_
  rintro e w1 ⟨rfl, rfl⟩
  go_wp2_with fail
  refine (frameSum_any _ Z1 _).mono ?_
  rintro e w1 ⟨rfl, rfl⟩
  rw [c1.out]
  go_wp2_with fail
  refine (number_any _ Z2 _).mono ?_
  rintro e w1 ⟨rfl, rfl⟩
  rw [c2.out]
  clear c1 c2 Z1 Z2
  have y32 := sumOf_lt (cut s.data.toList 0 (s.size - 4))
  generalize val (cut s.data.toList (s.size - 4) s.size) = x at *
  generalize sumOf (cut s.data.toList 0 (s.size - 4)) = y at *
  have wy : IntKind.u64.wrap (y : Int) = (y : Int) := by rw [IntKind.wrap_u64]; omega
  go_wp2_with fail
  refine (number_any _ Z3 _).mono ?_
  rintro e w1 ⟨rfl, rfl⟩
  rw [c3.out]
  clear c3 Z3
  go_wp2_with fail
  refine (number_any _ Z4 _).mono ?_
  rintro e w1 ⟨rfl, rfl⟩
  rw [c4.out]
  clear c4 Z4
  go_wp2_with fail
  refine (number_any _ Z5 _).mono ?_
  rintro e w1 ⟨rfl, rfl⟩
  rw [c5.out]
  clear c5 Z5
  go_wp2_with fail
  refine (number_any _ Z6 _).mono ?_
  rintro e w1 ⟨rfl, rfl⟩
  rw [c6.out]
  clear c6 Z6
  have s18 : (18 : Int) ≤ (s.size : Int) - 4 := by omega
  have s4 : (s.size : Int) - 4 ≤ (s.size : Int) := by omega
  have wp : IntKind.u16.wrap (vp : Int) = (vp : Int) := by rw [IntKind.wrap_u16]; omega
  have wi : IntKind.u32.wrap (vi : Int) = (vi : Int) := by rw [IntKind.wrap_u32]; omega
  have wa : IntKind.u32.wrap (va : Int) = (va : Int) := by rw [IntKind.wrap_u32]; omega
  have wg : IntKind.u16.wrap (vg : Int) = (vg : Int) := by rw [IntKind.wrap_u16]; omega
  go_wp2_with fail
  clear d0 d1 d2 d3
  have B1 := Box.mk0 w #[Value.int .u8 0, .int .u8 0, .int .u8 0, .int .u32 0, .int .u8 0, .int .u16 0, .int .u16 0, .int .u32 0, .string ⟨#[]⟩] 32
  generalize w.alloc _ = w1 at B1 ⊢
  have i1 : (1 : Int) < (s.size : Int) := by omega
  have i2 : (2 : Int) < (s.size : Int) := by omega
  have i3 : (3 : Int) < (s.size : Int) := by omega
  have i8 : (8 : Int) < (s.size : Int) := by omega
  go_region
  have B2 := Box.mk0 w1 #[Value.int .u8 ((s[1]'q1).toNat : Int), .int .u8 ((s[2]'q2).toNat : Int), .int .u8 ((s[3]'q3).toNat : Int), .int .u32 (vi : Int), .int .u8 ((s[8]'q8).toNat : Int), .int .u16 (vp : Int), .int .u16 (vg : Int), .int .u32 (va : Int), .string (s.extract 18 (s.size - 4))] 32
  replace B1 := B1.alloc (.cells #[Value.int .u8 ((s[1]'q1).toNat : Int), .int .u8 ((s[2]'q2).toNat : Int), .int .u8 ((s[3]'q3).toNat : Int), .int .u32 (vi : Int), .int .u8 ((s[8]'q8).toNat : Int), .int .u16 (vp : Int), .int .u16 (vg : Int), .int .u32 (va : Int), .string (s.extract 18 (s.size - 4))] 32)
  generalize w1.alloc _ = w2 at B1 B2 ⊢
  have hc := B2.cell
  go_wp2_with fail
  refine (HF.out _).mono ?_
  rintro e w3 ⟨rfl, hb3⟩
  replace B1 := B1.drew.below hb3
  replace B2 := B2.drew.below hb3
  replace hc := B2.cell
  have hc1 := B1.cell
  have hf1 := B1.fro
  clear HF hb3
  by_cases f0 : fv = 0
  · subst f0
    go_wp2
    exact bodyPost_ret (v := .tuple #[.agg #[Value.int .u8 ((s[1]'q1).toNat : Int), .int .u8 ((s[2]'q2).toNat : Int), .int .u8 ((s[3]'q3).toNat : Int), .int .u32 (vi : Int), .int .u8 ((s[8]'q8).toNat : Int), .int .u16 (vp : Int), .int .u16 (vg : Int), .int .u32 (va : Int), .string (s.extract 18 (s.size - 4))], .int .i64 0]) (by simp [results, Try.results46, go_sem, hc1]) rfl ⟨rfl, (((((((((B1.bel.setCell (Nat.le_refl _) _).setCell (Nat.le_refl _) _).setCell (Nat.le_refl _) _).setCell (Nat.le_refl _) _).setCell (Nat.le_refl _) _).setCell (Nat.le_refl _) _).setCell (Nat.le_refl _) _).setCell (Nat.le_refl _) _).setCell (Nat.le_refl _) _)⟩
  · have d0 : ((fv : Int) != 0) = true := by simp; omega
    go_wp2
    exact bodyPost_ret (v := .tuple #[.agg #[Value.int .u8 0, .int .u8 0, .int .u8 0, .int .u32 0, .int .u8 0, .int .u16 0, .int .u16 0, .int .u32 0, .string ⟨#[]⟩], .int .i64 (fv : Int)]) (by simp [results, Try.results46, go_sem, hc1]) rfl ⟨by first | rfl | rw [if_neg f0], (((((((((B1.bel.setCell (Nat.le_refl _) _).setCell (Nat.le_refl _) _).setCell (Nat.le_refl _) _).setCell (Nat.le_refl _) _).setCell (Nat.le_refl _) _).setCell (Nat.le_refl _) _).setCell (Nat.le_refl _) _).setCell (Nat.le_refl _) _).setCell (Nat.le_refl _) _)⟩
theorem decode_any (s : ByteArray) (hs : s.size ≤ maxLen) (w : World) :
    Calls Try.prog 46 #[.string s] w fun e w' => e = .returned (.tuple #[(decMsg s.data.toList).v, .int .i64 ((decErr s.data.toList : Nat) : Int)]) ∧ Below w.heap.size w w' := by
  by_cases h : 22 ≤ s.size
  · have p0 : 0 < s.size := by omega
    have p17 : 17 < s.size := by omega
    have hl := list_len s
    by_cases h0 : (s[0]'p0).toNat = 69
    · by_cases h17 : s.size = 22 + (s[17]'p17).toNat
      · have hf : formB s.data.toList = true := by
          simp [formB, at8_of s 0 p0, at8_of s 17 p17, h0, h, ← h17]
        by_cases hsum : val (cut s.data.toList (s.size - 4) s.size) = sumOf (cut s.data.toList 0 (s.size - 4))
        · have hse : sealB s.data.toList = true := by simp only [sealB, hl]; simpa using hsum
          have he : decErr s.data.toList = faultOf (sayOf s.data.toList) := by simp [decErr, hf, hse]
          have hd : decMsg s.data.toList = if faultOf (sayOf s.data.toList) = 0 then sayOf s.data.toList else Msg.zero := by unfold decMsg; rw [he]
          rw [hd, he]
          have q1 : 1 < s.size := by omega
          have q2 : 2 < s.size := by omega
          have q3 : 3 < s.size := by omega
          have q8 : 8 < s.size := by omega
          have hok : (sayOf s.data.toList).ok := sayOf_ok (by rw [list_len]; exact h)
          have hml : (sayOf s.data.toList).m.length ≤ 140737488351232 := by
            have hm : (sayOf s.data.toList).m.length ≤ s.data.toList.length := by simp [sayOf, cut]; omega
            have hb := byte_lt (s[17]'p17)
            omega
          have hfa := fault_any (sayOf s.data.toList) hok hml
          have hv : (sayOf s.data.toList).v = .agg #[Value.int .u8 ((s[1]'q1).toNat : Int), .int .u8 ((s[2]'q2).toNat : Int), .int .u8 ((s[3]'q3).toNat : Int), .int .u32 (val (cut s.data.toList 4 8) : Int), .int .u8 ((s[8]'q8).toNat : Int), .int .u16 (val (cut s.data.toList 9 11) : Int), .int .u16 (val (cut s.data.toList 11 13) : Int), .int .u32 (val (cut s.data.toList 13 17) : Int), .string (s.extract 18 (s.size - 4))] := by
            rw [say_of s h q1 q2 q3 q8]
            simp only [Msg.v, Msg.cells, bs_of]
          rw [hv] at hfa
          have hd2 := decode_tail s h p0 p17 q1 q2 q3 q8 h0 h17 hsum _ _ _ _ _ rfl rfl rfl rfl hok.2.2.2.1 hok.2.2.2.2.2.1 hok.2.2.2.2.2.2.1 hok.2.2.2.2.2.2.2 hfa w
          have hif : (if faultOf (sayOf s.data.toList) = 0 then sayOf s.data.toList else Msg.zero).v = .agg (if faultOf (sayOf s.data.toList) = 0 then #[Value.int .u8 ((s[1]'q1).toNat : Int), .int .u8 ((s[2]'q2).toNat : Int), .int .u8 ((s[3]'q3).toNat : Int), .int .u32 (val (cut s.data.toList 4 8) : Int), .int .u8 ((s[8]'q8).toNat : Int), .int .u16 (val (cut s.data.toList 9 11) : Int), .int .u16 (val (cut s.data.toList 11 13) : Int), .int .u32 (val (cut s.data.toList 13 17) : Int), .string (s.extract 18 (s.size - 4))] else #[Value.int .u8 0, .int .u8 0, .int .u8 0, .int .u32 0, .int .u8 0, .int .u16 0, .int .u16 0, .int .u32 0, .string ⟨#[]⟩]) := by
            split
            · exact hv
            · exact zero_v
          rw [hif]
          exact hd2
        · have hse : sealB s.data.toList = false := by simp only [sealB, hl]; simpa using hsum
          have he : decErr s.data.toList = 2 := by simp [decErr, hf, hse]
          have hd : decMsg s.data.toList = Msg.zero := by simp [decMsg, he]
          rw [hd, he]
          exact decode_sum s h p0 p17 h0 h17 hsum w
      · have hf : formB s.data.toList = false := by
          simp only [formB, at8_of s 17 p17, hl]
          simp [h17]
        have he : decErr s.data.toList = 1 := by simp [decErr, hf]
        have hd : decMsg s.data.toList = Msg.zero := by simp [decMsg, he]
        rw [hd, he]
        exact decode_len s hs h h0 h17 w
    · have hf : formB s.data.toList = false := by
        simp only [formB, at8_of s 0 p0]
        simp [h0]
      have he : decErr s.data.toList = 1 := by simp [decErr, hf]
      have hd : decMsg s.data.toList = Msg.zero := by simp [decMsg, he]
      rw [hd, he]
      exact decode_first s hs h h0 w
  · have hf : formB s.data.toList = false := by
      simp only [formB, list_len]
      simp [h]
    have he : decErr s.data.toList = 1 := by simp [decErr, hf]
    have hd : decMsg s.data.toList = Msg.zero := by simp [decMsg, he]
    rw [hd, he]
    exact decode_short s (by omega) w
end Go.Proofs.Ytjkhbjgfoopomaa
/-
  What the document's Bank.Handle does: plain, and how its answer lies in memory.
-/
namespace Go.Proofs.Ytjkhbjgfoopomaa
open Go.RowKit
set_option linter.unusedVariables false
set_option linter.unusedSimpArgs false

theorem bs_same (a b : List UInt8) : ((bs a).toList == (bs b).toList) = decide (a = b) := by rw [bs_toList, bs_toList]; by_cases h : a = b <;> simp [h]
theorem legFold_asked (id l : Nat) (evs : List Ev) : ∀ s : Nat × Msg × Bool, (s.2.2 = true → s.1 ≠ 0) → ((evs.foldl (legStep id l) s).2.2 = true → (evs.foldl (legStep id l) s).1 ≠ 0) := by
  induction evs with
  | nil => intro s h; exact h
  | cons e r ih =>
    intro s h
    refine ih _ ?_
    unfold legStep
    (repeat' split) <;> first | exact h | (intro _; simp)
theorem legOf_asked (id l : Nat) (evs : List Ev) : (legOf id l evs).2.2 = true → (legOf id l evs).1 ≠ 0 := legFold_asked id l evs _ (by simp)

def otherB (x y : Msg) : Bool := decide (y.p ≠ x.p) || (decide (y.g ≠ x.g) || (decide (y.a ≠ x.a) || decide (y.m ≠ x.m)))
/-- the error of a message that is to this bank -/
def hErrT (x : Msg) (T : Nat × Msg × Bool) (n : Nat) : Nat :=
  if x.k = 1 ∧ T.2.2 = true ∧ otherB x T.2.1 = true then 11
  else if (x.k = 2 ∧ T.1 ≠ 1 ∧ T.1 ≠ 3) ∨ (x.k = 3 ∧ T.1 = 3) then 14
  else if x.k ≠ 2 ∧ T.1 = 0 ∧ 128 ≤ n then 10 else 0
def hErrOf (x : Msg) (evs : List Ev) : Nat := hErrT x (legOf x.i x.l evs) (keysOf evs).length
def hNewT (x : Msg) (T : Nat × Msg × Bool) (n : Nat) (can : Bool) : List Ev :=
  if hErrT x T n ≠ 0 then [] else if x.k = 1 ∧ T.1 = 0 then [⟨1, x, can⟩] else if x.k = 2 ∧ T.1 = 1 then [⟨2, x, false⟩] else if x.k = 3 ∧ T.1 ≠ 4 then [⟨3, x, false⟩] else []
/-- what has changed the bank behind it -/
def hEvsOf (x : Msg) (evs : List Ev) : List Ev := evs ++ hNewT x (legOf x.i x.l evs) (keysOf evs).length (canB x evs)

def strCell (l : List UInt8) : List Value := [.string (bs l)]
theorem strCell_length (l : List UInt8) : (strCell l).length = 1 := rfl
end Go.Proofs.Ytjkhbjgfoopomaa
/-
  The document's Same.
-/
namespace Go.Proofs.Ytjkhbjgfoopomaa
open Go.RowKit
set_option linter.unusedVariables false
set_option linter.unusedSimpArgs false
def plSame (x y : Pl) : Bool := x.b == y.b && x.p == y.p && x.g == y.g && x.a == y.a
def lsSame : List Pl → List Pl → Bool
  | x :: r, y :: s => plSame x y && lsSame r s
  | _, _ => true
/-- P9: the same payment? -/
def sameOf (a b : Pm) : Bool := a.id == b.id && a.dl == b.dl && a.memo == b.memo && a.legs.length == b.legs.length && lsSame a.legs b.legs
theorem lsSame_at : ∀ (k : Nat) {l m : List Pl} (hl : k < l.length) (hm : k < m.length), lsSame (l.take k) (m.take k) = true → plSame l[k] m[k] = false → lsSame l m = false
  | 0, x :: r, y :: s, _, _, _, h => by
    simp only [List.getElem_cons_zero] at h
    simp [lsSame, h]
  | k + 1, x :: r, y :: s, hl, hm, h0, h => by
    simp only [List.take_succ_cons, lsSame, Bool.and_eq_true] at h0
    simp only [List.getElem_cons_succ] at h
    simp [lsSame, lsSame_at k (by simpa using hl) (by simpa using hm) h0.2 h]
theorem lsSame_next : ∀ (k : Nat) {l m : List Pl} (hl : k < l.length) (hm : k < m.length), lsSame (l.take k) (m.take k) = true → plSame l[k] m[k] = true → lsSame (l.take (k + 1)) (m.take (k + 1)) = true
  | 0, x :: r, y :: s, _, _, _, h => by
    simp only [List.getElem_cons_zero] at h
    simp [lsSame, h]
  | k + 1, x :: r, y :: s, hl, hm, h0, h => by
    simp only [List.take_succ_cons, lsSame, Bool.and_eq_true] at h0
    simp only [List.getElem_cons_succ] at h
    rw [List.take_succ_cons, List.take_succ_cons, lsSame, h0.1, lsSame_next k (by simpa using hl) (by simpa using hm) h0.2 h]
    rfl
theorem TwoP.mk2 (w : World) (x y : Pm) : TwoP w x y ((w.alloc (.cells x.cells.toArray 70)).alloc (.cells y.cells.toArray 70)) := by
  refine ⟨((Below.refl _ _).alloc (Nat.le_refl _) _).alloc (by simp) _, ?_, ?_⟩
  · rw [Below.heap_alloc _ _ _ (by simp)]
    exact heap_alloc_self _ _
  · rw [show w.heap.size + 1 = (w.alloc (.cells x.cells.toArray 70)).heap.size from by simp]
    exact heap_alloc_self _ _
theorem TwoP.below {w u u' : World} {x y : Pm} (h : TwoP w x y u) (hb : Below u.heap.size u u') : TwoP w x y u' :=
  ⟨h.bel.trans (hb.mono h.bel.size), by rw [hb.block _ (block_lt h.one)]; exact h.one, by rw [hb.block _ (block_lt h.two)]; exact h.two⟩

end Go.Proofs.Ytjkhbjgfoopomaa
/-
  The document's Submit, where it answers an error.
-/
namespace Go.Proofs.Ytjkhbjgfoopomaa
open Go.RowKit
set_option linter.unusedVariables false
set_option linter.unusedSimpArgs false
theorem findFold_mem (id : Nat) (acts : List Dt) : ∀ s : Pm × Bool × Nat, (acts.foldl (findStep id) s).2.1 = true → (s.2.1 = true ∧ (acts.foldl (findStep id) s).1 = s.1) ∨ ∃ x, x ∈ acts ∧ x.kind = -1 ∧ x.pay.id = id ∧ (acts.foldl (findStep id) s).1 = x.pay := by
  induction acts with
  | nil => intro s h; exact .inl ⟨h, rfl⟩
  | cons x r ih =>
    intro s h
    simp only [List.foldl_cons] at h ⊢
    rcases ih (findStep id s x) h with ⟨h1, h2⟩ | ⟨y, hy, h1, h2, h3⟩
    · by_cases hk : x.kind = -1
      · by_cases hi : x.pay.id = id
        · exact .inr ⟨x, by simp, hk, hi, by rw [h2]; simp [findStep, hk, hi]⟩
        · left
          simp only [findStep, hk, hi, if_true, if_false] at h1 h2 ⊢
          exact ⟨h1, h2⟩
      · left
        simp only [findStep, hk, if_false] at h1 h2 ⊢
        exact ⟨h1, h2⟩
    · exact .inr ⟨y, by simp [hy], h1, h2, h3⟩
theorem findOf_mem {id : Nat} {acts : List Dt} (h : (findOf id acts).2.1 = true) : ∃ x, x ∈ acts ∧ x.kind = -1 ∧ x.pay.id = id ∧ (findOf id acts).1 = x.pay := by
  rcases findFold_mem id acts (noPm, false, 0) h with ⟨h1, _⟩ | h1
  · simp at h1
  · exact h1
/-- P9: the error of Submit -/
def subErr (p : Pm) (acts : List Dt) : Nat :=
  if wrongOf p = 0 then (if (findOf p.id acts).2.1 then (if sameOf p (findOf p.id acts).1 then 0 else 11) else if p.dl ≤ clockOf acts then 12 else if 32 ≤ (findOf p.id acts).2.2 then 10 else 0) else wrongOf p
/-- the payments that are kept are none too large -/
def PayOk (x : Dt) : Prop := x.pay.legs.length ≤ 4 ∧ x.pay.memo.length ≤ 1000
theorem wrongOf_few {p : Pm} (h : wrongOf p = 0) : p.legs.length ≤ 4 := by
  unfold wrongOf at h
  split at h
  · omega
  · omega

end Go.Proofs.Ytjkhbjgfoopomaa
/-
  append of one struct to a row of structs, as one step of a region that draws its order.
-/
namespace Go.Proofs.Ytjkhbjgfoopomaa
open Go.RowKit
set_option linter.unusedVariables false
theorem step_row {P : Program} {ops : Array Oper} {o : Oper} {a : Act} {K : Act → World → Prop} {Q : Exit → Act → World → Prop} {E : Prop} {α : Type} {f : α → List Value} {sz : Nat} (hf : ∀ x, (f x).length = sz) {W : World} (hgd : o.guard = none) (s x : Operand) (t : TypeId)
    (ho : o.op = .call { callee := .builtin .append, args := #[s, x], argTypes := #[t, t] }) (e : TypeId) (i : TypeInfo) (z : Value) (bytes : Nat) (ht : P.underlying t = some (.slice e)) (hi : P.info? e = some i) (hz : i.zero = some z)
    (hsize : i.size = sz) (hby : i.bytes = bytes) (hzs : z.cells.size = sz) (hsz : 0 < sz) (v : Value) (xs : List α) (b c : Nat) (y : α) (h1 : ∀ u ∈ f y, u.oneCell' = true) (h63 : xs.length + 1 ≤ maxLen) (hbytes : (xs.length + 1) * bytes ≤ 140737488355328)
    (hs : a.eval s = v) (hx : a.eval x = .slice (some ⟨b, 0, none⟩) 1 c) (hrow : RowOf W e sz f v xs) (hb : W.heap[b]? = some (.cells (f y).toArray e (0, 0)))
    (h : ∀ g cap w', RowOf w' e sz f (.slice (some ⟨g, 0, none⟩) (xs.length + 1) cap) (xs ++ [y]) → Kept (fun k => v.ownBlock = some k) W w' → (v.ownBlock = some g ∨ W.heap.size ≤ g) → g < w'.heap.size → K (a.put o.dst (.slice (some ⟨g, 0, none⟩) (xs.length + 1) cap)) w') :
    if Region.wanted o (yielded ops a.tmps) = true then Oper.wp P o a W K Q else E := by
  refine step_append_lies _ hgd s x t ho 0 e i z sz bytes ht hi hz hsize hby hzs hsz v xs.length (xs.flatMap f) hs hrow ⟨b, 0, none⟩ 1 c (f y) hx (by rw [hf]; omega) ?_ h1 (by decide) h63 hbytes (Nat.zero_le _) _ rfl ?_
  · intro j u hu
    exact World.news_of_block hb j u hu
  · intro g cap w' hown hgrow hat hlt
    refine h g cap w' (RowOf.to (xs := xs) hf hown (by simp) (by simp)) (Kept.of_grown hgrow) ?_ hlt
    rcases hat with h' | h'
    · exact .inl h'
    · exact .inr (by omega)
end Go.Proofs.Ytjkhbjgfoopomaa
/-
  The document's notary goes on: one act more.
-/
namespace Go.Proofs.Ytjkhbjgfoopomaa
open Go.RowKit
set_option linter.unusedVariables false
set_option linter.unusedSimpArgs false
theorem plInfo : (Try.prog.info? 57).map (fun i => (i.zero, i.size, i.bytes)) = some (some (.agg #[.int .u8 0, .int .u16 0, .int .u16 0, .int .u32 0]), 4, 12) := by kernel_rfl
theorem pl_each (x : Pl) : ∀ u ∈ x.cells, u.oneCell' = true := by
  intro u hu
  simp only [Pl.cells, List.mem_cons, List.not_mem_nil, or_false] at hu
  rcases hu with h | h | h | h <;> subst h <;> rfl
/-- what is asked hangs on nothing but number, memo and legs -/
theorem asksTo_at (i d d' : Nat) (m : List UInt8) (l : List Pl) (la la' : Option Addr) (lc lc' k but : Nat) : ∀ n, asksTo ⟨i, d, m, l, la, lc⟩ k but n = asksTo ⟨i, d', m, l, la', lc'⟩ k but n
  | 0 => rfl
  | n + 1 => by
    simp only [asksTo]
    rw [asksTo_at i d d' m l la la' lc lc' k but n]
    rfl
theorem asksOf_at (i d d' : Nat) (m : List UInt8) (l : List Pl) (la la' : Option Addr) (lc lc' k but : Nat) : asksOf ⟨i, d, m, l, la, lc⟩ k but = asksOf ⟨i, d', m, l, la', lc'⟩ k but := asksTo_at i d d' m l la la' lc lc' k but _
end Go.Proofs.Ytjkhbjgfoopomaa
/-
  The document's Submit, where the payment is new.
-/
namespace Go.Proofs.Ytjkhbjgfoopomaa
open Go.RowKit
set_option linter.unusedVariables false
set_option linter.unusedSimpArgs false
theorem stopAt2 {p : Prop} (h : Hid p) : p := h
def zeroMsg : Msg := ⟨0, 0, 0, 0, 0, 0, 0, 0, []⟩
end Go.Proofs.Ytjkhbjgfoopomaa
/-
  The document's Bank.Handle: errors.
-/
namespace Go.Proofs.Ytjkhbjgfoopomaa
open Go.RowKit
set_option linter.unusedVariables false
set_option linter.unusedSimpArgs false

theorem Box.drewN {w u : World} {cs : Array Value} (h : Box w cs u) (n : Nat) : Box w cs (u.drewN n) := ⟨h.bel.drewN n, h.lt, h.cell, h.fro⟩

end Go.Proofs.Ytjkhbjgfoopomaa
/-
  The document's Bank.Handle, for every text.
-/
namespace Go.Proofs.Ytjkhbjgfoopomaa
open Go.RowKit
set_option linter.unusedVariables false
set_option linter.unusedSimpArgs false

theorem decMsg_ok (l : List UInt8) : (decMsg l).ok := by
  unfold decMsg
  split
  · rename_i h
    unfold decErr at h
    split at h
    · omega
    · rename_i hf
      have : 22 ≤ l.length := by
        simp only [formB, Bool.not_eq_true, Bool.not_eq_false', Bool.and_eq_true, decide_eq_true_eq] at hf
        exact hf.1.1
      exact sayOf_ok this
  · exact zero_ok
theorem decMsg_fault (l : List UInt8) (h : decErr l = 0) : faultOf (decMsg l) = 0 := by
  have h0 := h
  unfold decErr at h
  split at h
  · omega
  · split at h
    · omega
    · simp only [decMsg, h0, if_true]
      exact h
theorem fault_kind (x : Msg) (h : faultOf x = 0) (ht : x.t ≠ 0) : 1 ≤ x.k ∧ x.k ≤ 3 ∧ x.l < 4 ∧ (x.k = 1 → x.a ≠ 0) := by
  unfold faultOf at h
  split at h
  · omega
  · rename_i hk
    split at h
    · omega
    · rename_i hw
      split at h
      · omega
      · rename_i hl
        simp only [kindB, Bool.not_eq_true, Bool.not_eq_false', Bool.and_eq_true, decide_eq_true_eq] at hk
        simp only [wayB, Bool.not_eq_true, Bool.not_eq_false'] at hw
        refine ⟨hk.1, ?_, by omega, ?_⟩
        · by_cases h3 : x.k ≤ 3
          · exact h3
          · rw [if_neg h3] at hw
            simp only [Bool.and_eq_true, decide_eq_true_eq] at hw
            exact absurd hw.1 ht
        · intro h1
          rw [if_pos h1] at h
          unfold termsOf at h
          split at h
          · omega
          · assumption

def rErr (node : Nat) (l : List UInt8) (evs : List Ev) : Nat := if decErr l ≠ 0 then decErr l else if (decMsg l).t ≠ node then 4 else hErrOf (decMsg l) evs
def rEvs (node : Nat) (l : List UInt8) (evs : List Ev) : List Ev := if rErr node l evs = 0 then hEvsOf (decMsg l) evs else evs
def rOuts (node : Nat) (l : List UInt8) (evs : List Ev) : List (List UInt8) := if rErr node l evs = 0 then [ansOf node (decMsg l).i (decMsg l).l (legOf (decMsg l).i (decMsg l).l (hEvsOf (decMsg l) evs)).1] else []

end Go.Proofs.Ytjkhbjgfoopomaa
