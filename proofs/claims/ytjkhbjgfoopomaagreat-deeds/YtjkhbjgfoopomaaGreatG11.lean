import Derived.Test.YtjkhbjgfoopomaaGreatRefDecodeSay
import Derived.Test.YtjkhbjgfoopomaaGreatG9
import Derived.Test.YtjkhbjgfoopomaaGreatG1
import Derived.Deep.RegionHeld3
import Derived.Test.YtjkhbjgfoopomaaGreatG6
import Derived.Test.YtjkhbjgfoopomaaGreatG5
import Derived.Test.YtjkhbjgfoopomaaGreatG7
import Derived.BigQuiet
import Derived.Test.YtjkhbjgfoopomaaGreatG8
import Derived.Test.YtjkhbjgfoopomaaGreatDecodeSay
/-
  The document's Decode, for every text.
-/
namespace Go.Proofs.YtjkhbjgfoopomaaGreat
open Go.RowKit
set_option linter.unusedVariables false

theorem refDecode_any (s : ByteArray) (hs : s.size ≤ 140737488351232) (w : World) :
    Calls Tryz.prog 53 #[.string s] w fun e w' => e = .returned (.tuple #[(decMsg s.data.toList).v, .int .i64 ((decErr s.data.toList : Nat) : Int)]) ∧ Below w.heap.size w w' := by
  by_cases h : 22 ≤ s.size
  · have p0 : 0 < s.size := by omega
    have p17 : 17 < s.size := by omega
    have hl := list_len s
    by_cases h0 : (s[0]'p0).toNat = 69
    · by_cases h17 : s.size = 22 + (s[17]'p17).toNat
      · have hf : formB s.data.toList = true := by
          simp [formB, at8_of s 0 p0, at8_of s 17 p17, h0, h, ← h17]
        by_cases hsum : val (cut s.data.toList (s.size - 4) s.size) = sumOf (cut s.data.toList 0 (s.size - 4))
        · have hse : sealB s.data.toList = true := by simp only [sealB, hl]; simpa using hsum
          have he : decErr s.data.toList = faultOf (sayOf s.data.toList) := by simp [decErr, hf, hse]
          have hd : decMsg s.data.toList = if faultOf (sayOf s.data.toList) = 0 then sayOf s.data.toList else Msg.zero := by unfold decMsg; rw [he]
          rw [hd, he]
          have q1 : 1 < s.size := by omega
          have q2 : 2 < s.size := by omega
          have q3 : 3 < s.size := by omega
          have q8 : 8 < s.size := by omega
          have hok : (sayOf s.data.toList).ok := sayOf_ok (by rw [list_len]; exact h)
          have hml : (sayOf s.data.toList).m.length ≤ 140737488351232 := by
            have hm : (sayOf s.data.toList).m.length ≤ s.data.toList.length := by simp [sayOf, cut]; omega
            have hb := byte_lt (s[17]'p17)
            omega
          have hfa := refFault_any (sayOf s.data.toList) hok hml
          have hv : (sayOf s.data.toList).v = .agg #[Value.int .u8 ((s[1]'q1).toNat : Int), .int .u8 ((s[2]'q2).toNat : Int), .int .u8 ((s[3]'q3).toNat : Int), .int .u32 (val (cut s.data.toList 4 8) : Int), .int .u8 ((s[8]'q8).toNat : Int), .int .u16 (val (cut s.data.toList 9 11) : Int), .int .u16 (val (cut s.data.toList 11 13) : Int), .int .u32 (val (cut s.data.toList 13 17) : Int), .string (s.extract 18 (s.size - 4))] := by
            rw [say_of s h q1 q2 q3 q8]
            simp only [Msg.v, Msg.cells, bs_of]
          rw [hv] at hfa
          have hd2 := refDecode_tail s h p0 p17 q1 q2 q3 q8 h0 h17 hsum _ _ _ _ _ rfl rfl rfl rfl hok.2.2.2.1 hok.2.2.2.2.2.1 hok.2.2.2.2.2.2.1 hok.2.2.2.2.2.2.2 hfa w
          have hif : (if faultOf (sayOf s.data.toList) = 0 then sayOf s.data.toList else Msg.zero).v = .agg (if faultOf (sayOf s.data.toList) = 0 then #[Value.int .u8 ((s[1]'q1).toNat : Int), .int .u8 ((s[2]'q2).toNat : Int), .int .u8 ((s[3]'q3).toNat : Int), .int .u32 (val (cut s.data.toList 4 8) : Int), .int .u8 ((s[8]'q8).toNat : Int), .int .u16 (val (cut s.data.toList 9 11) : Int), .int .u16 (val (cut s.data.toList 11 13) : Int), .int .u32 (val (cut s.data.toList 13 17) : Int), .string (s.extract 18 (s.size - 4))] else #[Value.int .u8 0, .int .u8 0, .int .u8 0, .int .u32 0, .int .u8 0, .int .u16 0, .int .u16 0, .int .u32 0, .string ⟨#[]⟩]) := by
            split
            · exact hv
            · exact zero_v
          rw [hif]
          exact hd2
        · have hse : sealB s.data.toList = false := by simp only [sealB, hl]; simpa using hsum
          have he : decErr s.data.toList = 2 := by simp [decErr, hf, hse]
          have hd : decMsg s.data.toList = Msg.zero := by simp [decMsg, he]
          rw [hd, he]
          exact refDecode_sum s h p0 p17 h0 h17 hsum w
      · have hf : formB s.data.toList = false := by
          simp only [formB, at8_of s 17 p17, hl]
          simp [h17]
        have he : decErr s.data.toList = 1 := by simp [decErr, hf]
        have hd : decMsg s.data.toList = Msg.zero := by simp [decMsg, he]
        rw [hd, he]
        exact refDecode_len s hs h p0 p17 h0 h17 w
    · have hf : formB s.data.toList = false := by
        simp only [formB, at8_of s 0 p0]
        simp [h0]
      have he : decErr s.data.toList = 1 := by simp [decErr, hf]
      have hd : decMsg s.data.toList = Msg.zero := by simp [decMsg, he]
      rw [hd, he]
      exact refDecode_first s hs h p0 h0 w
  · have hf : formB s.data.toList = false := by
      simp only [formB, list_len]
      simp [h]
    have he : decErr s.data.toList = 1 := by simp [decErr, hf]
    have hd : decMsg s.data.toList = Msg.zero := by simp [decMsg, he]
    rw [hd, he]
    exact refDecode_short s (by omega) w
end Go.Proofs.YtjkhbjgfoopomaaGreat
/-
  What the document's Bank.Handle does: plain, and how its answer lies in memory.
-/
namespace Go.Proofs.YtjkhbjgfoopomaaGreat
open Go.RowKit
set_option linter.unusedVariables false
set_option linter.unusedSimpArgs false

theorem bs_same (a b : List UInt8) : ((bs a).toList == (bs b).toList) = decide (a = b) := by rw [bs_toList, bs_toList]; by_cases h : a = b <;> simp [h]
def strCell (l : List UInt8) : List Value := [.string (bs l)]
structure Handed (w w' : World) (B node : Nat) (evs' : List Ev) (v v' lv : Value) (outs : List (List UInt8)) : Prop where
  to : RBTo w w' B node evs' v v'
  row : RowOf w' 9 1 strCell lv outs
  fresh : ∀ g, lv.ownBlock = some g → w.heap.size ≤ g ∧ v'.ownBlock ≠ some g
theorem RBTo.then {w u u2 : World} {B node : Nat} {evs' : List Ev} {v v' : Value} (h : RBTo w u B node evs' v v') (hb : Below u.heap.size u u2) : RBTo w u2 B node evs' v v' :=
  ⟨h.rb.below hb, h.kept.trans (Kept.of_below (S := fun _ => False) hb) (fun i hi => hi.elim), h.own, h.ap⟩
theorem RBTo.same {w u : World} {B node : Nat} {evs : List Ev} {v : Value} (hR : RB w B node evs v) (hap : v.ownBlock ≠ some B) (hb : Below w.heap.size w u) : RBTo w u B node evs v v :=
  ⟨hR.below hb, Kept.of_below hb, fun g h => .inl h, hap⟩
theorem Handed.nil {w u : World} {B node : Nat} {evs' : List Ev} {v v' : Value} (h : RBTo w u B node evs' v v') : Handed w u B node evs' v v' (.slice none 0 0) [] :=
  ⟨h, RowOf.nil _ _, fun g hg => by simp [Value.ownBlock] at hg⟩
end Go.Proofs.YtjkhbjgfoopomaaGreat
/-
  The document's Bank.Handle: errors.
-/
namespace Go.Proofs.YtjkhbjgfoopomaaGreat
open Go.RowKit
set_option linter.unusedVariables false
set_option linter.unusedSimpArgs false

theorem Box.drewN {w u : World} {cs : Array Value} (h : Box w cs u) (n : Nat) : Box w cs (u.drewN n) := ⟨h.bel.drewN n, h.lt, h.cell, h.fro⟩

end Go.Proofs.YtjkhbjgfoopomaaGreat
/-
  The program's Bank.Handle.
-/
namespace Go.Proofs.YtjkhbjgfoopomaaGreat
open Go.RowKit
set_option linter.unusedVariables false
set_option linter.unusedSimpArgs false

/-- the program's bank has gone on, and hands a fresh list out -/
structure XHanded (w w' : World) (B node : Nat) (ac' : List Ac) (ls' : List Lg) (va vl va' vl' lv : Value) (outs : List (List UInt8)) : Prop where
  to : XBTo w w' B node ac' ls' va vl va' vl'
  row : RowOf w' 9 1 strCell lv outs
  fresh : ∀ g, lv.ownBlock = some g → w.heap.size ≤ g ∧ va'.ownBlock ≠ some g ∧ vl'.ownBlock ≠ some g
theorem XHanded.nil {w u : World} {B node : Nat} {ac' : List Ac} {ls' : List Lg} {va vl va' vl' : Value} (h : XBTo w u B node ac' ls' va vl va' vl') : XHanded w u B node ac' ls' va vl va' vl' (.slice none 0 0) [] :=
  ⟨h, RowOf.nil _ _, fun g hg => by simp [Value.ownBlock] at hg⟩
theorem XHanded.then {w u u2 : World} {B node : Nat} {ac' : List Ac} {ls' : List Lg} {va vl va' vl' lv : Value} {outs : List (List UInt8)} (h : XHanded w u B node ac' ls' va vl va' vl' lv outs) (hb : Below u.heap.size u u2) : XHanded w u2 B node ac' ls' va vl va' vl' lv outs :=
  ⟨h.to.then hb, h.row.below hb, h.fresh⟩
end Go.Proofs.YtjkhbjgfoopomaaGreat
/-
  The document's Bank.Handle, for every text.
-/
namespace Go.Proofs.YtjkhbjgfoopomaaGreat
open Go.RowKit
set_option linter.unusedVariables false
set_option linter.unusedSimpArgs false

theorem decMsg_ok (l : List UInt8) : (decMsg l).ok := by
  unfold decMsg
  split
  · rename_i h
    unfold decErr at h
    split at h
    · omega
    · rename_i hf
      have : 22 ≤ l.length := by
        simp only [formB, Bool.not_eq_true, Bool.not_eq_false', Bool.and_eq_true, decide_eq_true_eq] at hf
        exact hf.1.1
      exact sayOf_ok this
  · exact zero_ok
theorem decMsg_fault (l : List UInt8) (h : decErr l = 0) : faultOf (decMsg l) = 0 := by
  have h0 := h
  unfold decErr at h
  split at h
  · omega
  · split at h
    · omega
    · simp only [decMsg, h0, if_true]
      exact h
end Go.Proofs.YtjkhbjgfoopomaaGreat
