/-
  The program's bank in memory: its node, its accounts, its legs; the walks that only read it.
-/
import Derived.Test.YtjkhbjgfoopomaaGreatMsg
import Derived.Test.YtjkhbjgfoopomaaGreatLaw
import Derived.Test.YtjkhbjgfoopomaaGreatMem2
import Derived.BigQuiet
namespace Go.Proofs.YtjkhbjgfoopomaaGreat
open Go.RowKit
set_option linter.unusedVariables false
set_option linter.unusedSimpArgs false

structure Ac where
  n : Nat
  b : Nat
def Ac.ok (x : Ac) : Prop := x.n < 65536 ∧ x.b < 4294967296
def Ac.cells (x : Ac) : List Value := [.int .u16 (x.n : Int), .int .u32 (x.b : Int)]
theorem Ac.cells_length (x : Ac) : x.cells.length = 2 := rfl
structure Lg where
  id : Nat
  l : Nat
  st : Nat
  p : Nat
  g : Nat
  a : Nat
  m : List UInt8
def Lg.ok (x : Lg) : Prop := x.id < 4294967296 ∧ x.l < 256 ∧ x.st < 256 ∧ x.p < 65536 ∧ x.g < 65536 ∧ x.a < 4294967296
def Lg.cells (x : Lg) : List Value := [.int .u32 (x.id : Int), .int .u8 (x.l : Int), .int .u8 (x.st : Int), .int .u16 (x.p : Int), .int .u16 (x.g : Int), .int .u32 (x.a : Int), .string (bs x.m)]
theorem Lg.cells_length (x : Lg) : x.cells.length = 7 := rfl
/-- a bank of the program's lies at B -/
structure XB (w : World) (B node : Nat) (ac : List Ac) (ls : List Lg) (va vl : Value) : Prop where
  blk : w.heap[B]? = some (.cells #[.int .u8 (node : Int), va, vl] 145 (0, 0))
  arow : RowOf w 179 2 Ac.cells va ac
  lrow : RowOf w 188 7 Lg.cells vl ls
theorem XB.lt {w : World} {B node : Nat} {ac : List Ac} {ls : List Lg} {va vl : Value} (h : XB w B node ac ls va vl) : B < w.heap.size := block_lt h.blk
theorem XB.below {w u : World} {B node : Nat} {ac : List Ac} {ls : List Lg} {va vl : Value} (h : XB w B node ac ls va vl) (hb : Below w.heap.size w u) : XB u B node ac ls va vl :=
  ⟨by rw [hb.block B h.lt]; exact h.blk, h.arow.below hb, h.lrow.below hb⟩

def hasB (a : Nat) (ac : List Ac) : Bool := ac.any fun x => decide (x.n = a)
set_option maxRecDepth 100000 in
set_option maxHeartbeats 1000000 in
theorem has_any (a : Nat) (ha : a < 65536) (w : World) (B node : Nat) (ac : List Ac) (ls : List Lg) (va vl : Value) (hX : XB w B node ac ls va vl) (hok : ∀ x, x ∈ ac → x.ok) (hlen : ac.length ≤ 1000000) :
    Calls Tryz.prog 92 #[.pointer (some ⟨B, 0, none⟩), .int .u16 (a : Int)] w fun e w' => e = .returned (.bool (hasB a ac)) ∧ w' = w := by
  obtain ⟨ad, cap, hv, hev⟩ := hX.arow.form Ac.cells_length
  subst hv
  have hc : ∀ o, _ = _ := fun o => cell_at hX.blk o
  go_enter Tryz.func92, Tryz.ntmps92
  go_wp2
  go_loopw [11] (fun c u => ∃ k : Nat, k ≤ ac.length ∧ c = .int .i64 k ∧ hasB a (ac.take k) = false ∧ u = w) (fun c _ => ac.length - (intOf c).toNat)
  case atStart => exact ⟨0, Nat.zero_le _, rfl, rfl, rfl⟩
  case round =>
    obtain ⟨k, hk, rfl, hno, rfl⟩ := hrel
    replace hno := hide hno
    by_cases hlt : k < ac.length
    · obtain ⟨g, hg, hcell, _⟩ := hev k hlt
      subst hg
      have hs : Hid (hasB a (ac.take (k + 1)) = (hasB a (ac.take k) || decide (ac[k].n = a))) := hide (by unfold hasB; rw [List.take_succ_eq_append_getElem hlt, List.any_append]; simp only [List.any_cons, List.any_nil, Bool.or_false])
      have ht : Hid (ac[k].n = a → hasB a ac = true) := hide (fun h => by unfold hasB; rw [List.any_eq_true]; exact ⟨ac[k], List.getElem_mem hlt, by simp [h]⟩)
      have c0 := hcell 0 (by decide)
      have hek := hok ac[k] (List.getElem_mem hlt)
      clear hcell hev
      generalize ac[k] = E at *
      obtain ⟨en, eb⟩ := E
      obtain ⟨h1, h2⟩ := hek
      simp only [Ac.cells, List.getElem?_cons_zero, List.getElem?_cons_succ, Nat.add_zero] at c0 h1 h2
      by_cases hz : en = a
      · have dz : ((en : Int) == (a : Int)) = true := by simp; omega
        have hq : Hid (hasB a ac = true) := hide (ht.out hz)
        clear hs ht hz
        go_wp2
        go_ret
        exact ⟨by rw [hq.out]; rfl, rfl⟩
      · have dz : ((en : Int) == (a : Int)) = false := by simp; omega
        have hq : Hid (hasB a (ac.take (k + 1)) = false) := hide (by rw [hs.out, hno.out]; simp [hz])
        clear hs ht hz
        go_wp2
        exact ⟨⟨k + 1, hlt, by go_num, hq.out, trivial⟩, by simp [intOf]; omega⟩
    · obtain rfl : k = ac.length := by omega
      have hq : Hid (hasB a ac = false) := hide (by have := hno.out; rwa [List.take_length] at this)
      go_wp2
      go_ret
      exact ⟨by rw [hq.out]; rfl, rfl⟩
/-- no leg ahead of k is this one -/
def noneB (id l : Nat) (ls : List Lg) : Bool := ls.all fun x => !(decide (x.id = id) && decide (x.l = l))
def findB (id l : Nat) (ls : List Lg) : Nat := (ls.takeWhile fun x => !(decide (x.id = id) && decide (x.l = l))).length
theorem findB_at (id l : Nat) (ls : List Lg) (k : Nat) (hn : noneB id l (ls.take k) = true) (hk : k ≤ ls.length) (hy : ∀ h : k < ls.length, ls[k].id = id ∧ ls[k].l = l) : findB id l ls = k := by
  induction ls generalizing k with
  | nil => simp at hk; simp [findB, hk]
  | cons x r ih =>
    cases k with
    | zero =>
      have := hy (by simp)
      simp at this
      simp [findB, this]
    | succ k =>
      simp only [noneB, List.take_succ_cons, List.all_cons, Bool.and_eq_true] at hn
      have h2 := ih k (by simpa [noneB] using hn.2) (by simpa using hk) (fun h => by have := hy (by simpa using h); simp only [List.getElem_cons_succ] at this; exact this)
      unfold findB at *
      rw [List.takeWhile_cons, if_pos hn.1, List.length_cons, h2]
set_option maxRecDepth 100000 in
set_option maxHeartbeats 1000000 in
theorem find_any (id l : Nat) (hid : id < 4294967296) (hl : l < 256) (w : World) (B node : Nat) (ac : List Ac) (ls : List Lg) (va vl : Value) (hX : XB w B node ac ls va vl) (hok : ∀ x, x ∈ ls → x.ok) (hlen : ls.length ≤ 1000000) :
    Calls Tryz.prog 118 #[.pointer (some ⟨B, 0, none⟩), .int .u32 (id : Int), .int .u8 (l : Int)] w fun e w' => e = .returned (.int .i64 (findB id l ls : Int)) ∧ w' = w := by
  obtain ⟨ad, cap, hv, hev⟩ := hX.lrow.form Lg.cells_length
  subst hv
  have hc : ∀ o, _ = _ := fun o => cell_at hX.blk o
  go_enter Tryz.func118, Tryz.ntmps118
  go_wp2
  go_loopw [7] (fun c u => ∃ k : Nat, k ≤ ls.length ∧ c = .int .i64 k ∧ noneB id l (ls.take k) = true ∧ u = w) (fun c _ => ls.length - (intOf c).toNat)
  case atStart => exact ⟨0, Nat.zero_le _, rfl, rfl, rfl⟩
  case round =>
    obtain ⟨k, hk, rfl, hno, rfl⟩ := hrel
    replace hno := hide hno
    have hlk : (k : Int) ≤ (ls.length : Int) := by omega
    by_cases hlt : k < ls.length
    · obtain ⟨g, hg, hcell, _⟩ := hev k hlt
      subst hg
      have hlk2 : (k : Int) < (ls.length : Int) := by omega
      have dlt : decide ((k : Int) < (ls.length : Int)) = true := by simp; omega
      have hs : Hid (noneB id l (ls.take (k + 1)) = (noneB id l (ls.take k) && !(decide (ls[k].id = id) && decide (ls[k].l = l)))) := hide (by unfold noneB; rw [List.take_succ_eq_append_getElem hlt, List.all_append]; simp only [List.all_cons, List.all_nil, Bool.and_true])
      have ht : Hid (ls[k].id = id → ls[k].l = l → findB id l ls = k) := hide (fun h1 h2 => findB_at id l ls k hno.out hk (fun _ => ⟨h1, h2⟩))
      have c0 := hcell 0 (by decide)
      have c1 := hcell 1 (by decide)
      have hek := hok ls[k] (List.getElem_mem hlt)
      clear hcell hev
      generalize ls[k] = E at *
      obtain ⟨ei, el, es, ep, eg, ea, em⟩ := E
      obtain ⟨h1, h2, _, _, _, _⟩ := hek
      simp only [Lg.cells, List.getElem?_cons_zero, List.getElem?_cons_succ, Nat.add_zero] at c0 c1 h1 h2
      by_cases hz : ei = id
      · have dz : ((ei : Int) != (id : Int)) = false := by simp; omega
        by_cases hy : el = l
        · have dy : ((el : Int) != (l : Int)) = false := by simp; omega
          have hq : Hid (findB id l ls = k) := hide (ht.out hz hy)
          clear hs ht hz hy
          go_wp2
          go_ret
          exact ⟨by rw [hq.out]; rfl, rfl⟩
        · have dy : ((el : Int) != (l : Int)) = true := by simp; omega
          have hq : Hid (noneB id l (ls.take (k + 1)) = true) := hide (by rw [hs.out, hno.out]; simp [hy])
          clear hs ht hz hy
          go_wp2
          exact ⟨⟨k + 1, hlt, by go_num, hq.out, trivial⟩, by simp [intOf]; omega⟩
      · have dz : ((ei : Int) != (id : Int)) = true := by simp; omega
        have hq : Hid (noneB id l (ls.take (k + 1)) = true) := hide (by rw [hs.out, hno.out]; simp [hz])
        clear hs ht hz
        go_wp2
        exact ⟨⟨k + 1, hlt, by go_num, hq.out, trivial⟩, by simp [intOf]; omega⟩
    · obtain rfl : k = ls.length := by omega
      have hq : Hid (findB id l ls = ls.length) := hide (findB_at id l ls ls.length hno.out (Nat.le_refl _) (fun h => by omega))
      have dlt : decide ((ls.length : Int) < (ls.length : Int)) = false := by simp
      clear hev
      go_wp2
      go_ret
      exact ⟨by rw [hq.out]; rfl, rfl⟩
end Go.Proofs.YtjkhbjgfoopomaaGreat
