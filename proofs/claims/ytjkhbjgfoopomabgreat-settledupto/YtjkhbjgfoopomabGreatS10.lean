import Derived.Test.YtjkhbjgfoopomabGreatS9
import Derived.Test.YtjkhbjgfoopomabGreatS3
import Derived.Test.YtjkhbjgfoopomabGreatS1
import Derived.Test.YtjkhbjgfoopomabGreatS2
import Derived.Test.YtjkhbjgfoopomabGreatS4
import Derived.BigQuiet
import Derived.Lib.ConvBytes
/-
  The program's notary: hear; fault.
-/
namespace Go.Proofs.YtjkhbjgfoopomabGreat
open Go.RowKit
set_option linter.unusedVariables false
set_option linter.unusedSimpArgs false
/-- the payment behind a bank's word; what is said; the error -/
def hearX (x : Xp) (k l : Nat) : Xp × List (List UInt8) × Nat := if k = 4 then ((prepX x l).1, (prepX x l).2, 0) else if k = 5 then refX x l else ((doneX x l).1, [], (doneX x l).2)
set_option maxRecDepth 100000 in
set_option maxHeartbeats 2000000 in
theorem hear_any (x : Xp) (hx : x.fine) (k l : Nat) (hk : k = 4 ∨ k = 5 ∨ k = 6) (hl : l < 4) (w : World) (b : Nat) (hP : PBox w b x) (hn : ∀ g, x.pm.lv.ownBlock = some g → g ≠ b) :
    Calls Tryz.prog 145 #[.pointer (some ⟨b, 0, none⟩), .int .u8 (k : Int), .int .u8 (l : Int)] w fun e w' => ∃ lv, e = .returned (.tuple #[lv, .int .i64 ((hearX x k l).2.2 : Int)]) ∧ Heard w w' b (hearX x k l).1 lv (hearX x k l).2.1 := by
  rcases hk with rfl | rfl | rfl
  · have hC := hide (hearPrepared_any x hx l hl w b hP hn)
    have hq : Hid (hearX x 4 l = ((prepX x l).1, (prepX x l).2, 0)) := hide (by simp [hearX])
    generalize hearX x 4 l = Z at *
    generalize prepX x l = Y at *
    go_enter Tryz.func145, Tryz.ntmps145
    go_wp2_with fail
    refine (hC.out).mono ?_
    rintro e w1 ⟨lv, rfl, hH⟩
    replace hH := hide hH
    clear hC
    go_wp2
    go_ret2
    exact ⟨_, by rw [hq.out]; rfl, by rw [hq.out]; exact hH.out⟩
  · have hC := hide (hearRefused_any x hx l hl w b hP hn)
    have hq : Hid (hearX x 5 l = refX x l) := hide (by simp [hearX])
    generalize hearX x 5 l = Z at *
    generalize refX x l = Y at *
    obtain ⟨y1, y2, y3⟩ := Y
    simp only at hC
    go_enter Tryz.func145, Tryz.ntmps145
    go_wp2_with fail
    refine (hC.out).mono ?_
    rintro e w1 ⟨lv, rfl, hH⟩
    replace hH := hide hH
    clear hC
    go_wp2
    go_ret2
    exact ⟨_, by rw [hq.out]; rfl, by rw [hq.out]; exact hH.out⟩
  · have hC := hide (hearDone_any x hx l hl w b hP hn)
    have hq : Hid (hearX x 6 l = ((doneX x l).1, [], (doneX x l).2)) := hide (by simp [hearX])
    generalize hearX x 6 l = Z at *
    generalize doneX x l = Y at *
    obtain ⟨y1, y2⟩ := Y
    simp only at hC hq
    go_enter Tryz.func145, Tryz.ntmps145
    go_wp2_with fail
    refine (hC.out).mono ?_
    rintro e w1 ⟨rfl, hB, hK⟩
    replace hB := hide hB
    replace hK := hide hK
    clear hC
    go_wp2
    go_ret2
    exact ⟨_, by rw [hq.out]; rfl, by rw [hq.out]; exact Heard.of hB.out hK.out (Below.refl _ _) (RowOf.nil _ _) (fun g hg => by simp [Value.ownBlock] at hg)⟩
set_option maxRecDepth 100000 in
set_option maxHeartbeats 1000000 in
theorem xfault_any (p : Pm) (hp : p.ok) (hm : p.memo.length ≤ 140737488351232) (hll : p.legs.length ≤ 11728124029269) (w : World) (hR : LegsAt w p.la p.legs) :
    Calls Tryz.prog 59 #[p.v] w fun e w' => e = .returned (.int .i64 (wrongOf p : Int)) ∧ Below w.heap.size w w' := by
  obtain ⟨pi, pd, pm, pl, pa, pc⟩ := p
  obtain ⟨hpi, hpd, hpl⟩ := hp
  simp only [Pm.v, Pm.lv] at *
  have hms : (bs pm).size ≤ maxLen := by rw [bs_size]; unfold maxLen; omega
  have hIs := hide (fun n (hn : n < 256) u => isBank_any n hn u)
  go_enter Tryz.func59, Tryz.ntmps59
  by_cases hz : pl.length = 0
  · have hq : Hid (wrongOf ⟨pi, pd, pm, pl, pa, pc⟩ = 5) := hide (by simp [wrongOf, hz])
    have dz : ((pl.length : Int) == 0) = true := by simp [hz]
    go_wp2
    go_ret
    refine ⟨by rw [hq.out]; rfl, ?_⟩
    exact (Below.refl _ _).alloc (Nat.le_refl _) _
  by_cases h4 : 4 < pl.length
  · have hq : Hid (wrongOf ⟨pi, pd, pm, pl, pa, pc⟩ = 5) := hide (by simp [wrongOf, h4])
    have dz : ((pl.length : Int) == 0) = false := by simp [hz]
    have dz4 : decide ((pl.length : Int) > 4) = true := by simp; omega
    have dz5 : decide ((4 : Int) < (pl.length : Int)) = true := by simp; omega
    go_wp2
    go_ret
    refine ⟨by rw [hq.out]; rfl, ?_⟩
    exact (Below.refl _ _).alloc (Nat.le_refl _) _
  have dz : ((pl.length : Int) == 0) = false := by simp [hz]
  have dz4 : decide ((pl.length : Int) > 4) = false := by simp; omega
  have hw : Hid (wrongOf ⟨pi, pd, pm, pl, pa, pc⟩ = if legsErr pl = 0 then (if memoB pm then 0 else 7) else legsErr pl) := hide (by simp [wrongOf, hz, h4])
  go_wp2
  go_loopw [17] (fun c u => ∃ k : Nat, k ≤ pl.length ∧ c = .int .i64 k ∧ legsErr (pl.take k) = 0 ∧ u = w.alloc (.cells #[.int .u32 (pi : Int), .int .u64 (pd : Int), .string (bs pm), .slice pa pl.length pc] 69)) (fun c _ => pl.length - (intOf c).toNat)
  case atStart => exact ⟨0, Nat.zero_le _, rfl, rfl, rfl⟩
  case round =>
    obtain ⟨k, hk, rfl, he, rfl⟩ := hrel
    have hb : Hid (Below w.heap.size w (w.alloc (.cells #[.int .u32 (pi : Int), .int .u64 (pd : Int), .string (bs pm), .slice pa pl.length pc] 69))) := hide ((Below.refl _ _).alloc (Nat.le_refl _) _)
    by_cases hlt : k < pl.length
    · have hlk : (k : Int) < (pl.length : Int) := by omega
      have dl : decide ((k : Int) < (pl.length : Int)) = true := by simp; omega
      obtain ⟨ga, hg, hgl, hcell⟩ := (hR.below hb.out) k hlt
      subst hg
      have c0 := hcell 0 _ rfl
      rw [show (ga.add (k * 4)).add 0 = ga.add (k * 4) from rfl] at c0
      have c3 : World.cell? _ ⟨(ga.add (k * 4)).block, (ga.add (k * 4)).off + 3, none⟩ = _ := hcell 3 _ rfl
      have hek := hpl pl[k] (List.getElem_mem hlt)
      have hat := hide (legsErr_at hlt he)
      have hnx := hide (legsErr_next hlt he)
      clear hcell hpl hR
      generalize pl[k] = E at *
      obtain ⟨lb, lp, lg, la⟩ := E
      obtain ⟨hlb, hlp, hlg, hla⟩ := hek
      simp only at c0 c3
      simp only at hlb hlp hlg hla
      have hIb := hide (hIs.out lb hlb)
      clear hIs
      cases hbb : bankB lb with
      | false =>
        rw [hbb] at hIb
        have hno : lb < 1 ∨ 7 < lb := by
          simp only [bankB, Bool.and_eq_false_iff, decide_eq_false_iff_not] at hbb
          omega
        have hq : Hid (wrongOf ⟨pi, pd, pm, pl, some ga, pc⟩ = 4) := hide (by
          have e : plErr ⟨lb, lp, lg, la⟩ = 4 := by simp only [plErr, if_pos hno]
          rw [hw.out, hat.out (by rw [e]; decide), e]; rfl)
        clear hat hnx hw hno hbb
        go_wp2_with fail
        refine (hIb.out _).mono ?_
        rintro e w1 ⟨rfl, rfl⟩
        clear hIb
        go_wp2
        go_ret
        exact ⟨by rw [hq.out]; rfl, hb.out⟩
      | true =>
        rw [hbb] at hIb
        have hyes : ¬ (lb < 1 ∨ 7 < lb) := by
          simp only [bankB, Bool.and_eq_true, decide_eq_true_eq] at hbb
          omega
        clear hbb
        by_cases ha : la = 0
        · have hq : Hid (wrongOf ⟨pi, pd, pm, pl, some ga, pc⟩ = 6) := hide (by
            have e : plErr ⟨lb, lp, lg, la⟩ = 6 := by simp only [plErr, if_neg hyes, if_pos (show la < 1 by omega)]
            rw [hw.out, hat.out (by rw [e]; decide), e]; rfl)
          clear hat hnx hw hyes
          subst ha
          go_wp2_with fail
          refine (hIb.out _).mono ?_
          rintro e w1 ⟨rfl, rfl⟩
          clear hIb
          go_wp2
          go_ret
          exact ⟨by rw [hq.out]; rfl, hb.out⟩
        · have da : ((la : Int) == 0) = false := by simp; omega
          have hq := hide (hnx.out (by simp only [plErr, if_neg hyes, if_neg (show ¬ la < 1 by omega)]))
          clear hat hnx hw hyes ha
          go_wp2_with fail
          refine (hIb.out _).mono ?_
          rintro e w1 ⟨rfl, rfl⟩
          clear hIb
          go_wp2
          exact ⟨⟨k + 1, hlt, by go_num, hq.out, trivial⟩, by simp [intOf]; omega⟩
    · obtain rfl : k = pl.length := by omega
      have dl : decide ((pl.length : Int) < (pl.length : Int)) = false := by simp
      rw [List.take_length] at he
      have hq : Hid (wrongOf ⟨pi, pd, pm, pl, pa, pc⟩ = if memoB pm then 0 else 7) := hide (by rw [hw.out]; simp [he])
      have hmd := hide (bs_data pm)
      clear hw he hIs
      go_wp2_with fail
      refine (isMemo_any (bs pm) hms _).mono ?_
      rintro e w1 ⟨rfl, rfl⟩
      rw [hmd.out]
      cases hbb : memoB pm with
      | true =>
        rw [hbb] at hq
        clear hbb
        go_wp2
        go_ret
        exact ⟨by rw [hq.out]; rfl, hb.out⟩
      | false =>
        rw [hbb] at hq
        clear hbb
        go_wp2
        go_ret
        exact ⟨by rw [hq.out]; rfl, hb.out⟩
end Go.Proofs.YtjkhbjgfoopomabGreat
/-
  The program's bank in memory: its node, its accounts, its legs; the walks that only read it.
-/
namespace Go.Proofs.YtjkhbjgfoopomabGreat
open Go.RowKit
set_option linter.unusedVariables false
set_option linter.unusedSimpArgs false

structure Ac where
  n : Nat
  b : Nat
def Ac.ok (x : Ac) : Prop := x.n < 65536 ∧ x.b < 4294967296
def Ac.cells (x : Ac) : List Value := [.int .u16 (x.n : Int), .int .u32 (x.b : Int)]
theorem Ac.cells_length (x : Ac) : x.cells.length = 2 := rfl
structure Lg where
  id : Nat
  l : Nat
  st : Nat
  p : Nat
  g : Nat
  a : Nat
  m : List UInt8
def Lg.ok (x : Lg) : Prop := x.id < 4294967296 ∧ x.l < 256 ∧ x.st < 256 ∧ x.p < 65536 ∧ x.g < 65536 ∧ x.a < 4294967296
def Lg.cells (x : Lg) : List Value := [.int .u32 (x.id : Int), .int .u8 (x.l : Int), .int .u8 (x.st : Int), .int .u16 (x.p : Int), .int .u16 (x.g : Int), .int .u32 (x.a : Int), .string (bs x.m)]
theorem Lg.cells_length (x : Lg) : x.cells.length = 7 := rfl
/-- a bank of the program's lies at B -/
structure XB (w : World) (B node : Nat) (ac : List Ac) (ls : List Lg) (va vl : Value) : Prop where
  blk : w.heap[B]? = some (.cells #[.int .u8 (node : Int), va, vl] (tyAt w B) (0, 0))
  arow : RowOf w 130 2 Ac.cells va ac
  lrow : RowOf w 151 7 Lg.cells vl ls
theorem XB.lt {w : World} {B node : Nat} {ac : List Ac} {ls : List Lg} {va vl : Value} (h : XB w B node ac ls va vl) : B < w.heap.size := block_lt h.blk
theorem XB.below {w u : World} {B node : Nat} {ac : List Ac} {ls : List Lg} {va vl : Value} (h : XB w B node ac ls va vl) (hb : Below w.heap.size w u) : XB u B node ac ls va vl :=
  ⟨ty_of (by rw [hb.block B h.lt]; exact h.blk), h.arow.below hb, h.lrow.below hb⟩

def hasB (a : Nat) (ac : List Ac) : Bool := ac.any fun x => decide (x.n = a)
set_option maxRecDepth 100000 in
set_option maxHeartbeats 1000000 in
theorem has_any (a : Nat) (ha : a < 65536) (w : World) (B node : Nat) (ac : List Ac) (ls : List Lg) (va vl : Value) (hX : XB w B node ac ls va vl) (hok : ∀ x, x ∈ ac → x.ok) (hlen : ac.length ≤ 1000000) :
    Calls Tryz.prog 48 #[.pointer (some ⟨B, 0, none⟩), .int .u16 (a : Int)] w fun e w' => e = .returned (.bool (hasB a ac)) ∧ w' = w := by
  obtain ⟨ad, cap, hv, hev⟩ := hX.arow.form Ac.cells_length
  subst hv
  have hc : ∀ o, _ = _ := fun o => cell_at hX.blk o
  go_enter Tryz.func48, Tryz.ntmps48
  go_wp2
  go_loopw [11] (fun c u => ∃ k : Nat, k ≤ ac.length ∧ c = .int .i64 k ∧ hasB a (ac.take k) = false ∧ u = w) (fun c _ => ac.length - (intOf c).toNat)
  case atStart => exact ⟨0, Nat.zero_le _, rfl, rfl, rfl⟩
  case round =>
    obtain ⟨k, hk, rfl, hno, rfl⟩ := hrel
    replace hno := hide hno
    by_cases hlt : k < ac.length
    · obtain ⟨g, hg, hcell, _⟩ := hev k hlt
      subst hg
      have hs : Hid (hasB a (ac.take (k + 1)) = (hasB a (ac.take k) || decide (ac[k].n = a))) := hide (by unfold hasB; rw [List.take_succ_eq_append_getElem hlt, List.any_append]; simp only [List.any_cons, List.any_nil, Bool.or_false])
      have ht : Hid (ac[k].n = a → hasB a ac = true) := hide (fun h => by unfold hasB; rw [List.any_eq_true]; exact ⟨ac[k], List.getElem_mem hlt, by simp [h]⟩)
      have c0 := hcell 0 (by decide)
      have hek := hok ac[k] (List.getElem_mem hlt)
      clear hcell hev
      generalize ac[k] = E at *
      obtain ⟨en, eb⟩ := E
      obtain ⟨h1, h2⟩ := hek
      simp only [Ac.cells, List.getElem?_cons_zero, List.getElem?_cons_succ, Nat.add_zero] at c0 h1 h2
      by_cases hz : en = a
      · have dz : ((en : Int) == (a : Int)) = true := by simp; omega
        have hq : Hid (hasB a ac = true) := hide (ht.out hz)
        clear hs ht hz
        go_wp2
        go_ret
        exact ⟨by rw [hq.out]; rfl, rfl⟩
      · have dz : ((en : Int) == (a : Int)) = false := by simp; omega
        have hq : Hid (hasB a (ac.take (k + 1)) = false) := hide (by rw [hs.out, hno.out]; simp [hz])
        clear hs ht hz
        go_wp2
        exact ⟨⟨k + 1, hlt, by go_num, hq.out, trivial⟩, by simp [intOf]; omega⟩
    · obtain rfl : k = ac.length := by omega
      have hq : Hid (hasB a ac = false) := hide (by have := hno.out; rwa [List.take_length] at this)
      go_wp2
      go_ret
      exact ⟨by rw [hq.out]; rfl, rfl⟩
/-- no leg ahead of k is this one -/
def noneB (id l : Nat) (ls : List Lg) : Bool := ls.all fun x => !(decide (x.id = id) && decide (x.l = l))
def findB (id l : Nat) (ls : List Lg) : Nat := (ls.takeWhile fun x => !(decide (x.id = id) && decide (x.l = l))).length
theorem findB_at (id l : Nat) (ls : List Lg) (k : Nat) (hn : noneB id l (ls.take k) = true) (hk : k ≤ ls.length) (hy : ∀ h : k < ls.length, ls[k].id = id ∧ ls[k].l = l) : findB id l ls = k := by
  induction ls generalizing k with
  | nil => simp at hk; simp [findB, hk]
  | cons x r ih =>
    cases k with
    | zero =>
      have := hy (by simp)
      simp at this
      simp [findB, this]
    | succ k =>
      simp only [noneB, List.take_succ_cons, List.all_cons, Bool.and_eq_true] at hn
      have h2 := ih k (by simpa [noneB] using hn.2) (by simpa using hk) (fun h => by have := hy (by simpa using h); simp only [List.getElem_cons_succ] at this; exact this)
      unfold findB at *
      rw [List.takeWhile_cons, if_pos hn.1, List.length_cons, h2]
set_option maxRecDepth 100000 in
set_option maxHeartbeats 1000000 in
theorem find_any (id l : Nat) (hid : id < 4294967296) (hl : l < 256) (w : World) (B node : Nat) (ac : List Ac) (ls : List Lg) (va vl : Value) (hX : XB w B node ac ls va vl) (hok : ∀ x, x ∈ ls → x.ok) (hlen : ls.length ≤ 1000000) :
    Calls Tryz.prog 147 #[.pointer (some ⟨B, 0, none⟩), .int .u32 (id : Int), .int .u8 (l : Int)] w fun e w' => e = .returned (.int .i64 (findB id l ls : Int)) ∧ w' = w := by
  obtain ⟨ad, cap, hv, hev⟩ := hX.lrow.form Lg.cells_length
  subst hv
  have hc : ∀ o, _ = _ := fun o => cell_at hX.blk o
  go_enter Tryz.func147, Tryz.ntmps147
  go_wp2
  go_loopw [7] (fun c u => ∃ k : Nat, k ≤ ls.length ∧ c = .int .i64 k ∧ noneB id l (ls.take k) = true ∧ u = w) (fun c _ => ls.length - (intOf c).toNat)
  case atStart => exact ⟨0, Nat.zero_le _, rfl, rfl, rfl⟩
  case round =>
    obtain ⟨k, hk, rfl, hno, rfl⟩ := hrel
    replace hno := hide hno
    have hlk : (k : Int) ≤ (ls.length : Int) := by omega
    by_cases hlt : k < ls.length
    · obtain ⟨g, hg, hcell, _⟩ := hev k hlt
      subst hg
      have hlk2 : (k : Int) < (ls.length : Int) := by omega
      have dlt : decide ((k : Int) < (ls.length : Int)) = true := by simp; omega
      have hs : Hid (noneB id l (ls.take (k + 1)) = (noneB id l (ls.take k) && !(decide (ls[k].id = id) && decide (ls[k].l = l)))) := hide (by unfold noneB; rw [List.take_succ_eq_append_getElem hlt, List.all_append]; simp only [List.all_cons, List.all_nil, Bool.and_true])
      have ht : Hid (ls[k].id = id → ls[k].l = l → findB id l ls = k) := hide (fun h1 h2 => findB_at id l ls k hno.out hk (fun _ => ⟨h1, h2⟩))
      have c0 := hcell 0 (by decide)
      have c1 := hcell 1 (by decide)
      have hek := hok ls[k] (List.getElem_mem hlt)
      clear hcell hev
      generalize ls[k] = E at *
      obtain ⟨ei, el, es, ep, eg, ea, em⟩ := E
      obtain ⟨h1, h2, _, _, _, _⟩ := hek
      simp only [Lg.cells, List.getElem?_cons_zero, List.getElem?_cons_succ, Nat.add_zero] at c0 c1 h1 h2
      by_cases hz : ei = id
      · have dz : ((ei : Int) != (id : Int)) = false := by simp; omega
        by_cases hy : el = l
        · have dy : ((el : Int) != (l : Int)) = false := by simp; omega
          have hq : Hid (findB id l ls = k) := hide (ht.out hz hy)
          clear hs ht hz hy
          go_wp2
          go_ret
          exact ⟨by rw [hq.out]; rfl, rfl⟩
        · have dy : ((el : Int) != (l : Int)) = true := by simp; omega
          have hq : Hid (noneB id l (ls.take (k + 1)) = true) := hide (by rw [hs.out, hno.out]; simp [hy])
          clear hs ht hz hy
          go_wp2
          exact ⟨⟨k + 1, hlt, by go_num, hq.out, trivial⟩, by simp [intOf]; omega⟩
      · have dz : ((ei : Int) != (id : Int)) = true := by simp; omega
        have hq : Hid (noneB id l (ls.take (k + 1)) = true) := hide (by rw [hs.out, hno.out]; simp [hz])
        clear hs ht hz
        go_wp2
        exact ⟨⟨k + 1, hlt, by go_num, hq.out, trivial⟩, by simp [intOf]; omega⟩
    · obtain rfl : k = ls.length := by omega
      have hq : Hid (findB id l ls = ls.length) := hide (findB_at id l ls ls.length hno.out (Nat.le_refl _) (fun h => by omega))
      have dlt : decide ((ls.length : Int) < (ls.length : Int)) = false := by simp
      clear hev
      go_wp2
      go_ret
      exact ⟨by rw [hq.out]; rfl, rfl⟩
end Go.Proofs.YtjkhbjgfoopomabGreat
/-
  The program's termsOf, New.
-/
namespace Go.Proofs.YtjkhbjgfoopomabGreat
open Go.RowKit
set_option linter.unusedVariables false
set_option linter.unusedSimpArgs false

/-- the bytes of a text, laid anew -/
theorem bytes_laid2 (w : World) (F : List UInt8) : ∃ (W : World) (cap : Nat),
    (∀ ty : World, ty = w → (convert 9 193 (.string (bs F))).run Tryz.prog ty = .ok (.slice (some ⟨w.heap.size, 0, none⟩) F.length cap) W) ∧
    Below w.heap.size w W ∧ W.heap.size = w.heap.size + 1 ∧ (∀ j, j < F.length → W.cell? ⟨w.heap.size, j, none⟩ = some (.int .u8 ((F.getD j 0).toNat : Int))) ∧ (∀ j, j < F.length → W.frozen? ⟨w.heap.size, j, none⟩ = false) := by
  have hsz := bs_size F
  have hcs : F.length ≤ (Lib.bytesCells w 5 (bs F)).size := by
    have e : (bs F).data.size = F.length := by simp [bs]
    simp [Lib.bytesCells, e]
  refine ⟨Lib.bytesWorld w 5 (bs F), grownCap w F.length 0 5, fun ty h => ?_, ?_, Lib.bytesWorld_size _ _ _, fun j hj => ?_, fun j hj => ?_⟩
  · subst h
    have h := Lib.run_convert_string_bytes (P := Tryz.prog) ty 9 193 5 (bs F) Tryz.underlying9 Tryz.underlying193 Tryz.underlying5
    rw [hsz] at h
    exact h
  · exact ⟨rfl, rfl, rfl, by rw [Lib.bytesWorld_size]; omega, fun k hk => Lib.bytesWorld_at_old _ _ _ k hk⟩
  · have h := Lib.bytesWorld_cell w 5 (bs F) j (by rw [hsz]; exact hj)
    rw [bs_data] at h
    exact h
  · unfold World.frozen?
    rw [Lib.bytesWorld_at_new]
    simp
    omega
theorem bytes_read (W : World) (N cap : Nat) (F : List UInt8) (hc : ∀ j, j < F.length → W.cell? ⟨N, j, none⟩ = some (.int .u8 ((F.getD j 0).toNat : Int))) :
    (convert 193 9 (.slice (some ⟨N, 0, none⟩) F.length cap)).run Tryz.prog W = .ok (.string (bs F)) W := by
  have h := run_convert_bytes_arg (P := Tryz.prog) W 193 5 Tryz.underlying193 Tryz.underlying5 N 0 F.length cap (F.map fun b => (b.toNat : Int)) (by simp) (fun j hj => by
    rw [Nat.zero_add, hc j hj]
    simp [List.getD_eq_getElem?_getD, List.getElem?_eq_getElem hj]) 9 Tryz.underlying9
  have hid : ((fun n : Int => UInt8.ofNat n.toNat) ∘ fun b : UInt8 => (b.toNat : Int)) = id := by
    funext b
    simp
  have e : strOfNums (F.map fun b => (b.toNat : Int)) = bs F := by rw [strOfNums_bs, List.map_map, hid, List.map_id]
  rw [h, e]
set_option maxRecDepth 100000 in
set_option maxHeartbeats 1000000 in
theorem termsOf_any (k f t i l p g a : Nat) (m : List UInt8) (hm : m.length ≤ 64) (kk : Int) (w : World) :
    Calls Tryz.prog 166 #[.agg #[.int .u8 kk, .int .u8 (f : Int), .int .u8 (t : Int), .int .u32 (i : Int), .int .u8 (l : Int), .int .u16 (p : Int), .int .u16 (g : Int), .int .u32 (a : Int), .string (bs m)]] w fun e w' => e = .returned (.agg #[.int .u16 (p : Int), .int .u16 (g : Int), .int .u32 (a : Int), .string (bs m)]) ∧ Below w.heap.size w w' := by
  obtain ⟨W, cap, h1, h2, h3, h4, h5⟩ := bytes_laid2 ((w.alloc (.cells #[.int .u8 kk, .int .u8 (f : Int), .int .u8 (t : Int), .int .u32 (i : Int), .int .u8 (l : Int), .int .u16 (p : Int), .int .u16 (g : Int), .int .u32 (a : Int), .string (bs m)] 102)).alloc (.cells #[.int .u16 0, .int .u16 0, .int .u32 0, .string ⟨#[]⟩] 149)) m
  have h6 := bytes_read W _ cap m h4
  have h1' := h1 _ rfl
  have hN : ((w.alloc (.cells #[.int .u8 kk, .int .u8 (f : Int), .int .u8 (t : Int), .int .u32 (i : Int), .int .u8 (l : Int), .int .u16 (p : Int), .int .u16 (g : Int), .int .u32 (a : Int), .string (bs m)] 102)).alloc (.cells #[.int .u16 0, .int .u16 0, .int .u32 0, .string ⟨#[]⟩] 149)).heap.size = w.heap.size + 1 + 1 := by simp
  rw [hN] at h1' h6 h3
  have B2 : W.heap[w.heap.size]? = some (.cells #[.int .u8 kk, .int .u8 (f : Int), .int .u8 (t : Int), .int .u32 (i : Int), .int .u8 (l : Int), .int .u16 (p : Int), .int .u16 (g : Int), .int .u32 (a : Int), .string (bs m)] 102 (0, 0)) := by
    rw [h2.block _ (by rw [hN]; omega), Below.heap_alloc _ _ _ (by simp)]
    exact heap_alloc_self _ _
  have B3 : W.heap[w.heap.size + 1]? = some (.cells #[.int .u16 0, .int .u16 0, .int .u32 0, .string ⟨#[]⟩] 149 (0, 0)) := by
    rw [h2.block _ (by rw [hN]; omega)]
    have e : w.heap.size + 1 = (w.alloc (.cells #[.int .u8 kk, .int .u8 (f : Int), .int .u8 (t : Int), .int .u32 (i : Int), .int .u8 (l : Int), .int .u16 (p : Int), .int .u16 (g : Int), .int .u32 (a : Int), .string (bs m)] 102)).heap.size := by simp
    rw [e]
    exact heap_alloc_self _ _
  have hbel : Below w.heap.size w W := (((Below.refl _ _).alloc (Nat.le_refl _) _).alloc (by simp) _).trans (h2.mono (by rw [hN]; omega))
  have hc2 : ∀ o, _ = _ := fun o => cell_at B2 o
  have hc3 : ∀ o, _ = _ := fun o => cell_at B3 o
  have hf3 : ∀ o, _ = _ := fun o => frozen_at B3 o
  have hl3 := block_lt B3
  have hP := putL_whole [.int .u16 (p : Int), .int .u16 (g : Int), .int .u32 (a : Int), .string (bs m)] B3 rfl
  have hB := hbel.trans ((putL_kept [.int .u16 (p : Int), .int .u16 (g : Int), .int .u32 (a : Int), .string (bs m)] W (w.heap.size + 1) 0).below hbel.size (fun k e => by omega))
  clear h1 h2 h4 h5 hN B2 B3 hbel
  go_enter Tryz.func166, Tryz.ntmps166
  go_wp2
  have hq := fun o => cell_at hP o
  simp only [putL] at hq hB
  generalize World.setCell _ _ _ = u at *
  exact bodyPost_ret (v := .agg #[.int .u16 (p : Int), .int .u16 (g : Int), .int .u32 (a : Int), .string (bs m)]) (by simp [results, Tryz.results166, go_sem, hq]) rfl ⟨rfl, hB⟩
set_option maxRecDepth 100000 in
set_option maxHeartbeats 1000000 in
theorem new_any (n : Nat) (hn : n < 256) (w : World) :
    Calls Tryz.prog 37 #[.int .u8 (n : Int)] w fun e w' => (e = if bankB n then .returned (.tuple #[.agg #[.int .u8 (n : Int), .slice none 0 0, .slice none 0 0], .int .i64 0]) else .returned (.tuple #[.agg #[.int .u8 0, .slice none 0 0, .slice none 0 0], .int .i64 4])) ∧ Below w.heap.size w w' := by
  have hI := hide (fun u => isBank_any n hn u)
  generalize bankB n = bb at *
  cases bb with
  | true =>
    simp only [if_true]
    go_enter Tryz.func37, Tryz.ntmps37
    go_wp2_with fail
    refine (hI.out _).mono ?_
    rintro e w1 ⟨rfl, rfl⟩
    clear hI
    go_wp2
    exact bodyPost_ret (v := .tuple #[.agg #[.int .u8 (n : Int), .slice none 0 0, .slice none 0 0], .int .i64 0]) (by simp [results, Tryz.results37, go_sem]) rfl ⟨rfl, (Below.refl _ _).alloc (Nat.le_refl _) _⟩
  | false =>
    simp only [Bool.false_eq_true, if_false]
    go_enter Tryz.func37, Tryz.ntmps37
    go_wp2_with fail
    refine (hI.out _).mono ?_
    rintro e w1 ⟨rfl, rfl⟩
    clear hI
    go_wp2
    exact bodyPost_ret (v := .tuple #[.agg #[.int .u8 0, .slice none 0 0, .slice none 0 0], .int .i64 4]) (by simp [results, Tryz.results37, go_sem]) rfl ⟨rfl, (Below.refl _ _).alloc (Nat.le_refl _) _⟩
end Go.Proofs.YtjkhbjgfoopomabGreat
