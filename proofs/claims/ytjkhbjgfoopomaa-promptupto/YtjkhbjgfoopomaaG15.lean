import Derived.Test.YtjkhbjgfoopomaaG12
import Derived.Test.YtjkhbjgfoopomaaG4
/-
  The program's Bank.funds.
-/
namespace Go.Proofs.Ytjkhbjgfoopomaa
open Go.RowKit
set_option linter.unusedVariables false
set_option linter.unusedSimpArgs false

def balStep (a : Nat) (s : Nat) (x : Ac) : Nat := if x.n = a then x.b else s
def balL (a : Nat) (ac : List Ac) : Nat := ac.foldl (balStep a) 0
theorem balL_snoc (a : Nat) (ac : List Ac) (x : Ac) : balL a (ac ++ [x]) = balStep a (balL a ac) x := by simp [balL, List.foldl_append]
def payL (a : Nat) (x : Lg) : Nat := if x.st = 1 ∧ x.p = a then x.a else 0
def getL (a : Nat) (x : Lg) : Nat := if x.st = 1 ∧ x.g = a then x.a else 0
def heldL (a : Nat) (ls : List Lg) : Nat := (ls.map (payL a)).sum
def dueL (a : Nat) (ls : List Lg) : Nat := (ls.map (getL a)).sum
theorem heldL_snoc (a : Nat) (ls : List Lg) (x : Lg) : heldL a (ls ++ [x]) = heldL a ls + payL a x := by simp [heldL]
theorem dueL_snoc (a : Nat) (ls : List Lg) (x : Lg) : dueL a (ls ++ [x]) = dueL a ls + getL a x := by simp [dueL]
theorem heldL_take (a : Nat) (ls : List Lg) (k : Nat) : heldL a (ls.take k) ≤ heldL a ls := by
  conv => rhs; rw [← List.take_append_drop k ls]
  simp only [heldL, List.map_append, List.sum_append]
  omega
theorem dueL_take (a : Nat) (ls : List Lg) (k : Nat) : dueL a (ls.take k) ≤ dueL a ls := by
  conv => rhs; rw [← List.take_append_drop k ls]
  simp only [dueL, List.map_append, List.sum_append]
  omega

def fcells (x : Nat × Nat × Nat) : Array Value := #[.int .u32 (x.1 : Int), .int .u32 (x.2.1 : Int), .int .u32 (x.2.2 : Int)]
structure TwoF (w : World) (x y : Nat × Nat × Nat) (u : World) : Prop where
  bel : Below w.heap.size w u
  one : u.heap[w.heap.size]? = some (.cells (fcells x) 82 (0, 0))
  two : u.heap[w.heap.size + 1]? = some (.cells (fcells y) 82 (0, 0))
theorem TwoF.mk0 (w : World) : TwoF w (0, 0, 0) (0, 0, 0) ((w.alloc (.cells (fcells (0, 0, 0)) 82)).alloc (.cells (fcells (0, 0, 0)) 82)) := by
  refine ⟨((Below.refl _ _).alloc (Nat.le_refl _) _).alloc (by simp) _, ?_, ?_⟩
  · rw [Below.heap_alloc _ _ _ (by simp)]
    exact heap_alloc_self _ _
  · rw [show w.heap.size + 1 = (w.alloc (.cells (fcells (0, 0, 0)) 82)).heap.size from by simp]
    exact heap_alloc_self _ _
theorem TwoF.set {w u : World} {x y y' : Nat × Nat × Nat} (h : TwoF w x y u) (j : Nat) (c : Value) (hy : (fcells y).setIfInBounds j c = fcells y') : TwoF w x y' (u.setCell ⟨w.heap.size + 1, j, none⟩ c) := by
  have hk := Kept.of_setCell u ⟨w.heap.size + 1, j, none⟩ c
  refine ⟨h.bel.trans (hk.below h.bel.size (fun k e => by simp at e; omega)), by rw [hk.block _ (block_lt h.one) (by simp)]; exact h.one, ?_⟩
  rw [heap_set_self h.two, hy]
theorem TwoF.drewN {w u : World} {x y : Nat × Nat × Nat} (h : TwoF w x y u) (n : Nat) : TwoF w x y (u.drewN n) := ⟨⟨h.bel.os, h.bel.tape, h.bel.output, h.bel.size, h.bel.block⟩, h.one, h.two⟩
theorem TwoF.drew {w u : World} {x y : Nat × Nat × Nat} (h : TwoF w x y u) : TwoF w x y u.drew := ⟨h.bel.drew, h.one, h.two⟩
theorem TwoF.putOne {w u : World} {x y : Nat × Nat × Nat} (h : TwoF w x y u) (z : Nat × Nat × Nat) : TwoF w z y (putL u w.heap.size 0 (fcells z).toList) :=
  have hk := putL_kept (fcells z).toList u w.heap.size 0
  ⟨h.bel.trans (hk.below h.bel.size (fun k e => by omega)), putL_whole _ h.one rfl, by rw [hk.block _ (block_lt h.two) (by omega)]; exact h.two⟩

set_option maxRecDepth 100000 in
set_option maxHeartbeats 1000000 in
theorem xfunds_any (a : Nat) (ha : a < 65536) (w : World) (B node : Nat) (ac : List Ac) (ls : List Lg) (va vl : Value) (hX : XB w B node ac ls va vl) (hoka : ∀ x, x ∈ ac → x.ok) (hokl : ∀ x, x ∈ ls → x.ok) (hlena : ac.length ≤ 1000000) (hlenl : ls.length ≤ 1000000)
    (hh : heldL a ls < 4294967296) (hd : dueL a ls < 4294967296) :
    Calls Try.prog 85 #[.pointer (some ⟨B, 0, none⟩), .int .u16 (a : Int)] w fun e w' => e = .returned (.agg #[.int .u32 (balL a ac : Int), .int .u32 (heldL a ls : Int), .int .u32 (dueL a ls : Int)]) ∧ Below w.heap.size w w' := by
  obtain ⟨ad, cap, hv, hev⟩ := hX.arow.form Ac.cells_length
  obtain ⟨ad2, cap2, hv2, hev2⟩ := hX.lrow.form Lg.cells_length
  subst hv hv2
  have hc : ∀ o, _ = _ := fun o => cell_at hX.blk o
  have hBl := hX.lt
  clear hev hev2
  go_enter Try.func85, Try.ntmps85
  go_wp2
  go_loopw [14] (fun c u => ∃ k : Nat, k ≤ ac.length ∧ c = .int .i64 k ∧ TwoF w (0, 0, 0) (balL a (ac.take k), 0, 0) u) (fun c _ => ac.length - (intOf c).toNat)
  case atStart => exact ⟨0, Nat.zero_le _, rfl, TwoF.mk0 w⟩
  case round =>
    obtain ⟨k, hk, rfl, hT⟩ := hrel
    have hXu := hX.below hT.bel
    clear hc
    have hc : ∀ o, _ = _ := fun o => cell_at hXu.blk o
    have hs2 : ∀ o, _ = _ := fun o => cell_at hT.two o
    have hf2 : ∀ o, _ = _ := fun o => frozen_at hT.two o
    have hl2 := block_lt hT.two
    have hBu := hXu.lt
    have hne : B ≠ w.heap.size + 1 := by omega
    by_cases hlt : k < ac.length
    · obtain ⟨ad', cap', hv', hev'⟩ := hXu.arow.form Ac.cells_length
      obtain ⟨g, hg, hcell, _⟩ := hev' k hlt
      have ead : ad = ad' := by injection hv'
      subst ead
      subst hg
      have hs : Hid (balL a (ac.take (k + 1)) = balStep a (balL a (ac.take k)) ac[k]) := hide (by rw [List.take_succ_eq_append_getElem hlt, balL_snoc])
      have c0 := hcell 0 (by decide)
      have c1 := hcell 1 (by decide)
      have hek := hoka ac[k] (List.getElem_mem hlt)
      clear hcell hev' hv'
      generalize balL a (ac.take k) = S at *
      generalize ac[k] = E at *
      obtain ⟨en, eb⟩ := E
      obtain ⟨h1, h2⟩ := hek
      simp only [Ac.cells, List.getElem?_cons_zero, List.getElem?_cons_succ, Nat.add_zero] at c0 c1 h1 h2
      simp only [fcells] at hs2
      by_cases hz : en = a
      · have dz : ((en : Int) == (a : Int)) = true := by simp; omega
        have hq : Hid (balL a (ac.take (k + 1)) = eb) := hide (by rw [hs.out]; simp [balStep, hz])
        clear hs hz
        go_wp2
        exact ⟨⟨k + 1, hlt, by go_num, by rw [hq.out]; exact hT.set 0 _ rfl⟩, by simp [intOf]; omega⟩
      · have dz : ((en : Int) == (a : Int)) = false := by simp; omega
        have hq : Hid (balL a (ac.take (k + 1)) = S) := hide (by rw [hs.out]; simp [balStep, hz])
        clear hs hz
        go_wp2
        exact ⟨⟨k + 1, hlt, by go_num, by rw [hq.out]; exact hT⟩, by simp [intOf]; omega⟩
    · obtain rfl : k = ac.length := by omega
      rw [List.take_length] at hT
      clear hs2 hf2 hl2 hc
      have hc : ∀ o, _ = _ := fun o => cell_at hXu.blk o
      go_wp2
      go_loopw [42] (fun c u => ∃ j : Nat, j ≤ ls.length ∧ c = .int .i64 j ∧ TwoF w (0, 0, 0) (balL a ac, heldL a (ls.take j), dueL a (ls.take j)) u) (fun c _ => ls.length - (intOf c).toNat)
      case atStart => exact ⟨0, Nat.zero_le _, rfl, hT⟩
      case round =>
        obtain ⟨j, hj, rfl, hT2⟩ := hrel
        rename_i wr2
        have hXv := hX.below hT2.bel
        clear hc hT hXu hBu
        have hc : ∀ o, _ = _ := fun o => cell_at hXv.blk o
        have hs2 : ∀ o, _ = _ := fun o => cell_at hT2.two o
        have hf2 : ∀ o, _ = _ := fun o => frozen_at hT2.two o
        have hs0 : ∀ o, _ = _ := fun o => cell_at hT2.one o
        have hf0 : ∀ o, _ = _ := fun o => frozen_at hT2.one o
        have hl2 := block_lt hT2.two
        have hBu := hXv.lt
        have hb1 : heldL a (ls.take (j + 1)) ≤ heldL a ls := heldL_take a ls (j + 1)
        have hb2 : dueL a (ls.take (j + 1)) ≤ dueL a ls := dueL_take a ls (j + 1)
        have hb3 : heldL a (ls.take j) ≤ heldL a ls := heldL_take a ls j
        have hb4 : dueL a (ls.take j) ≤ dueL a ls := dueL_take a ls j
        by_cases hlt2 : j < ls.length
        · obtain ⟨ad', cap', hv', hev'⟩ := hXv.lrow.form Lg.cells_length
          obtain ⟨g, hg, hcell, _⟩ := hev' j hlt2
          have ead : ad2 = ad' := by injection hv'
          subst ead
          subst hg
          have hgne : g ≠ w.heap.size + 1 := by have := hX.lrow.lt (g := g) rfl; omega
          have hs1 : Hid (heldL a (ls.take (j + 1)) = heldL a (ls.take j) + payL a ls[j]) := hide (by rw [List.take_succ_eq_append_getElem hlt2, heldL_snoc])
          have hs3 : Hid (dueL a (ls.take (j + 1)) = dueL a (ls.take j) + getL a ls[j]) := hide (by rw [List.take_succ_eq_append_getElem hlt2, dueL_snoc])
          have c2 := hcell 2 (by decide)
          have c3 := hcell 3 (by decide)
          have c4 := hcell 4 (by decide)
          have c5 := hcell 5 (by decide)
          have hek := hokl ls[j] (List.getElem_mem hlt2)
          clear hcell hev' hv'
          generalize ls[j] = E at *
          obtain ⟨ei, el, es, ep, eg, ea, em⟩ := E
          obtain ⟨_, _, h3, h4, h5, h6⟩ := hek
          simp only [Lg.cells, List.getElem?_cons_zero, List.getElem?_cons_succ, Nat.add_zero] at c2 c3 c4 c5 h3 h4 h5 h6
          simp only [fcells] at hs2
          by_cases hst : es = 1
          · have dst : ((es : Int) != 1) = false := by simp; omega
            by_cases hp : ep = a
            · have dp : ((ep : Int) == (a : Int)) = true := by simp; omega
              by_cases hg : eg = a
              · have dg : ((eg : Int) == (a : Int)) = true := by simp; omega
                have q1 : Hid (heldL a (ls.take (j + 1)) = heldL a (ls.take j) + ea) := hide (by rw [hs1.out]; simp [payL, hst, hp])
                have q2 : Hid (dueL a (ls.take (j + 1)) = dueL a (ls.take j) + ea) := hide (by rw [hs3.out]; simp [getL, hst, hg])
                have W1 : IntKind.u32.wrap ((heldL a (ls.take j) : Int) + (ea : Int)) = ((heldL a (ls.take j) + ea : Nat) : Int) := by have h := q1.out; rw [IntKind.wrap_u32]; omega
                have W2 : IntKind.u32.wrap ((dueL a (ls.take j) : Int) + (ea : Int)) = ((dueL a (ls.take j) + ea : Nat) : Int) := by have h := q2.out; rw [IntKind.wrap_u32]; omega
                clear hs1 hs3 hst hp hg
                go_wp2
                go_region
                go_wp2
                go_region
                go_wp2
                exact ⟨⟨j + 1, hlt2, by go_num, by rw [q1.out, q2.out]; exact ((hT2.set (y' := (balL a ac, heldL a (ls.take j) + ea, dueL a (ls.take j))) 1 _ (by simp [fcells])).set 2 _ (by simp [fcells])).drew.drew⟩, by simp [intOf]; omega⟩
              · have dg : ((eg : Int) == (a : Int)) = false := by simp; omega
                have q1 : Hid (heldL a (ls.take (j + 1)) = heldL a (ls.take j) + ea) := hide (by rw [hs1.out]; simp [payL, hst, hp])
                have q2 : Hid (dueL a (ls.take (j + 1)) = dueL a (ls.take j)) := hide (by rw [hs3.out]; simp [getL, hst, hg])
                have W1 : IntKind.u32.wrap ((heldL a (ls.take j) : Int) + (ea : Int)) = ((heldL a (ls.take j) + ea : Nat) : Int) := by have h := q1.out; rw [IntKind.wrap_u32]; omega
                clear hs1 hs3 hst hp hg
                go_wp2
                go_region
                go_wp2
                exact ⟨⟨j + 1, hlt2, by go_num, by rw [q1.out, q2.out]; exact (hT2.set 1 _ (by simp [fcells])).drew⟩, by simp [intOf]; omega⟩
            · have dp : ((ep : Int) == (a : Int)) = false := by simp; omega
              by_cases hg : eg = a
              · have dg : ((eg : Int) == (a : Int)) = true := by simp; omega
                have q1 : Hid (heldL a (ls.take (j + 1)) = heldL a (ls.take j)) := hide (by rw [hs1.out]; simp [payL, hst, hp])
                have q2 : Hid (dueL a (ls.take (j + 1)) = dueL a (ls.take j) + ea) := hide (by rw [hs3.out]; simp [getL, hst, hg])
                have W2 : IntKind.u32.wrap ((dueL a (ls.take j) : Int) + (ea : Int)) = ((dueL a (ls.take j) + ea : Nat) : Int) := by have h := q2.out; rw [IntKind.wrap_u32]; omega
                clear hs1 hs3 hst hp hg
                go_wp2
                go_region
                go_wp2
                exact ⟨⟨j + 1, hlt2, by go_num, by rw [q1.out, q2.out]; exact (hT2.set 2 _ (by simp [fcells])).drew⟩, by simp [intOf]; omega⟩
              · have dg : ((eg : Int) == (a : Int)) = false := by simp; omega
                have q1 : Hid (heldL a (ls.take (j + 1)) = heldL a (ls.take j)) := hide (by rw [hs1.out]; simp [payL, hst, hp])
                have q2 : Hid (dueL a (ls.take (j + 1)) = dueL a (ls.take j)) := hide (by rw [hs3.out]; simp [getL, hst, hg])
                clear hs1 hs3 hst hp hg
                go_wp2
                exact ⟨⟨j + 1, hlt2, by go_num, by rw [q1.out, q2.out]; exact hT2⟩, by simp [intOf]; omega⟩
          · have dst : ((es : Int) != 1) = true := by simp; omega
            have q1 : Hid (heldL a (ls.take (j + 1)) = heldL a (ls.take j)) := hide (by rw [hs1.out]; simp [payL, hst])
            have q2 : Hid (dueL a (ls.take (j + 1)) = dueL a (ls.take j)) := hide (by rw [hs3.out]; simp [getL, hst])
            clear hs1 hs3 hst
            go_wp2
            exact ⟨⟨j + 1, hlt2, by go_num, by rw [q1.out, q2.out]; exact hT2⟩, by simp [intOf]; omega⟩
        · obtain rfl : j = ls.length := by omega
          rw [List.take_length] at hT2
          simp only [List.take_length] at hs2
          have hT3 := hT2.putOne (balL a ac, heldL a ls, dueL a ls)
          simp only [fcells] at hs2 hs0
          go_wp2
          have hc3 := fun o => cell_at hT3.one o
          have hb3 := hT3.bel
          simp only [fcells, putL] at hc3 hb3
          generalize World.setCell _ _ _ = u at *
          exact bodyPost_ret (v := .agg #[.int .u32 (balL a ac : Int), .int .u32 (heldL a ls : Int), .int .u32 (dueL a ls : Int)]) (by simp [results, Try.results85, go_sem, hc3]) rfl ⟨rfl, hb3⟩
end Go.Proofs.Ytjkhbjgfoopomaa
/-
  The program's Bank.Funds, Bank.Leg, and what is small.
-/
namespace Go.Proofs.Ytjkhbjgfoopomaa
open Go.RowKit
set_option linter.unusedVariables false
set_option linter.unusedSimpArgs false

set_option maxRecDepth 100000 in
set_option maxHeartbeats 1000000 in
theorem xFunds_any (a : Nat) (ha : a < 65536) (w : World) (B node : Nat) (ac : List Ac) (ls : List Lg) (va vl : Value) (hX : XB w B node ac ls va vl) (hoka : ∀ x, x ∈ ac → x.ok) (hokl : ∀ x, x ∈ ls → x.ok) (hlena : ac.length ≤ 1000000) (hlenl : ls.length ≤ 1000000)
    (hh : heldL a ls < 4294967296) (hd : dueL a ls < 4294967296) :
    Calls Try.prog 55 #[.pointer (some ⟨B, 0, none⟩), .int .u16 (a : Int)] w fun e w' => (e = if hasB a ac then .returned (.tuple #[.agg #[.int .u32 (balL a ac : Int), .int .u32 (heldL a ls : Int), .int .u32 (dueL a ls : Int)], .int .i64 0]) else .returned (.tuple #[.agg #[.int .u32 0, .int .u32 0, .int .u32 0], .int .i64 8])) ∧ Below w.heap.size w w' := by
  have hH := hide (fun u (hu : XB u B node ac ls va vl) => has_any a ha u B node ac ls va vl hu hoka hlena)
  have hF := hide (fun u (hu : XB u B node ac ls va vl) => xfunds_any a ha u B node ac ls va vl hu hoka hokl hlena hlenl hh hd)
  generalize hasB a ac = hb at *
  generalize balL a ac = bl at *
  generalize heldL a ls = hl at *
  generalize dueL a ls = dl at *
  cases hb with
  | false =>
    simp only [Bool.false_eq_true, if_false]
    go_enter Try.func55, Try.ntmps55
    go_wp2_with fail
    refine (hH.out _ (hX.below ((Below.refl _ _).alloc (Nat.le_refl _) _))).mono ?_
    rintro e w1 ⟨rfl, rfl⟩
    clear hH hF
    go_wp2
    exact bodyPost_ret (v := .tuple #[.agg #[.int .u32 0, .int .u32 0, .int .u32 0], .int .i64 8]) (by simp [results, Try.results55, go_sem]) rfl ⟨rfl, (Below.refl _ _).alloc (Nat.le_refl _) _⟩
  | true =>
    simp only [if_true]
    go_enter Try.func55, Try.ntmps55
    go_wp2_with fail
    refine (hH.out _ (hX.below ((Below.refl _ _).alloc (Nat.le_refl _) _))).mono ?_
    rintro e w1 ⟨rfl, rfl⟩
    clear hH
    go_wp2_with fail
    refine (hF.out _ (hX.below ((Below.refl _ _).alloc (Nat.le_refl _) _))).mono ?_
    rintro e w2 ⟨rfl, hb2⟩
    have hc2 := fun o => cel_kept hb2 o
    have hf2 := fun o => fro_kept hb2 o
    have hlt := lt_kept hb2
    have hP := putL_whole [.int .u32 (bl : Int), .int .u32 (hl : Int), .int .u32 (dl : Int)] (blk_kept hb2) rfl
    have hB := (all_kept hb2).trans ((putL_kept [.int .u32 (bl : Int), .int .u32 (hl : Int), .int .u32 (dl : Int)] w2 w.heap.size 0).below (all_kept hb2).size (fun k e => by omega))
    clear hF hb2
    go_wp2
    have hc3 := fun o => cell_at hP o
    simp only [putL] at hc3 hB
    generalize World.setCell _ _ _ = u at *
    exact bodyPost_ret (v := .tuple #[.agg #[.int .u32 (bl : Int), .int .u32 (hl : Int), .int .u32 (dl : Int)], .int .i64 0]) (by simp [results, Try.results55, go_sem, hc3]) rfl ⟨rfl, hB⟩

/-- a leg's state; 0: it is not kept -/
def stL (id l : Nat) (ls : List Lg) : Nat := match ls[findB id l ls]? with | none => 0 | some x => x.st
theorem stL_at {id l : Nat} {ls : List Lg} (h : findB id l ls < ls.length) : stL id l ls = ls[findB id l ls].st := by unfold stL; rw [List.getElem?_eq_getElem h]
theorem stL_no {id l : Nat} {ls : List Lg} (h : ls.length ≤ findB id l ls) : stL id l ls = 0 := by unfold stL; rw [List.getElem?_eq_none h]
theorem stL_lt {id l : Nat} {ls : List Lg} (hok : ∀ x, x ∈ ls → x.ok) : stL id l ls < 256 := by
  rcases Nat.lt_or_ge (findB id l ls) ls.length with h | h
  · rw [stL_at h]; exact (hok _ (List.getElem_mem h)).2.2.1
  · rw [stL_no h]; omega
set_option maxRecDepth 100000 in
set_option maxHeartbeats 1000000 in
theorem state_any (id l : Nat) (hid : id < 4294967296) (hl : l < 256) (w : World) (B node : Nat) (ac : List Ac) (ls : List Lg) (va vl : Value) (hX : XB w B node ac ls va vl) (hok : ∀ x, x ∈ ls → x.ok) (hlen : ls.length ≤ 1000000) :
    Calls Try.prog 105 #[.pointer (some ⟨B, 0, none⟩), .int .u32 (id : Int), .int .u8 (l : Int)] w fun e w' => e = .returned (.int .u8 (stL id l ls : Int)) ∧ w' = w := by
  have hF := hide (find_any id l hid hl w B node ac ls va vl hX hok hlen)
  unfold stL
  generalize findB id l ls = j at *
  obtain ⟨ad, cap, hv, hev⟩ := hX.lrow.form Lg.cells_length
  subst hv
  have hc : ∀ o, _ = _ := fun o => cell_at hX.blk o
  by_cases hj : j < ls.length
  · have hlk : (j : Int) < (ls.length : Int) := by omega
    have d1 : decide ((j : Int) ≥ (ls.length : Int)) = false := by simp; omega
    have d2 : decide ((ls.length : Int) ≤ (j : Int)) = false := by simp; omega
    rw [List.getElem?_eq_getElem hj]
    obtain ⟨g, hg, hcell, _⟩ := hev j hj
    subst hg
    have c2 := hcell 2 (by decide)
    have hek := hok ls[j] (List.getElem_mem hj)
    clear hcell hev
    generalize ls[j] = E at *
    obtain ⟨ei, el, es, ep, eg, ea, em⟩ := E
    simp only [Lg.cells, List.getElem?_cons_zero, List.getElem?_cons_succ, Nat.add_zero] at c2
    go_enter Try.func105, Try.ntmps105
    go_wp2_with fail
    refine hF.out.mono ?_
    rintro e w1 ⟨rfl, rfl⟩
    clear hF
    go_wp2
    go_ret
    exact ⟨rfl, rfl⟩
  · have d1 : decide ((j : Int) ≥ (ls.length : Int)) = true := by simp; omega
    have d2 : decide ((ls.length : Int) ≤ (j : Int)) = true := by simp; omega
    rw [List.getElem?_eq_none (by omega)]
    clear hev
    go_enter Try.func105, Try.ntmps105
    go_wp2_with fail
    refine hF.out.mono ?_
    rintro e w1 ⟨rfl, rfl⟩
    clear hF
    go_wp2
    go_ret
    exact ⟨rfl, rfl⟩

set_option maxRecDepth 100000 in
set_option maxHeartbeats 1000000 in
theorem xLeg_any (id l : Nat) (hid : id < 4294967296) (hl : l < 256) (w : World) (B node : Nat) (ac : List Ac) (ls : List Lg) (va vl : Value) (hX : XB w B node ac ls va vl) (hok : ∀ x, x ∈ ls → x.ok) (hst : ∀ x, x ∈ ls → 1 ≤ x.st) (hlen : ls.length ≤ 1000000) :
    Calls Try.prog 83 #[.pointer (some ⟨B, 0, none⟩), .int .u32 (id : Int), .int .u8 (l : Int)] w fun e w' => (e = match ls[findB id l ls]? with | none => .returned (.tuple #[.int .u8 0, .int .i64 13]) | some x => .returned (.tuple #[.int .u8 (x.st : Int), .int .i64 0])) ∧ Below w.heap.size w w' := by
  have hF := hide (state_any id l hid hl w B node ac ls va vl hX hok hlen)
  have hS : Hid (∀ x, ls[findB id l ls]? = some x → 1 ≤ x.st ∧ x.st < 256) := hide (fun x hx => ⟨hst x (List.mem_of_getElem? hx), (hok x (List.mem_of_getElem? hx)).2.2.1⟩)
  unfold stL at hF
  generalize ls[findB id l ls]? = R at *
  have hc : ∀ o, _ = _ := fun o => cell_at hX.blk o
  cases R with
  | none =>
    simp only at *
    go_enter Try.func83, Try.ntmps83
    go_wp2_with fail
    refine hF.out.mono ?_
    rintro e w1 ⟨rfl, rfl⟩
    clear hF
    go_wp2
    go_ret2
    exact ⟨rfl, Below.refl _ _⟩
  | some x =>
    have hx := hS.out x rfl
    obtain ⟨ei, el, es, ep, eg, ea, em⟩ := x
    simp only at *
    have d1 : ((es : Int) == 0) = false := by simp; omega
    go_enter Try.func83, Try.ntmps83
    go_wp2_with fail
    refine hF.out.mono ?_
    rintro e w1 ⟨rfl, rfl⟩
    clear hF
    go_wp2
    go_ret2
    exact ⟨rfl, Below.refl _ _⟩

set_option maxRecDepth 100000 in
set_option maxHeartbeats 1000000 in
theorem isAhead_any (x y : Lg) (hx : x.ok) (hy : y.ok) (w : World) :
    Calls Try.prog 129 #[.agg #[.int .u32 (x.id : Int), .int .u8 (x.l : Int), .int .u8 (x.st : Int), .int .u16 (x.p : Int), .int .u16 (x.g : Int), .int .u32 (x.a : Int), .string (bs x.m)], .agg #[.int .u32 (y.id : Int), .int .u8 (y.l : Int), .int .u8 (y.st : Int), .int .u16 (y.p : Int), .int .u16 (y.g : Int), .int .u32 (y.a : Int), .string (bs y.m)]] w fun e w' => e = .returned (.bool (decide (x.id < y.id ∨ (x.id = y.id ∧ x.l < y.l)))) ∧ Below w.heap.size w w' := by
  obtain ⟨xi, xl, xs, xp, xg, xa, xm⟩ := x
  obtain ⟨yi, yl, ys, yp, yg, ya, ym⟩ := y
  obtain ⟨h1, h2, h3, h4, h5, h6⟩ := hx
  obtain ⟨k1, k2, k3, k4, k5, k6⟩ := hy
  simp only at *
  by_cases he : xi = yi
  · have d1 : ((xi : Int) != (yi : Int)) = false := by simp; omega
    have hq : Hid (decide (xi < yi ∨ (xi = yi ∧ xl < yl)) = decide (xl < yl)) := hide (decide_eq_decide.2 (by omega))
    clear he
    go_enter Try.func129, Try.ntmps129
    go_wp2
    go_ret
    exact ⟨by rw [hq.out]; rfl, ((Below.refl _ _).alloc (Nat.le_refl _) _).alloc (by simp) _⟩
  · have d1 : ((xi : Int) != (yi : Int)) = true := by simp; omega
    have hq : Hid (decide (xi < yi ∨ (xi = yi ∧ xl < yl)) = decide (xi < yi)) := hide (decide_eq_decide.2 (by omega))
    clear he
    go_enter Try.func129, Try.ntmps129
    go_wp2
    go_ret
    exact ⟨by rw [hq.out]; rfl, ((Below.refl _ _).alloc (Nat.le_refl _) _).alloc (by simp) _⟩
end Go.Proofs.Ytjkhbjgfoopomaa
