import Derived.Test.YtjkhbjgfoopomabGreatS25
import Derived.BigQuiet
import Derived.Test.YtjkhbjgfoopomabGreatS8
/-
  The program's Bank.prepare of a leg that is kept.
-/
namespace Go.Proofs.YtjkhbjgfoopomabGreat
open Go.RowKit
set_option linter.unusedVariables false
set_option linter.unusedSimpArgs false

set_option maxRecDepth 100000 in
set_option maxHeartbeats 1000000 in
theorem prep_same (f t i l p g a : Nat) (m : List UInt8) (hm : m.length ≤ 64) (kk : Int) (hi : i < 4294967296) (hl : l < 256) (hp : p < 65536) (hg : g < 65536) (ha : a < 4294967296) (w : World) (B node : Nat) (ac : List Ac) (ls : List Lg) (va vl : Value) (hX : XB w B node ac ls va vl) (hap : Apart B va vl) (hokl : ∀ x, x ∈ ls → x.ok) (hlenl : ls.length ≤ 1000000) (hj : findB i l ls < ls.length) (s0 : Nat) (hs0 : ls[findB i l ls].st = s0) (hE : ls[findB i l ls].p = p ∧ ls[findB i l ls].g = g ∧ ls[findB i l ls].a = a ∧ ls[findB i l ls].m = m) :
    Calls Tryz.prog 161 #[.pointer (some ⟨B, 0, none⟩), .agg #[.int .u8 kk, .int .u8 (f : Int), .int .u8 (t : Int), .int .u32 (i : Int), .int .u8 (l : Int), .int .u16 (p : Int), .int .u16 (g : Int), .int .u32 (a : Int), .string (bs m)]] w fun e w' => e = .returned (.tuple #[.int .u8 (s0 : Int), .int .i64 0]) ∧ XBTo w w' B node ac ls va vl va vl := by
  have hTm := hide (fun u => termsOf_any 0 f t i l p g a m hm kk u)
  have hF := hide (fun u (hu : XB u B node ac ls va vl) => find_any i l hi hl u B node ac ls va vl hu hokl (by omega))
  generalize findB i l ls = j at *
  obtain ⟨ad, cap, hv, hev⟩ := hX.lrow.form Lg.cells_length
  subst hv
  obtain ⟨gg, hgg, hcell, hfro⟩ := hev j hj
  subst hgg
  clear hev
  have hBl := hX.lt
  have d1 : decide ((j : Int) < (ls.length : Int)) = true := by simp; omega
  have hlk : (j : Int) < (ls.length : Int) := by omega
  go_enter Tryz.func161, Tryz.ntmps161
  go_wp2_with fail
  refine (hTm.out _).mono ?_
  rintro e w1 ⟨rfl, hb1⟩
  have B1 := (Box.mk0 _ _ _).below hb1
  have hcm := B1.cell
  have hltm := B1.lt
  clear hTm hb1
  go_wp2_with fail
  refine (hF.out _ (hX.below (B1.alloc _).bel)).mono ?_
  rintro e w2 ⟨rfl, rfl⟩
  have hX1 := hX.below B1.bel
  clear hF hcell hfro
  obtain ⟨ad', cap', hv', hev'⟩ := hX1.lrow.form Lg.cells_length
  obtain ⟨gx, hgx, hcell, _⟩ := hev' j hj
  have ead : some ⟨gg, 0, none⟩ = ad' := by injection hv'
  subst ead
  obtain rfl : gg = gx := by injection hgx with h; injection h
  have hgl : gg < w1.heap.size := hX1.lrow.lt rfl
  have hBl1 := hX1.lt
  have e2 := hcell 2 (by decide)
  have e3 := hcell 3 (by decide)
  have e4 := hcell 4 (by decide)
  have e5 := hcell 5 (by decide)
  have e6 := hcell 6 (by decide)
  clear hcell hev' hv' hgx
  have hc : ∀ o, _ = _ := fun o => cell_at hX1.blk o
  have hex := hokl ls[j] (List.getElem_mem hj)
  generalize ls[j] = E at *
  obtain ⟨ei, el, es, ep, eg, ea, em⟩ := E
  obtain ⟨_, _, hx3, hx4, hx5, hx6⟩ := hex
  simp only [Lg.cells, List.getElem?_cons_zero, List.getElem?_cons_succ, Nat.add_zero] at e2 e3 e4 e5 e6 hx3 hx4 hx5 hx6 hE hs0
  subst hs0
  obtain ⟨r1, r2, r3, r4⟩ := hE
  have q1 : ((ep : Int) == (p : Int)) = true := by simp; omega
  have q2 : ((eg : Int) == (g : Int)) = true := by simp; omega
  have q3 : ((ea : Int) == (a : Int)) = true := by simp; omega
  have q4 : ((bs em).toList == (bs m).toList) = true := by rw [bs_same]; simpa using r4
  clear r1 r2 r3 r4
  go_wp2
  go_quiet (fail)
  go_wp2
  go_ret2
  exact ⟨rfl, XBTo.same hX hap ((B1.alloc _).bel.drewN _)⟩

set_option maxRecDepth 100000 in
set_option maxHeartbeats 1000000 in
theorem prep_conflict (f t i l p g a : Nat) (m : List UInt8) (hm : m.length ≤ 64) (kk : Int) (hi : i < 4294967296) (hl : l < 256) (hp : p < 65536) (hg : g < 65536) (ha : a < 4294967296) (w : World) (B node : Nat) (ac : List Ac) (ls : List Lg) (va vl : Value) (hX : XB w B node ac ls va vl) (hap : Apart B va vl) (hokl : ∀ x, x ∈ ls → x.ok) (hlenl : ls.length ≤ 1000000) (hj : findB i l ls < ls.length) (hE : ls[findB i l ls].a ≠ 0 ∧ ¬ (ls[findB i l ls].p = p ∧ ls[findB i l ls].g = g ∧ ls[findB i l ls].a = a ∧ ls[findB i l ls].m = m)) :
    Calls Tryz.prog 161 #[.pointer (some ⟨B, 0, none⟩), .agg #[.int .u8 kk, .int .u8 (f : Int), .int .u8 (t : Int), .int .u32 (i : Int), .int .u8 (l : Int), .int .u16 (p : Int), .int .u16 (g : Int), .int .u32 (a : Int), .string (bs m)]] w fun e w' => e = .returned (.tuple #[.int .u8 0, .int .i64 11]) ∧ XBTo w w' B node ac ls va vl va vl := by
  have hTm := hide (fun u => termsOf_any 0 f t i l p g a m hm kk u)
  have hF := hide (fun u (hu : XB u B node ac ls va vl) => find_any i l hi hl u B node ac ls va vl hu hokl (by omega))
  generalize findB i l ls = j at *
  obtain ⟨ad, cap, hv, hev⟩ := hX.lrow.form Lg.cells_length
  subst hv
  obtain ⟨gg, hgg, hcell, hfro⟩ := hev j hj
  subst hgg
  clear hev
  have hBl := hX.lt
  have d1 : decide ((j : Int) < (ls.length : Int)) = true := by simp; omega
  have hlk : (j : Int) < (ls.length : Int) := by omega
  go_enter Tryz.func161, Tryz.ntmps161
  go_wp2_with fail
  refine (hTm.out _).mono ?_
  rintro e w1 ⟨rfl, hb1⟩
  have B1 := (Box.mk0 _ _ _).below hb1
  have hcm := B1.cell
  have hltm := B1.lt
  clear hTm hb1
  go_wp2_with fail
  refine (hF.out _ (hX.below (B1.alloc _).bel)).mono ?_
  rintro e w2 ⟨rfl, rfl⟩
  have hX1 := hX.below B1.bel
  clear hF hcell hfro
  obtain ⟨ad', cap', hv', hev'⟩ := hX1.lrow.form Lg.cells_length
  obtain ⟨gx, hgx, hcell, _⟩ := hev' j hj
  have ead : some ⟨gg, 0, none⟩ = ad' := by injection hv'
  subst ead
  obtain rfl : gg = gx := by injection hgx with h; injection h
  have hgl : gg < w1.heap.size := hX1.lrow.lt rfl
  have hBl1 := hX1.lt
  have e2 := hcell 2 (by decide)
  have e3 := hcell 3 (by decide)
  have e4 := hcell 4 (by decide)
  have e5 := hcell 5 (by decide)
  have e6 := hcell 6 (by decide)
  clear hcell hev' hv' hgx
  have hc : ∀ o, _ = _ := fun o => cell_at hX1.blk o
  have hex := hokl ls[j] (List.getElem_mem hj)
  generalize ls[j] = E at *
  obtain ⟨ei, el, es, ep, eg, ea, em⟩ := E
  obtain ⟨_, _, hx3, hx4, hx5, hx6⟩ := hex
  simp only [Lg.cells, List.getElem?_cons_zero, List.getElem?_cons_succ, Nat.add_zero] at e2 e3 e4 e5 e6 hx3 hx4 hx5 hx6 hE
  have y3 : ((ea : Int) == 0) = false := by simp; omega
  by_cases r1 : ep = p
  · have q1 : ((ep : Int) == (p : Int)) = true := by simp; omega
    by_cases r2 : eg = g
    · have q2 : ((eg : Int) == (g : Int)) = true := by simp; omega
      by_cases r3 : ea = a
      · have q3 : ((ea : Int) == (a : Int)) = true := by simp; omega
        have q4 : ((bs em).toList == (bs m).toList) = false := by rw [bs_same]; simpa using fun r4 => hE.2 ⟨r1, r2, r3, r4⟩
        clear r1 r2 r3
        by_cases z1 : ep = 0
        · have y1 : ((ep : Int) == 0) = true := by simp; omega
          by_cases z2 : eg = 0
          · have y2 : ((eg : Int) == 0) = true := by simp; omega
            clear z1 z2
            go_wp2
            go_quiet (fail)
            go_wp2
            go_ret2
            exact ⟨rfl, XBTo.same hX hap ((B1.alloc _).bel.drewN _)⟩
          · have y2 : ((eg : Int) == 0) = false := by simp; omega
            clear z1 z2
            go_wp2
            go_quiet (fail)
            go_wp2
            go_ret2
            exact ⟨rfl, XBTo.same hX hap ((B1.alloc _).bel.drewN _)⟩
        · have y1 : ((ep : Int) == 0) = false := by simp; omega
          clear z1
          go_wp2
          go_quiet (fail)
          go_wp2
          go_ret2
          exact ⟨rfl, XBTo.same hX hap ((B1.alloc _).bel.drewN _)⟩
      · have q3 : ((ea : Int) == (a : Int)) = false := by simp; omega
        clear r1 r2 r3
        by_cases z1 : ep = 0
        · have y1 : ((ep : Int) == 0) = true := by simp; omega
          by_cases z2 : eg = 0
          · have y2 : ((eg : Int) == 0) = true := by simp; omega
            clear z1 z2
            go_wp2
            go_quiet (fail)
            go_wp2
            go_ret2
            exact ⟨rfl, XBTo.same hX hap ((B1.alloc _).bel.drewN _)⟩
          · have y2 : ((eg : Int) == 0) = false := by simp; omega
            clear z1 z2
            go_wp2
            go_quiet (fail)
            go_wp2
            go_ret2
            exact ⟨rfl, XBTo.same hX hap ((B1.alloc _).bel.drewN _)⟩
        · have y1 : ((ep : Int) == 0) = false := by simp; omega
          clear z1
          go_wp2
          go_quiet (fail)
          go_wp2
          go_ret2
          exact ⟨rfl, XBTo.same hX hap ((B1.alloc _).bel.drewN _)⟩
    · have q2 : ((eg : Int) == (g : Int)) = false := by simp; omega
      clear r1 r2
      by_cases z1 : ep = 0
      · have y1 : ((ep : Int) == 0) = true := by simp; omega
        by_cases z2 : eg = 0
        · have y2 : ((eg : Int) == 0) = true := by simp; omega
          clear z1 z2
          go_wp2
          go_quiet (fail)
          go_wp2
          go_ret2
          exact ⟨rfl, XBTo.same hX hap ((B1.alloc _).bel.drewN _)⟩
        · have y2 : ((eg : Int) == 0) = false := by simp; omega
          clear z1 z2
          go_wp2
          go_quiet (fail)
          go_wp2
          go_ret2
          exact ⟨rfl, XBTo.same hX hap ((B1.alloc _).bel.drewN _)⟩
      · have y1 : ((ep : Int) == 0) = false := by simp; omega
        clear z1
        go_wp2
        go_quiet (fail)
        go_wp2
        go_ret2
        exact ⟨rfl, XBTo.same hX hap ((B1.alloc _).bel.drewN _)⟩
  · have q1 : ((ep : Int) == (p : Int)) = false := by simp; omega
    clear r1
    by_cases z1 : ep = 0
    · have y1 : ((ep : Int) == 0) = true := by simp; omega
      by_cases z2 : eg = 0
      · have y2 : ((eg : Int) == 0) = true := by simp; omega
        clear z1 z2
        go_wp2
        go_quiet (fail)
        go_wp2
        go_ret2
        exact ⟨rfl, XBTo.same hX hap ((B1.alloc _).bel.drewN _)⟩
      · have y2 : ((eg : Int) == 0) = false := by simp; omega
        clear z1 z2
        go_wp2
        go_quiet (fail)
        go_wp2
        go_ret2
        exact ⟨rfl, XBTo.same hX hap ((B1.alloc _).bel.drewN _)⟩
    · have y1 : ((ep : Int) == 0) = false := by simp; omega
      clear z1
      go_wp2
      go_quiet (fail)
      go_wp2
      go_ret2
      exact ⟨rfl, XBTo.same hX hap ((B1.alloc _).bel.drewN _)⟩

set_option maxRecDepth 100000 in
set_option maxHeartbeats 1000000 in
theorem prep_bare (f t i l p g a : Nat) (m : List UInt8) (hm : m.length ≤ 64) (kk : Int) (hi : i < 4294967296) (hl : l < 256) (hp : p < 65536) (hg : g < 65536) (ha : a < 4294967296) (w : World) (B node : Nat) (ac : List Ac) (ls : List Lg) (va vl : Value) (hX : XB w B node ac ls va vl) (hap : Apart B va vl) (hokl : ∀ x, x ∈ ls → x.ok) (hlenl : ls.length ≤ 1000000) (hj : findB i l ls < ls.length) (s0 : Nat) (hs0 : ls[findB i l ls].st = s0) (ha0 : a ≠ 0) (hE : ls[findB i l ls].p = 0 ∧ ls[findB i l ls].g = 0 ∧ ls[findB i l ls].a = 0 ∧ ls[findB i l ls].m = []) :
    Calls Tryz.prog 161 #[.pointer (some ⟨B, 0, none⟩), .agg #[.int .u8 kk, .int .u8 (f : Int), .int .u8 (t : Int), .int .u32 (i : Int), .int .u8 (l : Int), .int .u16 (p : Int), .int .u16 (g : Int), .int .u32 (a : Int), .string (bs m)]] w fun e w' => e = .returned (.tuple #[.int .u8 (s0 : Int), .int .i64 0]) ∧ XBTo w w' B node ac ls va vl va vl := by
  have hTm := hide (fun u => termsOf_any 0 f t i l p g a m hm kk u)
  have hF := hide (fun u (hu : XB u B node ac ls va vl) => find_any i l hi hl u B node ac ls va vl hu hokl (by omega))
  generalize findB i l ls = j at *
  obtain ⟨ad, cap, hv, hev⟩ := hX.lrow.form Lg.cells_length
  subst hv
  obtain ⟨gg, hgg, hcell, hfro⟩ := hev j hj
  subst hgg
  clear hev
  have hBl := hX.lt
  have d1 : decide ((j : Int) < (ls.length : Int)) = true := by simp; omega
  have hlk : (j : Int) < (ls.length : Int) := by omega
  go_enter Tryz.func161, Tryz.ntmps161
  go_wp2_with fail
  refine (hTm.out _).mono ?_
  rintro e w1 ⟨rfl, hb1⟩
  have B1 := (Box.mk0 _ _ _).below hb1
  have hcm := B1.cell
  have hltm := B1.lt
  clear hTm hb1
  go_wp2_with fail
  refine (hF.out _ (hX.below (B1.alloc _).bel)).mono ?_
  rintro e w2 ⟨rfl, rfl⟩
  have hX1 := hX.below B1.bel
  clear hF hcell hfro
  obtain ⟨ad', cap', hv', hev'⟩ := hX1.lrow.form Lg.cells_length
  obtain ⟨gx, hgx, hcell, _⟩ := hev' j hj
  have ead : some ⟨gg, 0, none⟩ = ad' := by injection hv'
  subst ead
  obtain rfl : gg = gx := by injection hgx with h; injection h
  have hgl : gg < w1.heap.size := hX1.lrow.lt rfl
  have hBl1 := hX1.lt
  have e2 := hcell 2 (by decide)
  have e3 := hcell 3 (by decide)
  have e4 := hcell 4 (by decide)
  have e5 := hcell 5 (by decide)
  have e6 := hcell 6 (by decide)
  clear hcell hev' hv' hgx
  have hc : ∀ o, _ = _ := fun o => cell_at hX1.blk o
  have hex := hokl ls[j] (List.getElem_mem hj)
  generalize ls[j] = E at *
  obtain ⟨ei, el, es, ep, eg, ea, em⟩ := E
  obtain ⟨_, _, hx3, hx4, hx5, hx6⟩ := hex
  simp only [Lg.cells, List.getElem?_cons_zero, List.getElem?_cons_succ, Nat.add_zero] at e2 e3 e4 e5 e6 hx3 hx4 hx5 hx6 hE hs0
  subst hs0
  obtain ⟨s1, s2, s3, s4⟩ := hE
  subst s1
  subst s2
  subst s3
  subst s4
  have q3 : ((0 : Int) == (a : Int)) = false := by simp; omega
  have y4 : (bs []).toList.isEmpty = true := by rw [bs_toList]; rfl
  have y5 : ((bs []).toList == []) = true := by rw [bs_toList]; rfl
  by_cases r1 : 0 = p
  · have q1 : ((0 : Int) == (p : Int)) = true := by simp; omega
    by_cases r2 : 0 = g
    · have q2 : ((0 : Int) == (g : Int)) = true := by simp; omega
      clear r1 r2
      go_wp2
      go_quiet (fail)
      go_wp2
      go_ret2
      exact ⟨rfl, XBTo.same hX hap ((B1.alloc _).bel.drewN _)⟩
    · have q2 : ((0 : Int) == (g : Int)) = false := by simp; omega
      clear r1 r2
      go_wp2
      go_quiet (fail)
      go_wp2
      go_ret2
      exact ⟨rfl, XBTo.same hX hap ((B1.alloc _).bel.drewN _)⟩
  · have q1 : ((0 : Int) == (p : Int)) = false := by simp; omega
    clear r1
    go_wp2
    go_quiet (fail)
    go_wp2
    go_ret2
    exact ⟨rfl, XBTo.same hX hap ((B1.alloc _).bel.drewN _)⟩
end Go.Proofs.YtjkhbjgfoopomabGreat
