import Derived.Test.YtjkhbjgfoopomabC14
import Derived.Test.YtjkhbjgfoopomabC12
import Derived.Test.YtjkhbjgfoopomabC3
/-
  The program's Bank.execute.
-/
namespace Go.Proofs.Ytjkhbjgfoopomab
open Go.RowKit
set_option linter.unusedVariables false
set_option linter.unusedSimpArgs false

/-- one leg's state is written -/
theorem XBTo.setS {w u : World} {B node : Nat} {ac : List Ac} {ls1 : List Lg} {va vl : Value} {g n cap : Nat} (h : XBTo w u B node ac ls1 va vl va (.slice (some ⟨g, 0, none⟩) n cap)) (k : Nat) (hk : k < ls1.length) (st : Nat) :
    XBTo w (u.setCell ⟨g, k * 7 + 2, none⟩ (.int .u8 (st : Int))) B node ac (ls1.set k { ls1[k] with st := st }) va vl va (.slice (some ⟨g, 0, none⟩) n cap) :=
  h.rowL ((Kept.of_setCell u ⟨g, k * 7 + 2, none⟩ _).mono (fun i _ e => by simp at e; subst e; rfl)) (h.xb.lrow.set Lg.cells_length rfl k 2 hk (by decide) _ _ rfl)

set_option maxRecDepth 100000 in
set_option maxHeartbeats 1000000 in
theorem exec_held (f t i l p g a : Nat) (m : List UInt8) (kk : Int) (hi : i < 4294967296) (hl : l < 256) (w : World) (B node : Nat) (ac : List Ac) (ls : List Lg) (va vl : Value) (hX : XB w B node ac ls va vl) (hap : Apart B va vl) (hoka : ∀ x, x ∈ ac → x.ok) (hokl : ∀ x, x ∈ ls → x.ok) (hlena : ac.length ≤ 1000000) (hlenl : ls.length ≤ 1000000)
    (hj : findB i l ls < ls.length) (hst : ls[findB i l ls].st = 1)
    (hout : ∀ x, x ∈ ac → x.n = ls[findB i l ls].p → ls[findB i l ls].a ≤ x.b) (hin : ∀ x, x ∈ ac → x.n = ls[findB i l ls].g → x.b + ls[findB i l ls].a < 4294967296) :
    Calls Try.prog 95 #[.pointer (some ⟨B, 0, none⟩), .agg #[.int .u8 kk, .int .u8 (f : Int), .int .u8 (t : Int), .int .u32 (i : Int), .int .u8 (l : Int), .int .u16 (p : Int), .int .u16 (g : Int), .int .u32 (a : Int), .string (bs m)]] w fun e w' =>
      e = .returned (.tuple #[.int .u8 3, .int .i64 0]) ∧ XBTo w w' B node (movedL ls[findB i l ls].p ls[findB i l ls].g ls[findB i l ls].a ac) (ls.set (findB i l ls) { ls[findB i l ls] with st := 3 }) va vl va vl := by
  have hF := hide (fun u (hu : XB u B node ac ls va vl) => find_any i l hi hl u B node ac ls va vl hu hokl hlenl)
  generalize findB i l ls = j at *
  have hx := hokl ls[j] (List.getElem_mem hj)
  have hC := hide (fun u (hu : XB u B node ac ls va vl) => carryOut_any ls[j].p ls[j].g ls[j].a ls[j].m hx.2.2.2.1 hx.2.2.2.2.1 hx.2.2.2.2.2 u B node ac ls va vl hu hap hoka hlena hout hin)
  obtain ⟨ad, cap, hv, hev⟩ := hX.lrow.form Lg.cells_length
  subst hv
  obtain ⟨gg, hgg, hcell, _⟩ := hev j hj
  subst hgg
  have hc : ∀ o, _ = _ := fun o => cell_at hX.blk o
  have hBl := hX.lt
  have hgl : gg < w.heap.size := hX.lrow.lt rfl
  have hgB : gg ≠ B := fun e => hap.l (by rw [e]; rfl)
  have hgB' : B ≠ gg := fun e => hgB e.symm
  have d1 : decide ((j : Int) ≥ (ls.length : Int)) = false := by simp; omega
  have d2 : decide ((ls.length : Int) ≤ (j : Int)) = false := by simp; omega
  have hlk : (j : Int) < (ls.length : Int) := by omega
  have e2 := hcell 2 (by decide)
  have e3 := hcell 3 (by decide)
  have e4 := hcell 4 (by decide)
  have e5 := hcell 5 (by decide)
  have e6 := hcell 6 (by decide)
  clear hcell hev hout hin
  generalize hE : ls[j] = E at *
  replace hE := hide hE
  obtain ⟨ei, el, es, ep, eg, ea, em⟩ := E
  simp only [Lg.cells, List.getElem?_cons_zero, List.getElem?_cons_succ, Nat.add_zero] at e2 e3 e4 e5 e6 hst hC
  subst hst
  simp only
  go_enter Try.func95, Try.ntmps95
  go_wp2_with fail
  refine (hF.out _ (hX.below ((Below.refl _ _).alloc (Nat.le_refl _) _))).mono ?_
  rintro e w1 ⟨rfl, rfl⟩
  clear hF
  go_wp2_with fail
  refine (hC.out _ (hX.below (((Below.refl _ _).alloc (Nat.le_refl _) _).alloc (by simp) _))).mono ?_
  rintro e w2 ⟨rfl, hT⟩
  replace hT := XBTo.from (((Below.refl _ _).alloc (Nat.le_refl _) _).alloc (by simp) _) hT
  have hS := hide (hT.setS j hj 3)
  have hc2 : ∀ o, _ = _ := fun o => cell_at hT.xb.blk o
  obtain ⟨ad', cap', hv', hev'⟩ := hT.xb.lrow.form Lg.cells_length
  obtain ⟨gx, hgx, hcell, hfro⟩ := hev' j hj
  have ead : some ⟨gg, 0, none⟩ = ad' := by injection hv'
  subst ead
  obtain rfl : gg = gx := by injection hgx with h; injection h
  rw [hE.out] at hcell hS
  have f2 := hcell 2 (by decide)
  simp only [Lg.cells, List.getElem?_cons_zero, List.getElem?_cons_succ] at f2
  clear hC hcell hev' hv' hgx hc e2 e3 e4 e5 e6
  go_wp2
  go_ret2
  exact ⟨rfl, hS.out⟩

set_option maxRecDepth 100000 in
set_option maxHeartbeats 1000000 in
theorem exec_none (f t i l p g a : Nat) (m : List UInt8) (kk : Int) (hi : i < 4294967296) (hl : l < 256) (w : World) (B node : Nat) (ac : List Ac) (ls : List Lg) (va vl : Value) (hX : XB w B node ac ls va vl) (hap : Apart B va vl) (hokl : ∀ x, x ∈ ls → x.ok) (hlenl : ls.length ≤ 1000000) (hj : ls.length ≤ findB i l ls) :
    Calls Try.prog 95 #[.pointer (some ⟨B, 0, none⟩), .agg #[.int .u8 kk, .int .u8 (f : Int), .int .u8 (t : Int), .int .u32 (i : Int), .int .u8 (l : Int), .int .u16 (p : Int), .int .u16 (g : Int), .int .u32 (a : Int), .string (bs m)]] w fun e w' => e = .returned (.tuple #[.int .u8 0, .int .i64 14]) ∧ XBTo w w' B node ac ls va vl va vl := by
  have hF := hide (fun u (hu : XB u B node ac ls va vl) => find_any i l hi hl u B node ac ls va vl hu hokl hlenl)
  generalize findB i l ls = j at *
  obtain ⟨ad, cap, hv, hev⟩ := hX.lrow.form Lg.cells_length
  subst hv
  have hc : ∀ o, _ = _ := fun o => cell_at hX.blk o
  have hBl := hX.lt
  have d1 : decide ((j : Int) ≥ (ls.length : Int)) = true := by simp; omega
  have d2 : decide ((ls.length : Int) ≤ (j : Int)) = true := by simp; omega
  clear hev
  go_enter Try.func95, Try.ntmps95
  go_wp2_with fail
  refine (hF.out _ (hX.below ((Below.refl _ _).alloc (Nat.le_refl _) _))).mono ?_
  rintro e w1 ⟨rfl, rfl⟩
  clear hF
  go_wp2
  go_ret2
  exact ⟨rfl, XBTo.same hX hap ((Below.refl _ _).alloc (Nat.le_refl _) _)⟩

set_option maxRecDepth 100000 in
set_option maxHeartbeats 1000000 in
theorem exec_done (f t i l p g a : Nat) (m : List UInt8) (kk : Int) (hi : i < 4294967296) (hl : l < 256) (w : World) (B node : Nat) (ac : List Ac) (ls : List Lg) (va vl : Value) (hX : XB w B node ac ls va vl) (hap : Apart B va vl) (hokl : ∀ x, x ∈ ls → x.ok) (hlenl : ls.length ≤ 1000000) (hj : findB i l ls < ls.length) (hst : ls[findB i l ls].st = 3) :
    Calls Try.prog 95 #[.pointer (some ⟨B, 0, none⟩), .agg #[.int .u8 kk, .int .u8 (f : Int), .int .u8 (t : Int), .int .u32 (i : Int), .int .u8 (l : Int), .int .u16 (p : Int), .int .u16 (g : Int), .int .u32 (a : Int), .string (bs m)]] w fun e w' => e = .returned (.tuple #[.int .u8 3, .int .i64 0]) ∧ XBTo w w' B node ac ls va vl va vl := by
  have hF := hide (fun u (hu : XB u B node ac ls va vl) => find_any i l hi hl u B node ac ls va vl hu hokl hlenl)
  generalize findB i l ls = j at *
  obtain ⟨ad, cap, hv, hev⟩ := hX.lrow.form Lg.cells_length
  subst hv
  have hc : ∀ o, _ = _ := fun o => cell_at hX.blk o
  have hBl := hX.lt
  obtain ⟨gg, hgg, hcell, hfro⟩ := hev j hj
  subst hgg
  have hgl : gg < w.heap.size := hX.lrow.lt rfl
  have hgB : gg ≠ B := fun e => hap.l (by rw [e]; rfl)
  have hgB' : B ≠ gg := fun e => hgB e.symm
  have d1 : decide ((j : Int) ≥ (ls.length : Int)) = false := by simp; omega
  have d2 : decide ((ls.length : Int) ≤ (j : Int)) = false := by simp; omega
  have hlk : (j : Int) < (ls.length : Int) := by omega
  have e2 := hcell 2 (by decide)
  clear hcell hev
  have hs8 := (hokl ls[j] (List.getElem_mem hj)).2.2.1
  generalize ls[j] = E at *
  obtain ⟨ei, el, es, ep, eg, ea, em⟩ := E
  simp only [Lg.cells, List.getElem?_cons_zero, List.getElem?_cons_succ, Nat.add_zero] at e2 hst hs8
  subst hst
  go_enter Try.func95, Try.ntmps95
  go_wp2_with fail
  refine (hF.out _ (hX.below ((Below.refl _ _).alloc (Nat.le_refl _) _))).mono ?_
  rintro e w1 ⟨rfl, rfl⟩
  clear hF
  go_wp2
  go_ret2
  exact ⟨rfl, XBTo.same hX hap ((Below.refl _ _).alloc (Nat.le_refl _) _)⟩

set_option maxRecDepth 100000 in
set_option maxHeartbeats 1000000 in
theorem exec_bad (f t i l p g a : Nat) (m : List UInt8) (kk : Int) (hi : i < 4294967296) (hl : l < 256) (w : World) (B node : Nat) (ac : List Ac) (ls : List Lg) (va vl : Value) (hX : XB w B node ac ls va vl) (hap : Apart B va vl) (hokl : ∀ x, x ∈ ls → x.ok) (hlenl : ls.length ≤ 1000000) (hj : findB i l ls < ls.length) (hst : ls[findB i l ls].st ≠ 1 ∧ ls[findB i l ls].st ≠ 3) :
    Calls Try.prog 95 #[.pointer (some ⟨B, 0, none⟩), .agg #[.int .u8 kk, .int .u8 (f : Int), .int .u8 (t : Int), .int .u32 (i : Int), .int .u8 (l : Int), .int .u16 (p : Int), .int .u16 (g : Int), .int .u32 (a : Int), .string (bs m)]] w fun e w' => e = .returned (.tuple #[.int .u8 0, .int .i64 14]) ∧ XBTo w w' B node ac ls va vl va vl := by
  have hF := hide (fun u (hu : XB u B node ac ls va vl) => find_any i l hi hl u B node ac ls va vl hu hokl hlenl)
  generalize findB i l ls = j at *
  obtain ⟨ad, cap, hv, hev⟩ := hX.lrow.form Lg.cells_length
  subst hv
  have hc : ∀ o, _ = _ := fun o => cell_at hX.blk o
  have hBl := hX.lt
  obtain ⟨gg, hgg, hcell, hfro⟩ := hev j hj
  subst hgg
  have hgl : gg < w.heap.size := hX.lrow.lt rfl
  have hgB : gg ≠ B := fun e => hap.l (by rw [e]; rfl)
  have hgB' : B ≠ gg := fun e => hgB e.symm
  have d1 : decide ((j : Int) ≥ (ls.length : Int)) = false := by simp; omega
  have d2 : decide ((ls.length : Int) ≤ (j : Int)) = false := by simp; omega
  have hlk : (j : Int) < (ls.length : Int) := by omega
  have e2 := hcell 2 (by decide)
  clear hcell hev
  have hs8 := (hokl ls[j] (List.getElem_mem hj)).2.2.1
  generalize ls[j] = E at *
  obtain ⟨ei, el, es, ep, eg, ea, em⟩ := E
  simp only [Lg.cells, List.getElem?_cons_zero, List.getElem?_cons_succ, Nat.add_zero] at e2 hst hs8
  have d3 : ((es : Int) == 1) = false := by simp; omega
  have d4 : ((es : Int) == 3) = false := by simp; omega
  clear hst
  go_enter Try.func95, Try.ntmps95
  go_wp2_with fail
  refine (hF.out _ (hX.below ((Below.refl _ _).alloc (Nat.le_refl _) _))).mono ?_
  rintro e w1 ⟨rfl, rfl⟩
  clear hF
  go_wp2
  go_ret2
  exact ⟨rfl, XBTo.same hX hap ((Below.refl _ _).alloc (Nat.le_refl _) _)⟩
end Go.Proofs.Ytjkhbjgfoopomab
/-
  The program's Bank.reject.
-/
namespace Go.Proofs.Ytjkhbjgfoopomab
open Go.RowKit
set_option linter.unusedVariables false
set_option linter.unusedSimpArgs false

set_option maxRecDepth 100000 in
set_option maxHeartbeats 1000000 in
theorem rej_bad (f t i l p g a : Nat) (m : List UInt8) (kk : Int) (hi : i < 4294967296) (hl : l < 256) (w : World) (B node : Nat) (ac : List Ac) (ls : List Lg) (va vl : Value) (hX : XB w B node ac ls va vl) (hap : Apart B va vl) (hokl : ∀ x, x ∈ ls → x.ok) (hlenl : ls.length ≤ 1000000) (hj : findB i l ls < ls.length) (hst : ls[findB i l ls].st = 3) :
    Calls Try.prog 96 #[.pointer (some ⟨B, 0, none⟩), .agg #[.int .u8 kk, .int .u8 (f : Int), .int .u8 (t : Int), .int .u32 (i : Int), .int .u8 (l : Int), .int .u16 (p : Int), .int .u16 (g : Int), .int .u32 (a : Int), .string (bs m)]] w fun e w' => e = .returned (.tuple #[.int .u8 0, .int .i64 14]) ∧ XBTo w w' B node ac ls va vl va vl := by
  have hF := hide (fun u (hu : XB u B node ac ls va vl) => find_any i l hi hl u B node ac ls va vl hu hokl hlenl)
  generalize findB i l ls = j at *
  obtain ⟨ad, cap, hv, hev⟩ := hX.lrow.form Lg.cells_length
  subst hv
  have hc : ∀ o, _ = _ := fun o => cell_at hX.blk o
  have hBl := hX.lt
  obtain ⟨gg, hgg, hcell, hfro⟩ := hev j hj
  subst hgg
  have hgl : gg < w.heap.size := hX.lrow.lt rfl
  have hgB : gg ≠ B := fun e => hap.l (by rw [e]; rfl)
  have hgB' : B ≠ gg := fun e => hgB e.symm
  have d1 : decide ((j : Int) ≥ (ls.length : Int)) = false := by simp; omega
  have d2 : decide ((ls.length : Int) ≤ (j : Int)) = false := by simp; omega
  have hlk : (j : Int) < (ls.length : Int) := by omega
  have e2 := hcell 2 (by decide)
  clear hcell hev
  have hs8 := (hokl ls[j] (List.getElem_mem hj)).2.2.1
  generalize ls[j] = E at *
  obtain ⟨ei, el, es, ep, eg, ea, em⟩ := E
  simp only [Lg.cells, List.getElem?_cons_zero, List.getElem?_cons_succ, Nat.add_zero] at e2 hst hs8
  subst hst
  go_enter Try.func96, Try.ntmps96
  go_wp2_with fail
  refine (hF.out _ (hX.below ((Below.refl _ _).alloc (Nat.le_refl _) _))).mono ?_
  rintro e w1 ⟨rfl, rfl⟩
  clear hF
  go_wp2
  go_ret2
  exact ⟨rfl, XBTo.same hX hap ((Below.refl _ _).alloc (Nat.le_refl _) _)⟩

set_option maxRecDepth 100000 in
set_option maxHeartbeats 1000000 in
theorem rej_ok (f t i l p g a : Nat) (m : List UInt8) (kk : Int) (hi : i < 4294967296) (hl : l < 256) (w : World) (B node : Nat) (ac : List Ac) (ls : List Lg) (va vl : Value) (hX : XB w B node ac ls va vl) (hap : Apart B va vl) (hokl : ∀ x, x ∈ ls → x.ok) (hlenl : ls.length ≤ 1000000) (hj : findB i l ls < ls.length) (hst : ls[findB i l ls].st ≠ 3) :
    Calls Try.prog 96 #[.pointer (some ⟨B, 0, none⟩), .agg #[.int .u8 kk, .int .u8 (f : Int), .int .u8 (t : Int), .int .u32 (i : Int), .int .u8 (l : Int), .int .u16 (p : Int), .int .u16 (g : Int), .int .u32 (a : Int), .string (bs m)]] w fun e w' => e = .returned (.tuple #[.int .u8 4, .int .i64 0]) ∧ XBTo w w' B node ac (ls.set (findB i l ls) { ls[findB i l ls] with st := 4 }) va vl va vl := by
  have hF := hide (fun u (hu : XB u B node ac ls va vl) => find_any i l hi hl u B node ac ls va vl hu hokl hlenl)
  generalize findB i l ls = j at *
  obtain ⟨ad, cap, hv, hev⟩ := hX.lrow.form Lg.cells_length
  subst hv
  have hc : ∀ o, _ = _ := fun o => cell_at hX.blk o
  have hBl := hX.lt
  obtain ⟨gg, hgg, hcell, hfro⟩ := hev j hj
  subst hgg
  have hgl : gg < w.heap.size := hX.lrow.lt rfl
  have hgB : gg ≠ B := fun e => hap.l (by rw [e]; rfl)
  have hgB' : B ≠ gg := fun e => hgB e.symm
  have d1 : decide ((j : Int) ≥ (ls.length : Int)) = false := by simp; omega
  have d2 : decide ((ls.length : Int) ≤ (j : Int)) = false := by simp; omega
  have hlk : (j : Int) < (ls.length : Int) := by omega
  have e2 := hcell 2 (by decide)
  clear hcell hev
  have hS := hide (((XBTo.same hX hap (Below.refl _ _)).setS j hj 4).then ((Below.refl _ _).alloc (Nat.le_refl _) (.cells #[.int .u8 kk, .int .u8 (f : Int), .int .u8 (t : Int), .int .u32 (i : Int), .int .u8 (l : Int), .int .u16 (p : Int), .int .u16 (g : Int), .int .u32 (a : Int), .string (bs m)] 121)))
  have hs8 := (hokl ls[j] (List.getElem_mem hj)).2.2.1
  generalize hE : ls[j] = E at *
  clear hE
  obtain ⟨ei, el, es, ep, eg, ea, em⟩ := E
  simp only [Lg.cells, List.getElem?_cons_zero, List.getElem?_cons_succ, Nat.add_zero] at e2 hst hs8
  have d4 : ((es : Int) == 3) = false := by simp; omega
  clear hst
  go_enter Try.func96, Try.ntmps96
  go_wp2_with fail
  refine (hF.out _ (hX.below ((Below.refl _ _).alloc (Nat.le_refl _) _))).mono ?_
  rintro e w1 ⟨rfl, rfl⟩
  clear hF
  go_wp2
  go_ret2
  exact ⟨rfl, hS.out⟩

set_option maxRecDepth 100000 in
set_option maxHeartbeats 1000000 in
theorem keep_full (x : Lg) (w : World) (B node : Nat) (ac : List Ac) (ls : List Lg) (va vl : Value) (hX : XB w B node ac ls va vl) (hlen : 128 ≤ ls.length) (hlen2 : ls.length ≤ 1000000) :
    Calls Try.prog 100 #[.pointer (some ⟨B, 0, none⟩), .agg #[.int .u32 (x.id : Int), .int .u8 (x.l : Int), .int .u8 (x.st : Int), .int .u16 (x.p : Int), .int .u16 (x.g : Int), .int .u32 (x.a : Int), .string (bs x.m)]] w fun e w' =>
      e = .returned (.int .i64 10) ∧ Below w.heap.size w w' := by
  obtain ⟨ad, cap, hv, hev⟩ := hX.lrow.form Lg.cells_length
  subst hv
  clear hev
  have hc : ∀ o, _ = _ := fun o => cell_at hX.blk o
  have hBl := hX.lt
  have d1 : decide ((ls.length : Int) ≥ 128) = true := by simp; omega
  have d2 : decide ((128 : Int) ≤ (ls.length : Int)) = true := by simp; omega
  go_enter Try.func100, Try.ntmps100
  go_wp2
  go_ret
  exact ⟨rfl, (Below.refl _ _).alloc (Nat.le_refl _) _⟩

/-- a leg that came by a Reject -/
def bareLg (i l : Nat) : Lg := ⟨i, l, 4, 0, 0, 0, []⟩
set_option maxRecDepth 100000 in
set_option maxHeartbeats 1000000 in
theorem rej_new (f t i l p g a : Nat) (m : List UInt8) (kk : Int) (hi : i < 4294967296) (hl : l < 256) (w : World) (B node : Nat) (ac : List Ac) (ls : List Lg) (va vl : Value) (hX : XB w B node ac ls va vl) (hap : Apart B va vl) (hokl : ∀ x, x ∈ ls → x.ok) (hlenl : ls.length < 128) (hj : ls.length ≤ findB i l ls) :
    Calls Try.prog 96 #[.pointer (some ⟨B, 0, none⟩), .agg #[.int .u8 kk, .int .u8 (f : Int), .int .u8 (t : Int), .int .u32 (i : Int), .int .u8 (l : Int), .int .u16 (p : Int), .int .u16 (g : Int), .int .u32 (a : Int), .string (bs m)]] w fun e w' =>
      e = .returned (.tuple #[.int .u8 4, .int .i64 0]) ∧ ∃ k vl', k ≤ ls.length ∧ (∀ q (hq : q < ls.length), k ≤ q → aheadB (bareLg i l) ls[q] = true) ∧ (∀ j (hj : j < ls.length), k = j + 1 → aheadB (bareLg i l) ls[j] = false) ∧ XBTo w w' B node ac (insAt (bareLg i l) k ls) va vl va vl' := by
  have hF := hide (fun u (hu : XB u B node ac ls va vl) => find_any i l hi hl u B node ac ls va vl hu hokl (by omega))
  have hK := hide (fun u (hu : XB u B node ac ls va vl) => keep_any (bareLg i l) ⟨hi, hl, by show (4 : Nat) < 256; omega, by show (0 : Nat) < 65536; omega, by show (0 : Nat) < 65536; omega, by show (0 : Nat) < 4294967296; omega⟩ u B node ac ls va vl hu hap hokl hlenl)
  generalize hb : bareLg i l = X0 at *
  have hXX : X0 = ⟨i, l, 4, 0, 0, 0, []⟩ := hb.symm
  clear hb
  generalize findB i l ls = j at *
  obtain ⟨ad, cap, hv, hev⟩ := hX.lrow.form Lg.cells_length
  subst hv
  clear hev
  have hc : ∀ o, _ = _ := fun o => cell_at hX.blk o
  have hBl := hX.lt
  have d1 : decide ((j : Int) ≥ (ls.length : Int)) = true := by simp; omega
  have d2 : decide ((ls.length : Int) ≤ (j : Int)) = true := by simp; omega
  have hK2 : Hid (∀ u, XB u B node ac ls va (.slice ad ls.length cap) → Calls Try.prog 100 #[.pointer (some ⟨B, 0, none⟩), .agg #[.int .u32 (i : Int), .int .u8 (l : Int), .int .u8 4, .int .u16 0, .int .u16 0, .int .u32 0, .string ⟨#[]⟩]] u fun e w' => e = .returned (.int .i64 0) ∧ ∃ k vl', k ≤ ls.length ∧ (∀ q (hq : q < ls.length), k ≤ q → aheadB X0 ls[q] = true) ∧ (∀ j (hj : j < ls.length), k = j + 1 → aheadB X0 ls[j] = false) ∧ XBTo u w' B node ac (insAt X0 k ls) va (.slice ad ls.length cap) va vl') := hide (fun u hu => by
    have h := hK.out u hu
    rw [hXX] at h ⊢
    exact h)
  clear hK hXX
  go_enter Try.func96, Try.ntmps96
  go_wp2_with fail
  refine (hF.out _ (hX.below ((Below.refl _ _).alloc (Nat.le_refl _) _))).mono ?_
  rintro e w1 ⟨rfl, rfl⟩
  clear hF
  go_wp2_with fail
  refine (hK2.out _ (hX.below ((Below.refl _ _).alloc (Nat.le_refl _) _))).mono ?_
  rintro e w2 ⟨rfl, k, vl', h1, h2, h3, h4⟩
  have H := hide (And.intro h1 (And.intro h2 (And.intro h3 (XBTo.from ((Below.refl _ _).alloc (Nat.le_refl _) _) h4))))
  clear h1 h2 h3 h4 hK2 hc
  go_wp2
  go_ret2
  first
    | exact ⟨rfl, k, vl', H.out.1, H.out.2.1, H.out.2.2.1, H.out.2.2.2⟩
    | exact ⟨rfl, k, H.out.1, H.out.2.1, H.out.2.2.1, vl', H.out.2.2.2⟩
end Go.Proofs.Ytjkhbjgfoopomab
/-
  The program's Bank.canHold.
-/
namespace Go.Proofs.Ytjkhbjgfoopomab
open Go.RowKit
set_option linter.unusedVariables false
set_option linter.unusedSimpArgs false

def canX (p g a : Nat) (ac : List Ac) (ls : List Lg) : Bool := hasB p ac && (hasB g ac && (decide (heldL p ls + a ≤ balL p ac) && decide (balL g ac + dueL g ls + a ≤ 4294967295)))
theorem balFold_lt (a : Nat) (ac : List Ac) (hok : ∀ x, x ∈ ac → x.ok) : ∀ s, s < 4294967296 → ac.foldl (balStep a) s < 4294967296 := by
  induction ac with
  | nil => intro s h; exact h
  | cons x r ih =>
    intro s h
    refine ih (fun y hy => hok y (by simp [hy])) _ ?_
    unfold balStep
    split
    · exact (hok x (by simp)).2
    · exact h
theorem balL_lt (a : Nat) (ac : List Ac) (hok : ∀ x, x ∈ ac → x.ok) : balL a ac < 4294967296 := balFold_lt a ac hok 0 (by decide)

set_option maxRecDepth 100000 in
set_option maxHeartbeats 1000000 in
theorem canHold_any (p g a : Nat) (m : List UInt8) (hp : p < 65536) (hg : g < 65536) (ha : a < 4294967296) (w : World) (B node : Nat) (ac : List Ac) (ls : List Lg) (va vl : Value) (hX : XB w B node ac ls va vl) (hoka : ∀ x, x ∈ ac → x.ok) (hokl : ∀ x, x ∈ ls → x.ok) (hlena : ac.length ≤ 1000000) (hlenl : ls.length ≤ 1000000)
    (hh : ∀ a, heldL a ls ≤ balL a ac) (hd : ∀ a, dueL a ls < 4294967296) :
    Calls Try.prog 99 #[.pointer (some ⟨B, 0, none⟩), .agg #[.int .u16 (p : Int), .int .u16 (g : Int), .int .u32 (a : Int), .string (bs m)]] w fun e w' => e = .returned (.bool (canX p g a ac ls)) ∧ Below w.heap.size w w' := by
  have hbp := balL_lt p ac hoka
  have hbg := balL_lt g ac hoka
  have hhp := hh p
  have hdg := hd g
  have hH1 := hide (fun u (hu : XB u B node ac ls va vl) => has_any p hp u B node ac ls va vl hu hoka hlena)
  have hH2 := hide (fun u (hu : XB u B node ac ls va vl) => has_any g hg u B node ac ls va vl hu hoka hlena)
  have hF1 := hide (fun u (hu : XB u B node ac ls va vl) => xfunds_any p hp u B node ac ls va vl hu hoka hokl hlena hlenl (Nat.lt_of_le_of_lt (hh p) (balL_lt p ac hoka)) (hd p))
  have hF2 := hide (fun u (hu : XB u B node ac ls va vl) => xfunds_any g hg u B node ac ls va vl hu hoka hokl hlena hlenl (Nat.lt_of_le_of_lt (hh g) (balL_lt g ac hoka)) (hd g))
  have hz : Hid (canX p g a ac ls = (hasB p ac && (hasB g ac && (decide (heldL p ls + a ≤ balL p ac) && decide (balL g ac + dueL g ls + a ≤ 4294967295))))) := hide rfl
  clear hh hd
  generalize canX p g a ac ls = R at *
  generalize hasB p ac = o1 at *
  generalize hasB g ac = o2 at *
  generalize balL p ac = bp at *
  generalize heldL p ls = sp at *
  generalize dueL p ls = dp at *
  generalize balL g ac = bg at *
  generalize heldL g ls = sg at *
  generalize dueL g ls = dg at *
  go_enter Try.func99, Try.ntmps99
  go_wp2_with fail
  refine (hH1.out _ (hX.below ((Below.refl _ _).alloc (Nat.le_refl _) _))).mono ?_
  rintro e w1 ⟨rfl, rfl⟩
  clear hH1
  cases o1 with
  | false =>
    have hq : Hid (R = false) := hide (by rw [hz.out]; simp)
    go_wp2
    go_ret
    exact ⟨by rw [hq.out]; rfl, (Below.refl _ _).alloc (Nat.le_refl _) _⟩
  | true =>
    go_wp2_with fail
    refine (hH2.out _ (hX.below ((Below.refl _ _).alloc (Nat.le_refl _) _))).mono ?_
    rintro e w1 ⟨rfl, rfl⟩
    clear hH2
    cases o2 with
    | false =>
      have hq : Hid (R = false) := hide (by rw [hz.out]; simp)
      go_wp2
      go_ret
      exact ⟨by rw [hq.out]; rfl, (Below.refl _ _).alloc (Nat.le_refl _) _⟩
    | true =>
      go_wp2_with fail
      refine (hF1.out _ (hX.below ((Below.refl _ _).alloc (Nat.le_refl _) _))).mono ?_
      rintro e w2 ⟨rfl, hb2⟩
      have B2 := (Box.mk0 _ _ _).below hb2
      have hcb := B2.cell
      have hlt2 := B2.lt
      clear hF1 hb2
      have W1 : IntKind.u32.wrap ((bp : Int) - (sp : Int)) = ((bp - sp : Nat) : Int) := by rw [IntKind.wrap_u32]; omega
      by_cases h1 : sp + a ≤ bp
      · have d1 : decide ((bp : Int) - (sp : Int) < (a : Int)) = false := by simp; omega
        have d1' : decide (bp - sp < a) = false := by simp; omega
        have hq : Hid (R = decide (bg + dg + a ≤ 4294967295)) := hide (by rw [hz.out]; simp [h1])
        have hq2 : Hid (decide ((bg : Int) + (dg : Int) + (a : Int) ≤ 4294967295) = decide (bg + dg + a ≤ 4294967295)) := hide (decide_eq_decide.2 (by omega))
        clear hz h1
        go_wp2_with fail
        refine (hF2.out _ (hX.below (B2.alloc _).bel)).mono ?_
        rintro e w3 ⟨rfl, hb3⟩
        have B3 := (B2.alloc _).below hb3
        clear hcb
        have hcb := B3.cell
        clear hF2 hb3
        have hlt3 := B3.lt
        go_wp2
        go_ret
        exact ⟨by rw [hq.out, ← hq2.out]; rfl, (B3.alloc _).bel⟩
      · have d1 : decide ((bp : Int) - (sp : Int) < (a : Int)) = true := by simp; omega
        have d1' : decide (bp - sp < a) = true := by simp; omega
        have hq : Hid (R = false) := hide (by rw [hz.out]; simp [h1])
        clear hz h1
        go_wp2
        go_ret
        exact ⟨by rw [hq.out]; rfl, (B2.alloc _).bel⟩
end Go.Proofs.Ytjkhbjgfoopomab
