import Derived.Test.YtjkhbjgfoopomabGreatA13
import Derived.Test.YtjkhbjgfoopomabGreatA17
namespace Go.Proofs.YtjkhbjgfoopomabGreat
open Go.RowKit
set_option maxRecDepth 100000
set_option maxHeartbeats 1000000
set_option linter.unusedVariables false
set_option linter.unusedSimpArgs false
theorem XBTo.setS {w u : World} {B node : Nat} {ac : List Ac} {ls1 : List Lg} {va vl : Value} {g n cap : Nat} (h : XBTo w u B node ac ls1 va vl va (.slice (some ⟨g, 0, none⟩) n cap)) (k : Nat) (hk : k < ls1.length) (st : Nat) :
  XBTo w (u.setCell ⟨g, k * 7 + 2, none⟩ (.int .u8 (st : Int))) B node ac (ls1.set k { ls1[k] with st := st }) va vl va (.slice (some ⟨g, 0, none⟩) n cap) :=
 h.rowL ((Kept.of_setCell u ⟨g, k * 7 + 2, none⟩ _).mono (fun i _ e => by simp at e; subst e; rfl)) (h.xb.lrow.set Lg.cells_length rfl k 2 hk (by decide) _ _ rfl)
theorem exec_held (f t i l p g a : Nat) (m : List UInt8) (kk : Int) (hi : i < 4294967296) (hl : l < 256) (w : World) (B node : Nat) (ac : List Ac) (ls : List Lg) (va vl : Value) (hX : XB w B node ac ls va vl) (hap : Apart B va vl) (hoka : ∀ x, x ∈ ac → x.ok) (hokl : ∀ x, x ∈ ls → x.ok) (hlena : ac.length ≤ 1000000) (hlenl : ls.length ≤ 1000000)
  (hj : findB i l ls < ls.length) (hst : ls[findB i l ls].st = 1)
  (hout : ∀ x, x ∈ ac → x.n = ls[findB i l ls].p → ls[findB i l ls].a ≤ x.b) (hin : ∀ x, x ∈ ac → x.n = ls[findB i l ls].g → x.b + ls[findB i l ls].a < 4294967296) :
  Calls Tryz.prog 162 #[.pointer (some ⟨B, 0, none⟩), .agg #[.int .u8 kk, .int .u8 (f : Int), .int .u8 (t : Int), .int .u32 (i : Int), .int .u8 (l : Int), .int .u16 (p : Int), .int .u16 (g : Int), .int .u32 (a : Int), .string (bs m)]] w fun e w' =>
   e = .returned (.tuple #[.int .u8 3, .int .i64 0]) ∧ XBTo w w' B node (movedL ls[findB i l ls].p ls[findB i l ls].g ls[findB i l ls].a ac) (ls.set (findB i l ls) { ls[findB i l ls] with st := 3 }) va vl va vl := by
 have hF := hide (fun u (hu : XB u B node ac ls va vl) => find_any i l hi hl u B node ac ls va vl hu hokl hlenl)
 generalize findB i l ls = j at *
 have hx := hokl ls[j] (List.getElem_mem hj)
 have hC := hide (fun u (hu : XB u B node ac ls va vl) => carryOut_any ls[j].p ls[j].g ls[j].a ls[j].m hx.2.2.2.1 hx.2.2.2.2.1 hx.2.2.2.2.2 u B node ac ls va vl hu hap hoka hlena hout hin)
 obtain ⟨ad, cap, hv, hev⟩ := hX.lrow.form Lg.cells_length
 subst hv
 obtain ⟨gg, hgg, hcell, _⟩ := hev j hj
 subst hgg
 have hc : ∀ o, _ = _ := fun o => cell_at hX.blk o
 have hBl := hX.lt
 have hgl : gg < w.heap.size := hX.lrow.lt rfl
 have hgB : gg ≠ B := fun e => hap.l (by rw [e]; rfl)
 have hgB' : B ≠ gg := fun e => hgB e.symm
 have d1 : decide ((j : Int) ≥ (ls.length : Int)) = false := by simp; omega
 have d2 : decide ((ls.length : Int) ≤ (j : Int)) = false := by simp; omega
 have hlk : (j : Int) < (ls.length : Int) := by omega
 have e2 := hcell 2 (by decide)
 have e3 := hcell 3 (by decide)
 have e4 := hcell 4 (by decide)
 have e5 := hcell 5 (by decide)
 have e6 := hcell 6 (by decide)
 clear hcell hev hout hin
 generalize hE : ls[j] = E at *
 replace hE := hide hE
 obtain ⟨ei, el, es, ep, eg, ea, em⟩ := E
 simp only [Lg.cells, List.getElem?_cons_zero, List.getElem?_cons_succ, Nat.add_zero] at e2 e3 e4 e5 e6 hst hC
 subst hst
 simp only
 go_enter Tryz.func162, Tryz.ntmps162
 go_wp2_with fail
 refine (hF.out _ (hX.below ((Below.refl _ _).alloc (Nat.le_refl _) _))).mono ?_
 rintro e w1 ⟨rfl, rfl⟩
 clear hF
 go_wp2_with fail
 refine (hC.out _ (hX.below (((Below.refl _ _).alloc (Nat.le_refl _) _).alloc (by simp) _))).mono ?_
 rintro e w2 ⟨rfl, hT⟩
 replace hT := XBTo.from (((Below.refl _ _).alloc (Nat.le_refl _) _).alloc (by simp) _) hT
 have hS := hide (hT.setS j hj 3)
 have hc2 : ∀ o, _ = _ := fun o => cell_at hT.xb.blk o
 obtain ⟨ad', cap', hv', hev'⟩ := hT.xb.lrow.form Lg.cells_length
 obtain ⟨gx, hgx, hcell, hfro⟩ := hev' j hj
 have ead : some ⟨gg, 0, none⟩ = ad' := by injection hv'
 subst ead
 obtain rfl : gg = gx := by injection hgx with h; injection h
 rw [hE.out] at hcell hS
 have f2 := hcell 2 (by decide)
 simp only [Lg.cells, List.getElem?_cons_zero, List.getElem?_cons_succ] at f2
 clear hC hcell hev' hv' hgx hc e2 e3 e4 e5 e6
 go_wp2
 go_ret2
 exact ⟨rfl, hS.out⟩
theorem exec_none (f t i l p g a : Nat) (m : List UInt8) (kk : Int) (hi : i < 4294967296) (hl : l < 256) (w : World) (B node : Nat) (ac : List Ac) (ls : List Lg) (va vl : Value) (hX : XB w B node ac ls va vl) (hap : Apart B va vl) (hokl : ∀ x, x ∈ ls → x.ok) (hlenl : ls.length ≤ 1000000) (hj : ls.length ≤ findB i l ls) :
  Calls Tryz.prog 162 #[.pointer (some ⟨B, 0, none⟩), .agg #[.int .u8 kk, .int .u8 (f : Int), .int .u8 (t : Int), .int .u32 (i : Int), .int .u8 (l : Int), .int .u16 (p : Int), .int .u16 (g : Int), .int .u32 (a : Int), .string (bs m)]] w fun e w' => e = .returned (.tuple #[.int .u8 0, .int .i64 14]) ∧ XBTo w w' B node ac ls va vl va vl := by
 have hF := hide (fun u (hu : XB u B node ac ls va vl) => find_any i l hi hl u B node ac ls va vl hu hokl hlenl)
 generalize findB i l ls = j at *
 obtain ⟨ad, cap, hv, hev⟩ := hX.lrow.form Lg.cells_length
 subst hv
 have hc : ∀ o, _ = _ := fun o => cell_at hX.blk o
 have hBl := hX.lt
 have d1 : decide ((j : Int) ≥ (ls.length : Int)) = true := by simp; omega
 have d2 : decide ((ls.length : Int) ≤ (j : Int)) = true := by simp; omega
 clear hev
 go_enter Tryz.func162, Tryz.ntmps162
 go_wp2_with fail
 refine (hF.out _ (hX.below ((Below.refl _ _).alloc (Nat.le_refl _) _))).mono ?_
 rintro e w1 ⟨rfl, rfl⟩
 clear hF
 go_wp2
 go_ret2
 exact ⟨rfl, XBTo.same hX hap ((Below.refl _ _).alloc (Nat.le_refl _) _)⟩
theorem exec_done (f t i l p g a : Nat) (m : List UInt8) (kk : Int) (hi : i < 4294967296) (hl : l < 256) (w : World) (B node : Nat) (ac : List Ac) (ls : List Lg) (va vl : Value) (hX : XB w B node ac ls va vl) (hap : Apart B va vl) (hokl : ∀ x, x ∈ ls → x.ok) (hlenl : ls.length ≤ 1000000) (hj : findB i l ls < ls.length) (hst : ls[findB i l ls].st = 3) :
  Calls Tryz.prog 162 #[.pointer (some ⟨B, 0, none⟩), .agg #[.int .u8 kk, .int .u8 (f : Int), .int .u8 (t : Int), .int .u32 (i : Int), .int .u8 (l : Int), .int .u16 (p : Int), .int .u16 (g : Int), .int .u32 (a : Int), .string (bs m)]] w fun e w' => e = .returned (.tuple #[.int .u8 3, .int .i64 0]) ∧ XBTo w w' B node ac ls va vl va vl := by
 have hF := hide (fun u (hu : XB u B node ac ls va vl) => find_any i l hi hl u B node ac ls va vl hu hokl hlenl)
 generalize findB i l ls = j at *
 obtain ⟨ad, cap, hv, hev⟩ := hX.lrow.form Lg.cells_length
 subst hv
 have hc : ∀ o, _ = _ := fun o => cell_at hX.blk o
 have hBl := hX.lt
 obtain ⟨gg, hgg, hcell, hfro⟩ := hev j hj
 subst hgg
 have hgl : gg < w.heap.size := hX.lrow.lt rfl
 have hgB : gg ≠ B := fun e => hap.l (by rw [e]; rfl)
 have hgB' : B ≠ gg := fun e => hgB e.symm
 have d1 : decide ((j : Int) ≥ (ls.length : Int)) = false := by simp; omega
 have d2 : decide ((ls.length : Int) ≤ (j : Int)) = false := by simp; omega
 have hlk : (j : Int) < (ls.length : Int) := by omega
 have e2 := hcell 2 (by decide)
 clear hcell hev
 have hs8 := (hokl ls[j] (List.getElem_mem hj)).2.2.1
 generalize ls[j] = E at *
 obtain ⟨ei, el, es, ep, eg, ea, em⟩ := E
 simp only [Lg.cells, List.getElem?_cons_zero, List.getElem?_cons_succ, Nat.add_zero] at e2 hst hs8
 subst hst
 go_enter Tryz.func162, Tryz.ntmps162
 go_wp2_with fail
 refine (hF.out _ (hX.below ((Below.refl _ _).alloc (Nat.le_refl _) _))).mono ?_
 rintro e w1 ⟨rfl, rfl⟩
 clear hF
 go_wp2
 go_ret2
 exact ⟨rfl, XBTo.same hX hap ((Below.refl _ _).alloc (Nat.le_refl _) _)⟩
theorem exec_bad (f t i l p g a : Nat) (m : List UInt8) (kk : Int) (hi : i < 4294967296) (hl : l < 256) (w : World) (B node : Nat) (ac : List Ac) (ls : List Lg) (va vl : Value) (hX : XB w B node ac ls va vl) (hap : Apart B va vl) (hokl : ∀ x, x ∈ ls → x.ok) (hlenl : ls.length ≤ 1000000) (hj : findB i l ls < ls.length) (hst : ls[findB i l ls].st ≠ 1 ∧ ls[findB i l ls].st ≠ 3) :
  Calls Tryz.prog 162 #[.pointer (some ⟨B, 0, none⟩), .agg #[.int .u8 kk, .int .u8 (f : Int), .int .u8 (t : Int), .int .u32 (i : Int), .int .u8 (l : Int), .int .u16 (p : Int), .int .u16 (g : Int), .int .u32 (a : Int), .string (bs m)]] w fun e w' => e = .returned (.tuple #[.int .u8 0, .int .i64 14]) ∧ XBTo w w' B node ac ls va vl va vl := by
 have hF := hide (fun u (hu : XB u B node ac ls va vl) => find_any i l hi hl u B node ac ls va vl hu hokl hlenl)
 generalize findB i l ls = j at *
 obtain ⟨ad, cap, hv, hev⟩ := hX.lrow.form Lg.cells_length
 subst hv
 have hc : ∀ o, _ = _ := fun o => cell_at hX.blk o
 have hBl := hX.lt
 obtain ⟨gg, hgg, hcell, hfro⟩ := hev j hj
 subst hgg
 have hgl : gg < w.heap.size := hX.lrow.lt rfl
 have hgB : gg ≠ B := fun e => hap.l (by rw [e]; rfl)
 have hgB' : B ≠ gg := fun e => hgB e.symm
 have d1 : decide ((j : Int) ≥ (ls.length : Int)) = false := by simp; omega
 have d2 : decide ((ls.length : Int) ≤ (j : Int)) = false := by simp; omega
 have hlk : (j : Int) < (ls.length : Int) := by omega
 have e2 := hcell 2 (by decide)
 clear hcell hev
 have hs8 := (hokl ls[j] (List.getElem_mem hj)).2.2.1
 generalize ls[j] = E at *
 obtain ⟨ei, el, es, ep, eg, ea, em⟩ := E
 simp only [Lg.cells, List.getElem?_cons_zero, List.getElem?_cons_succ, Nat.add_zero] at e2 hst hs8
 have d3 : ((es : Int) == 1) = false := by simp; omega
 have d4 : ((es : Int) == 3) = false := by simp; omega
 clear hst
 go_enter Tryz.func162, Tryz.ntmps162
 go_wp2_with fail
 refine (hF.out _ (hX.below ((Below.refl _ _).alloc (Nat.le_refl _) _))).mono ?_
 rintro e w1 ⟨rfl, rfl⟩
 clear hF
 go_wp2
 go_ret2
 exact ⟨rfl, XBTo.same hX hap ((Below.refl _ _).alloc (Nat.le_refl _) _)⟩
theorem rej_bad (f t i l p g a : Nat) (m : List UInt8) (kk : Int) (hi : i < 4294967296) (hl : l < 256) (w : World) (B node : Nat) (ac : List Ac) (ls : List Lg) (va vl : Value) (hX : XB w B node ac ls va vl) (hap : Apart B va vl) (hokl : ∀ x, x ∈ ls → x.ok) (hlenl : ls.length ≤ 1000000) (hj : findB i l ls < ls.length) (hst : ls[findB i l ls].st = 3) :
  Calls Tryz.prog 163 #[.pointer (some ⟨B, 0, none⟩), .agg #[.int .u8 kk, .int .u8 (f : Int), .int .u8 (t : Int), .int .u32 (i : Int), .int .u8 (l : Int), .int .u16 (p : Int), .int .u16 (g : Int), .int .u32 (a : Int), .string (bs m)]] w fun e w' => e = .returned (.tuple #[.int .u8 0, .int .i64 14]) ∧ XBTo w w' B node ac ls va vl va vl := by
 have hF := hide (fun u (hu : XB u B node ac ls va vl) => find_any i l hi hl u B node ac ls va vl hu hokl hlenl)
 generalize findB i l ls = j at *
 obtain ⟨ad, cap, hv, hev⟩ := hX.lrow.form Lg.cells_length
 subst hv
 have hc : ∀ o, _ = _ := fun o => cell_at hX.blk o
 have hBl := hX.lt
 obtain ⟨gg, hgg, hcell, hfro⟩ := hev j hj
 subst hgg
 have hgl : gg < w.heap.size := hX.lrow.lt rfl
 have hgB : gg ≠ B := fun e => hap.l (by rw [e]; rfl)
 have hgB' : B ≠ gg := fun e => hgB e.symm
 have d1 : decide ((j : Int) ≥ (ls.length : Int)) = false := by simp; omega
 have d2 : decide ((ls.length : Int) ≤ (j : Int)) = false := by simp; omega
 have hlk : (j : Int) < (ls.length : Int) := by omega
 have e2 := hcell 2 (by decide)
 clear hcell hev
 have hs8 := (hokl ls[j] (List.getElem_mem hj)).2.2.1
 generalize ls[j] = E at *
 obtain ⟨ei, el, es, ep, eg, ea, em⟩ := E
 simp only [Lg.cells, List.getElem?_cons_zero, List.getElem?_cons_succ, Nat.add_zero] at e2 hst hs8
 subst hst
 go_enter Tryz.func163, Tryz.ntmps163
 go_wp2_with fail
 refine (hF.out _ (hX.below ((Below.refl _ _).alloc (Nat.le_refl _) _))).mono ?_
 rintro e w1 ⟨rfl, rfl⟩
 clear hF
 go_wp2
 go_ret2
 exact ⟨rfl, XBTo.same hX hap ((Below.refl _ _).alloc (Nat.le_refl _) _)⟩
theorem rej_ok (f t i l p g a : Nat) (m : List UInt8) (kk : Int) (hi : i < 4294967296) (hl : l < 256) (w : World) (B node : Nat) (ac : List Ac) (ls : List Lg) (va vl : Value) (hX : XB w B node ac ls va vl) (hap : Apart B va vl) (hokl : ∀ x, x ∈ ls → x.ok) (hlenl : ls.length ≤ 1000000) (hj : findB i l ls < ls.length) (hst : ls[findB i l ls].st ≠ 3) :
  Calls Tryz.prog 163 #[.pointer (some ⟨B, 0, none⟩), .agg #[.int .u8 kk, .int .u8 (f : Int), .int .u8 (t : Int), .int .u32 (i : Int), .int .u8 (l : Int), .int .u16 (p : Int), .int .u16 (g : Int), .int .u32 (a : Int), .string (bs m)]] w fun e w' => e = .returned (.tuple #[.int .u8 4, .int .i64 0]) ∧ XBTo w w' B node ac (ls.set (findB i l ls) { ls[findB i l ls] with st := 4 }) va vl va vl := by
 have hF := hide (fun u (hu : XB u B node ac ls va vl) => find_any i l hi hl u B node ac ls va vl hu hokl hlenl)
 generalize findB i l ls = j at *
 obtain ⟨ad, cap, hv, hev⟩ := hX.lrow.form Lg.cells_length
 subst hv
 have hc : ∀ o, _ = _ := fun o => cell_at hX.blk o
 have hBl := hX.lt
 obtain ⟨gg, hgg, hcell, hfro⟩ := hev j hj
 subst hgg
 have hgl : gg < w.heap.size := hX.lrow.lt rfl
 have hgB : gg ≠ B := fun e => hap.l (by rw [e]; rfl)
 have hgB' : B ≠ gg := fun e => hgB e.symm
 have d1 : decide ((j : Int) ≥ (ls.length : Int)) = false := by simp; omega
 have d2 : decide ((ls.length : Int) ≤ (j : Int)) = false := by simp; omega
 have hlk : (j : Int) < (ls.length : Int) := by omega
 have e2 := hcell 2 (by decide)
 clear hcell hev
 have hS := hide (((XBTo.same hX hap (Below.refl _ _)).setS j hj 4).then ((Below.refl _ _).alloc (Nat.le_refl _) (.cells #[.int .u8 kk, .int .u8 (f : Int), .int .u8 (t : Int), .int .u32 (i : Int), .int .u8 (l : Int), .int .u16 (p : Int), .int .u16 (g : Int), .int .u32 (a : Int), .string (bs m)] 102)))
 have hs8 := (hokl ls[j] (List.getElem_mem hj)).2.2.1
 generalize hE : ls[j] = E at *
 clear hE
 obtain ⟨ei, el, es, ep, eg, ea, em⟩ := E
 simp only [Lg.cells, List.getElem?_cons_zero, List.getElem?_cons_succ, Nat.add_zero] at e2 hst hs8
 have d4 : ((es : Int) == 3) = false := by simp; omega
 clear hst
 go_enter Tryz.func163, Tryz.ntmps163
 go_wp2_with fail
 refine (hF.out _ (hX.below ((Below.refl _ _).alloc (Nat.le_refl _) _))).mono ?_
 rintro e w1 ⟨rfl, rfl⟩
 clear hF
 go_wp2
 go_ret2
 exact ⟨rfl, hS.out⟩
theorem keep_full (x : Lg) (w : World) (B node : Nat) (ac : List Ac) (ls : List Lg) (va vl : Value) (hX : XB w B node ac ls va vl) (hlen : 128 ≤ ls.length) (hlen2 : ls.length ≤ 1000000) :
  Calls Tryz.prog 168 #[.pointer (some ⟨B, 0, none⟩), .agg #[.int .u32 (x.id : Int), .int .u8 (x.l : Int), .int .u8 (x.st : Int), .int .u16 (x.p : Int), .int .u16 (x.g : Int), .int .u32 (x.a : Int), .string (bs x.m)]] w fun e w' =>
   e = .returned (.int .i64 10) ∧ Below w.heap.size w w' := by
 obtain ⟨ad, cap, hv, hev⟩ := hX.lrow.form Lg.cells_length
 subst hv
 clear hev
 have hc : ∀ o, _ = _ := fun o => cell_at hX.blk o
 have hBl := hX.lt
 have d1 : decide ((ls.length : Int) ≥ 128) = true := by simp; omega
 have d2 : decide ((128 : Int) ≤ (ls.length : Int)) = true := by simp; omega
 go_enter Tryz.func168, Tryz.ntmps168
 go_wp2
 go_ret
 exact ⟨rfl, (Below.refl _ _).alloc (Nat.le_refl _) _⟩
def bareLg (i l : Nat) : Lg := ⟨i, l, 4, 0, 0, 0, []⟩
theorem rej_new (f t i l p g a : Nat) (m : List UInt8) (kk : Int) (hi : i < 4294967296) (hl : l < 256) (w : World) (B node : Nat) (ac : List Ac) (ls : List Lg) (va vl : Value) (hX : XB w B node ac ls va vl) (hap : Apart B va vl) (hokl : ∀ x, x ∈ ls → x.ok) (hlenl : ls.length < 128) (hj : ls.length ≤ findB i l ls) :
  Calls Tryz.prog 163 #[.pointer (some ⟨B, 0, none⟩), .agg #[.int .u8 kk, .int .u8 (f : Int), .int .u8 (t : Int), .int .u32 (i : Int), .int .u8 (l : Int), .int .u16 (p : Int), .int .u16 (g : Int), .int .u32 (a : Int), .string (bs m)]] w fun e w' =>
   e = .returned (.tuple #[.int .u8 4, .int .i64 0]) ∧ ∃ k vl', k ≤ ls.length ∧ (∀ q (hq : q < ls.length), k ≤ q → aheadB (bareLg i l) ls[q] = true) ∧ (∀ j (hj : j < ls.length), k = j + 1 → aheadB (bareLg i l) ls[j] = false) ∧ XBTo w w' B node ac (insAt (bareLg i l) k ls) va vl va vl' := by
 have hF := hide (fun u (hu : XB u B node ac ls va vl) => find_any i l hi hl u B node ac ls va vl hu hokl (by omega))
 have hK := hide (fun u (hu : XB u B node ac ls va vl) => keep_any (bareLg i l) ⟨hi, hl, by show (4 : Nat) < 256; omega, by show (0 : Nat) < 65536; omega, by show (0 : Nat) < 65536; omega, by show (0 : Nat) < 4294967296; omega⟩ u B node ac ls va vl hu hap hokl hlenl)
 generalize hb : bareLg i l = X0 at *
 have hXX : X0 = ⟨i, l, 4, 0, 0, 0, []⟩ := hb.symm
 clear hb
 generalize findB i l ls = j at *
 obtain ⟨ad, cap, hv, hev⟩ := hX.lrow.form Lg.cells_length
 subst hv
 clear hev
 have hc : ∀ o, _ = _ := fun o => cell_at hX.blk o
 have hBl := hX.lt
 have d1 : decide ((j : Int) ≥ (ls.length : Int)) = true := by simp; omega
 have d2 : decide ((ls.length : Int) ≤ (j : Int)) = true := by simp; omega
 have hK2 : Hid (∀ u, XB u B node ac ls va (.slice ad ls.length cap) → Calls Tryz.prog 168 #[.pointer (some ⟨B, 0, none⟩), .agg #[.int .u32 (i : Int), .int .u8 (l : Int), .int .u8 4, .int .u16 0, .int .u16 0, .int .u32 0, .string ⟨#[]⟩]] u fun e w' => e = .returned (.int .i64 0) ∧ ∃ k vl', k ≤ ls.length ∧ (∀ q (hq : q < ls.length), k ≤ q → aheadB X0 ls[q] = true) ∧ (∀ j (hj : j < ls.length), k = j + 1 → aheadB X0 ls[j] = false) ∧ XBTo u w' B node ac (insAt X0 k ls) va (.slice ad ls.length cap) va vl') := hide (fun u hu => by
  have h := hK.out u hu;rw [hXX] at h ⊢
  exact h)
 clear hK hXX
 go_enter Tryz.func163, Tryz.ntmps163
 go_wp2_with fail
 refine (hF.out _ (hX.below ((Below.refl _ _).alloc (Nat.le_refl _) _))).mono ?_
 rintro e w1 ⟨rfl, rfl⟩
 clear hF
 go_wp2_with fail
 refine (hK2.out _ (hX.below ((Below.refl _ _).alloc (Nat.le_refl _) _))).mono ?_
 rintro e w2 ⟨rfl, k, vl', h1, h2, h3, h4⟩
 have H := hide (And.intro h1 (And.intro h2 (And.intro h3 (XBTo.from ((Below.refl _ _).alloc (Nat.le_refl _) _) h4))))
 clear h1 h2 h3 h4 hK2 hc
 go_wp2
 go_ret2
 first
  | exact ⟨rfl, k, vl', H.out.1, H.out.2.1, H.out.2.2.1, H.out.2.2.2⟩
  | exact ⟨rfl, k, H.out.1, H.out.2.1, H.out.2.2.1, vl', H.out.2.2.2⟩
theorem prep_new (f t i l p g a : Nat) (m : List UInt8) (hm : m.length ≤ 64) (kk : Int) (hi : i < 4294967296) (hl : l < 256) (hp : p < 65536) (hg : g < 65536) (ha : a < 4294967296) (w : World) (B node : Nat) (ac : List Ac) (ls : List Lg) (va vl : Value) (hX : XB w B node ac ls va vl) (hap : Apart B va vl) (hoka : ∀ x, x ∈ ac → x.ok) (hokl : ∀ x, x ∈ ls → x.ok) (hlena : ac.length ≤ 1000000) (hlenl : ls.length < 128)
  (hh : ∀ a, heldL a ls ≤ balL a ac) (hd : ∀ a, dueL a ls < 4294967296) (hj : ls.length ≤ findB i l ls) (st : Nat) (hst : st = if canX p g a ac ls then 1 else 2) :
  Calls Tryz.prog 161 #[.pointer (some ⟨B, 0, none⟩), .agg #[.int .u8 kk, .int .u8 (f : Int), .int .u8 (t : Int), .int .u32 (i : Int), .int .u8 (l : Int), .int .u16 (p : Int), .int .u16 (g : Int), .int .u32 (a : Int), .string (bs m)]] w fun e w' =>
   e = .returned (.tuple #[.int .u8 (st : Int), .int .i64 0]) ∧ ∃ k vl', k ≤ ls.length ∧ (∀ q (hq : q < ls.length), k ≤ q → aheadB ⟨i, l, st, p, g, a, m⟩ ls[q] = true) ∧ (∀ j (hj : j < ls.length), k = j + 1 → aheadB ⟨i, l, st, p, g, a, m⟩ ls[j] = false) ∧ XBTo w w' B node ac (insAt ⟨i, l, st, p, g, a, m⟩ k ls) va vl va vl' := by
 have hTm := hide (fun u => termsOf_any 0 f t i l p g a m hm kk u)
 have hF := hide (fun u (hu : XB u B node ac ls va vl) => find_any i l hi hl u B node ac ls va vl hu hokl (by omega))
 have hCn := hide (fun u (hu : XB u B node ac ls va vl) => canHold_any p g a m hp hg ha u B node ac ls va vl hu hoka hokl hlena (by omega) hh hd)
 have hst2 : st < 256 := by rw [hst]; split <;> omega
 have hK := hide (fun u (hu : XB u B node ac ls va vl) => keep_any ⟨i, l, st, p, g, a, m⟩ ⟨hi, hl, hst2, hp, hg, ha⟩ u B node ac ls va vl hu hap hokl hlenl)
 clear hh hd
 generalize canX p g a ac ls = cx at *
 generalize findB i l ls = j at *
 simp only at hK
 obtain ⟨ad, cap, hv, hev⟩ := hX.lrow.form Lg.cells_length
 subst hv
 clear hev
 have hc : ∀ o, _ = _ := fun o => cell_at hX.blk o
 have hBl := hX.lt
 have d1 : decide ((j : Int) < (ls.length : Int)) = false := by simp; omega
 have main : ∀ (sn : Int), (st : Int) = sn → cx = decide (sn = 1) → (sn = 1 ∨ sn = 2) → Calls Tryz.prog 161 #[.pointer (some ⟨B, 0, none⟩), .agg #[.int .u8 kk, .int .u8 (f : Int), .int .u8 (t : Int), .int .u32 (i : Int), .int .u8 (l : Int), .int .u16 (p : Int), .int .u16 (g : Int), .int .u32 (a : Int), .string (bs m)]] w fun e w' =>
   e = .returned (.tuple #[.int .u8 (st : Int), .int .i64 0]) ∧ ∃ k vl', k ≤ ls.length ∧ (∀ q (hq : q < ls.length), k ≤ q → aheadB ⟨i, l, st, p, g, a, m⟩ ls[q] = true) ∧ (∀ j (hj : j < ls.length), k = j + 1 → aheadB ⟨i, l, st, p, g, a, m⟩ ls[j] = false) ∧ XBTo w w' B node ac (insAt ⟨i, l, st, p, g, a, m⟩ k ls) va (.slice ad ls.length cap) va vl' := by
  intro sn hsn hcx hor;rw [hsn] at hK ⊢;clear hsn hst hst2;go_enter Tryz.func161, Tryz.ntmps161;go_wp2_with fail
  refine (hTm.out _).mono ?_;rintro e w1 ⟨rfl, hb1⟩;have B1 := (Box.mk0 _ _ _).below hb1;have hcm := B1.cell;have hltm := B1.lt;clear hTm hb1;go_wp2_with fail
  refine (hF.out _ (hX.below (B1.alloc _).bel)).mono ?_;rintro e w2 ⟨rfl, rfl⟩;have B2 := B1.alloc (.cells #[.int .u16 (p : Int), .int .u16 (g : Int), .int .u32 (a : Int), .string (bs m)] 149);have hXb := hX.below B2.bel;clear hF hc;have hc : ∀ o, _ = _ := fun o => cell_at hXb.blk o;go_wp2_with fail
  refine (hCn.out _ hXb).mono ?_;rintro e w3 ⟨rfl, hb3⟩;have B3 := B2.below hb3;have hct := fun o => cel_kept hb3 o;have hltt := lt_kept hb3;have hXc := hX.below B3.bel;clear hcm hltm hCn hb3 hc;have hcm := B3.cell;have hltm := B3.lt;rcases hor with rfl | rfl
  ·simp only [decide_true] at hcx;subst hcx;go_wp2_with fail
   refine (hK.out _ hXc).mono ?_;rintro e w4 ⟨rfl, k, vl', h1, h2, h3, h4⟩;have H := hide (And.intro h1 (And.intro h2 (And.intro h3 (XBTo.from B3.bel h4))));clear h1 h2 h3 h4 hK hcm hct;go_wp2;go_ret2
   first
    | exact ⟨rfl, k, vl', H.out.1, H.out.2.1, H.out.2.2.1, H.out.2.2.2⟩
    | exact ⟨rfl, k, H.out.1, H.out.2.1, H.out.2.2.1, vl', H.out.2.2.2⟩
  ·have hcx' : cx = false := by rw [hcx]; decide
   subst hcx';clear hcx;go_wp2_with fail
   refine (hK.out _ hXc).mono ?_;rintro e w4 ⟨rfl, k, vl', h1, h2, h3, h4⟩;have H := hide (And.intro h1 (And.intro h2 (And.intro h3 (XBTo.from B3.bel h4))));clear h1 h2 h3 h4 hK hcm hct;go_wp2;go_ret2
   first
    | exact ⟨rfl, k, vl', H.out.1, H.out.2.1, H.out.2.2.1, H.out.2.2.2⟩
    | exact ⟨rfl, k, H.out.1, H.out.2.1, H.out.2.2.1, vl', H.out.2.2.2⟩
 cases cx with
 | true => exact main 1 (by rw [hst]; rfl) (by decide) (.inl rfl)
 | false => exact main 2 (by rw [hst]; rfl) (by decide) (.inr rfl)
theorem prep_same (f t i l p g a : Nat) (m : List UInt8) (hm : m.length ≤ 64) (kk : Int) (hi : i < 4294967296) (hl : l < 256) (hp : p < 65536) (hg : g < 65536) (ha : a < 4294967296) (w : World) (B node : Nat) (ac : List Ac) (ls : List Lg) (va vl : Value) (hX : XB w B node ac ls va vl) (hap : Apart B va vl) (hokl : ∀ x, x ∈ ls → x.ok) (hlenl : ls.length ≤ 1000000) (hj : findB i l ls < ls.length) (s0 : Nat) (hs0 : ls[findB i l ls].st = s0) (hE : ls[findB i l ls].p = p ∧ ls[findB i l ls].g = g ∧ ls[findB i l ls].a = a ∧ ls[findB i l ls].m = m) :
  Calls Tryz.prog 161 #[.pointer (some ⟨B, 0, none⟩), .agg #[.int .u8 kk, .int .u8 (f : Int), .int .u8 (t : Int), .int .u32 (i : Int), .int .u8 (l : Int), .int .u16 (p : Int), .int .u16 (g : Int), .int .u32 (a : Int), .string (bs m)]] w fun e w' => e = .returned (.tuple #[.int .u8 (s0 : Int), .int .i64 0]) ∧ XBTo w w' B node ac ls va vl va vl := by
 have hTm := hide (fun u => termsOf_any 0 f t i l p g a m hm kk u)
 have hF := hide (fun u (hu : XB u B node ac ls va vl) => find_any i l hi hl u B node ac ls va vl hu hokl (by omega))
 generalize findB i l ls = j at *
 obtain ⟨ad, cap, hv, hev⟩ := hX.lrow.form Lg.cells_length
 subst hv
 obtain ⟨gg, hgg, hcell, hfro⟩ := hev j hj
 subst hgg
 clear hev
 have hBl := hX.lt
 have d1 : decide ((j : Int) < (ls.length : Int)) = true := by simp; omega
 have hlk : (j : Int) < (ls.length : Int) := by omega
 go_enter Tryz.func161, Tryz.ntmps161
 go_wp2_with fail
 refine (hTm.out _).mono ?_
 rintro e w1 ⟨rfl, hb1⟩
 have B1 := (Box.mk0 _ _ _).below hb1
 have hcm := B1.cell
 have hltm := B1.lt
 clear hTm hb1
 go_wp2_with fail
 refine (hF.out _ (hX.below (B1.alloc _).bel)).mono ?_
 rintro e w2 ⟨rfl, rfl⟩
 have hX1 := hX.below B1.bel
 clear hF hcell hfro
 obtain ⟨ad', cap', hv', hev'⟩ := hX1.lrow.form Lg.cells_length
 obtain ⟨gx, hgx, hcell, _⟩ := hev' j hj
 have ead : some ⟨gg, 0, none⟩ = ad' := by injection hv'
 subst ead
 obtain rfl : gg = gx := by injection hgx with h; injection h
 have hgl : gg < w1.heap.size := hX1.lrow.lt rfl
 have hBl1 := hX1.lt
 have e2 := hcell 2 (by decide)
 have e3 := hcell 3 (by decide)
 have e4 := hcell 4 (by decide)
 have e5 := hcell 5 (by decide)
 have e6 := hcell 6 (by decide)
 clear hcell hev' hv' hgx
 have hc : ∀ o, _ = _ := fun o => cell_at hX1.blk o
 have hex := hokl ls[j] (List.getElem_mem hj)
 generalize ls[j] = E at *
 obtain ⟨ei, el, es, ep, eg, ea, em⟩ := E
 obtain ⟨_, _, hx3, hx4, hx5, hx6⟩ := hex
 simp only [Lg.cells, List.getElem?_cons_zero, List.getElem?_cons_succ, Nat.add_zero] at e2 e3 e4 e5 e6 hx3 hx4 hx5 hx6 hE hs0
 subst hs0
 obtain ⟨r1, r2, r3, r4⟩ := hE
 have q1 : ((ep : Int) == (p : Int)) = true := by simp; omega
 have q2 : ((eg : Int) == (g : Int)) = true := by simp; omega
 have q3 : ((ea : Int) == (a : Int)) = true := by simp; omega
 have q4 : ((bs em).toList == (bs m).toList) = true := by rw [bs_same]; simpa using r4
 clear r1 r2 r3 r4
 go_wp2
 go_quiet (fail)
 go_wp2
 go_ret2
 exact ⟨rfl, XBTo.same hX hap ((B1.alloc _).bel.drewN _)⟩
theorem prep_conflict (f t i l p g a : Nat) (m : List UInt8) (hm : m.length ≤ 64) (kk : Int) (hi : i < 4294967296) (hl : l < 256) (hp : p < 65536) (hg : g < 65536) (ha : a < 4294967296) (w : World) (B node : Nat) (ac : List Ac) (ls : List Lg) (va vl : Value) (hX : XB w B node ac ls va vl) (hap : Apart B va vl) (hokl : ∀ x, x ∈ ls → x.ok) (hlenl : ls.length ≤ 1000000) (hj : findB i l ls < ls.length) (hE : ls[findB i l ls].a ≠ 0 ∧ ¬ (ls[findB i l ls].p = p ∧ ls[findB i l ls].g = g ∧ ls[findB i l ls].a = a ∧ ls[findB i l ls].m = m)) :
  Calls Tryz.prog 161 #[.pointer (some ⟨B, 0, none⟩), .agg #[.int .u8 kk, .int .u8 (f : Int), .int .u8 (t : Int), .int .u32 (i : Int), .int .u8 (l : Int), .int .u16 (p : Int), .int .u16 (g : Int), .int .u32 (a : Int), .string (bs m)]] w fun e w' => e = .returned (.tuple #[.int .u8 0, .int .i64 11]) ∧ XBTo w w' B node ac ls va vl va vl := by
 have hTm := hide (fun u => termsOf_any 0 f t i l p g a m hm kk u)
 have hF := hide (fun u (hu : XB u B node ac ls va vl) => find_any i l hi hl u B node ac ls va vl hu hokl (by omega))
 generalize findB i l ls = j at *
 obtain ⟨ad, cap, hv, hev⟩ := hX.lrow.form Lg.cells_length
 subst hv
 obtain ⟨gg, hgg, hcell, hfro⟩ := hev j hj
 subst hgg
 clear hev
 have hBl := hX.lt
 have d1 : decide ((j : Int) < (ls.length : Int)) = true := by simp; omega
 have hlk : (j : Int) < (ls.length : Int) := by omega
 go_enter Tryz.func161, Tryz.ntmps161
 go_wp2_with fail
 refine (hTm.out _).mono ?_
 rintro e w1 ⟨rfl, hb1⟩
 have B1 := (Box.mk0 _ _ _).below hb1
 have hcm := B1.cell
 have hltm := B1.lt
 clear hTm hb1
 go_wp2_with fail
 refine (hF.out _ (hX.below (B1.alloc _).bel)).mono ?_
 rintro e w2 ⟨rfl, rfl⟩
 have hX1 := hX.below B1.bel
 clear hF hcell hfro
 obtain ⟨ad', cap', hv', hev'⟩ := hX1.lrow.form Lg.cells_length
 obtain ⟨gx, hgx, hcell, _⟩ := hev' j hj
 have ead : some ⟨gg, 0, none⟩ = ad' := by injection hv'
 subst ead
 obtain rfl : gg = gx := by injection hgx with h; injection h
 have hgl : gg < w1.heap.size := hX1.lrow.lt rfl
 have hBl1 := hX1.lt
 have e2 := hcell 2 (by decide)
 have e3 := hcell 3 (by decide)
 have e4 := hcell 4 (by decide)
 have e5 := hcell 5 (by decide)
 have e6 := hcell 6 (by decide)
 clear hcell hev' hv' hgx
 have hc : ∀ o, _ = _ := fun o => cell_at hX1.blk o
 have hex := hokl ls[j] (List.getElem_mem hj)
 generalize ls[j] = E at *
 obtain ⟨ei, el, es, ep, eg, ea, em⟩ := E
 obtain ⟨_, _, hx3, hx4, hx5, hx6⟩ := hex
 simp only [Lg.cells, List.getElem?_cons_zero, List.getElem?_cons_succ, Nat.add_zero] at e2 e3 e4 e5 e6 hx3 hx4 hx5 hx6 hE
 have y3 : ((ea : Int) == 0) = false := by simp; omega
 by_cases r1 : ep = p
 ·have q1 : ((ep : Int) == (p : Int)) = true := by simp; omega
  by_cases r2 : eg = g
  ·have q2 : ((eg : Int) == (g : Int)) = true := by simp; omega
   by_cases r3 : ea = a
   ·have q3 : ((ea : Int) == (a : Int)) = true := by simp; omega
    have q4 : ((bs em).toList == (bs m).toList) = false := by rw [bs_same]; simpa using fun r4 => hE.2 ⟨r1, r2, r3, r4⟩
    clear r1 r2 r3;by_cases z1 : ep = 0
    ·have y1 : ((ep : Int) == 0) = true := by simp; omega
     by_cases z2 : eg = 0
     ·have y2 : ((eg : Int) == 0) = true := by simp; omega
      clear z1 z2;go_wp2;go_quiet (fail)
      go_wp2;go_ret2;exact ⟨rfl, XBTo.same hX hap ((B1.alloc _).bel.drewN _)⟩
     ·have y2 : ((eg : Int) == 0) = false := by simp; omega
      clear z1 z2;go_wp2;go_quiet (fail)
      go_wp2;go_ret2;exact ⟨rfl, XBTo.same hX hap ((B1.alloc _).bel.drewN _)⟩
    ·have y1 : ((ep : Int) == 0) = false := by simp; omega
     clear z1;go_wp2;go_quiet (fail)
     go_wp2;go_ret2;exact ⟨rfl, XBTo.same hX hap ((B1.alloc _).bel.drewN _)⟩
   ·have q3 : ((ea : Int) == (a : Int)) = false := by simp; omega
    clear r1 r2 r3;by_cases z1 : ep = 0
    ·have y1 : ((ep : Int) == 0) = true := by simp; omega
     by_cases z2 : eg = 0
     ·have y2 : ((eg : Int) == 0) = true := by simp; omega
      clear z1 z2;go_wp2;go_quiet (fail)
      go_wp2;go_ret2;exact ⟨rfl, XBTo.same hX hap ((B1.alloc _).bel.drewN _)⟩
     ·have y2 : ((eg : Int) == 0) = false := by simp; omega
      clear z1 z2;go_wp2;go_quiet (fail)
      go_wp2;go_ret2;exact ⟨rfl, XBTo.same hX hap ((B1.alloc _).bel.drewN _)⟩
    ·have y1 : ((ep : Int) == 0) = false := by simp; omega
     clear z1;go_wp2;go_quiet (fail)
     go_wp2;go_ret2;exact ⟨rfl, XBTo.same hX hap ((B1.alloc _).bel.drewN _)⟩
  ·have q2 : ((eg : Int) == (g : Int)) = false := by simp; omega
   clear r1 r2;by_cases z1 : ep = 0
   ·have y1 : ((ep : Int) == 0) = true := by simp; omega
    by_cases z2 : eg = 0
    ·have y2 : ((eg : Int) == 0) = true := by simp; omega
     clear z1 z2;go_wp2;go_quiet (fail)
     go_wp2;go_ret2;exact ⟨rfl, XBTo.same hX hap ((B1.alloc _).bel.drewN _)⟩
    ·have y2 : ((eg : Int) == 0) = false := by simp; omega
     clear z1 z2;go_wp2;go_quiet (fail)
     go_wp2;go_ret2;exact ⟨rfl, XBTo.same hX hap ((B1.alloc _).bel.drewN _)⟩
   ·have y1 : ((ep : Int) == 0) = false := by simp; omega
    clear z1;go_wp2;go_quiet (fail)
    go_wp2;go_ret2;exact ⟨rfl, XBTo.same hX hap ((B1.alloc _).bel.drewN _)⟩
 ·have q1 : ((ep : Int) == (p : Int)) = false := by simp; omega
  clear r1;by_cases z1 : ep = 0
  ·have y1 : ((ep : Int) == 0) = true := by simp; omega
   by_cases z2 : eg = 0
   ·have y2 : ((eg : Int) == 0) = true := by simp; omega
    clear z1 z2;go_wp2;go_quiet (fail)
    go_wp2;go_ret2;exact ⟨rfl, XBTo.same hX hap ((B1.alloc _).bel.drewN _)⟩
   ·have y2 : ((eg : Int) == 0) = false := by simp; omega
    clear z1 z2;go_wp2;go_quiet (fail)
    go_wp2;go_ret2;exact ⟨rfl, XBTo.same hX hap ((B1.alloc _).bel.drewN _)⟩
  ·have y1 : ((ep : Int) == 0) = false := by simp; omega
   clear z1;go_wp2;go_quiet (fail)
   go_wp2;go_ret2;exact ⟨rfl, XBTo.same hX hap ((B1.alloc _).bel.drewN _)⟩
theorem prep_bare (f t i l p g a : Nat) (m : List UInt8) (hm : m.length ≤ 64) (kk : Int) (hi : i < 4294967296) (hl : l < 256) (hp : p < 65536) (hg : g < 65536) (ha : a < 4294967296) (w : World) (B node : Nat) (ac : List Ac) (ls : List Lg) (va vl : Value) (hX : XB w B node ac ls va vl) (hap : Apart B va vl) (hokl : ∀ x, x ∈ ls → x.ok) (hlenl : ls.length ≤ 1000000) (hj : findB i l ls < ls.length) (s0 : Nat) (hs0 : ls[findB i l ls].st = s0) (ha0 : a ≠ 0) (hE : ls[findB i l ls].p = 0 ∧ ls[findB i l ls].g = 0 ∧ ls[findB i l ls].a = 0 ∧ ls[findB i l ls].m = []) :
  Calls Tryz.prog 161 #[.pointer (some ⟨B, 0, none⟩), .agg #[.int .u8 kk, .int .u8 (f : Int), .int .u8 (t : Int), .int .u32 (i : Int), .int .u8 (l : Int), .int .u16 (p : Int), .int .u16 (g : Int), .int .u32 (a : Int), .string (bs m)]] w fun e w' => e = .returned (.tuple #[.int .u8 (s0 : Int), .int .i64 0]) ∧ XBTo w w' B node ac ls va vl va vl := by
 have hTm := hide (fun u => termsOf_any 0 f t i l p g a m hm kk u)
 have hF := hide (fun u (hu : XB u B node ac ls va vl) => find_any i l hi hl u B node ac ls va vl hu hokl (by omega))
 generalize findB i l ls = j at *
 obtain ⟨ad, cap, hv, hev⟩ := hX.lrow.form Lg.cells_length
 subst hv
 obtain ⟨gg, hgg, hcell, hfro⟩ := hev j hj
 subst hgg
 clear hev
 have hBl := hX.lt
 have d1 : decide ((j : Int) < (ls.length : Int)) = true := by simp; omega
 have hlk : (j : Int) < (ls.length : Int) := by omega
 go_enter Tryz.func161, Tryz.ntmps161
 go_wp2_with fail
 refine (hTm.out _).mono ?_
 rintro e w1 ⟨rfl, hb1⟩
 have B1 := (Box.mk0 _ _ _).below hb1
 have hcm := B1.cell
 have hltm := B1.lt
 clear hTm hb1
 go_wp2_with fail
 refine (hF.out _ (hX.below (B1.alloc _).bel)).mono ?_
 rintro e w2 ⟨rfl, rfl⟩
 have hX1 := hX.below B1.bel
 clear hF hcell hfro
 obtain ⟨ad', cap', hv', hev'⟩ := hX1.lrow.form Lg.cells_length
 obtain ⟨gx, hgx, hcell, _⟩ := hev' j hj
 have ead : some ⟨gg, 0, none⟩ = ad' := by injection hv'
 subst ead
 obtain rfl : gg = gx := by injection hgx with h; injection h
 have hgl : gg < w1.heap.size := hX1.lrow.lt rfl
 have hBl1 := hX1.lt
 have e2 := hcell 2 (by decide)
 have e3 := hcell 3 (by decide)
 have e4 := hcell 4 (by decide)
 have e5 := hcell 5 (by decide)
 have e6 := hcell 6 (by decide)
 clear hcell hev' hv' hgx
 have hc : ∀ o, _ = _ := fun o => cell_at hX1.blk o
 have hex := hokl ls[j] (List.getElem_mem hj)
 generalize ls[j] = E at *
 obtain ⟨ei, el, es, ep, eg, ea, em⟩ := E
 obtain ⟨_, _, hx3, hx4, hx5, hx6⟩ := hex
 simp only [Lg.cells, List.getElem?_cons_zero, List.getElem?_cons_succ, Nat.add_zero] at e2 e3 e4 e5 e6 hx3 hx4 hx5 hx6 hE hs0
 subst hs0
 obtain ⟨s1, s2, s3, s4⟩ := hE
 subst s1
 subst s2
 subst s3
 subst s4
 have q3 : ((0 : Int) == (a : Int)) = false := by simp; omega
 have y4 : (bs []).toList.isEmpty = true := by rw [bs_toList]; rfl
 have y5 : ((bs []).toList == []) = true := by rw [bs_toList]; rfl
 by_cases r1 : 0 = p
 ·have q1 : ((0 : Int) == (p : Int)) = true := by simp; omega
  by_cases r2 : 0 = g
  ·have q2 : ((0 : Int) == (g : Int)) = true := by simp; omega
   clear r1 r2;go_wp2;go_quiet (fail)
   go_wp2;go_ret2;exact ⟨rfl, XBTo.same hX hap ((B1.alloc _).bel.drewN _)⟩
  ·have q2 : ((0 : Int) == (g : Int)) = false := by simp; omega
   clear r1 r2;go_wp2;go_quiet (fail)
   go_wp2;go_ret2;exact ⟨rfl, XBTo.same hX hap ((B1.alloc _).bel.drewN _)⟩
 ·have q1 : ((0 : Int) == (p : Int)) = false := by simp; omega
  clear r1;go_wp2;go_quiet (fail)
  go_wp2;go_ret2;exact ⟨rfl, XBTo.same hX hap ((B1.alloc _).bel.drewN _)⟩
end Go.Proofs.YtjkhbjgfoopomabGreat
