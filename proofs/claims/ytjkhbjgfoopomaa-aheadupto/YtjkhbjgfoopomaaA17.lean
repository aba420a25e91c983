import Derived.Test.YtjkhbjgfoopomaaA4
import Derived.Test.YtjkhbjgfoopomaaA16
/-
  The program's notary: the texts that it logs.
-/
namespace Go.Proofs.Ytjkhbjgfoopomaa
open Go.RowKit
set_option linter.unusedVariables false
set_option linter.unusedSimpArgs false
attribute [local go_sem] bs_size bs_append conv1 conv2
theorem conv1u (w : World) (o : Obj) (a : Int) : (convert 47 9 (.slice (some ⟨w.heap.size + 1, 0, none⟩) 1 1)).run Try.prog ((w.alloc o).alloc (.cells #[.int .u8 a] 5)) =
    .ok (.string (bs [UInt8.ofNat a.toNat])) ((w.alloc o).alloc (.cells #[.int .u8 a] 5)) := by
  have := conv1 (w.alloc o) a
  rw [show (w.alloc o).heap.size = w.heap.size + 1 from by simp] at this
  exact this
attribute [local go_sem] conv1u
theorem be_eight (n : Nat) (hn : n < 18446744073709551616) : be 4 (n / 4294967296) ++ be 4 (n % 4294967296) = be 8 n := by
  simp only [be, List.cons_append, List.nil_append, Nat.reducePow]
  have e1 : n / 4294967296 / 16777216 % 256 = n / 72057594037927936 % 256 := by omega
  have e2 : n / 4294967296 / 65536 % 256 = n / 281474976710656 % 256 := by omega
  have e3 : n / 4294967296 / 256 % 256 = n / 1099511627776 % 256 := by omega
  have e4 : n / 4294967296 / 1 % 256 = n / 4294967296 % 256 := by omega
  have e5 : n % 4294967296 / 16777216 % 256 = n / 16777216 % 256 := by omega
  have e6 : n % 4294967296 / 65536 % 256 = n / 65536 % 256 := by omega
  have e7 : n % 4294967296 / 256 % 256 = n / 256 % 256 := by omega
  have e8 : n % 4294967296 / 1 % 256 = n / 1 % 256 := by omega
  rw [e1, e2, e3, e4, e5, e6, e7, e8]
set_option maxRecDepth 100000 in
set_option maxHeartbeats 1000000 in
theorem eight_any (n : Nat) (hn : n < 18446744073709551616) (w : World) :
    Calls Try.prog 101 #[.int .u64 (n : Int)] w fun e w' => e = .returned (.string (bs (be 8 n))) ∧ Below w.heap.size w w' := by
  have hq := hide (be_eight n hn)
  have l1 := be_length 4 (n / 4294967296)
  have l2 := be_length 4 (n % 4294967296)
  have h1 := hide (fun u => four_any (n / 4294967296) (by omega) u)
  have h2 := hide (fun u => four_any (n % 4294967296) (by omega) u)
  generalize be 4 (n / 4294967296) = x1 at *
  generalize be 4 (n % 4294967296) = x2 at *
  rw [show ((n / 4294967296 : Nat) : Int) = (n : Int) / 4294967296 by omega] at h1
  rw [show ((n % 4294967296 : Nat) : Int) = (n : Int) % 4294967296 by omega] at h2
  have W1 : IntKind.u32.wrap ((n : Int) / 4294967296) = (n : Int) / 4294967296 := by rw [IntKind.wrap_u32]; omega
  have W2 : IntKind.u32.wrap (n : Int) = (n : Int) % 4294967296 := by rw [IntKind.wrap_u32]
  go_enter Try.func101, Try.ntmps101
  go_wp2_with fail
  refine (h1.out _).mono ?_
  rintro e w1 ⟨rfl, hb1⟩
  go_wp2_with fail
  refine (h2.out _).mono ?_
  rintro e w2 ⟨rfl, hb2⟩
  go_wp2
  go_ret
  exact ⟨ret_str hq.out, hb1.trans (hb2.mono hb1.size)⟩
/-- what is logged of a leg -/
def legTextOf (y : Pl) : List UInt8 := UInt8.ofNat y.b :: (be 2 y.p ++ (be 2 y.g ++ be 4 y.a))
theorem legText_length (y : Pl) : (legTextOf y).length = 9 := by simp [legTextOf, be_length]
set_option maxRecDepth 100000 in
set_option maxHeartbeats 1000000 in
theorem legText_any (y : Pl) (hy : y.ok) (w : World) :
    Calls Try.prog 102 #[.agg y.cells.toArray] w fun e w' => e = .returned (.string (bs (legTextOf y))) ∧ Below w.heap.size w w' := by
  obtain ⟨yb, yp, yg, ya⟩ := y
  obtain ⟨h1, h2, h3, h4⟩ := hy
  have hq : Hid (legTextOf ⟨yb, yp, yg, ya⟩ = UInt8.ofNat yb :: (be 2 yp ++ (be 2 yg ++ be 4 ya))) := hide rfl
  simp only [Pl.cells] at *
  have l2 := be_length 2 yp
  have l3 := be_length 2 yg
  have l4 := be_length 4 ya
  have c2 := hide (fun u => two_any yp h2 u)
  have c3 := hide (fun u => two_any yg h3 u)
  have c4 := hide (fun u => four_any ya h4 u)
  generalize legTextOf ⟨yb, yp, yg, ya⟩ = LT at *
  generalize be 2 yp = x2 at *
  generalize be 2 yg = x3 at *
  generalize be 4 ya = x4 at *
  go_enter Try.func102, Try.ntmps102
  go_wp2_with fail
  refine (c2.out _).mono ?_
  rintro e w1 ⟨rfl, hb1⟩
  have B1 := ((Box.mk0 w #[.int .u8 (yb : Int), .int .u16 (yp : Int), .int .u16 (yg : Int), .int .u32 (ya : Int)] 57).alloc _).below hb1
  have hc1 := B1.cell
  have hl1 := B1.lt
  go_wp2_with fail
  refine (c3.out _).mono ?_
  rintro e w2 ⟨rfl, hb2⟩
  have B2 := B1.below hb2
  have hc2 := B2.cell
  have hl2 := B2.lt
  clear hc1
  go_wp2_with fail
  refine (c4.out _).mono ?_
  rintro e w3 ⟨rfl, hb3⟩
  have B3 := B2.below hb3
  clear hc2
  go_wp2
  go_ret
  exact ⟨by rw [hq.out]; rfl, B3.bel⟩
/-- what Submit logs -/
def subTextOf (p : Pm) : List UInt8 := 83 :: (be 4 p.id ++ (be 8 p.dl ++ (UInt8.ofNat p.legs.length :: UInt8.ofNat p.memo.length :: (p.legs.flatMap legTextOf ++ p.memo))))
theorem flat9 (l : List Pl) : (l.flatMap legTextOf).length = 9 * l.length := by
  induction l with
  | nil => rfl
  | cons x r ih => simp only [List.flatMap_cons, List.length_append, legText_length, ih, List.length_cons]; omega
set_option maxRecDepth 100000 in
set_option maxHeartbeats 1000000 in
theorem subText_any (p : Pm) (hp : p.ok) (hm : p.memo.length ≤ 64) (h4 : p.legs.length ≤ 4) (w : World) (hR : RowOf w 57 4 Pl.cells p.lv p.legs) :
    Calls Try.prog 79 #[p.v] w fun e w' => e = .returned (.string (bs (subTextOf p))) ∧ Below w.heap.size w w' := by
  obtain ⟨pi, pd, pm, pl, pa, pc⟩ := p
  obtain ⟨hpi, hpd, hpl⟩ := hp
  have hq : Hid (subTextOf ⟨pi, pd, pm, pl, pa, pc⟩ = 83 :: (be 4 pi ++ (be 8 pd ++ (UInt8.ofNat pl.length :: UInt8.ofNat pm.length :: (pl.flatMap legTextOf ++ pm))))) := hide rfl
  simp only [Pm.v, Pm.lv] at *
  have l4 := be_length 4 pi
  have l8 := be_length 8 pd
  have c4 := hide (fun u => four_any pi hpi u)
  have c8 := hide (fun u => eight_any pd hpd u)
  generalize subTextOf ⟨pi, pd, pm, pl, pa, pc⟩ = ST at *
  generalize be 4 pi = x4 at *
  generalize be 8 pd = x8 at *
  have W1 : IntKind.u8.wrap (pl.length : Int) = (pl.length : Int) := by rw [IntKind.wrap_u8]; omega
  have W2 : IntKind.u8.wrap (pm.length : Int) = (pm.length : Int) := by rw [IntKind.wrap_u8]; omega
  go_enter Try.func79, Try.ntmps79
  go_wp2_with fail
  refine (c4.out _).mono ?_
  rintro e w1 ⟨rfl, hb1⟩
  have B1 := ((Box.mk0 w #[.int .u32 (pi : Int), .int .u64 (pd : Int), .string (bs pm), .slice pa pl.length pc] 70).alloc _).below hb1
  have hc1 := B1.cell
  have hl1 := B1.lt
  clear c4
  go_wp2_with fail
  refine (c8.out _).mono ?_
  rintro e w2 ⟨rfl, hb2⟩
  have B2 := B1.below hb2
  have hc2 := B2.cell
  have hl2 := B2.lt
  clear hc1 c8
  go_wp2
  have B3 := B2.alloc (.cells #[.int .u8 (pl.length : Int), .int .u8 (pm.length : Int)] 5)
  generalize hH : 83 :: (x4 ++ (x8 ++ [UInt8.ofNat pl.length, UInt8.ofNat pm.length])) = H0 at *
  have hHl : H0.length = 15 := by rw [← hH]; simp [l4, l8]
  have hq2 : Hid (ST = H0 ++ (pl.flatMap legTextOf ++ pm)) := hide (by rw [hq.out, ← hH]; simp)
  clear hq hH hc2
  go_loopw [7, 38] (fun t c u => ∃ n : Nat, n ≤ pl.length ∧ c = .int .i64 n ∧ t = .string (bs (H0 ++ (pl.take n).flatMap legTextOf)) ∧ Box w #[.int .u32 (pi : Int), .int .u64 (pd : Int), .string (bs pm), .slice pa pl.length pc] u) (fun _ c _ => pl.length - (intOf c).toNat)
  case atStart => exact ⟨0, Nat.zero_le _, rfl, by simp, B3⟩
  case round =>
    obtain ⟨n, hn, rfl, rfl, hB⟩ := hrel
    have hcu := hB.cell
    have hlu := hB.lt
    have hfl := flat9 (pl.take n)
    have htl : (pl.take n).length ≤ 4 := Nat.le_trans (List.length_take_le' _ _) h4
    by_cases hlt : n < pl.length
    · have hnl : (n : Int) < (pl.length : Int) := by omega
      have dl : decide ((n : Int) < (pl.length : Int)) = true := by simp; omega
      obtain ⟨ad', cap', hv', hev'⟩ := (hR.below hB.bel).form Pl.cells_length
      obtain ⟨g, hg, hcell, _⟩ := hev' n hlt
      have ead : pa = ad' := by injection hv'
      subst ead
      subst hg
      have c0 := hcell 0 (by decide)
      have c1 := hcell 1 (by decide)
      have c2 := hcell 2 (by decide)
      have c3 := hcell 3 (by decide)
      have hyk := hpl pl[n] (List.getElem_mem hlt)
      have hsn : Hid ((pl.take (n + 1)).flatMap legTextOf = (pl.take n).flatMap legTextOf ++ legTextOf pl[n]) := hide (by rw [List.take_succ_eq_append_getElem hlt, List.flatMap_append]; simp)
      have hLt := hide (fun u => legText_any pl[n] hyk u)
      have hll := legText_length pl[n]
      clear hcell hev' hv'
      generalize pl[n] = E at *
      generalize legTextOf E = LT at *
      generalize (pl.take n).flatMap legTextOf = T at *
      obtain ⟨yb, yp, yg, ya⟩ := E
      simp only [Pl.cells, List.getElem?_cons_zero, List.getElem?_cons_succ, Nat.add_zero] at c0 c1 c2 c3 hLt
      go_wp2_with fail
      refine (hLt.out _).mono ?_
      rintro e w5 ⟨rfl, hb5⟩
      have hB5 := hide (hB.below hb5)
      clear hLt c0 c1 c2 c3 hcu
      go_wp2
      exact ⟨⟨n + 1, hlt, by go_num, by rw [hsn.out], hB5.out⟩, by simp [intOf]; omega⟩
    · obtain rfl : n = pl.length := by omega
      have dl : decide ((pl.length : Int) < (pl.length : Int)) = false := by simp
      simp only [List.take_length] at *
      generalize pl.flatMap legTextOf = T at *
      go_wp2
      go_ret
      exact ⟨by rw [hq2.out]; simp [List.append_assoc], hB.bel⟩
end Go.Proofs.Ytjkhbjgfoopomaa
/-
  The program's notary: Submit.
-/
namespace Go.Proofs.Ytjkhbjgfoopomaa
open Go.RowKit
set_option linter.unusedVariables false
set_option linter.unusedSimpArgs false
set_option maxRecDepth 100000 in
set_option maxHeartbeats 1000000 in
theorem xSubmit_wrong (p : Pm) (hp : p.ok) (hm : p.memo.length ≤ 140737488351232) (hll : p.legs.length ≤ 11728124029269) (w : World) (B : Nat) (hL : LegsAt w p.la p.legs) (hw : wrongOf p ≠ 0) :
    Calls Try.prog 51 #[.pointer (some ⟨B, 0, none⟩), p.v] w fun e w' => e = .returned (.tuple #[.slice none 0 0, .string ⟨#[]⟩, .int .i64 (wrongOf p : Int)]) ∧ Below w.heap.size w w' := by
  have hW := hide (fun u hu => xfault_any p hp hm hll u hu)
  generalize wrongOf p = E at *
  obtain ⟨pi, pd, pm, pl, pa, pc⟩ := p
  simp only [Pm.v, Pm.lv] at *
  have hB0 : Hid (Below w.heap.size w (w.alloc (.cells #[.int .u32 (pi : Int), .int .u64 (pd : Int), .string (bs pm), .slice pa pl.length pc] 70))) := hide ((Below.refl _ _).alloc (Nat.le_refl _) _)
  have d1 : ((E : Int) != 0) = true := by simp; omega
  go_enter Try.func51, Try.ntmps51
  go_wp2_with fail
  refine (hW.out _ (hL.below hB0.out)).mono ?_
  rintro e w2 ⟨rfl, hb2⟩
  have hB2 := hide (hB0.out.trans (hb2.mono hB0.out.size))
  clear hb2 hW
  go_wp2
  go_ret3
  exact ⟨rfl, hB2.out⟩
set_option maxRecDepth 100000 in
set_option maxHeartbeats 1000000 in
theorem xSubmit_late (p : Pm) (hp : p.ok) (hm : p.memo.length ≤ 140737488351232) (w : World) (B ck : Nat) (ps : List Xp) (v : Value) (hX : XD w B ck ps v) (hok : ∀ y, y ∈ ps → y.ok) (hlen : ps.length ≤ 1000) (hL : LegsAt w p.la p.legs) (hw : wrongOf p = 0) (hno : ps.length ≤ findX p.id ps) (hck : ck < 18446744073709551616) (er : Nat) (her : (p.dl ≤ ck ∧ er = 12) ∨ (ck < p.dl ∧ 32 ≤ ps.length ∧ er = 10)) :
    Calls Try.prog 51 #[.pointer (some ⟨B, 0, none⟩), p.v] w fun e w' => e = .returned (.tuple #[.slice none 0 0, .string ⟨#[]⟩, .int .i64 (er : Int)]) ∧ Below w.heap.size w w' := by
  have hW := hide (fun u hu => xfault_any p hp hm (by have := wrongOf_few hw; omega) u hu)
  rw [hw] at hW
  have hF := hide (fun u hu => xfind_any p.id hp.1 u B ck ps v hu hok (by omega))
  have hfl := findX_le p.id ps
  generalize findX p.id ps = j at *
  obtain ⟨ad, cap, hv, _⟩ := hX.row.form Xp.cells_length
  subst hv
  obtain ⟨pi, pd, pm, pl, pa, pc⟩ := p
  obtain ⟨hpi, hpd, hpl⟩ := hp
  simp only [Pm.v, Pm.lv] at *
  have hB0 : Hid (Below w.heap.size w (w.alloc (.cells #[.int .u32 (pi : Int), .int .u64 (pd : Int), .string (bs pm), .slice pa pl.length pc] 70))) := hide ((Below.refl _ _).alloc (Nat.le_refl _) _)
  have hp0 := Box.mk0 w #[.int .u32 (pi : Int), .int .u64 (pd : Int), .string (bs pm), .slice pa pl.length pc] 70
  have d0 : decide ((j : Int) < (ps.length : Int)) = false := by simp; omega
  go_enter Try.func51, Try.ntmps51
  go_wp2_with fail
  refine (hW.out _ (hL.below hB0.out)).mono ?_
  rintro e w2 ⟨rfl, hb2⟩
  have B2 := hp0.below hb2
  have hc2 := B2.cell
  have hl2 := B2.lt
  have hX2 := hX.below B2.bel
  have hcB : ∀ o, w2.cell? ⟨B, o, none⟩ = (#[.int .u64 (ck : Int), .slice ad ps.length cap] : Array Value)[o]? := fun o => cell_at hX2.blk o
  have hBl := hX2.lt
  have hB2 := hide B2.bel
  clear hb2 hW hp0 hB0
  go_wp2_with fail
  refine (hF.out _ hX2).mono ?_
  rintro e w3 ⟨rfl, rfl⟩
  clear hF
  rcases her with ⟨h1, rfl⟩ | ⟨h1, h2, rfl⟩
  · have d1 : decide ((pd : Int) ≤ (ck : Int)) = true := by simp; omega
    have d1n : decide (pd ≤ ck) = true := by simp; omega
    go_wp2_with fail
    go_quiet (fail)
    go_wp2
    go_ret3
    exact ⟨rfl, hB2.out.drewN _⟩
  · have d1 : decide ((pd : Int) ≤ (ck : Int)) = false := by simp; omega
    have d1n : decide (pd ≤ ck) = false := by simp; omega
    have d2 : decide ((ps.length : Int) ≥ 32) = true := by simp; omega
    have d2' : decide ((32 : Int) ≤ (ps.length : Int)) = true := by simp; omega
    go_wp2_with fail
    go_quiet (fail)
    go_wp2
    go_ret3
    exact ⟨rfl, hB2.out.drewN _⟩
set_option maxRecDepth 100000 in
set_option maxHeartbeats 1000000 in
theorem xSubmit_there (p : Pm) (hp : p.ok) (hm : p.memo.length ≤ 140737488351232) (w : World) (B ck : Nat) (ps : List Xp) (v : Value) (hX : XD w B ck ps v) (hfine : ∀ y, y ∈ ps → y.fine) (hlen : ps.length ≤ 1000) (hL : RowOf w 57 4 Pl.cells p.lv p.legs) (hw : wrongOf p = 0) (hj : findX p.id ps < ps.length) :
    Calls Try.prog 51 #[.pointer (some ⟨B, 0, none⟩), p.v] w fun e w' => (∃ lv, e = .returned (.tuple #[lv, .string ⟨#[]⟩, .int .i64 (if sameOf ps[findX p.id ps].pm p then 0 else 11)]) ∧ RowOf w' 9 1 txtCell lv (if sameOf ps[findX p.id ps].pm p then remX ps[findX p.id ps] else []) ∧ ∀ g, lv.ownBlock = some g → w.heap.size ≤ g) ∧ Below w.heap.size w w' := by
  have hLA := hL.legsAt (la := p.la) (lc := p.lc)
  have hW := hide (fun u hu => xfault_any p hp hm (by have := wrongOf_few hw; omega) u hu)
  rw [hw] at hW
  have hF := hide (fun u hu => xfind_any p.id hp.1 u B ck ps v hu (fun y hy => (hfine y hy).ok) (by omega))
  have hp4 := wrongOf_few hw
  have hfx := hfine _ (List.getElem_mem hj)
  have hSm := hide (fun (u : World) (hu : RowOf u 57 4 Pl.cells ps[findX p.id ps].pm.lv ps[findX p.id ps].pm.legs) (hv : RowOf u 57 4 Pl.cells p.lv p.legs) => isSame_any ps[findX p.id ps].pm p hfx.ok.1 hp hfx.few u hu hv (by omega))
  have hRm := hide (fun (u : World) b (hu : PBox u b ps[findX p.id ps]) => remind_any ps[findX p.id ps] hfx u b hu)
  have hlg := hX.legs _ (List.getElem_mem hj)
  obtain ⟨ad, cap, hv, hev⟩ := hX.row.form Xp.cells_length
  obtain ⟨g, hg, hcell0, _⟩ := hev _ hj
  subst hg
  subst hv
  have hgl : g < w.heap.size := hX.row.lt rfl
  generalize remX ps[findX p.id ps] = RM at *
  generalize sameOf ps[findX p.id ps].pm p = SB at *
  generalize ps[findX p.id ps] = E at *
  generalize findX p.id ps = j at *
  obtain ⟨⟨ei, ed, em, el, ea, ec⟩, es, eh, en⟩ := E
  obtain ⟨pi, pd, pm, pl, pa, pc⟩ := p
  obtain ⟨hpi, hpd, hpl⟩ := hp
  simp only [Pm.v, Pm.lv] at *
  have hp0 := Box.mk0 w #[.int .u32 (pi : Int), .int .u64 (pd : Int), .string (bs pm), .slice pa pl.length pc] 70
  have d0 : decide ((j : Int) < (ps.length : Int)) = true := by simp; omega
  have hji : (j : Int) < (ps.length : Int) := by omega
  go_enter Try.func51, Try.ntmps51
  go_wp2_with fail
  refine (hW.out _ (hLA.below hp0.bel)).mono ?_
  rintro e w2 ⟨rfl, hb2⟩
  have B2 := hp0.below hb2
  have hc2 := B2.cell
  have hl2 := B2.lt
  have hX2 := hX.below B2.bel
  have hcB : ∀ o, w2.cell? ⟨B, o, none⟩ = (#[.int .u64 (ck : Int), .slice (some ⟨g, 0, none⟩) ps.length cap] : Array Value)[o]? := fun o => cell_at hX2.blk o
  have hBl := hX2.lt
  have hcell : ∀ o, o < 7 → w2.cell? ⟨g, j * 7 + o, none⟩ = (Xp.cells ⟨⟨ei, ed, em, el, ea, ec⟩, es, eh, en⟩)[o]? := fun o ho => (B2.bel.cell (p := ⟨g, j * 7 + o, none⟩) hgl).trans (hcell0 o ho)
  have c0 := hcell 0 (by decide)
  have c1 := hcell 1 (by decide)
  have c2 := hcell 2 (by decide)
  have c3 := hcell 3 (by decide)
  have c4 := hcell 4 (by decide)
  have c5 := hcell 5 (by decide)
  have c6 := hcell 6 (by decide)
  simp only [Xp.cells, List.getElem?_cons_zero, List.getElem?_cons_succ, Nat.add_zero] at c0 c1 c2 c3 c4 c5 c6
  clear hb2 hW hcell hcell0 hev
  go_wp2_with fail
  refine (hF.out _ hX2).mono ?_
  rintro e w3 ⟨rfl, rfl⟩
  clear hF
  have hPB : PBox (w3.alloc (.cells #[.int .u32 (ei : Int), .int .u64 (ed : Int), .string (bs em), .slice ea el.length ec, .int .u8 (es : Int), .int .u8 (eh : Int), .int .u8 (en : Int)] 139)) w3.heap.size ⟨⟨ei, ed, em, el, ea, ec⟩, es, eh, en⟩ := ⟨heap_alloc_self _ _, (hlg.below B2.bel).below ((Below.refl _ _).alloc (Nat.le_refl _) _)⟩
  have hb4 : Below w.heap.size w (w3.alloc (.cells #[.int .u32 (ei : Int), .int .u64 (ed : Int), .string (bs em), .slice ea el.length ec, .int .u8 (es : Int), .int .u8 (eh : Int), .int .u8 (en : Int)] 139)) := B2.bel.alloc B2.bel.size _
  have hlg4 := hide (hlg.below hb4)
  have hL4 := hide (hL.below hb4)
  replace hPB := hide hPB
  replace hb4 := hide hb4
  clear hlg
  go_wp2_with fail
  refine (hSm.out _ hlg4.out hL4.out).mono ?_
  rintro e w5 ⟨rfl, hb5⟩
  have hPB5 := hide (hPB.out.below hb5)
  have hB5 := hide (hb4.out.trans (hb5.mono hb4.out.size))
  clear hSm hlg4 hL4 hb4 hPB hb5 c0 c1 c2 c3 c4 c5 c6 hcB hc2
  cases SB with
  | false =>
    clear hRm
    go_wp2
    go_ret3
    exact ⟨⟨_, rfl, RowOf.nil _ _, fun g hg => by simp [Value.ownBlock] at hg⟩, hB5.out⟩
  | true =>
    go_wp2_with fail
    refine (hRm.out _ _ hPB5.out).mono ?_
    rintro e w6 ⟨⟨lv, rfl, hr6, ho6⟩, hb6⟩
    replace hr6 := hide hr6
    replace ho6 := hide ho6
    replace hb6 := hide hb6
    clear hRm
    go_wp2
    go_ret3
    exact ⟨⟨_, rfl, hr6.out, fun g hg => Nat.le_trans hB5.out.size (ho6.out g hg)⟩, hB5.out.trans (hb6.out.mono hB5.out.size)⟩
theorem newX_ok {q : Pm} (h : q.ok) : (⟨q, 1, 0, 0⟩ : Xp).ok := ⟨h, by show (1 : Nat) < 256; omega, by show (0 : Nat) < 256; omega, by show (0 : Nat) < 256; omega⟩
theorem sayTo_at (i d d' : Nat) (m : List UInt8) (l : List Pl) (la la' : Option Addr) (lc lc' st mask : Nat) : ∀ n, sayTo ⟨i, d, m, l, la, lc⟩ st mask n = sayTo ⟨i, d', m, l, la', lc'⟩ st mask n
  | 0 => rfl
  | n + 1 => by
    simp only [sayTo]
    rw [sayTo_at i d d' m l la la' lc lc' st mask n]
    rfl
set_option maxRecDepth 100000 in
set_option maxHeartbeats 2000000 in
theorem xSubmit_new (p : Pm) (hp : p.ok) (hm : p.memo.length ≤ 140737488351232) (w : World) (B ck : Nat) (ps : List Xp) (v : Value) (hX : XD w B ck ps v) (hap : XDap B ps v) (hok : ∀ y, y ∈ ps → y.ok) (hL : RowOf w 57 4 Pl.cells p.lv p.legs) (hw : wrongOf p = 0) (hm64 : p.memo.length ≤ 64) (hno : ps.length ≤ findX p.id ps) (hck : ck < p.dl) (h32 : ps.length < 32) (hLd : ∀ g, p.lv.ownBlock = some g → g ≠ B ∧ v.ownBlock ≠ some g) :
    Calls Try.prog 51 #[.pointer (some ⟨B, 0, none⟩), p.v] w fun e w' => ∃ lv la lc k v', e = .returned (.tuple #[lv, .string (bs (subTextOf p)), .int .i64 0]) ∧ k ≤ ps.length ∧ (∀ q (hq : q < ps.length), k ≤ q → p.id < ps[q].pm.id) ∧ (∀ j (hj : j < ps.length), k = j + 1 → ¬ p.id < ps[j].pm.id) ∧ XDHanded w w' B ck ps (insX ⟨⟨p.id, p.dl, p.memo, p.legs, la, lc⟩, 1, 0, 0⟩ k ps) v v' lv (sayL p 1 15) := by
  have hLA := hL.legsAt (la := p.la) (lc := p.lc)
  have hW := hide (fun u hu => xfault_any p hp hm (by have := wrongOf_few hw; omega) u hu)
  rw [hw] at hW
  have hF := hide (fun u hu => xfind_any p.id hp.1 u B ck ps v hu hok (by omega))
  have hp4 := wrongOf_few hw
  have hp0' : 0 < p.legs.length := by
    rcases Nat.eq_zero_or_pos p.legs.length with h | h
    · simp [wrongOf, h] at hw
    · exact h
  have hCp := hide (fun u hu => copyOf_any p hp (by omega) hp0' hp4 u hu)
  have hTx := hide (fun u hu => subText_any p hp hm64 hp4 u hu)
  have hKp := hide (fun (la : Option Addr) (lc : Nat) (u : World) hb hl hf => keepD_any ⟨⟨p.id, p.dl, p.memo, p.legs, la, lc⟩, 1, 0, 0⟩ (newX_ok hp) w u B ck ps v hX hap hb hl hf hok (by omega))
  have hSy := hide (fun (la : Option Addr) (lc : Nat) (u : World) b hu => say_any ⟨⟨p.id, p.dl, p.memo, p.legs, la, lc⟩, 1, 0, 0⟩ (newX_ok hp) ⟨Nat.le_refl 1, by show (1 : Nat) ≤ 3; omega⟩ hm64 hp4 15 (by decide) u b hu)
  have hsl : Hid (∀ la lc, sayL ⟨p.id, p.dl, p.memo, p.legs, la, lc⟩ 1 15 = sayL p 1 15) := hide (fun la lc => sayTo_at p.id p.dl p.dl p.memo p.legs la p.la lc p.lc 1 15 _)
  have hfl := findX_le p.id ps
  generalize findX p.id ps = j at *
  generalize sayL p 1 15 = SY at *
  generalize subTextOf p = TX at *
  obtain ⟨ad, cap, hv, _⟩ := hX.row.form Xp.cells_length
  subst hv
  obtain ⟨pi, pd, pm, pl, pa, pc⟩ := p
  obtain ⟨hpi, hpd, hpl⟩ := hp
  simp only [Pm.v, Pm.lv, Xp.cells] at *
  have hp0 := Box.mk0 w #[.int .u32 (pi : Int), .int .u64 (pd : Int), .string (bs pm), .slice pa pl.length pc] 70
  have d0 : decide ((j : Int) < (ps.length : Int)) = false := by simp; omega
  have d1 : decide ((pd : Int) ≤ (ck : Int)) = false := by simp; omega
  have d1n : decide (pd ≤ ck) = false := by simp; omega
  have d2 : decide ((ps.length : Int) ≥ 32) = false := by simp; omega
  have d2' : decide ((32 : Int) ≤ (ps.length : Int)) = false := by simp; omega
  go_enter Try.func51, Try.ntmps51
  go_wp2_with fail
  refine (hW.out _ (hLA.below hp0.bel)).mono ?_
  rintro e w2 ⟨rfl, hb2⟩
  have B2 := hp0.below hb2
  have hc2 := B2.cell
  have hl2 := B2.lt
  have hX2 := hX.below B2.bel
  have hcB : ∀ o, w2.cell? ⟨B, o, none⟩ = (#[.int .u64 (ck : Int), .slice ad ps.length cap] : Array Value)[o]? := fun o => cell_at hX2.blk o
  have hBl := hX2.lt
  clear hb2 hW
  go_wp2_with fail
  refine (hF.out _ hX2).mono ?_
  rintro e w3 ⟨rfl, rfl⟩
  clear hF
  go_wp2_with fail
  go_quiet (fail)
  replace B2 := B2.drewN nq
  have hB2 := B2.bel
  generalize World.drewN _ _ = w4 at *
  clear hc2 hcB hX2
  have hX4 := hX.below hB2
  have hc2 := B2.cell
  have hl4 := B2.lt
  have hcB : ∀ o, w4.cell? ⟨B, o, none⟩ = (#[.int .u64 (ck : Int), .slice ad ps.length cap] : Array Value)[o]? := fun o => cell_at hX4.blk o
  have hBl4 := hX4.lt
  go_wp2_with fail
  refine (hCp.out _ (hLA.below hB2)).mono ?_
  rintro e w5 ⟨⟨gL, cL, rfl, hgL, hrL⟩, hb5⟩
  have B5 := B2.below hb5
  have hB5 := B5.bel
  have hgw : w.heap.size ≤ gL := Nat.le_trans hB2.size hgL
  have hv5 : Below w5.heap.size w5 (w5.alloc (.cells #[.int .u32 (pi : Int), .int .u64 (pd : Int), .string (bs pm), .slice (some ⟨gL, 0, none⟩) pl.length cL, .int .u8 1, .int .u8 0, .int .u8 0] 139)) := (Below.refl _ _).alloc (Nat.le_refl _) _
  have hbx : (w5.alloc (.cells #[.int .u32 (pi : Int), .int .u64 (pd : Int), .string (bs pm), .slice (some ⟨gL, 0, none⟩) pl.length cL, .int .u8 1, .int .u8 0, .int .u8 0] 139)).heap[w5.heap.size]? = some (.cells #[.int .u32 (pi : Int), .int .u64 (pd : Int), .string (bs pm), .slice (some ⟨gL, 0, none⟩) pl.length cL, .int .u8 1, .int .u8 0, .int .u8 0] 139 (0, 0)) := heap_alloc_self _ _
  have hB6 := hB5.trans (hv5.mono hB5.size)
  have hK6 := hKp.out (some ⟨gL, 0, none⟩) cL _ hB6 (hrL.below hv5) (fun h hh => by
    have h1 : gL = h := by simpa [Value.ownBlock] using hh
    omega)
  have B6 := B5.below hv5
  have hs5 := hB5.size
  clear hCp hKp hc2 hcB
  generalize hU : w5.alloc (.cells #[.int .u32 (pi : Int), .int .u64 (pd : Int), .string (bs pm), .slice (some ⟨gL, 0, none⟩) pl.length cL, .int .u8 1, .int .u8 0, .int .u8 0] 139) = U6 at *
  replace hU := hide hU
  replace hK6 := hide hK6
  go_wp2_with fail
  rw [hU.out]
  refine (hK6.out).mono ?_
  rintro e w7 ⟨rfl, k, v', hk1, hk2, hk3, hT, hkU⟩
  have hvl : ∀ i, (Value.slice ad ps.length cap).ownBlock = some i → i < w.heap.size := fun i hi => hX.row.lt hi
  have hBl0 := hX.lt
  have hs6 : w5.heap.size < U6.heap.size := block_lt hbx
  have hbx7 : w7.heap[w5.heap.size]? = some (.cells #[.int .u32 (pi : Int), .int .u64 (pd : Int), .string (bs pm), .slice (some ⟨gL, 0, none⟩) pl.length cL, .int .u8 1, .int .u8 0, .int .u8 0] 139 (0, 0)) := by
    rw [hkU.block _ hs6 (fun e => by
      rcases e with e | e
      · omega
      · have := hvl _ e; omega)]
    exact hbx
  have hPB : PBox w7 w5.heap.size ⟨⟨pi, pd, pm, pl, some ⟨gL, 0, none⟩, cL⟩, 1, 0, 0⟩ := ⟨hbx7, hT.xd.legs _ (insX_mem _ _ _)⟩
  have hc7 : ∀ o, w7.cell? ⟨w.heap.size, o, none⟩ = (#[.int .u32 (pi : Int), .int .u64 (pd : Int), .string (bs pm), .slice pa pl.length pc] : Array Value)[o]? := fun o => (hkU.cell (p := ⟨w.heap.size, o, none⟩) B6.lt (fun e => by
    rcases e with e | e
    · have e' : w.heap.size = B := e
      omega
    · have := hvl _ e
      have e' : w.heap.size < w.heap.size := this
      omega)).trans (B6.cell o)
  have hl7 : w.heap.size < w7.heap.size := Nat.lt_of_lt_of_le B6.lt hkU.size
  have hL7 := hide (hL.kept hT.kept (fun g hg e => by
    have h1 := hLd g hg
    rcases e with e | e
    · exact h1.1 e
    · exact h1.2 e))
  have hS7 := hSy.out (some ⟨gL, 0, none⟩) cL w7 w5.heap.size hPB
  rw [hsl.out] at hS7
  replace hS7 := hide hS7
  replace hT := hide hT
  replace hk2 := hide hk2
  replace hk3 := hide hk3
  clear hK6 hSy hPB hbx hbx7 hkU
  go_wp2_with fail
  refine (hS7.out).mono ?_
  rintro e w8 ⟨⟨lv, rfl, hr8, ho8⟩, hb8⟩
  have hc8 : ∀ o, w8.cell? ⟨w.heap.size, o, none⟩ = (#[.int .u32 (pi : Int), .int .u64 (pd : Int), .string (bs pm), .slice pa pl.length pc] : Array Value)[o]? := fun o => (hb8.cell (p := ⟨w.heap.size, o, none⟩) hl7).trans (hc7 o)
  have hl8 : w.heap.size < w8.heap.size := Nat.lt_of_lt_of_le hl7 hb8.size
  have hL8 := hide (hL7.out.below hb8)
  have hH := hide (XDHanded.from hT.out hb8 hr8 ho8)
  clear hc7 hS7 hT hr8 ho8 hb8
  go_wp2_with fail
  refine (hTx.out _ hL8.out).mono ?_
  rintro e w9 ⟨rfl, hb9⟩
  replace hb9 := hide hb9
  clear hTx hc8
  go_wp2
  go_ret3
  exact ⟨_, some ⟨gL, 0, none⟩, cL, k, v', rfl, hk1, hk2.out, hk3.out, hH.out.then hb9.out⟩
end Go.Proofs.Ytjkhbjgfoopomaa
