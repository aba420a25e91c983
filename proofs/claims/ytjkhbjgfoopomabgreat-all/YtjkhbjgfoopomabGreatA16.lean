import Derived.Test.YtjkhbjgfoopomabGreatA15
namespace Go.Proofs.YtjkhbjgfoopomabGreat
open Go.RowKit
set_option maxRecDepth 100000
set_option maxHeartbeats 1000000
set_option linter.unusedVariables false
set_option linter.unusedSimpArgs false
attribute [local go_sem] bs_size bs_append conv1 conv2
theorem conv1u (w : World) (o : Obj) (a : Int) : (convert 193 9 (.slice (some ⟨w.heap.size + 1, 0, none⟩) 1 1)).run Tryz.prog ((w.alloc o).alloc (.cells #[.int .u8 a] 5)) =
  .ok (.string (bs [UInt8.ofNat a.toNat])) ((w.alloc o).alloc (.cells #[.int .u8 a] 5)) := by
 have := conv1 (w.alloc o) a
 rw [show (w.alloc o).heap.size = w.heap.size + 1 from by simp] at this
 exact this
attribute [local go_sem] conv1u
theorem be_eight (n : Nat) (hn : n < 18446744073709551616) : be 4 (n / 4294967296) ++ be 4 (n % 4294967296) = be 8 n := by
 simp only [be, List.cons_append, List.nil_append, Nat.reducePow]
 have e1 : n / 4294967296 / 16777216 % 256 = n / 72057594037927936 % 256 := by omega
 have e2 : n / 4294967296 / 65536 % 256 = n / 281474976710656 % 256 := by omega
 have e3 : n / 4294967296 / 256 % 256 = n / 1099511627776 % 256 := by omega
 have e4 : n / 4294967296 / 1 % 256 = n / 4294967296 % 256 := by omega
 have e5 : n % 4294967296 / 16777216 % 256 = n / 16777216 % 256 := by omega
 have e6 : n % 4294967296 / 65536 % 256 = n / 65536 % 256 := by omega
 have e7 : n % 4294967296 / 256 % 256 = n / 256 % 256 := by omega
 have e8 : n % 4294967296 / 1 % 256 = n / 1 % 256 := by omega
 rw [e1, e2, e3, e4, e5, e6, e7, e8]
theorem eight_any (n : Nat) (hn : n < 18446744073709551616) (w : World) :
  Calls Tryz.prog 104 #[.int .u64 (n : Int)] w fun e w' => e = .returned (.string (bs (be 8 n))) ∧ Below w.heap.size w w' := by
 have hq := hide (be_eight n hn)
 have l1 := be_length 4 (n / 4294967296)
 have l2 := be_length 4 (n % 4294967296)
 have h1 := hide (fun u => four_any (n / 4294967296) (by omega) u)
 have h2 := hide (fun u => four_any (n % 4294967296) (by omega) u)
 generalize be 4 (n / 4294967296) = x1 at *
 generalize be 4 (n % 4294967296) = x2 at *
 rw [show ((n / 4294967296 : Nat) : Int) = (n : Int) / 4294967296 by omega] at h1
 rw [show ((n % 4294967296 : Nat) : Int) = (n : Int) % 4294967296 by omega] at h2
 have W1 : IntKind.u32.wrap ((n : Int) / 4294967296) = (n : Int) / 4294967296 := by rw [IntKind.wrap_u32]; omega
 have W2 : IntKind.u32.wrap (n : Int) = (n : Int) % 4294967296 := by rw [IntKind.wrap_u32]
 go_enter Tryz.func104, Tryz.ntmps104
 go_wp2_with fail
 refine (h1.out _).mono ?_
 rintro e w1 ⟨rfl, hb1⟩
 go_wp2_with fail
 refine (h2.out _).mono ?_
 rintro e w2 ⟨rfl, hb2⟩
 go_wp2
 go_ret
 exact ⟨ret_str hq.out, hb1.trans (hb2.mono hb1.size)⟩
def legTextOf (y : Pl) : List UInt8 := UInt8.ofNat y.b :: (be 2 y.p ++ (be 2 y.g ++ be 4 y.a))
theorem legText_length (y : Pl) : (legTextOf y).length = 9 := by simp [legTextOf, be_length]
theorem legText_any (y : Pl) (hy : y.ok) (w : World) :
  Calls Tryz.prog 105 #[.agg y.cells.toArray] w fun e w' => e = .returned (.string (bs (legTextOf y))) ∧ Below w.heap.size w w' := by
 obtain ⟨yb, yp, yg, ya⟩ := y
 obtain ⟨h1, h2, h3, h4⟩ := hy
 have hq : Hid (legTextOf ⟨yb, yp, yg, ya⟩ = UInt8.ofNat yb :: (be 2 yp ++ (be 2 yg ++ be 4 ya))) := hide rfl
 simp only [Pl.cells] at *
 have l2 := be_length 2 yp
 have l3 := be_length 2 yg
 have l4 := be_length 4 ya
 have c2 := hide (fun u => two_any yp h2 u)
 have c3 := hide (fun u => two_any yg h3 u)
 have c4 := hide (fun u => four_any ya h4 u)
 generalize legTextOf ⟨yb, yp, yg, ya⟩ = LT at *
 generalize be 2 yp = x2 at *
 generalize be 2 yg = x3 at *
 generalize be 4 ya = x4 at *
 go_enter Tryz.func105, Tryz.ntmps105
 go_wp2_with fail
 refine (c2.out _).mono ?_
 rintro e w1 ⟨rfl, hb1⟩
 have B1 := ((Box.mk0 w #[.int .u8 (yb : Int), .int .u16 (yp : Int), .int .u16 (yg : Int), .int .u32 (ya : Int)] 67).alloc _).below hb1
 have hc1 := B1.cell
 have hl1 := B1.lt
 go_wp2_with fail
 refine (c3.out _).mono ?_
 rintro e w2 ⟨rfl, hb2⟩
 have B2 := B1.below hb2
 have hc2 := B2.cell
 have hl2 := B2.lt
 clear hc1
 go_wp2_with fail
 refine (c4.out _).mono ?_
 rintro e w3 ⟨rfl, hb3⟩
 have B3 := B2.below hb3
 clear hc2
 go_wp2
 go_ret
 exact ⟨by rw [hq.out]; rfl, B3.bel⟩
def subTextOf (p : Pm) : List UInt8 := 83 :: (be 4 p.id ++ (be 8 p.dl ++ (UInt8.ofNat p.legs.length :: UInt8.ofNat p.memo.length :: (p.legs.flatMap legTextOf ++ p.memo))))
theorem flat9 (l : List Pl) : (l.flatMap legTextOf).length = 9 * l.length := by
 induction l with
 | nil => rfl
 | cons x r ih => simp only [List.flatMap_cons, List.length_append, legText_length, ih, List.length_cons]; omega
theorem subText_any (p : Pm) (hp : p.ok) (hm : p.memo.length ≤ 64) (h4 : p.legs.length ≤ 4) (w : World) (hR : RowOf w 67 4 Pl.cells p.lv p.legs) :
  Calls Tryz.prog 66 #[p.v] w fun e w' => e = .returned (.string (bs (subTextOf p))) ∧ Below w.heap.size w w' := by
 obtain ⟨pi, pd, pm, pl, pa, pc⟩ := p
 obtain ⟨hpi, hpd, hpl⟩ := hp
 have hq : Hid (subTextOf ⟨pi, pd, pm, pl, pa, pc⟩ = 83 :: (be 4 pi ++ (be 8 pd ++ (UInt8.ofNat pl.length :: UInt8.ofNat pm.length :: (pl.flatMap legTextOf ++ pm))))) := hide rfl
 simp only [Pm.v, Pm.lv] at *
 have l4 := be_length 4 pi
 have l8 := be_length 8 pd
 have c4 := hide (fun u => four_any pi hpi u)
 have c8 := hide (fun u => eight_any pd hpd u)
 generalize subTextOf ⟨pi, pd, pm, pl, pa, pc⟩ = ST at *
 generalize be 4 pi = x4 at *
 generalize be 8 pd = x8 at *
 have W1 : IntKind.u8.wrap (pl.length : Int) = (pl.length : Int) := by rw [IntKind.wrap_u8]; omega
 have W2 : IntKind.u8.wrap (pm.length : Int) = (pm.length : Int) := by rw [IntKind.wrap_u8]; omega
 go_enter Tryz.func66, Tryz.ntmps66
 go_wp2_with fail
 refine (c4.out _).mono ?_
 rintro e w1 ⟨rfl, hb1⟩
 have B1 := ((Box.mk0 w #[.int .u32 (pi : Int), .int .u64 (pd : Int), .string (bs pm), .slice pa pl.length pc] 69).alloc _).below hb1
 have hc1 := B1.cell
 have hl1 := B1.lt
 clear c4
 go_wp2_with fail
 refine (c8.out _).mono ?_
 rintro e w2 ⟨rfl, hb2⟩
 have B2 := B1.below hb2
 have hc2 := B2.cell
 have hl2 := B2.lt
 clear hc1 c8
 go_wp2
 have B3 := B2.alloc (.cells #[.int .u8 (pl.length : Int), .int .u8 (pm.length : Int)] 5)
 generalize hH : 83 :: (x4 ++ (x8 ++ [UInt8.ofNat pl.length, UInt8.ofNat pm.length])) = H0 at *
 have hHl : H0.length = 15 := by rw [← hH]; simp [l4, l8]
 have hq2 : Hid (ST = H0 ++ (pl.flatMap legTextOf ++ pm)) := hide (by rw [hq.out, ← hH]; simp)
 clear hq hH hc2
 go_loopw [7, 38] (fun t c u => ∃ n : Nat, n ≤ pl.length ∧ c = .int .i64 n ∧ t = .string (bs (H0 ++ (pl.take n).flatMap legTextOf)) ∧ Box w #[.int .u32 (pi : Int), .int .u64 (pd : Int), .string (bs pm), .slice pa pl.length pc] u) (fun _ c _ => pl.length - (intOf c).toNat)
 case atStart => exact ⟨0, Nat.zero_le _, rfl, by simp, B3⟩
 case round =>
  obtain ⟨n, hn, rfl, rfl, hB⟩ := hrel;have hcu := hB.cell;have hlu := hB.lt;have hfl := flat9 (pl.take n);have htl : (pl.take n).length ≤ 4 := Nat.le_trans (List.length_take_le' _ _) h4;by_cases hlt : n < pl.length
  ·have hnl : (n : Int) < (pl.length : Int) := by omega
   have dl : decide ((n : Int) < (pl.length : Int)) = true := by simp; omega
   obtain ⟨ad', cap', hv', hev'⟩ := (hR.below hB.bel).form Pl.cells_length;obtain ⟨g, hg, hcell, _⟩ := hev' n hlt;have ead : pa = ad' := by injection hv'
   subst ead;subst hg;have c0 := hcell 0 (by decide);have c1 := hcell 1 (by decide);have c2 := hcell 2 (by decide);have c3 := hcell 3 (by decide);have hyk := hpl pl[n] (List.getElem_mem hlt);have hsn : Hid ((pl.take (n + 1)).flatMap legTextOf = (pl.take n).flatMap legTextOf ++ legTextOf pl[n]) := hide (by rw [List.take_succ_eq_append_getElem hlt, List.flatMap_append]; simp);have hLt := hide (fun u => legText_any pl[n] hyk u);have hll := legText_length pl[n];clear hcell hev' hv';generalize pl[n] = E at *;generalize legTextOf E = LT at *;generalize (pl.take n).flatMap legTextOf = T at *;obtain ⟨yb, yp, yg, ya⟩ := E;simp only [Pl.cells, List.getElem?_cons_zero, List.getElem?_cons_succ, Nat.add_zero] at c0 c1 c2 c3 hLt;go_wp2_with fail
   refine (hLt.out _).mono ?_;rintro e w5 ⟨rfl, hb5⟩;have hB5 := hide (hB.below hb5);clear hLt c0 c1 c2 c3 hcu;go_wp2;exact ⟨⟨n + 1, hlt, by go_num, by rw [hsn.out], hB5.out⟩, by simp [intOf]; omega⟩
  ·obtain rfl : n = pl.length := by omega
   have dl : decide ((pl.length : Int) < (pl.length : Int)) = false := by simp
   simp only [List.take_length] at *;generalize pl.flatMap legTextOf = T at *;go_wp2;go_ret;exact ⟨by rw [hq2.out]; simp [List.append_assoc], hB.bel⟩
end Go.Proofs.YtjkhbjgfoopomabGreat
