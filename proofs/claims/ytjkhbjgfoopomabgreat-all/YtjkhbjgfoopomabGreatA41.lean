import Derived.Test.YtjkhbjgfoopomabGreatA38
import Derived.Test.YtjkhbjgfoopomabGreatA40
namespace Go.Proofs.YtjkhbjgfoopomabGreat
open Go.RowKit
set_option maxRecDepth 100000
set_option maxHeartbeats 4000000
set_option linter.unusedVariables false
set_option linter.unusedSimpArgs false
def BackB (w : World) (n : Nat) (E : List Ev) (e : Ending) (w' : World) : Prop :=
 ∃ B ac ls va vl, e = .returned (.tuple #[.pointer (some ⟨B, 0, none⟩), .int .i64 0]) ∧ XB w' B n ac ls va vl ∧ Apart B va vl ∧ Rel E ac ls ∧ ∀ i, xfoot B va vl i → w.heap.size ≤ i
def BackBs (w : World) (n : Nat) (R : Option (List Ev)) (e : Ending) (w' : World) : Prop :=
 match R with
 | none => e = .returned (.tuple #[.pointer none, .int .i64 16])
 | some E => BackB w n E e w'
theorem eRestB_any (n : Nat) (hn : 1 ≤ n ∧ n ≤ 7) (s : ByteArray) (hs : s.size ≤ 140737488351232) (w : World) :
  Calls Tryz.prog 45 #[.int .u8 (n : Int), .string s] w fun e w' => BackBs w n (restB n s.data.toList) e w' ∧ Below w.heap.size w w' := by
 have hR := hide (fun u => restoreB_any n hn s hs u)
 generalize restB n s.data.toList = R at *
 cases R with
 | none =>
  go_enter Tryz.func45, Tryz.ntmps45;go_wp2_with fail
  refine (hR.out _).mono ?_;rintro e w1 ⟨rfl, hb⟩;clear hR;go_wp2;go_ret2;exact ⟨rfl, hb.alloc hb.size _⟩
 | some E =>
  go_enter Tryz.func45, Tryz.ntmps45;go_wp2_with fail
  refine (hR.out _).mono ?_;rintro e w1 ⟨⟨v, rfl, ac, ls, va, vl, rfl, hr, ha, hl, hva, hvl, hal⟩, hb⟩;clear hR;obtain ⟨aa, ca, ea, _⟩ := ha.form Ac.cells_length;obtain ⟨al, cl, el, _⟩ := hl.form Lg.cells_length
  have hK : Hid (∀ u : World, u = (w1.alloc (.cells #[.int .u8 (n : Int), va, vl] 90)).alloc (.cells #[.int .u8 (n : Int), va, vl] 92) → BackB w n E (.returned (.tuple #[.pointer (some ⟨w1.heap.size + 1, 0, none⟩), .int .i64 0])) u ∧ Below w.heap.size w u) := hide (by
   rintro u rfl;have hs1 := hb.size;have h1 : (w1.alloc (.cells #[.int .u8 (n : Int), va, vl] 90)).heap.size = w1.heap.size + 1 := by simp
   have hb2 : Below w1.heap.size w1 ((w1.alloc (.cells #[.int .u8 (n : Int), va, vl] 90)).alloc (.cells #[.int .u8 (n : Int), va, vl] 92)) := ((Below.refl _ _).alloc (Nat.le_refl _) _).alloc (by omega) _;refine ⟨⟨w1.heap.size + 1, ac, ls, va, vl, rfl, ⟨?_, ha.below hb2, hl.below hb2⟩, ⟨fun e => ?_, fun e => ?_, hal⟩, hr, fun i hi => ?_⟩, hb.trans (hb2.mono hs1)⟩
   ·refine ty_of (T := 92) ?_;rw [← h1];exact heap_alloc_self _ _
   ·have := ha.lt e; omega
   ·have := hl.lt e; omega
   ·rcases hi with rfl | hi | hi
    ·omega
    ·exact hva i hi
    ·exact hvl i hi)
  subst ea;subst el;clear ha hl hva hvl hal hb hr;go_wp2;go_ret2;exact hK.out _ rfl
theorem partOf_len (lg : List (List UInt8 × Nat)) (m : Nat) (c : Int) : (partOf lg m c).1.length ≤ (flatLg lg).length := by
 rcases List.eq_nil_or_concat lg with rfl | ⟨L, x, hE⟩
 ·exact Nat.le_refl _
 ·rw [List.concat_eq_append] at hE;subst hE
  have hp : partOf (L ++ [x]) m c = if pickN c (x.1.length + 1) = x.1.length then (flatLg (L ++ [x]), m, L ++ [x]) else (flatLg L ++ x.1.take (pickN c (x.1.length + 1)), x.2, L) := by
   unfold partOf;rw [List.getLast?_concat, List.dropLast_concat]
  rw [hp];split
  ·exact Nat.le_refl _
  ·show (flatLg L ++ x.1.take _).length ≤ _;rw [flatLg_snoc, List.length_append, List.length_append, List.length_take];omega
theorem kept_two (w : World) (hb : Nat) (x y : Value) : Kept (fun k => k = hb) w ((w.setCell ⟨hb, 1, none⟩ x).setCell ⟨hb, 2, none⟩ y) := by
 have h1 : Kept (fun k => k = hb) w (w.setCell ⟨hb, 1, none⟩ x) := Kept.of_setCell w ⟨hb, 1, none⟩ x
 have h2 : Kept (fun k => k = hb) (w.setCell ⟨hb, 1, none⟩ x) ((w.setCell ⟨hb, 1, none⟩ x).setCell ⟨hb, 2, none⟩ y) := Kept.of_setCell _ ⟨hb, 2, none⟩ y
 exact h1.trans h2 (fun i h => .inl h)
theorem bank_restore (w0 : Base) (w : World) (Wb : Nat) (own : Nat → Nat) (hs : List House) (ll : List (Value × Nat)) (vb vl : Value) (i : Nat) (hi : i < hs.length) (hb xb rb node : Nat) (evs : List Ev) (ac : List Ac) (ls : List Lg) (va vll v : Value) (lgs : List (List UInt8 × Nat)) (vg : Value)
  (I : MemInv w0 w Wb own (hs.set i ⟨hb, xb, rb, node, evs, ac, ls, va, vll, v, lgs, vg⟩) ll vb vl) (hok : ∀ h, h ∈ hs → h.ok) (hR : Rel evs ac ls) (hn1 : 1 ≤ node) (hn7 : node ≤ 7) (hlg : LgB node evs lgs)
  (at_ n : Int) (hn : i64ok n) (s : List UInt8) (k f t mi l p g a : Nat) (m : List UInt8) (pid dead : Int) (memo : List UInt8) (legs : Option Addr) (llen lcap acc amt : Nat) :
  Calls Tryz.prog 51 #[.pointer (some ⟨Wb, 0, none⟩), .pointer (some ⟨hb, 0, none⟩), (⟨7, at_, n, s, ⟨k, f, t, mi, l, p, g, a, m⟩, pid, dead, memo, legs, llen, lcap, acc, amt⟩ : Opr).v] w (BankSays w0 Wb hs ll vb i hb) := by
 have H := MemInv.at hi I
 have hc : ∀ o, w.cell? ⟨hb, o, none⟩ = (#[.pointer (some ⟨xb, 0, none⟩), .pointer (some ⟨rb, 0, none⟩), vg] : Array Value)[o]? := fun o => cell_at H.blk o
 have hl1 : hb < w.heap.size := block_lt H.blk
 have hl2 : rb < w.heap.size := H.r.lt
 obtain ⟨rad, rcap, hv, _⟩ := H.r.form
 have hcr : ∀ o, w.cell? ⟨rb, o, none⟩ = (#[.int .u8 (node : Int), .slice rad evs.length rcap] : Array Value)[o]? := fun o => by rw [← (show v = _ from hv)]; exact cell_at H.r.blk o
 have hRs := hR.short
 obtain ⟨W1, hW1⟩ : ∃ W1, W1 = (w.alloc (.cells (⟨7, at_, n, s, ⟨k, f, t, mi, l, p, g, a, m⟩, pid, dead, memo, legs, llen, lcap, acc, amt⟩ : Opr).cells 104)).drew := ⟨_, rfl⟩
 have hbW : Below w.heap.size w W1 := by rw [hW1]; exact ((Below.refl w.heap.size w).alloc (Nat.le_refl _) _).drew
 have hlW : w.heap.size < W1.heap.size := by rw [hW1]; simp
 have I1 := I.below hbW
 have H1 := MemInv.at hi I1
 have e0 : W1.cell? ⟨hb, 2, none⟩ = some vg := cell_at H1.blk 2
 have e1 : W1.cell? ⟨w.heap.size, 2, none⟩ = some (.int .i64 n) := by rw [hW1]; simp [Opr.cells]
 have hlb : hb < W1.heap.size := by omega
 have hlen : (flatLg lgs).length ≤ 140737488351232 := by
  have h1 := BHist.len evs hlg.hist;rw [hlg.eq, flat_logOf];omega
 have hll : lgs.length ≤ 1000000000000 := by rw [hlg.eq, logOf_length]; omega
 have hX := hide (part_any W1 lgs vg H1.grow hlen hll evs.length n hn)
 have hBP := hide (bank_part hlg.hist n)
 rw [← hlg.eq] at hBP
 have hpl := partOf_len lgs evs.length n
 generalize partOf lgs evs.length n = PT at *
 obtain ⟨ps, pn, pl⟩ := PT
 simp only at hBP hpl
 replace I1 := hide I1
 replace hok := hide hok
 have I0 := hide I
 clear H H1 hv I
 simp only [Opr.v, Opr.cells] at *
 replace hW1 := hide hW1
 go_enter Tryz.func51, Tryz.ntmps51
 go_wp2_with fail
 go_region_held3 (fun u => u.cell? ⟨hb, 2, none⟩ = some vg ∧ u.cell? ⟨w.heap.size, 2, none⟩ = some (.int .i64 n))
  (first
   | (rw [← hW1.out]; exact ⟨e0, e1⟩)
   | (with_reducible exact ⟨(hb2.cell (p := ⟨hb, 2, none⟩) hlb).trans e0, (hb2.cell (p := ⟨w.heap.size, 2, none⟩) hlW).trans e1⟩))
  (first
   | (go_at_call 88; rw [← hW1.out]; refine hX.out.mono ?_; rintro e w2 ⟨ra, rc, rfl, hr2, hb2, hfr2⟩))
 have hb12 : Below w.heap.size w w2 := hbW.trans (hb2.mono hbW.size)
 have I2 := I1.out.below hb2
 have H2 := MemInv.at hi I2
 have q0 : w2.cell? ⟨hb, 1, none⟩ = some (.pointer (some ⟨rb, 0, none⟩)) := cell_at H2.blk 1
 have q1 : w2.cell? ⟨rb, 0, none⟩ = some (.int .u8 (node : Int)) := cell_at H2.r.blk 0
 have hlb2 : hb < w2.heap.size := block_lt H2.blk
 have hlr2 : rb < w2.heap.size := H2.r.lt
 have hRs2 := eRestB_any node ⟨hn1, hn7⟩ (bs ps) (by rw [bs_size]; omega) w2
 rw [bs_data, hBP.out.2.2.1] at hRs2
 replace hRs2 := hide hRs2
 replace I2 := hide I2
 clear hX hc hcr e0 e1 H2 I1
 go_wp2_with fail
 refine hRs2.out.mono ?_
 rintro e w3 ⟨⟨B, ac', ls', va', vl', rfl, hX3, hAp, hRel, hfr3⟩, hb3⟩
 have I3 := I2.out.below hb3
 have H3 := MemInv.at hi I3
 have hk3 : w3.heap[hb]? = some (.cells #[.pointer (some ⟨xb, 0, none⟩), .pointer (some ⟨rb, 0, none⟩), vg] 165 (0, 0)) := H3.blk
 have hc3 : ∀ o, w3.cell? ⟨hb, o, none⟩ = (#[.pointer (some ⟨xb, 0, none⟩), .pointer (some ⟨rb, 0, none⟩), vg] : Array Value)[o]? := fun o => cell_at hk3 o
 have hf3 : ∀ o, w3.frozen? ⟨hb, o, none⟩ = false := fun o => frozen_at hk3 o
 have hlb3 : hb < w3.heap.size := block_lt hk3
 have hnr : ∀ k, (k = rb ∨ v.ownBlock = some k) → k ≠ hb := fun k hk e => by have h1 := H3.rown k hk; have h2 : own hb = _ := H3.hown; rw [e] at h1; omega
 have hR4 : RB (w3.setCell ⟨hb, 0, none⟩ (.pointer (some ⟨B, 0, none⟩))) rb node evs v := ⟨by rw [(Kept.of_setCell w3 ⟨hb, 0, none⟩ _).block _ H3.r.lt (fun e => hnr _ (.inl rfl) e)]; exact H3.r.blk, H3.r.row.kept (Kept.of_setCell w3 ⟨hb, 0, none⟩ _) (fun g hg e => hnr g (.inr hg) e)⟩
 have hBk := hide (refBack_any _ rb node evs v hR4 pn hBP.out.1 (by omega))
 have hk4 := heap_set_self hk3 0 (.pointer (some ⟨B, 0, none⟩))
 have hr2d := hide hr2
 have hfr2' := hide (hfr2.imp_right (fun h g hg => Nat.le_trans hbW.size (h g hg)))
 have hb12' := hide hb12
 have hX3' := hide (And.intro hX3 (And.intro hAp (And.intro hRel hfr3)))
 replace hb3 := hide hb3
 clear hRs2 q0 q1 H3 I3 hR4 hr2 hfr2 hb2 hbW hb12 hX3 hAp hRel hfr3
 go_wp2_with fail
 refine hBk.out.mono ?_
 rintro e w5 ⟨R, v', rfl, hRB5, hap5, hR1, hR2, hb5⟩
 have hs4 : (w3.setCell ⟨hb, 0, none⟩ (.pointer (some ⟨B, 0, none⟩))).heap.size = w3.heap.size := by simp [World.setCell]
 have hk5 : w5.heap[hb]? = some (.cells #[.pointer (some ⟨B, 0, none⟩), .pointer (some ⟨rb, 0, none⟩), vg] 165 (0, 0)) := by
  rw [hb5.block _ (by rw [hs4]; exact hlb3)];exact hk4
 have hc5 : ∀ o, w5.cell? ⟨hb, o, none⟩ = (#[.pointer (some ⟨B, 0, none⟩), .pointer (some ⟨rb, 0, none⟩), vg] : Array Value)[o]? := fun o => cell_at hk5 o
 have hf5 : ∀ o, w5.frozen? ⟨hb, o, none⟩ = false := fun o => frozen_at hk5 o
 have hlb5 : hb < w5.heap.size := block_lt hk5
 have hWay : WayOf hb w w2 w3 (w3.setCell ⟨hb, 0, none⟩ (.pointer (some ⟨B, 0, none⟩))) w5 ((w5.setCell ⟨hb, 1, none⟩ (.pointer (some ⟨R, 0, none⟩))).setCell ⟨hb, 2, none⟩ (.slice ra pl.length rc)) := ⟨hb12'.out, hb3.out, Kept.of_setCell w3 ⟨hb, 0, none⟩ _, hb5, kept_two _ hb _ _⟩
 obtain ⟨own', J⟩ := I0.out.restored hi hWay (heap_set_self (heap_set_self hk5 1 _) 2 _) hr2d.out hfr2'.out hX3'.out.1 hX3'.out.2.1 hX3'.out.2.2.2 hRB5 hap5 hR1 hR2
 have fin : Hid (BankSays w0 Wb hs ll vb i hb (.returned (.bool true)) ((w5.setCell ⟨hb, 1, none⟩ (.pointer (some ⟨R, 0, none⟩))).setCell ⟨hb, 2, none⟩ (.slice ra pl.length rc))) := hide ⟨rfl, goes_of J hok.out ⟨hX3'.out.2.2.1, hn1, hn7, ⟨hBP.out.2.1, hBP.out.2.2.2⟩⟩ (Nat.le_add_right _ _)⟩
 clear J hWay hRB5 hap5 hR1 hR2 hb5 hBk hc3 hf3 hk3 hk4 hk5 hs4 hX3' hr2d hfr2' hb12' hb3 I0 I2
 go_wp2_with fail
 refine (num_any _ _).mono ?_
 rintro e w6 ⟨rfl, rfl⟩
 go_wp2
 go_ret
 exact fin.out
theorem plsOf_snoc (r : List UInt8) (k : Nat) : plsOf r (k + 1) = plsOf r k ++ [plOf (r.drop (9 * k))] := by simp [plsOf, List.range_succ]
theorem plsOf_length (r : List UInt8) (k : Nat) : (plsOf r k).length = k := by simp [plsOf]
theorem val2 {l : List UInt8} (h : l.length = 2) : val l < 65536 := by have := val_lt l; rw [h] at this; omega
theorem val4 {l : List UInt8} (h : l.length = 4) : val l < 4294967296 := by have := val_lt l; rw [h] at this; omega
theorem payOf_any (s : ByteArray) (hs : s.size ≤ 140737488351232) (hl : 15 + 9 * at8 s.data.toList 13 ≤ s.size) (w : World) :
  Calls Tryz.prog 140 #[.string s] w fun e w' => (∃ la lc, e = .returned (Pm.v { payOf s.data.toList with la := la, lc := lc }) ∧ RowOf w' 67 4 Pl.cells (.slice la (at8 s.data.toList 13) lc) (payOf s.data.toList).legs ∧ ∀ g, (Value.slice la (at8 s.data.toList 13) lc).ownBlock = some g → w.heap.size ≤ g) ∧ Below w.heap.size w w' := by
 obtain ⟨i0, hi0, y0, y1, y2⟩ := info_parts plInfo
 have N1 := fun u => number_any (s.extract 1 5) (by rw [ByteArray.size_extract]; omega) u
 have N2 := fun u => number_any (s.extract 5 13) (by rw [ByteArray.size_extract]; omega) u
 rw [cut_of] at N1 N2
 have l1 : (cut s.data.toList 1 5).length = 4 := by rw [cut_length (by rw [list_size]; omega)]
 have b1 : val (cut s.data.toList 1 5) < 4294967296 := by have := val_lt (cut s.data.toList 1 5); rw [l1] at this; omega
 have d0 : decide ((s.size : Int) < 15) = false := by simp; omega
 have p13 : 13 < s.size := by omega
 have e13 := at8_of s 13 p13
 have b13 := byte_lt s[13]
 have i13 : (13 : Int) < (s.size : Int) := by omega
 obtain ⟨n, hn⟩ : ∃ n, n = at8 s.data.toList 13 := ⟨_, rfl⟩
 obtain ⟨T, hT⟩ : ∃ T, T = s.data.toList := ⟨_, rfl⟩
 have hTl : T.length = s.size := by rw [hT, list_size]
 have hp4 : Hid ((payOf T) = ⟨val (cut T 1 5), val (cut T 5 13), T.drop (15 + 9 * n), plsOf (T.drop 15) n, none, 0⟩) := hide (by unfold payOf; rw [hT, hn])
 rw [← hT] at hn hl e13 b1 l1 N1 N2 ⊢
 rw [← hn] at hl e13 ⊢
 have hx15 : s.extract 15 s.size = bs (T.drop 15) := by rw [← bs_of s, ← hT, bs_size, bs_cut, cut_drop _ _ _ (Nat.le_refl _)]
 replace e13 := hide e13
 replace hT := hide hT
 replace hTl := hide hTl
 replace hn := hide hn
 generalize val (cut T 1 5) = vi at *
 generalize val (cut T 5 13) = vd at *
 replace N1 := hide N1
 replace N2 := hide N2
 go_enter Tryz.func140, Tryz.ntmps140
 go_wp2_with fail
 refine (N1.out _).mono ?_
 rintro e w1 ⟨rfl, rfl⟩
 clear N1
 go_wp2_with fail
 refine (N2.out _).mono ?_
 rintro e w1 ⟨rfl, rfl⟩
 clear N2
 have hst : Hid (∃ k : Nat, k ≤ n ∧ Value.int .i64 0 = .int .i64 (k : Int) ∧ Value.string (s.extract 15 s.size) = .string (bs (T.drop (15 + 9 * k))) ∧ RowOf ((w.alloc (.cells #[.int .u32 0, .int .u64 0, .string ⟨#[]⟩, .slice none 0 0] 69)).alloc (.cells #[] 67)) 67 4 Pl.cells (.slice (some ⟨w.heap.size + 1, 0, none⟩) 0 0) (plsOf (T.drop 15) k) ∧ (∀ g, (Value.slice (some ⟨w.heap.size + 1, 0, none⟩) 0 0).ownBlock = some g → w.heap.size < g) ∧ ((w.alloc (.cells #[.int .u32 0, .int .u64 0, .string ⟨#[]⟩, .slice none 0 0] 69)).alloc (.cells #[] 67)).heap[w.heap.size]? = some (.cells #[.int .u32 0, .int .u64 0, .string ⟨#[]⟩, .slice none 0 0] 69 (0, 0)) ∧ Below w.heap.size w ((w.alloc (.cells #[.int .u32 0, .int .u64 0, .string ⟨#[]⟩, .slice none 0 0] 69)).alloc (.cells #[] 67))) := hide (by
  have h1 : (w.alloc (.cells #[.int .u32 0, .int .u64 0, .string ⟨#[]⟩, .slice none 0 0] 69)).heap.size = w.heap.size + 1 := by simp
  refine ⟨0, Nat.zero_le _, rfl, by exact congrArg Value.string hx15, ⟨by simp [plsOf], .inr ⟨w.heap.size + 1, 0, #[], rfl, Nat.zero_le _, by rw [← h1]; exact heap_alloc_self _ _, Nat.le_refl _, by unfold maxLen; omega, rfl, rfl⟩⟩, fun g hg => ?_, ?_, ((Below.refl _ _).alloc (Nat.le_refl _) _).alloc (by omega) _⟩
  ·have : w.heap.size + 1 = g := by simpa [Value.ownBlock] using hg
   omega
  ·have hb := (Below.refl (w.heap.size + 1) (w.alloc (.cells #[.int .u32 0, .int .u64 0, .string ⟨#[]⟩, .slice none 0 0] 69))).alloc (by omega) (.cells #[] 67);rw [hb.block _ (by omega)]
   exact heap_alloc_self _ _)
 go_wp2_with fail
 go_loopw [5, 6, 7] (fun lv r c u => ∃ k : Nat, k ≤ n ∧ c = .int .i64 (k : Int) ∧ r = .string (bs (T.drop (15 + 9 * k))) ∧ RowOf u 67 4 Pl.cells lv (plsOf (T.drop 15) k) ∧ (∀ g, lv.ownBlock = some g → w.heap.size < g) ∧ u.heap[w.heap.size]? = some (.cells #[.int .u32 0, .int .u64 0, .string ⟨#[]⟩, .slice none 0 0] 69 (0, 0)) ∧ Below w.heap.size w u) (fun _ _ c _ => n + 1 - (intOf c).toNat)
 case atStart =>
  have h := hst.out;rw [hx15] at h;exact h
 case round =>
  clear hst hx15;obtain ⟨k, hk, rfl, rfl, hrow, hfr, hbx, hb⟩ := hrel;obtain ⟨oad, ocap, rfl⟩ := hrow.slice;have hol := plsOf_length (T.drop 15) k;have hRl := hide (show (T.drop (15 + 9 * k)).length = T.length - (15 + 9 * k) from List.length_drop);have hTl' := hTl.out;replace hTl' := hide hTl';by_cases hlt : k < n
  ·have hsn : Hid (plsOf (T.drop 15) (k + 1) = plsOf (T.drop 15) k ++ [plOf (T.drop (15 + 9 * k))]) := hide (by rw [plsOf_snoc, List.drop_drop]);have hnx : Hid (T.drop (15 + 9 * (k + 1)) = (T.drop (15 + 9 * k)).drop 9) := hide (by rw [List.drop_drop]; congr 1);generalize T.drop (15 + 9 * k) = R at *;have hR9 : 9 ≤ R.length := by have := hRl.out; have := hTl.out; omega
   have hsz := bs_size R;have N1 := hide (fun u => number_any ((bs R).extract 1 3) (by rw [ByteArray.size_extract]; omega) u);have N2 := hide (fun u => number_any ((bs R).extract 3 5) (by rw [ByteArray.size_extract]; omega) u);have N3 := hide (fun u => number_any ((bs R).extract 5 9) (by rw [ByteArray.size_extract]; omega) u);rw [cut_of, bs_data] at N1 N2 N3;have v1 := val2 (l := cut R 1 3) (by rw [cut_length (by omega)]);have v2 := val2 (l := cut R 3 5) (by rw [cut_length (by omega)]);have v3 := val4 (l := cut R 5 9) (by rw [cut_length (by omega)]);have p0 : 0 < (bs R).size := by omega
   have e0 := at8_of (bs R) 0 p0;rw [bs_data] at e0;have hPl : Hid (plOf R = ⟨(bs R)[0].toNat, val (cut R 1 3), val (cut R 3 5), val (cut R 5 9)⟩) := hide (by unfold plOf; rw [e0]);have h13 := e13.out;have d1 : decide ((k : Int) < (s[13].toNat : Int)) = true := by simp; omega
   have d1' : k < s[13].toNat := by omega
   have d1'' : (k : Int) < (s[13].toNat : Int) := by omega
   clear h13;have d3 : decide ((9 : Int) ≤ ((bs R).size : Int)) = true := by simp; omega
   have d2 : decide (((bs R).size : Int) ≥ 9) = true := by simp; omega
   have hx9 : (bs R).extract 9 R.length = bs (R.drop 9) := by rw [bs_cut, cut_drop _ _ _ (Nat.le_refl _)]
   have m1 : ((val (cut R 1 3) : Nat) : Int) % 65536 = (val (cut R 1 3) : Nat) := by omega
   have m2 : ((val (cut R 3 5) : Nat) : Int) % 65536 = (val (cut R 3 5) : Nat) := by omega
   have m3 : ((val (cut R 5 9) : Nat) : Int) % 4294967296 = (val (cut R 5 9) : Nat) := by omega
   have hb0 := byte_lt (bs R)[0];clear e0;generalize val (cut R 1 3) = a1 at *;generalize val (cut R 3 5) = a2 at *;generalize val (cut R 5 9) = a3 at *;generalize plsOf (T.drop 15) k = XS at *;replace hbx := hide hbx;rw [hol] at hrow hfr ⊢;go_wp2_with fail
   refine (N1.out _).mono ?_;rintro e w2 ⟨rfl, rfl⟩;go_wp2_with fail
   refine (N2.out _).mono ?_;rintro e w2 ⟨rfl, rfl⟩;go_wp2_with fail
   refine (N3.out _).mono ?_;rintro e w2 ⟨rfl, rfl⟩;clear N1 N2 N3;go_wp2_with (first | (at_builtin; refine stopAt ?_))
   refine hide ?_;have hbl : Below w2.heap.size w2 (w2.alloc (.cells #[.int .u8 ((bs R)[0].toNat : Int), .int .u16 (a1 : Int), .int .u16 (a2 : Int), .int .u32 (a3 : Int)] 67)) := (Below.refl _ _).alloc (Nat.le_refl _) _;refine wpList_row (y := ⟨(bs R)[0].toNat, a1, a2, a3⟩) Pl.cells_length (w2.alloc (.cells #[.int .u8 ((bs R)[0].toNat : Int), .int .u16 (a1 : Int), .int .u16 (a2 : Int), .int .u32 (a3 : Int)] 67)) (by rfl) _ _ 29 (by rfl) 67 i0 _ 12 Tryz.underlying29 hi0 y0 y1 y2 rfl (by decide) (.slice oad k ocap) XS (by rfl) (hrow.below hbl) 1 (by rw [World.heap_size_alloc']; rfl) (pl_one1 _) (by unfold maxLen; omega) (by omega) ?_ _ (by rfl);intro g c u h1 h2 h3 h4
   have X : Hid (RowOf u 67 4 Pl.cells (.slice (some ⟨g, 0, none⟩) (k + 1) c) (plsOf (T.drop 15) (k + 1)) ∧ (∀ q, (Value.slice (some ⟨g, 0, none⟩) (k + 1) c).ownBlock = some q → w.heap.size < q) ∧ u.heap[w.heap.size]? = some (.cells #[.int .u32 0, .int .u64 0, .string ⟨#[]⟩, .slice none 0 0] 69 (0, 0)) ∧ Below w.heap.size w u) := hide (by
    have hkk := (Kept.of_below hbl).trans h2 (fun q hq => .inl hq);have hl0 := block_lt hbx.out;refine ⟨by rw [hsn.out, hPl.out]; first | exact h1 | (rw [hol] at h1; exact h1), fun q hq => ?_, ?_, hb.trans (hkk.below hb.size (fun q hq => Nat.le_of_lt (hfr q hq)))⟩
    ·have e : g = q := by simpa [Value.ownBlock] using hq
     subst e;rcases h3 with h | h
     ·exact hfr g h
     ·have := hbl.size; omega
    ·rw [hkk.block _ hl0 (fun h => by have := hfr _ h; omega)]
     exact hbx.out)
   clear h1 h2 h3 h4 hrow hfr hbx hb hbl;go_wp2;exact ⟨⟨k + 1, hlt, by go_num, by rw [hnx.out], X.out⟩, by simp [intOf]; omega⟩
  ·obtain rfl : k = n := by omega
   have h13 := e13.out;have d1 : decide ((k : Int) < (s[13].toNat : Int)) = false := by simp; omega
   have d1' : ¬ k < s[13].toNat := by omega
   have d1'' : ¬ (k : Int) < (s[13].toNat : Int) := by omega
   clear h13;have m1 : (vi : Int) % 4294967296 = (vi : Int) := by omega
   have hc0 : ∀ o, _ = _ := fun o => cell_at hbx o;have hf0 : ∀ o, _ = _ := fun o => frozen_at hbx o;have hl0 := block_lt hbx;generalize T.drop (15 + 9 * k) = R at *;rw [hol] at hrow hfr ⊢;have hP := putL_whole [.int .u32 (vi : Int), .int .u64 (vd : Int), .string (bs R), .slice oad k ocap] hbx rfl;have hPk := hide (putL_kept [.int .u32 (vi : Int), .int .u64 (vd : Int), .string (bs R), .slice oad k ocap] wr w.heap.size 0);have hrow' := hide (hrow.kept hPk.out (fun g hg e => by have := hfr g hg; omega));have hbel := hide (hb.trans (hPk.out.below hb.size (fun q e => by omega)));clear hrow hb hPk;go_wp2;have hc3 := fun o => cell_at hP o;simp only [putL] at hc3 hrow' hbel;generalize World.setCell _ _ _ = u at *;exact bodyPost_ret (v := .agg #[.int .u32 (vi : Int), .int .u64 (vd : Int), .string (bs R), .slice oad k ocap]) (by simp [results, Tryz.results140, go_sem, hc3]) rfl ⟨⟨oad, ocap, by rw [hp4.out]; simp [Pm.v, Pm.lv, hol], by rw [hp4.out]; exact hrow'.out, fun g hg => Nat.le_of_lt (hfr g hg)⟩, hbel.out⟩
def RedoneD (w w' : World) (B : Nat) (t : List UInt8) (A : List Dt) (ps : List Xp) (v : Value) (e : Ending) : Prop :=
 ∃ ck' ps' v', e = .returned (.bool (redoD t A).isSome) ∧ XDTo w w' B ck' ps ps' v v' ∧ ∀ A', redoD t A = some A' → DRel A' ck' ps'
theorem XDTo.back {w w1 u : World} {B ck : Nat} {ps ps' : List Xp} {v v' : Value} (h : XDTo w1 u B ck ps ps' v v') (hb : Below w.heap.size w w1) : XDTo w u B ck ps ps' v v' :=
 ⟨h.xd, (Kept.of_below hb).trans h.kept (fun i hi => .inl hi), fun k hk => (h.ownv k hk).imp_right (fun x => Nat.le_trans hb.size x), fun x hx k hk => (h.ownl x hx k hk).imp_right (fun x => Nat.le_trans hb.size x), h.ap⟩
theorem redoD_any (s : ByteArray) (hs : s.size ≤ 140737488351232) (hsub : at8 s.data.toList 0 = 83 → 15 + 9 * at8 s.data.toList 13 ≤ s.size) (w : World) (B ck : Nat) (ps : List Xp) (v : Value) (A : List Dt) (hD : DRel A ck ps) (hcl : ck ≤ 1000000) (hX : XD w B ck ps v) (hap : XDap B ps v) :
  Calls Tryz.prog 109 #[.pointer (some ⟨B, 0, none⟩), .string s] w fun e w' => RedoneD w w' B s.data.toList A ps v e := by
 have hfine : ∀ y, y ∈ ps → y.fine := fun y hy => (hD.good y hy).fine
 have hps := hD.len
 have ht : (s.toList == [84]) = decide (s.data.toList = [84]) := by
  rw [ByteArray.toList_eq];by_cases h : s.data.toList = [84]
  ·rw [h]; rfl
  ·rw [decide_eq_false h]; exact beq_false_of_ne h
 by_cases hT : s.data.toList = [84]
 ·rw [decide_eq_true hT] at ht;by_cases hck : ck < 1000000
  ·have hR : Hid (redoD s.data.toList A = some (A ++ [tickAct])) := hide (by unfold redoD; rw [if_pos hT, if_pos (by rw [← hD.clk]; exact hck)]);have hG := hide (goOn_any w B ck ps v hX hap (fun y hy => (hfine y hy).ok) (by omega) hck);have hDt := hide hD.tick;clear hT hfine hD hX hap hsub;go_enter Tryz.func109, Tryz.ntmps109;go_wp2_with fail
   refine hG.out.mono ?_;rintro e w1 ⟨rfl, h1⟩;clear hG;replace h1 := hide h1;go_wp2;go_ret;exact ⟨ck + 1, _, v, by rw [hR.out]; rfl, h1.out, fun A' e => by rw [hR.out] at e; injection e with e; rw [← e]; exact hDt.out⟩
  ·have hR : Hid (redoD s.data.toList A = none) := hide (by unfold redoD; rw [if_pos hT, if_neg (by rw [← hD.clk]; exact hck)]);have hG := hide (goOn_end w B ck ps v hX (by omega) (by omega));have h1 := hide (XDTo.same hX hap (Below.refl w.heap.size w));clear hT hfine hD hX hap hsub;go_enter Tryz.func109, Tryz.ntmps109;go_wp2_with fail
   refine hG.out.mono ?_;rintro e w1 ⟨rfl, rfl⟩;clear hG;go_wp2;go_ret;exact ⟨ck, _, v, by rw [hR.out]; rfl, h1.out, fun A' e => by rw [hR.out] at e; cases e⟩
 ·rw [decide_eq_false hT] at ht;by_cases h83 : at8 s.data.toList 0 = 83
  ·have h15 := hsub h83;have p0 : 0 < s.size := by omega
   have e0 := at8_zero p0;have i0 : (0 : Int) < (s.size : Int) := by omega
   have d3 : ((s[0].toNat : Int) == 83) = true := by simp; omega
   obtain ⟨d1, d2⟩ := text_some (s := s) (by omega);have hP := hide (payOf_any s hs h15 w)
   have hpok : ∀ la lc, ({ payOf s.data.toList with la := la, lc := lc } : Pm).ok := fun la lc => by
    refine ⟨val4 (by rw [cut_length (by rw [list_size]; omega)]), ?_, fun x hx => ?_⟩
    ·have := val_lt8 (l := cut s.data.toList 5 13) (by rw [cut_length (by rw [list_size]; omega)]; decide);exact this
    ·have hx' : x ∈ plsOf (s.data.toList.drop 15) (at8 s.data.toList 13) := hx;unfold plsOf at hx';obtain ⟨i, hi, rfl⟩ := List.mem_map.1 hx';rw [List.mem_range] at hi;have hl : ((s.data.toList.drop 15).drop (9 * i)).length = s.size - 15 - 9 * i := by rw [List.length_drop, List.length_drop, list_size]
     refine ⟨at8_lt _ _, val2 (by rw [cut_length (by omega)]), val2 (by rw [cut_length (by omega)]), val4 (by rw [cut_length (by omega)])⟩
   have hS := hide (fun la lc u (hu : Below w.heap.size w u) (hr : RowOf u 67 4 Pl.cells (.slice la (at8 s.data.toList 13) lc) (payOf s.data.toList).legs) (hf : ∀ g, (Value.slice la (at8 s.data.toList 13) lc).ownBlock = some g → w.heap.size ≤ g) => by
    have hpl : (payOf s.data.toList).legs.length = at8 s.data.toList 13 := plsOf_length _ _;have hb13 := at8_lt s.data.toList 13
    exact xSub_any { payOf s.data.toList with la := la, lc := lc } (hpok la lc) (by show (s.data.toList.drop _).length ≤ _; rw [List.length_drop, list_size]; omega) (by show (payOf s.data.toList).legs.length ≤ _; omega) u B ck ps v (hX.below hu) hap A hD (by omega) (by show RowOf u _ 4 Pl.cells (.slice la (payOf s.data.toList).legs.length lc) _; rw [hpl]; exact hr) (fun g hg => by
     have hg' : (Value.slice la (payOf s.data.toList).legs.length lc).ownBlock = some g := hg;rw [hpl] at hg';have h1 := hf g hg'
     refine ⟨fun e => by have := hX.lt; omega, fun e => by have := hX.row.lt e; omega⟩))
   have hR : Hid (redoD s.data.toList A = if subErr (payOf s.data.toList) A = 0 ∧ subLog (payOf s.data.toList) A = s.data.toList then some (subActs (payOf s.data.toList) (payOf s.data.toList) A) else none) := hide (by unfold redoD; rw [if_neg hT, if_pos h83]);have hsm := text_same (bs (subLog (payOf s.data.toList) A)) s;rw [bs_data] at hsm;clear e0;go_enter Tryz.func109, Tryz.ntmps109;go_wp2_with fail
   refine hP.out.mono ?_;rintro e w1 ⟨⟨la, lc, rfl, hr1, hf1⟩, hb1⟩;have hSu := hide (fun u (hu : Below w1.heap.size w1 u) => hS.out la lc u (hb1.trans (hu.mono hb1.size)) (hr1.below hu) hf1);clear hP hS;have hDq : Hid (∀ ps', (∀ q, core q = core { payOf s.data.toList with la := la, lc := lc } → DRel (subActs { payOf s.data.toList with la := la, lc := lc } q A) ck ps') → DRel (subActs (payOf s.data.toList) (payOf s.data.toList) A) ck ps') := hide (fun ps' h => h (payOf s.data.toList) rfl);have hlg : subLog { payOf s.data.toList with la := la, lc := lc } A = subLog (payOf s.data.toList) A := rfl;have hle : subErr { payOf s.data.toList with la := la, lc := lc } A = subErr (payOf s.data.toList) A := rfl;simp only [Pm.v, Pm.lv] at *;go_wp2_with fail
   refine (hSu.out _ ((Below.refl _ _).alloc (Nat.le_refl _) _)).mono ?_;rintro e w2 ⟨lv, ps', v', rfl, hH, hDn⟩;have hto := hide (XDTo.back hH.to (hb1.alloc hb1.size _));have hDn' := hide (hDq.out _ hDn);rw [hlg, hle];clear hSu hDn hH hDq hlg hle hpok hr1 hf1;generalize subErr (payOf s.data.toList) A = er at *;generalize subLog (payOf s.data.toList) A = lg at *;by_cases h0 : er = 0
   ·subst h0;by_cases he : lg = s.data.toList
    ·have hR' : Hid (redoD s.data.toList A = some (subActs (payOf s.data.toList) (payOf s.data.toList) A)) := hide (by rw [hR.out, if_pos ⟨rfl, he⟩]);rw [decide_eq_true he] at hsm;clear hR he;go_wp2;go_ret;exact ⟨ck, ps', v', by rw [hR'.out]; rfl, hto.out, fun A' e => by rw [hR'.out] at e; injection e with e; rw [← e]; exact hDn'.out⟩
    ·have hR' : Hid (redoD s.data.toList A = none) := hide (by rw [hR.out, if_neg (fun h => he h.2)]);rw [decide_eq_false he] at hsm;clear hR he;go_wp2;go_ret;exact ⟨ck, ps', v', by rw [hR'.out]; rfl, hto.out, fun A' e => by rw [hR'.out] at e; cases e⟩
   ·have hR' : Hid (redoD s.data.toList A = none) := hide (by rw [hR.out, if_neg (fun h => h0 h.1)]);have d0 : ((er : Int) == 0) = false := by simp; omega
    clear hR;go_wp2;go_ret;exact ⟨ck, ps', v', by rw [hR'.out]; rfl, hto.out, fun A' e => by rw [hR'.out] at e; cases e⟩
  ·have hR : Hid (redoD s.data.toList A = if tErr s.data.toList A = 0 ∧ tLog s.data.toList A = s.data.toList then some (tActs s.data.toList A) else none) := hide (by unfold redoD; rw [if_neg hT, if_neg h83]);have hH := hide (fun u (hu : Below w.heap.size w u) => xTake_any s (by unfold maxLen; omega) u B ck ps v (hX.below hu) hap A hD (decErr_lt _));have hsm := text_same (bs (tLog s.data.toList A)) s;rw [bs_data] at hsm;have key : ∀ u, Below w.heap.size w u → ∀ e w', TakeX u B ck ps v s.data.toList A e w' → TakeX u B ck ps v s.data.toList A e w' := fun _ _ _ _ h => h;have fin : Hid (∀ lv ps' v' u w', Below w.heap.size w u → XDHanded u w' B ck ps ps' v v' lv (tOuts s.data.toList A) → XDTo w w' B ck ps ps' v v') := hide (fun lv ps' v' u w' hu h => XDTo.back h.to hu);by_cases h0s : s.size = 0
   ·obtain ⟨d1, d2⟩ := text_none h0s;go_enter Tryz.func109, Tryz.ntmps109;go_wp2_with fail
    refine (hH.out _ (by first | exact Below.refl _ _ | exact (Below.refl _ _).drew)).mono ?_;rintro e w2 ⟨lv, ps', v', rfl, hHH, hDn⟩;have hto := hide (fin.out _ _ _ _ _ (by first | exact Below.refl _ _ | exact (Below.refl _ _).drew) hHH);replace hDn := hide hDn;clear hH hHH fin key;generalize tErr s.data.toList A = er at *;generalize tLog s.data.toList A = lg at *;by_cases h0 : er = 0
    ·subst h0;by_cases he : lg = s.data.toList
     ·have hR' : Hid (redoD s.data.toList A = some (tActs s.data.toList A)) := hide (by rw [hR.out, if_pos ⟨rfl, he⟩]);rw [decide_eq_true he] at hsm;clear hR he;go_wp2;go_ret;exact ⟨ck, ps', v', by rw [hR'.out]; rfl, hto.out, fun A' e => by rw [hR'.out] at e; injection e with e; rw [← e]; exact hDn.out⟩
     ·have hR' : Hid (redoD s.data.toList A = none) := hide (by rw [hR.out, if_neg (fun h => he h.2)]);rw [decide_eq_false he] at hsm;clear hR he;go_wp2;go_ret;exact ⟨ck, ps', v', by rw [hR'.out]; rfl, hto.out, fun A' e => by rw [hR'.out] at e; cases e⟩
    ·have hR' : Hid (redoD s.data.toList A = none) := hide (by rw [hR.out, if_neg (fun h => h0 h.1)]);have d0 : ((er : Int) == 0) = false := by simp; omega
     clear hR;go_wp2;go_ret;exact ⟨ck, ps', v', by rw [hR'.out]; rfl, hto.out, fun A' e => by rw [hR'.out] at e; cases e⟩
   ·obtain ⟨d1, d2⟩ := text_some h0s;have p0 : 0 < s.size := by omega
    have e0 := at8_zero p0;have i0 : (0 : Int) < (s.size : Int) := by omega
    have d3 : ((s[0].toNat : Int) == 83) = false := by simp; omega
    clear e0;go_enter Tryz.func109, Tryz.ntmps109;go_wp2_with fail
    refine (hH.out _ (by first | exact Below.refl _ _ | exact (Below.refl _ _).drew)).mono ?_;rintro e w2 ⟨lv, ps', v', rfl, hHH, hDn⟩;have hto := hide (fin.out _ _ _ _ _ (by first | exact Below.refl _ _ | exact (Below.refl _ _).drew) hHH);replace hDn := hide hDn;clear hH hHH fin key;generalize tErr s.data.toList A = er at *;generalize tLog s.data.toList A = lg at *;by_cases h0 : er = 0
    ·subst h0;by_cases he : lg = s.data.toList
     ·have hR' : Hid (redoD s.data.toList A = some (tActs s.data.toList A)) := hide (by rw [hR.out, if_pos ⟨rfl, he⟩]);rw [decide_eq_true he] at hsm;clear hR he;go_wp2;go_ret;exact ⟨ck, ps', v', by rw [hR'.out]; rfl, hto.out, fun A' e => by rw [hR'.out] at e; injection e with e; rw [← e]; exact hDn.out⟩
     ·have hR' : Hid (redoD s.data.toList A = none) := hide (by rw [hR.out, if_neg (fun h => he h.2)]);rw [decide_eq_false he] at hsm;clear hR he;go_wp2;go_ret;exact ⟨ck, ps', v', by rw [hR'.out]; rfl, hto.out, fun A' e => by rw [hR'.out] at e; cases e⟩
    ·have hR' : Hid (redoD s.data.toList A = none) := hide (by rw [hR.out, if_neg (fun h => h0 h.1)]);have d0 : ((er : Int) == 0) = false := by simp; omega
     clear hR;go_wp2;go_ret;exact ⟨ck, ps', v', by rw [hR'.out]; rfl, hto.out, fun A' e => by rw [hR'.out] at e; cases e⟩
theorem deed_clock (w0 : DBase) (N : Nat) (hN : N ≤ 999999999999) (w : World) (Wb : Nat) (own : Nat → Nat) (hs : List Office) (ll : List (Value × Nat)) (vd vl : Value) (i : Nat) (hi : i < hs.length) (hb xb rb ck : Nat) (acts : List Dt) (ps : List Xp) (xv v : Value) (lgs : List (List UInt8 × Nat)) (vg : Value)
  (I : DInv w0 w Wb own (hs.set i ⟨hb, xb, rb, ck, acts, ps, xv, v, lgs, vg⟩) ll vd vl) (hok : ∀ h, h ∈ hs → h.ok N) (hR : DRel acts ck ps) (hlg : LgD acts lgs) (hlen : acts.length ≤ N)
  (at_ n : Int) (s : List UInt8) (k f t mi l p g a : Nat) (m : List UInt8) (pid dead : Int) (memo : List UInt8) (legs : Option Addr) (llen lcap acc amt : Nat) :
  Calls Tryz.prog 52 #[.pointer (some ⟨Wb, 0, none⟩), .pointer (some ⟨hb, 0, none⟩), (⟨13, at_, n, s, ⟨k, f, t, mi, l, p, g, a, m⟩, pid, dead, memo, legs, llen, lcap, acc, amt⟩ : Opr).v] w (DeedSays w0 N Wb hs ll vd i hb) := by
 have H := DInv.at hi I
 have hc : ∀ o, w.cell? ⟨hb, o, none⟩ = (#[.pointer (some ⟨xb, 0, none⟩), .pointer (some ⟨rb, 0, none⟩), vg] : Array Value)[o]? := fun o => cell_at H.blk o
 have hl1 : hb < w.heap.size := block_lt H.blk
 have hl2 : rb < w.heap.size := H.r.lt
 obtain ⟨rad, rcap, hv, _⟩ := H.r.row.form Dt.cells_length
 have hcr : ∀ o, w.cell? ⟨rb, o, none⟩ = (#[.slice rad acts.length rcap] : Array Value)[o]? := fun o => by rw [← (show v = _ from hv)]; exact cell_at H.r.blk o
 obtain ⟨W1, hW1⟩ : ∃ W1, W1 = (w.alloc (.cells (⟨13, at_, n, s, ⟨k, f, t, mi, l, p, g, a, m⟩, pid, dead, memo, legs, llen, lcap, acc, amt⟩ : Opr).cells 104)) := ⟨_, rfl⟩
 have hbW : Below w.heap.size w W1 := by rw [hW1]; exact (Below.refl w.heap.size w).alloc (Nat.le_refl _) _
 have hlW : w.heap.size < W1.heap.size := by rw [hW1]; simp
 have I1 := I.below hbW
 have H1 := DInv.at hi I1
 have I1d := hide (I1.below ((Below.refl _ _).drew))
 have e0 : W1.cell? ⟨hb, 0, none⟩ = some (.pointer (some ⟨xb, 0, none⟩)) := cell_at H1.blk 0
 have e0' : W1.cell? ⟨hb, 1, none⟩ = some (.pointer (some ⟨rb, 0, none⟩)) := cell_at H1.blk 1
 have hlb : hb < W1.heap.size := by omega
 have hX := hide (eClock_any W1.drew xb ck ps xv (H1.x.below ((Below.refl _ _).drew)))
 have hY := clock_any W1.drew rb acts v (H1.r.below ((Below.refl _ _).drew)) hR.ok (by omega)
 rw [← hR.clk] at hY
 replace hY := hide hY
 replace hok := hide hok
 replace hlg := hide hlg
 clear H H1 I hv I1
 simp only [Opr.v, Opr.cells] at *
 replace hW1 := hide hW1
 go_enter Tryz.func52, Tryz.ntmps52
 go_wp2_with fail
 rw [← hW1.out]
 go_region_with (first
  | (go_at_call 11; refine (hX.out).mono ?_; rintro e u5 ⟨rfl, rfl⟩)
  | (go_at_call 95; refine (hY.out).mono ?_; rintro e u6 ⟨rfl, rfl⟩))
 all_goals (
  go_wp2;go_ret
  exact ⟨rfl, dgoes_of I1d.out hok.out ⟨hR, hlg.out, Nat.le_succ_of_le hlen⟩ (Nat.le_add_right _ _)⟩)
end Go.Proofs.YtjkhbjgfoopomabGreat
