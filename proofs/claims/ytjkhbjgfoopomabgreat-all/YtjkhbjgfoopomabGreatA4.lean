import Derived.Test.YtjkhbjgfoopomabGreatA3
import Derived.BigQuiet
namespace Go.Proofs.YtjkhbjgfoopomabGreat
open Go.RowKit
set_option maxRecDepth 100000
set_option maxHeartbeats 1000000
set_option linter.unusedVariables false
set_option linter.unusedSimpArgs false
attribute [local go_sem] bs_size bs_append conv1
def pickN (c : Int) (n : Nat) : Nat := (if c < 0 then (-(c + 1)).toNat else c.toNat) % n
theorem pick_any (c : Int) (hc : -9223372036854775808 ≤ c ∧ c ≤ 9223372036854775807) (n : Nat) (hn : 0 < n) (hn2 : n ≤ 9223372036854775807) (w : World) :
  Calls Tryz.prog 55 #[.int .i64 c, .int .i64 (n : Int)] w fun e w' => e = .returned (.int .i64 (pickN c n : Int)) ∧ w' = w := by
 have hz : Hid (pickN c n = (if c < 0 then (-(c + 1)).toNat else c.toNat) % n) := hide rfl
 by_cases h : c < 0
 ·have d : decide (c < 0) = true := by simp [h]
  have hq : Hid ((-(c + 1)).tmod n = (pickN c n : Int)) := hide (by
   rw [hz.out, if_pos h, Int.tmod_eq_emod_of_nonneg (by omega), Int.natCast_emod, Int.toNat_of_nonneg (by omega)])
  have W1 : IntKind.i64.wrap (c + 1) = c + 1 := by rw [IntKind.wrap_i64]; omega
  have W2 : IntKind.i64.wrap (-(c + 1)) = -(c + 1) := by rw [IntKind.wrap_i64]; omega
  clear hz;go_enter Tryz.func55, Tryz.ntmps55;go_wp2;go_ret;exact ⟨ret_int (by first | exact hq.out | exact hq2.out | (have := hq.out; simp_all)), rfl⟩
 ·have d : decide (c < 0) = false := by simp [h]
  have hq : Hid (c.tmod n = (pickN c n : Int)) := hide (by
   rw [hz.out, if_neg h, Int.tmod_eq_emod_of_nonneg (by omega), Int.natCast_emod, Int.toNat_of_nonneg (by omega)])
  have hq2 : Hid (c % n = (pickN c n : Int)) := hide (by
   rw [hz.out, if_neg h, Int.natCast_emod, Int.toNat_of_nonneg (by omega)])
  clear hz;go_enter Tryz.func55, Tryz.ntmps55;go_wp2;go_ret;exact ⟨ret_int (by first | exact hq.out | exact hq2.out | (have := hq.out; simp_all)), rfl⟩
def markTo : Nat → Nat → List UInt8 → List UInt8
 | 0, n, s => s
 | k + 1, n, s => if n = 0 then s else markTo k (n / 10) (s ++ [UInt8.ofNat (65 + n % 10)])
def markB (n : Nat) : List UInt8 := markTo n n [109]
theorem markTo_zero (k : Nat) (s : List UInt8) : markTo k 0 s = s := by cases k <;> simp [markTo]
theorem markTo_more (k : Nat) : ∀ (n j : Nat) (s : List UInt8), n ≤ k → k ≤ j → markTo j n s = markTo k n s := by
 induction k with
 | zero =>
  intro n j s h _;obtain rfl : n = 0 := by omega
  rw [markTo_zero, markTo_zero]
 | succ k ih =>
  intro n j s h hj;cases j with
  | zero => omega
  | succ j =>
   simp only [markTo];split
   ·rfl
   ·exact ih _ _ _ (by omega) (by omega)
theorem mark_any (n : Nat) (hn : n ≤ 1000000000000) (w : World) :
  Calls Tryz.prog 56 #[.int .i64 (n : Int)] w fun e w' => e = .returned (.string (bs (markB n))) ∧ Below w.heap.size w w' := by
 go_enter Tryz.func56, Tryz.ntmps56
 go_wp2
 go_loopw [0, 3] (fun a s u => ∃ (y : Nat) (z : List UInt8), y ≤ n ∧ z.length + y ≤ n + 1 ∧ a = .int .i64 (y : Int) ∧ s = .string (bs z) ∧ markTo n y z = markB n ∧ Below w.heap.size w u) (fun a _ _ => (intOf a).toNat)
 case atStart => exact ⟨n, [109], Nat.le_refl _, by simp; omega, rfl, rfl, rfl, Below.refl _ _⟩
 case round =>
  obtain ⟨y, z, hy, hzl, rfl, rfl, hm, hbel⟩ := hrel;replace hm := hide hm;by_cases h0 : y = 0
  ·have hq : Hid (z = markB n) := hide (by have := hm.out; rw [h0, markTo_zero] at this; exact this);clear hm;subst h0;go_wp2;go_ret;exact ⟨ret_str hq.out, hbel⟩
  ·have hq : Hid (markTo n (y / 10) (z ++ [UInt8.ofNat (65 + y % 10)]) = markB n) := hide (by
    rw [← hm.out];obtain ⟨n', rfl⟩ : ∃ n', n = n' + 1 := ⟨n - 1, by omega⟩
    conv => rhs; rw [markTo, if_neg h0]
    exact markTo_more n' _ _ _ (by omega) (by omega))
   have d0 : 0 < y := by omega
   have W1 : IntKind.u8.wrap (65 + (y : Int) % 10) = ((65 + y % 10 : Nat) : Int) := by rw [IntKind.wrap_u8]; omega
   have hzz : z.length ≤ 1000000000001 := by omega
   clear hm;go_wp2;exact ⟨⟨y / 10, z ++ [UInt8.ofNat (65 + y % 10)], by omega, by simp; omega, by go_num, by first | rfl | simp, hq.out, hbel.alloc hbel.size _⟩, by simp [intOf] <;> omega⟩
def logCell (x : List UInt8 × Nat) : List Value := [.string (bs x.1), .int .i64 (x.2 : Int)]
theorem logCell_length (x : List UInt8 × Nat) : (logCell x).length = 2 := rfl
theorem logInfo : (Tryz.prog.info? 209).map (fun i => (i.zero, i.size, i.bytes)) = some (some (.agg #[.string ⟨#[]⟩, .int .i64 0]), 2, 24) := by kernel_rfl
theorem log_one (x : List UInt8 × Nat) : ∀ u ∈ logCell x, u.oneCell' = true := by
 intro u hu
 simp only [logCell, List.mem_cons, List.not_mem_nil, or_false] at hu
 rcases hu with h | h <;> subst h <;> rfl
def heardOf (lg : List (List UInt8 × Nat)) (s : List UInt8) (m : Nat) : List (List UInt8 × Nat) := if s = [] then lg else lg ++ [(s, m)]
theorem heard_any (lg : List (List UInt8 × Nat)) (vg : Value) (s : List UInt8) (m : Nat) (w : World) (hR : RowOf w 209 2 logCell vg lg) (hlen : lg.length ≤ 1000000000000) :
  Calls Tryz.prog 78 #[vg, .string (bs s), .int .i64 (m : Int)] w fun e w' => ∃ vg', e = .returned vg' ∧ RowOf w' 209 2 logCell vg' (heardOf lg s m) ∧ Kept (fun k => vg.ownBlock = some k) w w' ∧ ∀ g, vg'.ownBlock = some g → vg.ownBlock = some g ∨ w.heap.size ≤ g := by
 obtain ⟨i0, hi, y0, y1, y2⟩ := info_parts logInfo
 obtain ⟨ad, cap, hv, hev⟩ := hR.form logCell_length
 clear hev
 subst hv
 by_cases h0 : s = []
 ·have hq : Hid (heardOf lg s m = lg) := hide (by simp [heardOf, h0]);subst h0;have d0 : (bs []).toList.isEmpty = true := by rw [bs_toList]; rfl
  have d1 : ((bs []).toList == []) = true := by rw [bs_toList]; rfl
  go_enter Tryz.func78, Tryz.ntmps78;go_wp2;go_ret;exact ⟨_, rfl, by rw [hq.out]; exact hR, Kept.of_below (Below.refl _ _), fun g h => .inl h⟩
 ·have hq : Hid (heardOf lg s m = lg ++ [(s, m)]) := hide (by simp [heardOf, h0]);have d0 : (bs s).toList.isEmpty = false := by rw [bs_toList]; simpa using h0
  have d1 : ((bs s).toList == []) = false := by rw [bs_toList]; simpa using h0
  clear h0;go_enter Tryz.func78, Tryz.ntmps78
  go_wp2_with (first
   | (at_builtin; refine wpList_row logCell_length w (by rfl) _ _ 156 (by rfl) 209 i0 _ 24 Tryz.underlying156 hi y0 y1 y2 rfl (by decide) (.slice ad lg.length cap) lg (by rfl) hR 1 (s, m) (by rfl) (log_one _) (by unfold maxLen; omega) (by omega) ?_ _ (by rfl); intro g cap' w2 hrow2 hk2 hg2 hlt2; have X : Hid (RowOf w2 209 2 logCell (.slice (some ⟨g, 0, none⟩) (lg.length + 1) cap') (lg ++ [(s, m)]) ∧ Kept (fun k => (Value.slice ad lg.length cap).ownBlock = some k) w w2 ∧ ((Value.slice ad lg.length cap).ownBlock = some g ∨ w.heap.size ≤ g)) := hide ⟨hrow2, hk2, hg2⟩; clear hrow2 hk2 hg2))
  go_ret;exact ⟨_, rfl, by rw [hq.out]; exact X.out.1, X.out.2.1, fun g' h' => by obtain rfl : g' = g := (by simpa [Value.ownBlock] using h'.symm); exact X.out.2.2⟩
theorem logged_any (s : List UInt8) (m n : Nat) (w : World) (B : Nat) (lg : Bool) (x y z : Value) (hw : w.heap[B]? = some (.cells #[.bool lg, x, y, z] 98 (0, 0))) (hl : lg = true → n = m ∨ s ≠ []) :
  Calls Tryz.prog 79 #[.pointer (some ⟨B, 0, none⟩), .string (bs s), .int .i64 (m : Int), .int .i64 (n : Int)] w fun e w' => e = .returned (.bool true) ∧ Below w.heap.size w w' := by
 have hc : ∀ o, _ = _ := fun o => cell_at hw o
 cases lg with
 | false =>
  clear hl;go_enter Tryz.func79, Tryz.ntmps79;go_wp2;go_ret;exact ⟨rfl, Below.refl _ _⟩
 | true =>
  by_cases e : n = m
  ·subst e;have d : ((n : Int) == (n : Int)) = true := by simp
   clear hl;go_enter Tryz.func79, Tryz.ntmps79;go_wp2;go_ret;exact ⟨rfl, Below.refl _ _⟩
  ·have hs : s ≠ [] := (hl rfl).resolve_left e;have d : ((n : Int) == (m : Int)) = false := by simp; omega
   have d0 : (bs s).toList.isEmpty = false := by rw [bs_toList]; simpa using hs
   have d1 : ((bs s).toList == []) = false := by rw [bs_toList]; simpa using hs
   clear hl hs e;go_enter Tryz.func79, Tryz.ntmps79;go_wp2;go_ret;exact ⟨rfl, Below.refl _ _⟩
theorem bare_any (ad : Option Addr) (n c er : Nat) (s : List UInt8) (w : World) (h : er = 0 ∨ (n = 0 ∧ s = [])) :
  Calls Tryz.prog 80 #[.slice ad n c, .string (bs s), .int .i64 (er : Int)] w fun e w' => e = .returned (.bool true) ∧ w' = w := by
 by_cases h0 : er = 0
 ·have d : ((er : Int) == 0) = true := by simp; omega
  clear h0 h;go_enter Tryz.func80, Tryz.ntmps80;go_wp2;go_ret;exact ⟨rfl, rfl⟩
 ·obtain ⟨rfl, rfl⟩ : n = 0 ∧ s = [] := h.resolve_left h0;have d : ((er : Int) == 0) = false := by simp; omega
  have d0 : (bs []).toList.isEmpty = true := by rw [bs_toList]; rfl
  have d1 : ((bs []).toList == []) = true := by rw [bs_toList]; rfl
  clear h0 h;go_enter Tryz.func80, Tryz.ntmps80;go_wp2;go_ret;exact ⟨rfl, rfl⟩
end Go.Proofs.YtjkhbjgfoopomabGreat
namespace Go.Proofs.YtjkhbjgfoopomabGreat
open Go.RowKit
set_option maxRecDepth 100000
set_option maxHeartbeats 1000000
set_option linter.unusedVariables false
set_option linter.unusedSimpArgs false
structure Ac where
 n : Nat
 b : Nat
def Ac.ok (x : Ac) : Prop := x.n < 65536 ∧ x.b < 4294967296
def Ac.cells (x : Ac) : List Value := [.int .u16 (x.n : Int), .int .u32 (x.b : Int)]
theorem Ac.cells_length (x : Ac) : x.cells.length = 2 := rfl
structure Lg where
 id : Nat
 l : Nat
 st : Nat
 p : Nat
 g : Nat
 a : Nat
 m : List UInt8
def Lg.ok (x : Lg) : Prop := x.id < 4294967296 ∧ x.l < 256 ∧ x.st < 256 ∧ x.p < 65536 ∧ x.g < 65536 ∧ x.a < 4294967296
def Lg.cells (x : Lg) : List Value := [.int .u32 (x.id : Int), .int .u8 (x.l : Int), .int .u8 (x.st : Int), .int .u16 (x.p : Int), .int .u16 (x.g : Int), .int .u32 (x.a : Int), .string (bs x.m)]
theorem Lg.cells_length (x : Lg) : x.cells.length = 7 := rfl
structure XB (w : World) (B node : Nat) (ac : List Ac) (ls : List Lg) (va vl : Value) : Prop where
 blk : w.heap[B]? = some (.cells #[.int .u8 (node : Int), va, vl] (tyAt w B) (0, 0))
 arow : RowOf w 130 2 Ac.cells va ac
 lrow : RowOf w 151 7 Lg.cells vl ls
theorem XB.lt {w : World} {B node : Nat} {ac : List Ac} {ls : List Lg} {va vl : Value} (h : XB w B node ac ls va vl) : B < w.heap.size := block_lt h.blk
theorem XB.below {w u : World} {B node : Nat} {ac : List Ac} {ls : List Lg} {va vl : Value} (h : XB w B node ac ls va vl) (hb : Below w.heap.size w u) : XB u B node ac ls va vl :=
 ⟨ty_of (by rw [hb.block B h.lt]; exact h.blk), h.arow.below hb, h.lrow.below hb⟩
def hasB (a : Nat) (ac : List Ac) : Bool := ac.any fun x => decide (x.n = a)
theorem has_any (a : Nat) (ha : a < 65536) (w : World) (B node : Nat) (ac : List Ac) (ls : List Lg) (va vl : Value) (hX : XB w B node ac ls va vl) (hok : ∀ x, x ∈ ac → x.ok) (hlen : ac.length ≤ 1000000) :
  Calls Tryz.prog 48 #[.pointer (some ⟨B, 0, none⟩), .int .u16 (a : Int)] w fun e w' => e = .returned (.bool (hasB a ac)) ∧ w' = w := by
 obtain ⟨ad, cap, hv, hev⟩ := hX.arow.form Ac.cells_length
 subst hv
 have hc : ∀ o, _ = _ := fun o => cell_at hX.blk o
 go_enter Tryz.func48, Tryz.ntmps48
 go_wp2
 go_loopw [11] (fun c u => ∃ k : Nat, k ≤ ac.length ∧ c = .int .i64 k ∧ hasB a (ac.take k) = false ∧ u = w) (fun c _ => ac.length - (intOf c).toNat)
 case atStart => exact ⟨0, Nat.zero_le _, rfl, rfl, rfl⟩
 case round =>
  obtain ⟨k, hk, rfl, hno, rfl⟩ := hrel;replace hno := hide hno;by_cases hlt : k < ac.length
  ·obtain ⟨g, hg, hcell, _⟩ := hev k hlt;subst hg;have hs : Hid (hasB a (ac.take (k + 1)) = (hasB a (ac.take k) || decide (ac[k].n = a))) := hide (by unfold hasB; rw [List.take_succ_eq_append_getElem hlt, List.any_append]; simp only [List.any_cons, List.any_nil, Bool.or_false]);have ht : Hid (ac[k].n = a → hasB a ac = true) := hide (fun h => by unfold hasB; rw [List.any_eq_true]; exact ⟨ac[k], List.getElem_mem hlt, by simp [h]⟩);have c0 := hcell 0 (by decide);have hek := hok ac[k] (List.getElem_mem hlt);clear hcell hev;generalize ac[k] = E at *;obtain ⟨en, eb⟩ := E;obtain ⟨h1, h2⟩ := hek;simp only [Ac.cells, List.getElem?_cons_zero, List.getElem?_cons_succ, Nat.add_zero] at c0 h1 h2;by_cases hz : en = a
   ·have dz : ((en : Int) == (a : Int)) = true := by simp; omega
    have hq : Hid (hasB a ac = true) := hide (ht.out hz);clear hs ht hz;go_wp2;go_ret;exact ⟨by rw [hq.out]; rfl, rfl⟩
   ·have dz : ((en : Int) == (a : Int)) = false := by simp; omega
    have hq : Hid (hasB a (ac.take (k + 1)) = false) := hide (by rw [hs.out, hno.out]; simp [hz]);clear hs ht hz;go_wp2;exact ⟨⟨k + 1, hlt, by go_num, hq.out, trivial⟩, by simp [intOf]; omega⟩
  ·obtain rfl : k = ac.length := by omega
   have hq : Hid (hasB a ac = false) := hide (by have := hno.out; rwa [List.take_length] at this);go_wp2;go_ret;exact ⟨by rw [hq.out]; rfl, rfl⟩
def noneB (id l : Nat) (ls : List Lg) : Bool := ls.all fun x => !(decide (x.id = id) && decide (x.l = l))
def findB (id l : Nat) (ls : List Lg) : Nat := (ls.takeWhile fun x => !(decide (x.id = id) && decide (x.l = l))).length
theorem findB_at (id l : Nat) (ls : List Lg) (k : Nat) (hn : noneB id l (ls.take k) = true) (hk : k ≤ ls.length) (hy : ∀ h : k < ls.length, ls[k].id = id ∧ ls[k].l = l) : findB id l ls = k := by
 induction ls generalizing k with
 | nil => simp at hk; simp [findB, hk]
 | cons x r ih =>
  cases k with
  | zero =>
   have := hy (by simp);simp at this;simp [findB, this]
  | succ k =>
   simp only [noneB, List.take_succ_cons, List.all_cons, Bool.and_eq_true] at hn;have h2 := ih k (by simpa [noneB] using hn.2) (by simpa using hk) (fun h => by have := hy (by simpa using h); simp only [List.getElem_cons_succ] at this; exact this);unfold findB at *;rw [List.takeWhile_cons, if_pos hn.1, List.length_cons, h2]
theorem find_any (id l : Nat) (hid : id < 4294967296) (hl : l < 256) (w : World) (B node : Nat) (ac : List Ac) (ls : List Lg) (va vl : Value) (hX : XB w B node ac ls va vl) (hok : ∀ x, x ∈ ls → x.ok) (hlen : ls.length ≤ 1000000) :
  Calls Tryz.prog 147 #[.pointer (some ⟨B, 0, none⟩), .int .u32 (id : Int), .int .u8 (l : Int)] w fun e w' => e = .returned (.int .i64 (findB id l ls : Int)) ∧ w' = w := by
 obtain ⟨ad, cap, hv, hev⟩ := hX.lrow.form Lg.cells_length
 subst hv
 have hc : ∀ o, _ = _ := fun o => cell_at hX.blk o
 go_enter Tryz.func147, Tryz.ntmps147
 go_wp2
 go_loopw [7] (fun c u => ∃ k : Nat, k ≤ ls.length ∧ c = .int .i64 k ∧ noneB id l (ls.take k) = true ∧ u = w) (fun c _ => ls.length - (intOf c).toNat)
 case atStart => exact ⟨0, Nat.zero_le _, rfl, rfl, rfl⟩
 case round =>
  obtain ⟨k, hk, rfl, hno, rfl⟩ := hrel;replace hno := hide hno;have hlk : (k : Int) ≤ (ls.length : Int) := by omega
  by_cases hlt : k < ls.length
  ·obtain ⟨g, hg, hcell, _⟩ := hev k hlt;subst hg;have hlk2 : (k : Int) < (ls.length : Int) := by omega
   have dlt : decide ((k : Int) < (ls.length : Int)) = true := by simp; omega
   have hs : Hid (noneB id l (ls.take (k + 1)) = (noneB id l (ls.take k) && !(decide (ls[k].id = id) && decide (ls[k].l = l)))) := hide (by unfold noneB; rw [List.take_succ_eq_append_getElem hlt, List.all_append]; simp only [List.all_cons, List.all_nil, Bool.and_true]);have ht : Hid (ls[k].id = id → ls[k].l = l → findB id l ls = k) := hide (fun h1 h2 => findB_at id l ls k hno.out hk (fun _ => ⟨h1, h2⟩));have c0 := hcell 0 (by decide);have c1 := hcell 1 (by decide);have hek := hok ls[k] (List.getElem_mem hlt);clear hcell hev;generalize ls[k] = E at *;obtain ⟨ei, el, es, ep, eg, ea, em⟩ := E;obtain ⟨h1, h2, _, _, _, _⟩ := hek;simp only [Lg.cells, List.getElem?_cons_zero, List.getElem?_cons_succ, Nat.add_zero] at c0 c1 h1 h2;by_cases hz : ei = id
   ·have dz : ((ei : Int) != (id : Int)) = false := by simp; omega
    by_cases hy : el = l
    ·have dy : ((el : Int) != (l : Int)) = false := by simp; omega
     have hq : Hid (findB id l ls = k) := hide (ht.out hz hy);clear hs ht hz hy;go_wp2;go_ret;exact ⟨by rw [hq.out]; rfl, rfl⟩
    ·have dy : ((el : Int) != (l : Int)) = true := by simp; omega
     have hq : Hid (noneB id l (ls.take (k + 1)) = true) := hide (by rw [hs.out, hno.out]; simp [hy]);clear hs ht hz hy;go_wp2;exact ⟨⟨k + 1, hlt, by go_num, hq.out, trivial⟩, by simp [intOf]; omega⟩
   ·have dz : ((ei : Int) != (id : Int)) = true := by simp; omega
    have hq : Hid (noneB id l (ls.take (k + 1)) = true) := hide (by rw [hs.out, hno.out]; simp [hz]);clear hs ht hz;go_wp2;exact ⟨⟨k + 1, hlt, by go_num, hq.out, trivial⟩, by simp [intOf]; omega⟩
  ·obtain rfl : k = ls.length := by omega
   have hq : Hid (findB id l ls = ls.length) := hide (findB_at id l ls ls.length hno.out (Nat.le_refl _) (fun h => by omega));have dlt : decide ((ls.length : Int) < (ls.length : Int)) = false := by simp
   clear hev;go_wp2;go_ret;exact ⟨by rw [hq.out]; rfl, rfl⟩
end Go.Proofs.YtjkhbjgfoopomabGreat
namespace Go.Proofs.YtjkhbjgfoopomabGreat
open Go.RowKit
set_option maxRecDepth 100000
set_option maxHeartbeats 1000000
set_option linter.unusedVariables false
set_option linter.unusedSimpArgs false
def xfoot (B : Nat) (va vl : Value) (k : Nat) : Prop := k = B ∨ va.ownBlock = some k ∨ vl.ownBlock = some k
structure Apart (B : Nat) (va vl : Value) : Prop where
 a : va.ownBlock ≠ some B
 l : vl.ownBlock ≠ some B
 al : ∀ g, va.ownBlock = some g → vl.ownBlock ≠ some g
structure XBTo (w w' : World) (B node : Nat) (ac' : List Ac) (ls' : List Lg) (va vl va' vl' : Value) : Prop where
 xb : XB w' B node ac' ls' va' vl'
 kept : Kept (xfoot B va vl) w w'
 owna : ∀ g, va'.ownBlock = some g → va.ownBlock = some g ∨ w.heap.size ≤ g
 ownl : ∀ g, vl'.ownBlock = some g → vl.ownBlock = some g ∨ w.heap.size ≤ g
 ap : Apart B va' vl'
theorem XBTo.same {w u : World} {B node : Nat} {ac : List Ac} {ls : List Lg} {va vl : Value} (hX : XB w B node ac ls va vl) (hap : Apart B va vl) (hb : Below w.heap.size w u) : XBTo w u B node ac ls va vl va vl :=
 ⟨hX.below hb, Kept.of_below hb, fun g h => .inl h, fun g h => .inl h, hap⟩
theorem XBTo.from {w w1 w2 : World} {B node : Nat} {ac' : List Ac} {ls' : List Lg} {va vl va' vl' : Value} (hb : Below w.heap.size w w1) (h : XBTo w1 w2 B node ac' ls' va vl va' vl') : XBTo w w2 B node ac' ls' va vl va' vl' :=
 ⟨h.xb, (Kept.of_below hb).trans h.kept (fun i hi => .inl hi), fun g hg => (h.owna g hg).imp_right (fun x => Nat.le_trans hb.size x), fun g hg => (h.ownl g hg).imp_right (fun x => Nat.le_trans hb.size x), h.ap⟩
theorem XBTo.then {w u u2 : World} {B node : Nat} {ac' : List Ac} {ls' : List Lg} {va vl va' vl' : Value} (h : XBTo w u B node ac' ls' va vl va' vl') (hb : Below u.heap.size u u2) : XBTo w u2 B node ac' ls' va vl va' vl' :=
 ⟨h.xb.below hb, h.kept.trans (Kept.of_below (S := fun _ => False) hb) (fun i hi => hi.elim), h.owna, h.ownl, h.ap⟩
theorem acInfo : (Tryz.prog.info? 130).map (fun i => (i.zero, i.size, i.bytes)) = some (some (.agg #[.int .u16 0, .int .u32 0]), 2, 8) := by kernel_rfl
theorem ac_one (e : Ac) : ∀ u ∈ e.cells, u.oneCell' = true := by
 intro u hu
 simp only [Ac.cells, List.mem_cons, List.not_mem_nil, or_false] at hu
 rcases hu with h | h <;> subst h <;> rfl
theorem XB.growA {w w2 : World} {B node g n cap : Nat} {ac : List Ac} {ls : List Lg} {e : Ac} {va vl : Value} (hX : XB w B node ac ls va vl) (hap : Apart B va vl) (hrow : RowOf w2 130 2 Ac.cells (.slice (some ⟨g, 0, none⟩) n cap) (ac ++ [e]))
  (hk : Kept (fun k => va.ownBlock = some k) w w2) (hg : va.ownBlock = some g ∨ w.heap.size ≤ g) : XBTo w (w2.setCell ⟨B, 1, none⟩ (.slice (some ⟨g, 0, none⟩) n cap)) B node (ac ++ [e]) ls va vl (.slice (some ⟨g, 0, none⟩) n cap) vl := by
 have hB : w2.heap[B]? = some (.cells #[.int .u8 (node : Int), va, vl] (tyAt w B) (0, 0)) := by rw [hk.block B hX.lt hap.a]; exact hX.blk
 have one : ∀ g', (Value.slice (some ⟨g, 0, none⟩) n cap).ownBlock = some g' → g' = g := fun g' h' => by simpa [Value.ownBlock] using h'.symm
 have hgB : g ≠ B := by
  rcases hg with h | h
  ·intro e; subst e; exact hap.a h
  ·have := hX.lt; omega
 have hgl : ∀ g', vl.ownBlock = some g' → g' ≠ g := fun g' h' e => by
  subst e;rcases hg with h | h
  ·exact hap.al _ h h'
  ·have := hX.lrow.lt h'; omega
 refine ⟨⟨ty_of (heap_set_self hB 1 _), hrow.kept (Kept.of_setCell _ _ _) ?_, ?_⟩, ?_, ?_, fun g h => .inl h, ⟨?_, hap.l, ?_⟩⟩
 ·intro g' h'; rw [one g' h']; exact hgB
 ·refine (hX.lrow.kept hk (fun g' h' e => hap.al g' e h')).kept (Kept.of_setCell _ _ _) (fun g' h' e => hap.l ?_);rw [h', e]
 ·exact (hk.mono (fun i _ h => .inr (.inl h))).trans (Kept.of_setCell _ _ _) (fun i h => .inl (.inl h))
 ·intro g' h'; rw [one g' h']; exact hg
 ·intro h'; exact hgB (one _ h').symm
 ·intro g' h' h2; exact hgl g' h2 (one g' h')
def openTextOf (a b : Nat) : List UInt8 := 79 :: (be 2 a ++ be 4 b)
theorem openText_length (a b : Nat) : (openTextOf a b).length = 7 := by simp [openTextOf, be_length]
attribute [local go_sem] bs_size bs_append conv1 in
theorem openText_any (a b : Nat) (ha : a < 65536) (hb : b < 4294967296) (w : World) :
  Calls Tryz.prog 58 #[.int .u16 (a : Int), .int .u32 (b : Int)] w fun e w' => e = .returned (.string (bs (openTextOf a b))) ∧ Below w.heap.size w w' := by
 have l2 := be_length 2 a
 have l4 := be_length 4 b
 have hq : Hid (openTextOf a b = 79 :: (be 2 a ++ be 4 b)) := hide rfl
 have h2 := hide (fun u => two_any a ha u)
 have h4 := hide (fun u => four_any b hb u)
 generalize be 2 a = x2 at *
 generalize be 4 b = x4 at *
 go_enter Tryz.func58, Tryz.ntmps58
 go_wp2_with fail
 refine (h2.out _).mono ?_
 rintro e w1 ⟨rfl, hb1⟩
 go_wp2_with fail
 refine (h4.out _).mono ?_
 rintro e w2 ⟨rfl, hb2⟩
 go_wp2
 go_ret
 exact ⟨ret_str hq.out.symm, ((Below.refl _ _).alloc (Nat.le_refl _) _).trans ((hb1.trans (hb2.mono hb1.size)).mono (by simp))⟩
theorem xOpen_any (a b : Nat) (ha : a < 65536) (hb32 : b < 4294967296) (w : World) (B node : Nat) (ac : List Ac) (ls : List Lg) (va vl : Value) (hX : XB w B node ac ls va vl) (hap : Apart B va vl) (hok : ∀ x, x ∈ ac → x.ok) (hlen : ac.length ≤ 1000000) :
  Calls Tryz.prog 38 #[.pointer (some ⟨B, 0, none⟩), .int .u16 (a : Int), .int .u32 (b : Int)] w fun e w' =>
   ∃ va', (if hasB a ac then e = .returned (.tuple #[.string ⟨#[]⟩, .int .i64 9]) ∧ XBTo w w' B node ac ls va vl va' vl else if 16 ≤ ac.length then e = .returned (.tuple #[.string ⟨#[]⟩, .int .i64 10]) ∧ XBTo w w' B node ac ls va vl va' vl else e = .returned (.tuple #[.string (bs (openTextOf a b)), .int .i64 0]) ∧ XBTo w w' B node (ac ++ [⟨a, b⟩]) ls va vl va' vl) := by
 have hTx := hide (fun u => openText_any a b ha hb32 u)
 have hH := hide (has_any a ha w B node ac ls va vl hX hok hlen)
 obtain ⟨i0, hi, y0, y1, y2⟩ := info_parts acInfo
 obtain ⟨ad, cap, hv, hev⟩ := hX.arow.form Ac.cells_length
 clear hev
 subst hv
 have hc : ∀ o, _ = _ := fun o => cell_at hX.blk o
 have hf : ∀ o, _ = _ := fun o => frozen_at hX.blk o
 have hBl := hX.lt
 have hrow1 := hX.arow
 generalize hasB a ac = hs at *
 cases hs with
 | true =>
  simp only [if_true];go_enter Tryz.func38, Tryz.ntmps38;go_wp2_with fail
  refine hH.out.mono ?_;rintro e w1 ⟨rfl, rfl⟩;clear hH;go_wp2;go_ret2;exact ⟨_, rfl, XBTo.same hX hap (Below.refl _ _)⟩
 | false =>
  simp only [Bool.false_eq_true, if_false];by_cases h16 : 16 ≤ ac.length
  ·have d1 : decide ((ac.length : Int) ≥ 16) = true := by simp; omega
   have d2 : decide ((16 : Int) ≤ (ac.length : Int)) = true := by simp; omega
   simp only [h16, if_true];go_enter Tryz.func38, Tryz.ntmps38;go_wp2_with fail
   refine hH.out.mono ?_;rintro e w1 ⟨rfl, rfl⟩;clear hH;go_wp2;go_ret2;exact ⟨_, rfl, XBTo.same hX hap (Below.refl _ _)⟩
  ·have d1 : decide ((ac.length : Int) ≥ 16) = false := by simp; omega
   have d2 : decide ((16 : Int) ≤ (ac.length : Int)) = false := by simp; omega
   simp only [h16, if_false];go_enter Tryz.func38, Tryz.ntmps38;go_wp2_with fail
   refine hH.out.mono ?_;rintro e w1 ⟨rfl, rfl⟩;clear hH
   go_wp2_with (first
    | (at_builtin; refine wpList_row Ac.cells_length w1 (by rfl) _ _ 87 (by rfl) 130 i0 _ 8 Tryz.underlying87 hi y0 y1 y2 rfl (by decide) (.slice ad ac.length cap) ac (by rfl) hrow1 1 ⟨a, b⟩ (by rfl) (ac_one _) (by unfold maxLen; omega) (by omega) ?_ _ (by rfl); intro g cap' w2 hrow2 hk2 hg2 hlt2; have hblk : w2.heap[B]? = some (.cells #[.int .u8 (node : Int), .slice ad ac.length cap, vl] (tyAt w1 B) (0, 0)) := (by rw [hk2.block B hBl hap.a]; exact hX.blk); have hc2 := fun o => cell_at hblk o; have hf2 := fun o => frozen_at hblk o; have X : Hid (RowOf w2 130 2 Ac.cells (.slice (some ⟨g, 0, none⟩) (ac.length + 1) cap') (ac ++ [⟨a, b⟩]) ∧ Kept (fun k => (Value.slice ad ac.length cap).ownBlock = some k) w1 w2 ∧ ((Value.slice ad ac.length cap).ownBlock = some g ∨ w1.heap.size ≤ g)) := hide ⟨hrow2, hk2, hg2⟩; clear hrow2 hk2 hg2 hblk))
   refine (hTx.out _).mono ?_;rintro e w3 ⟨rfl, hb3⟩;clear hTx;go_wp2;go_ret2;exact ⟨_, rfl, (XB.growA hX hap X.out.1 X.out.2.1 X.out.2.2).then hb3⟩
end Go.Proofs.YtjkhbjgfoopomabGreat
namespace Go.Proofs.YtjkhbjgfoopomabGreat
open Go.RowKit
set_option maxRecDepth 100000
set_option maxHeartbeats 1000000
set_option linter.unusedVariables false
set_option linter.unusedSimpArgs false
def balStep (a : Nat) (s : Nat) (x : Ac) : Nat := if x.n = a then x.b else s
def balL (a : Nat) (ac : List Ac) : Nat := ac.foldl (balStep a) 0
theorem balL_snoc (a : Nat) (ac : List Ac) (x : Ac) : balL a (ac ++ [x]) = balStep a (balL a ac) x := by simp [balL, List.foldl_append]
def payL (a : Nat) (x : Lg) : Nat := if x.st = 1 ∧ x.p = a then x.a else 0
def getL (a : Nat) (x : Lg) : Nat := if x.st = 1 ∧ x.g = a then x.a else 0
def heldL (a : Nat) (ls : List Lg) : Nat := (ls.map (payL a)).sum
def dueL (a : Nat) (ls : List Lg) : Nat := (ls.map (getL a)).sum
theorem heldL_snoc (a : Nat) (ls : List Lg) (x : Lg) : heldL a (ls ++ [x]) = heldL a ls + payL a x := by simp [heldL]
theorem dueL_snoc (a : Nat) (ls : List Lg) (x : Lg) : dueL a (ls ++ [x]) = dueL a ls + getL a x := by simp [dueL]
theorem heldL_take (a : Nat) (ls : List Lg) (k : Nat) : heldL a (ls.take k) ≤ heldL a ls := by
 conv => rhs; rw [← List.take_append_drop k ls]
 simp only [heldL, List.map_append, List.sum_append]
 omega
theorem dueL_take (a : Nat) (ls : List Lg) (k : Nat) : dueL a (ls.take k) ≤ dueL a ls := by
 conv => rhs; rw [← List.take_append_drop k ls]
 simp only [dueL, List.map_append, List.sum_append]
 omega
def fcells (x : Nat × Nat × Nat) : Array Value := #[.int .u32 (x.1 : Int), .int .u32 (x.2.1 : Int), .int .u32 (x.2.2 : Int)]
structure TwoF (w : World) (x y : Nat × Nat × Nat) (u : World) : Prop where
 bel : Below w.heap.size w u
 one : u.heap[w.heap.size]? = some (.cells (fcells x) 49 (0, 0))
 two : u.heap[w.heap.size + 1]? = some (.cells (fcells y) 49 (0, 0))
theorem TwoF.mk0 (w : World) : TwoF w (0, 0, 0) (0, 0, 0) ((w.alloc (.cells (fcells (0, 0, 0)) 49)).alloc (.cells (fcells (0, 0, 0)) 49)) := by
 refine ⟨((Below.refl _ _).alloc (Nat.le_refl _) _).alloc (by simp) _, ?_, ?_⟩
 ·rw [Below.heap_alloc _ _ _ (by simp)];exact heap_alloc_self _ _
 ·rw [show w.heap.size + 1 = (w.alloc (.cells (fcells (0, 0, 0)) 49)).heap.size from by simp];exact heap_alloc_self _ _
theorem TwoF.set {w u : World} {x y y' : Nat × Nat × Nat} (h : TwoF w x y u) (j : Nat) (c : Value) (hy : (fcells y).setIfInBounds j c = fcells y') : TwoF w x y' (u.setCell ⟨w.heap.size + 1, j, none⟩ c) := by
 have hk := Kept.of_setCell u ⟨w.heap.size + 1, j, none⟩ c
 refine ⟨h.bel.trans (hk.below h.bel.size (fun k e => by simp at e; omega)), by rw [hk.block _ (block_lt h.one) (by simp)]; exact h.one, ?_⟩
 rw [heap_set_self h.two, hy]
theorem TwoF.drew {w u : World} {x y : Nat × Nat × Nat} (h : TwoF w x y u) : TwoF w x y u.drew := ⟨h.bel.drew, h.one, h.two⟩
theorem TwoF.putOne {w u : World} {x y : Nat × Nat × Nat} (h : TwoF w x y u) (z : Nat × Nat × Nat) : TwoF w z y (putL u w.heap.size 0 (fcells z).toList) :=
 have hk := putL_kept (fcells z).toList u w.heap.size 0
 ⟨h.bel.trans (hk.below h.bel.size (fun k e => by omega)), putL_whole _ h.one rfl, by rw [hk.block _ (block_lt h.two) (by omega)]; exact h.two⟩
theorem xfunds_any (a : Nat) (ha : a < 65536) (w : World) (B node : Nat) (ac : List Ac) (ls : List Lg) (va vl : Value) (hX : XB w B node ac ls va vl) (hoka : ∀ x, x ∈ ac → x.ok) (hokl : ∀ x, x ∈ ls → x.ok) (hlena : ac.length ≤ 1000000) (hlenl : ls.length ≤ 1000000)
  (hh : heldL a ls < 4294967296) (hd : dueL a ls < 4294967296) :
  Calls Tryz.prog 49 #[.pointer (some ⟨B, 0, none⟩), .int .u16 (a : Int)] w fun e w' => e = .returned (.agg #[.int .u32 (balL a ac : Int), .int .u32 (heldL a ls : Int), .int .u32 (dueL a ls : Int)]) ∧ Below w.heap.size w w' := by
 obtain ⟨ad, cap, hv, hev⟩ := hX.arow.form Ac.cells_length
 obtain ⟨ad2, cap2, hv2, hev2⟩ := hX.lrow.form Lg.cells_length
 subst hv hv2
 have hc : ∀ o, _ = _ := fun o => cell_at hX.blk o
 have hBl := hX.lt
 clear hev hev2
 go_enter Tryz.func49, Tryz.ntmps49
 go_wp2
 go_loopw [14] (fun c u => ∃ k : Nat, k ≤ ac.length ∧ c = .int .i64 k ∧ TwoF w (0, 0, 0) (balL a (ac.take k), 0, 0) u) (fun c _ => ac.length - (intOf c).toNat)
 case atStart => exact ⟨0, Nat.zero_le _, rfl, TwoF.mk0 w⟩
 case round =>
  obtain ⟨k, hk, rfl, hT⟩ := hrel;have hXu := hX.below hT.bel;clear hc;have hc : ∀ o, _ = _ := fun o => cell_at hXu.blk o;have hs2 : ∀ o, _ = _ := fun o => cell_at hT.two o;have hf2 : ∀ o, _ = _ := fun o => frozen_at hT.two o;have hl2 := block_lt hT.two;have hBu := hXu.lt;have hne : B ≠ w.heap.size + 1 := by omega
  by_cases hlt : k < ac.length
  ·obtain ⟨ad', cap', hv', hev'⟩ := hXu.arow.form Ac.cells_length;obtain ⟨g, hg, hcell, _⟩ := hev' k hlt;have ead : ad = ad' := by injection hv'
   subst ead;subst hg;have hs : Hid (balL a (ac.take (k + 1)) = balStep a (balL a (ac.take k)) ac[k]) := hide (by rw [List.take_succ_eq_append_getElem hlt, balL_snoc]);have c0 := hcell 0 (by decide);have c1 := hcell 1 (by decide);have hek := hoka ac[k] (List.getElem_mem hlt);clear hcell hev' hv';generalize balL a (ac.take k) = S at *;generalize ac[k] = E at *;obtain ⟨en, eb⟩ := E;obtain ⟨h1, h2⟩ := hek;simp only [Ac.cells, List.getElem?_cons_zero, List.getElem?_cons_succ, Nat.add_zero] at c0 c1 h1 h2;simp only [fcells] at hs2;by_cases hz : en = a
   ·have dz : ((en : Int) == (a : Int)) = true := by simp; omega
    have hq : Hid (balL a (ac.take (k + 1)) = eb) := hide (by rw [hs.out]; simp [balStep, hz]);clear hs hz;go_wp2;exact ⟨⟨k + 1, hlt, by go_num, by rw [hq.out]; exact hT.set 0 _ rfl⟩, by simp [intOf]; omega⟩
   ·have dz : ((en : Int) == (a : Int)) = false := by simp; omega
    have hq : Hid (balL a (ac.take (k + 1)) = S) := hide (by rw [hs.out]; simp [balStep, hz]);clear hs hz;go_wp2;exact ⟨⟨k + 1, hlt, by go_num, by rw [hq.out]; exact hT⟩, by simp [intOf]; omega⟩
  ·obtain rfl : k = ac.length := by omega
   rw [List.take_length] at hT;clear hs2 hf2 hl2 hc;have hc : ∀ o, _ = _ := fun o => cell_at hXu.blk o;go_wp2
   go_loopw [42] (fun c u => ∃ j : Nat, j ≤ ls.length ∧ c = .int .i64 j ∧ TwoF w (0, 0, 0) (balL a ac, heldL a (ls.take j), dueL a (ls.take j)) u) (fun c _ => ls.length - (intOf c).toNat)
   case atStart => exact ⟨0, Nat.zero_le _, rfl, hT⟩
   case round =>
    obtain ⟨j, hj, rfl, hT2⟩ := hrel;rename_i wr2;have hXv := hX.below hT2.bel;clear hc hT hXu hBu;have hc : ∀ o, _ = _ := fun o => cell_at hXv.blk o;have hs2 : ∀ o, _ = _ := fun o => cell_at hT2.two o;have hf2 : ∀ o, _ = _ := fun o => frozen_at hT2.two o;have hs0 : ∀ o, _ = _ := fun o => cell_at hT2.one o;have hf0 : ∀ o, _ = _ := fun o => frozen_at hT2.one o;have hl2 := block_lt hT2.two;have hBu := hXv.lt;have hb1 : heldL a (ls.take (j + 1)) ≤ heldL a ls := heldL_take a ls (j + 1);have hb2 : dueL a (ls.take (j + 1)) ≤ dueL a ls := dueL_take a ls (j + 1);have hb3 : heldL a (ls.take j) ≤ heldL a ls := heldL_take a ls j;have hb4 : dueL a (ls.take j) ≤ dueL a ls := dueL_take a ls j;by_cases hlt2 : j < ls.length
    ·obtain ⟨ad', cap', hv', hev'⟩ := hXv.lrow.form Lg.cells_length;obtain ⟨g, hg, hcell, _⟩ := hev' j hlt2;have ead : ad2 = ad' := by injection hv'
     subst ead;subst hg;have hgne : g ≠ w.heap.size + 1 := by have := hX.lrow.lt (g := g) rfl; omega
     have hs1 : Hid (heldL a (ls.take (j + 1)) = heldL a (ls.take j) + payL a ls[j]) := hide (by rw [List.take_succ_eq_append_getElem hlt2, heldL_snoc]);have hs3 : Hid (dueL a (ls.take (j + 1)) = dueL a (ls.take j) + getL a ls[j]) := hide (by rw [List.take_succ_eq_append_getElem hlt2, dueL_snoc]);have c2 := hcell 2 (by decide);have c3 := hcell 3 (by decide);have c4 := hcell 4 (by decide);have c5 := hcell 5 (by decide);have hek := hokl ls[j] (List.getElem_mem hlt2);clear hcell hev' hv';generalize ls[j] = E at *;obtain ⟨ei, el, es, ep, eg, ea, em⟩ := E;obtain ⟨_, _, h3, h4, h5, h6⟩ := hek;simp only [Lg.cells, List.getElem?_cons_zero, List.getElem?_cons_succ, Nat.add_zero] at c2 c3 c4 c5 h3 h4 h5 h6;simp only [fcells] at hs2;by_cases hst : es = 1
     ·have dst : ((es : Int) != 1) = false := by simp; omega
      by_cases hp : ep = a
      ·have dp : ((ep : Int) == (a : Int)) = true := by simp; omega
       by_cases hg : eg = a
       ·have dg : ((eg : Int) == (a : Int)) = true := by simp; omega
        have q1 : Hid (heldL a (ls.take (j + 1)) = heldL a (ls.take j) + ea) := hide (by rw [hs1.out]; simp [payL, hst, hp]);have q2 : Hid (dueL a (ls.take (j + 1)) = dueL a (ls.take j) + ea) := hide (by rw [hs3.out]; simp [getL, hst, hg]);have W1 : IntKind.u32.wrap ((heldL a (ls.take j) : Int) + (ea : Int)) = ((heldL a (ls.take j) + ea : Nat) : Int) := by have h := q1.out; rw [IntKind.wrap_u32]; omega
        have W2 : IntKind.u32.wrap ((dueL a (ls.take j) : Int) + (ea : Int)) = ((dueL a (ls.take j) + ea : Nat) : Int) := by have h := q2.out; rw [IntKind.wrap_u32]; omega
        clear hs1 hs3 hst hp hg;go_wp2
        go_region
        go_wp2
        go_region
        go_wp2;exact ⟨⟨j + 1, hlt2, by go_num, by rw [q1.out, q2.out]; exact ((hT2.set (y' := (balL a ac, heldL a (ls.take j) + ea, dueL a (ls.take j))) 1 _ (by simp [fcells])).set 2 _ (by simp [fcells])).drew.drew⟩, by simp [intOf]; omega⟩
       ·have dg : ((eg : Int) == (a : Int)) = false := by simp; omega
        have q1 : Hid (heldL a (ls.take (j + 1)) = heldL a (ls.take j) + ea) := hide (by rw [hs1.out]; simp [payL, hst, hp]);have q2 : Hid (dueL a (ls.take (j + 1)) = dueL a (ls.take j)) := hide (by rw [hs3.out]; simp [getL, hst, hg]);have W1 : IntKind.u32.wrap ((heldL a (ls.take j) : Int) + (ea : Int)) = ((heldL a (ls.take j) + ea : Nat) : Int) := by have h := q1.out; rw [IntKind.wrap_u32]; omega
        clear hs1 hs3 hst hp hg;go_wp2
        go_region
        go_wp2;exact ⟨⟨j + 1, hlt2, by go_num, by rw [q1.out, q2.out]; exact (hT2.set 1 _ (by simp [fcells])).drew⟩, by simp [intOf]; omega⟩
      ·have dp : ((ep : Int) == (a : Int)) = false := by simp; omega
       by_cases hg : eg = a
       ·have dg : ((eg : Int) == (a : Int)) = true := by simp; omega
        have q1 : Hid (heldL a (ls.take (j + 1)) = heldL a (ls.take j)) := hide (by rw [hs1.out]; simp [payL, hst, hp]);have q2 : Hid (dueL a (ls.take (j + 1)) = dueL a (ls.take j) + ea) := hide (by rw [hs3.out]; simp [getL, hst, hg]);have W2 : IntKind.u32.wrap ((dueL a (ls.take j) : Int) + (ea : Int)) = ((dueL a (ls.take j) + ea : Nat) : Int) := by have h := q2.out; rw [IntKind.wrap_u32]; omega
        clear hs1 hs3 hst hp hg;go_wp2
        go_region
        go_wp2;exact ⟨⟨j + 1, hlt2, by go_num, by rw [q1.out, q2.out]; exact (hT2.set 2 _ (by simp [fcells])).drew⟩, by simp [intOf]; omega⟩
       ·have dg : ((eg : Int) == (a : Int)) = false := by simp; omega
        have q1 : Hid (heldL a (ls.take (j + 1)) = heldL a (ls.take j)) := hide (by rw [hs1.out]; simp [payL, hst, hp]);have q2 : Hid (dueL a (ls.take (j + 1)) = dueL a (ls.take j)) := hide (by rw [hs3.out]; simp [getL, hst, hg]);clear hs1 hs3 hst hp hg;go_wp2;exact ⟨⟨j + 1, hlt2, by go_num, by rw [q1.out, q2.out]; exact hT2⟩, by simp [intOf]; omega⟩
     ·have dst : ((es : Int) != 1) = true := by simp; omega
      have q1 : Hid (heldL a (ls.take (j + 1)) = heldL a (ls.take j)) := hide (by rw [hs1.out]; simp [payL, hst]);have q2 : Hid (dueL a (ls.take (j + 1)) = dueL a (ls.take j)) := hide (by rw [hs3.out]; simp [getL, hst]);clear hs1 hs3 hst;go_wp2;exact ⟨⟨j + 1, hlt2, by go_num, by rw [q1.out, q2.out]; exact hT2⟩, by simp [intOf]; omega⟩
    ·obtain rfl : j = ls.length := by omega
     rw [List.take_length] at hT2;simp only [List.take_length] at hs2;have hT3 := hT2.putOne (balL a ac, heldL a ls, dueL a ls);simp only [fcells] at hs2 hs0;go_wp2;have hc3 := fun o => cell_at hT3.one o;have hb3 := hT3.bel;simp only [fcells, putL] at hc3 hb3;generalize World.setCell _ _ _ = u at *;exact bodyPost_ret (v := .agg #[.int .u32 (balL a ac : Int), .int .u32 (heldL a ls : Int), .int .u32 (dueL a ls : Int)]) (by simp [results, Tryz.results49, go_sem, hc3]) rfl ⟨rfl, hb3⟩
end Go.Proofs.YtjkhbjgfoopomabGreat
