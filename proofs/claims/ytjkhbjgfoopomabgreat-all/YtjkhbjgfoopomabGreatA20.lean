import Derived.Test.YtjkhbjgfoopomabGreatA17
import Derived.Test.YtjkhbjgfoopomabGreatA15
namespace Go.Proofs.YtjkhbjgfoopomabGreat
open Go.RowKit
set_option maxRecDepth 100000
set_option maxHeartbeats 2000000
set_option linter.unusedVariables false
set_option linter.unusedSimpArgs false
def plSame (x y : Pl) : Bool := x.b == y.b && x.p == y.p && x.g == y.g && x.a == y.a
def lsSame : List Pl → List Pl → Bool
 | x :: r, y :: s => plSame x y && lsSame r s
 | _, _ => true
def sameOf (a b : Pm) : Bool := a.id == b.id && a.dl == b.dl && a.memo == b.memo && a.legs.length == b.legs.length && lsSame a.legs b.legs
theorem lsSame_at : ∀ (k : Nat) {l m : List Pl} (hl : k < l.length) (hm : k < m.length), lsSame (l.take k) (m.take k) = true → plSame l[k] m[k] = false → lsSame l m = false
 | 0, x :: r, y :: s, _, _, _, h => by
  simp only [List.getElem_cons_zero] at h;simp [lsSame, h]
 | k + 1, x :: r, y :: s, hl, hm, h0, h => by
  simp only [List.take_succ_cons, lsSame, Bool.and_eq_true] at h0;simp only [List.getElem_cons_succ] at h;simp [lsSame, lsSame_at k (by simpa using hl) (by simpa using hm) h0.2 h]
theorem lsSame_next : ∀ (k : Nat) {l m : List Pl} (hl : k < l.length) (hm : k < m.length), lsSame (l.take k) (m.take k) = true → plSame l[k] m[k] = true → lsSame (l.take (k + 1)) (m.take (k + 1)) = true
 | 0, x :: r, y :: s, _, _, _, h => by
  simp only [List.getElem_cons_zero] at h;simp [lsSame, h]
 | k + 1, x :: r, y :: s, hl, hm, h0, h => by
  simp only [List.take_succ_cons, lsSame, Bool.and_eq_true] at h0;simp only [List.getElem_cons_succ] at h;rw [List.take_succ_cons, List.take_succ_cons, lsSame, h0.1, lsSame_next k (by simpa using hl) (by simpa using hm) h0.2 h];rfl
theorem plSize : (Tryz.prog.info? 67).map (·.size) = some 4 := by kernel_rfl
theorem TwoP.mk2 (w : World) (x y : Pm) : TwoP w x y ((w.alloc (.cells x.cells.toArray 69)).alloc (.cells y.cells.toArray 69)) := by
 refine ⟨((Below.refl _ _).alloc (Nat.le_refl _) _).alloc (by simp) _, ?_, ?_⟩
 ·rw [Below.heap_alloc _ _ _ (by simp)];exact heap_alloc_self _ _
 ·rw [show w.heap.size + 1 = (w.alloc (.cells x.cells.toArray 69)).heap.size from by simp];exact heap_alloc_self _ _
theorem TwoP.below {w u u' : World} {x y : Pm} (h : TwoP w x y u) (hb : Below u.heap.size u u') : TwoP w x y u' :=
 ⟨h.bel.trans (hb.mono h.bel.size), by rw [hb.block _ (block_lt h.one)]; exact h.one, by rw [hb.block _ (block_lt h.two)]; exact h.two⟩
theorem same_any (a b : Pm) (ha : a.ok) (hb : b.ok) (hal : a.legs.length ≤ 11728124029269) (w : World) (hA : LegsAt w a.la a.legs) (hB : RowOf w 67 4 Pl.cells b.lv b.legs) (hbl : b.legs.length ≤ 11728124029269) :
  Calls Tryz.prog 149 #[a.v, b.v] w fun e w' => e = .returned (.bool (sameOf a b)) ∧ Below w.heap.size w w' := by
 have hT0 := hide (TwoP.mk2 w a b)
 obtain ⟨ai, ad, am, al, aa, ac⟩ := a
 obtain ⟨bi, bd, bm, bl, ba, bc⟩ := b
 obtain ⟨hai, had, hao⟩ := ha
 obtain ⟨hbi, hbd, hbo⟩ := hb
 simp only [Pm.v, Pm.lv] at *
 have hsame : Hid (sameOf ⟨ai, ad, am, al, aa, ac⟩ ⟨bi, bd, bm, bl, ba, bc⟩ = (ai == bi && ad == bd && am == bm && al.length == bl.length && lsSame al bl)) := hide rfl
 go_enter Tryz.func149, Tryz.ntmps149
 by_cases h1 : ai = bi
 case neg =>
  have d1 : ((ai : Int) != (bi : Int)) = true := by simp; omega
  have hq : Hid (sameOf ⟨ai, ad, am, al, aa, ac⟩ ⟨bi, bd, bm, bl, ba, bc⟩ = false) := hide (by rw [hsame.out]; simp [h1]);clear h1 hsame;go_wp2;go_ret;exact ⟨by rw [hq.out]; rfl, hT0.out.bel⟩
 have d1 : ((ai : Int) != (bi : Int)) = false := by simp; omega
 by_cases h2 : ad = bd
 case neg =>
  have d2 : ((ad : Int) != (bd : Int)) = true := by simp; omega
  have hq : Hid (sameOf ⟨ai, ad, am, al, aa, ac⟩ ⟨bi, bd, bm, bl, ba, bc⟩ = false) := hide (by rw [hsame.out]; simp [h2]);clear h1 h2 hsame;go_wp2;go_ret;exact ⟨by rw [hq.out]; rfl, hT0.out.bel⟩
 have d2 : ((ad : Int) != (bd : Int)) = false := by simp; omega
 by_cases h3 : am = bm
 case neg =>
  have d3 : ((bs am).toList == (bs bm).toList) = false := by rw [bs_same]; simpa using h3
  have d3' : ((bs am).toList != (bs bm).toList) = true := by rw [bne, d3]; rfl
  have hq : Hid (sameOf ⟨ai, ad, am, al, aa, ac⟩ ⟨bi, bd, bm, bl, ba, bc⟩ = false) := hide (by rw [hsame.out]; simp [h3]);clear h1 h2 h3 hsame;go_wp2;go_ret;exact ⟨by rw [hq.out]; rfl, hT0.out.bel⟩
 have d3 : ((bs am).toList == (bs bm).toList) = true := by rw [bs_same]; simpa using h3
 have d3' : ((bs am).toList != (bs bm).toList) = false := by rw [bne, d3]; rfl
 by_cases h4 : al.length = bl.length
 case neg =>
  have d4 : ((al.length : Int) != (bl.length : Int)) = true := by simp; omega
  have hq : Hid (sameOf ⟨ai, ad, am, al, aa, ac⟩ ⟨bi, bd, bm, bl, ba, bc⟩ = false) := hide (by rw [hsame.out]; simp [h4]);clear h1 h2 h3 h4 hsame;go_wp2;go_ret;exact ⟨by rw [hq.out]; rfl, hT0.out.bel⟩
 have d4 : ((al.length : Int) != (bl.length : Int)) = false := by simp; omega
 have hq : Hid (sameOf ⟨ai, ad, am, al, aa, ac⟩ ⟨bi, bd, bm, bl, ba, bc⟩ = lsSame al bl) := hide (by rw [hsame.out]; simp [h1, h2, h3, h4])
 clear h1 h2 h3 hsame
 replace h4 := hide h4
 go_wp2
 go_loopw [5] (fun c u => ∃ k : Nat, k ≤ al.length ∧ c = .int .i64 k ∧ lsSame (al.take k) (bl.take k) = true ∧ TwoP w ⟨ai, ad, am, al, aa, ac⟩ ⟨bi, bd, bm, bl, ba, bc⟩ u) (fun c _ => al.length - (intOf c).toNat)
 case atStart => exact ⟨0, Nat.zero_le _, rfl, rfl, hT0.out⟩
 case round =>
  clear hT0 d1 d2 d3 d3' d4;obtain ⟨k, hk, rfl, he, hT⟩ := hrel;have hA' := hide (hA.below hT.bel);have hB' := hide (hB.below hT.bel);have hca : ∀ o, wr.cell? ⟨w.heap.size, o, none⟩ = (#[.int .u32 (ai : Int), .int .u64 (ad : Int), .string (bs am), .slice aa al.length ac] : Array Value)[o]? := fun o => cell_at hT.one o;have hcb : ∀ o, wr.cell? ⟨w.heap.size + 1, o, none⟩ = (#[.int .u32 (bi : Int), .int .u64 (bd : Int), .string (bs bm), .slice ba bl.length bc] : Array Value)[o]? := fun o => cell_at hT.two o;have hl1 := block_lt hT.one;have hl2 := block_lt hT.two;replace hT := hide hT;by_cases hlt : k < al.length
  ·have hlt2 : k < bl.length := by have := h4.out; omega
   obtain ⟨ga, hg, hgl, hcell⟩ := hA'.out k hlt;subst hg;have hra : ∀ j v, al[k].cells[j]? = some v → wr.cell? ((ga.add (k * 4)).add j) = some v := hcell;clear hcell;obtain ⟨ad', cap', hv', hev'⟩ := hB'.out.form Pl.cells_length;obtain ⟨f, hf, hcell, _⟩ := hev' k hlt2;have ead : ba = ad' := by injection hv'
   subst ead;subst hf;have hfl : f < wr.heap.size := hB'.out.lt rfl;have b0 := hcell 0 (by decide);have b1 := hcell 1 (by decide);have b2 := hcell 2 (by decide);have b3 := hcell 3 (by decide);clear hcell hev' hv';have hoa := hao al[k] (List.getElem_mem hlt);have hob := hbo bl[k] (List.getElem_mem hlt2);have hat := hide (lsSame_at k hlt hlt2 he);have hnx := hide (lsSame_next k hlt hlt2 he);clear hao hbo hA hB hA' hB' he;generalize al[k] = E at *;generalize bl[k] = F at *;obtain ⟨xb, xp, xg, xa⟩ := E;obtain ⟨yb, yp, yg, ya⟩ := F;obtain ⟨hxb, hxp, hxg, hxa⟩ := hoa;obtain ⟨hyb, hyp, hyg, hya⟩ := hob;simp only [Pl.cells, List.getElem?_cons_zero, List.getElem?_cons_succ, Nat.add_zero] at hra b0 b1 b2 b3;simp only at hxb hxp hxg hxa hyb hyp hyg hya;replace hra := hide hra;go_wp2_with (first | (with_reducible refine stopLd 67 ?_))
   refine hide ?_;refine longAt (by rfl) 67 _ (by rfl) (ga.add (k * 4)) (by rfl) [.int .u8 (xb : Int), .int .u16 (xp : Int), .int .u16 (xg : Int), .int .u32 (xa : Int)] _ hra.out Tryz.underlying67 plSize ?_;clear hra;by_cases e0 : xb = yb
   case neg =>
    have q0 : ((xb : Int) != (yb : Int)) = true := by simp; omega
    have hq2 := hide (hq.out.trans (hat.out (by simp [plSame, e0])));clear hat hnx hq e0 h4;go_wp2;go_ret;refine ⟨by rw [hq2.out]; rfl, hT.out.bel.trans (Below.mono ?_ hT.out.bel.size)⟩
    repeat' (first | exact Below.refl _ _ | refine Below.setCell ?_ (by simp) _ | refine Below.alloc ?_ (by simp) _)
   have q0 : ((xb : Int) != (yb : Int)) = false := by simp; omega
   by_cases e1 : xp = yp
   case neg =>
    have q1 : ((xp : Int) != (yp : Int)) = true := by simp; omega
    have hq2 := hide (hq.out.trans (hat.out (by simp [plSame, e1])));clear hat hnx hq e1 h4 e0;go_wp2;go_ret;refine ⟨by rw [hq2.out]; rfl, hT.out.bel.trans (Below.mono ?_ hT.out.bel.size)⟩
    repeat' (first | exact Below.refl _ _ | refine Below.setCell ?_ (by simp) _ | refine Below.alloc ?_ (by simp) _)
   have q1 : ((xp : Int) != (yp : Int)) = false := by simp; omega
   by_cases e2 : xg = yg
   case neg =>
    have q2 : ((xg : Int) != (yg : Int)) = true := by simp; omega
    have hq2 := hide (hq.out.trans (hat.out (by simp [plSame, e2])));clear hat hnx hq e2 h4 e0 e1;go_wp2;go_ret;refine ⟨by rw [hq2.out]; rfl, hT.out.bel.trans (Below.mono ?_ hT.out.bel.size)⟩
    repeat' (first | exact Below.refl _ _ | refine Below.setCell ?_ (by simp) _ | refine Below.alloc ?_ (by simp) _)
   have q2 : ((xg : Int) != (yg : Int)) = false := by simp; omega
   by_cases e3 : xa = ya
   case neg =>
    have q3 : ((xa : Int) != (ya : Int)) = true := by simp; omega
    have hq2 := hide (hq.out.trans (hat.out (by simp [plSame, e3])));clear hat hnx hq e3 h4 e0 e1 e2;go_wp2;go_ret;refine ⟨by rw [hq2.out]; rfl, hT.out.bel.trans (Below.mono ?_ hT.out.bel.size)⟩
    repeat' (first | exact Below.refl _ _ | refine Below.setCell ?_ (by simp) _ | refine Below.alloc ?_ (by simp) _)
   have q3 : ((xa : Int) != (ya : Int)) = false := by simp; omega
   have hq2 := hide (hnx.out (by simp [plSame, e0, e1, e2, e3]));clear hat hnx h4 e0 e1 e2 e3;go_wp2;refine ⟨⟨k + 1, hlt, by go_num, hq2.out, hT.out.below ?_⟩, by simp [intOf]; omega⟩
   repeat' (first | exact Below.refl _ _ | refine Below.setCell ?_ (by simp) _ | refine Below.alloc ?_ (by simp) _)
  ·obtain rfl : k = al.length := by omega
   rw [List.take_length, h4.out, List.take_length] at he;go_wp2;go_ret;exact ⟨by rw [hq.out, he]; rfl, hT.out.bel⟩
theorem findFold_mem (id : Nat) (acts : List Dt) : ∀ s : Pm × Bool × Nat, (acts.foldl (findStep id) s).2.1 = true → (s.2.1 = true ∧ (acts.foldl (findStep id) s).1 = s.1) ∨ ∃ x, x ∈ acts ∧ x.kind = -1 ∧ x.pay.id = id ∧ (acts.foldl (findStep id) s).1 = x.pay := by
 induction acts with
 | nil => intro s h; exact .inl ⟨h, rfl⟩
 | cons x r ih =>
  intro s h;simp only [List.foldl_cons] at h ⊢;rcases ih (findStep id s x) h with ⟨h1, h2⟩ | ⟨y, hy, h1, h2, h3⟩
  ·by_cases hk : x.kind = -1
   ·by_cases hi : x.pay.id = id
    ·exact .inr ⟨x, by simp, hk, hi, by rw [h2]; simp [findStep, hk, hi]⟩
    ·left;simp only [findStep, hk, hi, if_true, if_false] at h1 h2 ⊢;exact ⟨h1, h2⟩
   ·left;simp only [findStep, hk, if_false] at h1 h2 ⊢;exact ⟨h1, h2⟩
  ·exact .inr ⟨y, by simp [hy], h1, h2, h3⟩
theorem findOf_mem {id : Nat} {acts : List Dt} (h : (findOf id acts).2.1 = true) : ∃ x, x ∈ acts ∧ x.kind = -1 ∧ x.pay.id = id ∧ (findOf id acts).1 = x.pay := by
 rcases findFold_mem id acts (noPm, false, 0) h with ⟨h1, _⟩ | h1
 ·simp at h1
 ·exact h1
def subErr (p : Pm) (acts : List Dt) : Nat :=
 if wrongOf p = 0 then (if (findOf p.id acts).2.1 then (if sameOf p (findOf p.id acts).1 then 0 else 11) else if p.dl ≤ clockOf acts then 12 else if 32 ≤ (findOf p.id acts).2.2 then 10 else 0) else wrongOf p
def PayOk (x : Dt) : Prop := x.pay.legs.length ≤ 4 ∧ x.pay.memo.length ≤ 1000
theorem wrongOf_few {p : Pm} (h : wrongOf p = 0) : p.legs.length ≤ 4 := by
 unfold wrongOf at h
 split at h
 ·omega
 ·omega
theorem submit_wrong (p : Pm) (hp : p.ok) (hm : p.memo.length ≤ 140737488351232) (hll : p.legs.length ≤ 11728124029269) (w : World) (B : Nat) (hL : LegsAt w p.la p.legs) (hw : wrongOf p ≠ 0) :
  Calls Tryz.prog 123 #[.pointer (some ⟨B, 0, none⟩), p.v] w fun e w' => e = .returned (.tuple #[.slice none 0 0, .int .i64 (wrongOf p : Int)]) ∧ Below w.heap.size w w' := by
 have hW := hide (fun u hu => wrong_any p hp hm hll u hu)
 generalize wrongOf p = E at *
 obtain ⟨pi, pd, pm, pl, pa, pc⟩ := p
 simp only [Pm.v, Pm.lv] at *
 have hB0 : Hid (Below w.heap.size w (w.alloc (.cells #[.int .u32 (pi : Int), .int .u64 (pd : Int), .string (bs pm), .slice pa pl.length pc] 69))) := hide ((Below.refl _ _).alloc (Nat.le_refl _) _)
 have d1 : ((E : Int) != 0) = true := by simp; omega
 go_enter Tryz.func123, Tryz.ntmps123
 go_wp2_with fail
 refine (hW.out _ (hL.below hB0.out)).mono ?_
 rintro e w2 ⟨rfl, hb2⟩
 have hB2 := hide (hB0.out.trans (hb2.mono hB0.out.size))
 clear hb2 hW
 go_wp2
 go_ret2
 exact ⟨rfl, hB2.out⟩
theorem submit_late (p : Pm) (hp : p.ok) (hm : p.memo.length ≤ 140737488351232) (w : World) (B : Nat) (acts : List Dt) (v : Value) (hR : RD w B acts v) (hok : ∀ x, x ∈ acts → x.ok) (hlen : acts.length ≤ 1000000000000) (hL : LegsAt w p.la p.legs) (hw : wrongOf p = 0) (hf : (findOf p.id acts).2.1 = false) (hd : p.dl ≤ clockOf acts ∨ 32 ≤ (findOf p.id acts).2.2) :
  Calls Tryz.prog 123 #[.pointer (some ⟨B, 0, none⟩), p.v] w fun e w' => e = .returned (.tuple #[.slice none 0 0, .int .i64 (subErr p acts : Int)]) ∧ Below w.heap.size w w' := by
 have hW := hide (fun u hu => wrong_any p hp hm (by have := wrongOf_few hw; omega) u hu)
 have hF := hide (fun u hu => find_pay p.id hp.1 u B acts v hu hok hlen)
 have hC := hide (fun u hu => clock_any u B acts v hu hok hlen)
 have hE : Hid (subErr p acts = if p.dl ≤ clockOf acts then 12 else if 32 ≤ (findOf p.id acts).2.2 then 10 else 0) := hide (by simp [subErr, hw, hf])
 have hfl := findOf_le p.id acts
 have hcl := clockOf_le acts
 rw [hw] at hW
 generalize findOf p.id acts = S at *
 generalize clockOf acts = ck at *
 generalize subErr p acts = E at *
 obtain ⟨⟨qi, qd, qm, ql, qa, qc⟩, s2, s3⟩ := S
 simp only at hf hd hfl hE
 subst hf
 obtain ⟨pi, pd, pm, pl, pa, pc⟩ := p
 obtain ⟨hpi, hpd, hpo⟩ := hp
 simp only [Pm.v, Pm.lv] at *
 have hB0 : Hid (Below w.heap.size w (w.alloc (.cells #[.int .u32 (pi : Int), .int .u64 (pd : Int), .string (bs pm), .slice pa pl.length pc] 69))) := hide ((Below.refl _ _).alloc (Nat.le_refl _) _)
 have hp0 : Hid ((w.alloc (.cells #[.int .u32 (pi : Int), .int .u64 (pd : Int), .string (bs pm), .slice pa pl.length pc] 69)).heap[w.heap.size]? = some (.cells #[.int .u32 (pi : Int), .int .u64 (pd : Int), .string (bs pm), .slice pa pl.length pc] 69 (0, 0))) := hide (heap_alloc_self _ _)
 go_enter Tryz.func123, Tryz.ntmps123
 go_wp2_with fail
 refine (hW.out _ (hL.below hB0.out)).mono ?_
 rintro e w2 ⟨rfl, hb2⟩
 have hB2 := hide (hB0.out.trans (hb2.mono hB0.out.size))
 have hp2 : Hid (w2.heap[w.heap.size]? = some (.cells #[.int .u32 (pi : Int), .int .u64 (pd : Int), .string (bs pm), .slice pa pl.length pc] 69 (0, 0))) := hide (by rw [hb2.block _ (by simp)]; exact hp0.out)
 have hc2 : ∀ o, w2.cell? ⟨w.heap.size, o, none⟩ = (#[.int .u32 (pi : Int), .int .u64 (pd : Int), .string (bs pm), .slice pa pl.length pc] : Array Value)[o]? := fun o => cell_at hp2.out o
 have hl2 := block_lt hp2.out
 clear hb2 hW hp0
 go_wp2_with fail
 refine (hF.out _ (hR.below hB2.out)).mono ?_
 rintro e w3 ⟨rfl, hb3⟩
 have hB3 := hide (hB2.out.trans (hb3.mono hB2.out.size))
 have hp3 : Hid (w3.heap[w.heap.size]? = some (.cells #[.int .u32 (pi : Int), .int .u64 (pd : Int), .string (bs pm), .slice pa pl.length pc] 69 (0, 0))) := hide (by rw [hb3.block _ hl2]; exact hp2.out)
 have hc3 : ∀ o, w3.cell? ⟨w.heap.size, o, none⟩ = (#[.int .u32 (pi : Int), .int .u64 (pd : Int), .string (bs pm), .slice pa pl.length pc] : Array Value)[o]? := fun o => cell_at hp3.out o
 have hl3 := block_lt hp3.out
 clear hb3 hF hp2 hc2 hl2
 go_wp2_with fail
 refine (hC.out _ ((hR.below hB3.out).below ((Below.refl _ _).alloc (Nat.le_refl _) _))).mono ?_
 rintro e w4 ⟨rfl, rfl⟩
 have hB4 : Hid (Below w.heap.size w (w3.alloc (.cells #[.int .u32 (qi : Int), .int .u64 (qd : Int), .string (bs qm), .slice qa ql.length qc] 69))) := hide (hB3.out.alloc hB3.out.size _)
 clear hC
 by_cases h1 : pd ≤ ck
 ·have d1 : decide ((pd : Int) ≤ (ck : Int)) = true := by simp; omega
  have hq : Hid (E = 12) := hide (by rw [hE.out]; simp [h1]);clear hE hd;go_wp2;go_ret2;exact ⟨by rw [hq.out]; rfl, hB4.out⟩
 ·have d1 : decide ((pd : Int) ≤ (ck : Int)) = false := by simp; omega
  have d2 : decide ((s3 : Int) ≥ 32) = true := by simp; omega
  have hq : Hid (E = 10) := hide (by rw [hE.out]; simp only [if_neg h1, if_pos (show 32 ≤ s3 by omega)]);have h2 : (32 : Int) ≤ (s3 : Int) := by omega
  clear hE hd;go_wp2;go_ret2;exact ⟨by rw [hq.out]; rfl, hB4.out⟩
def rdfoot (B : Nat) (acts : List Dt) (v : Value) (k : Nat) : Prop := k = B ∨ v.ownBlock = some k ∨ ∃ x, x ∈ acts ∧ x.pay.lv.ownBlock = some k
structure RDap (B : Nat) (acts : List Dt) (v : Value) : Prop where
 a : v.ownBlock ≠ some B
 l : ∀ x, x ∈ acts → ∀ g, x.pay.lv.ownBlock = some g → g ≠ B ∧ v.ownBlock ≠ some g
structure RDTo (w w' : World) (B : Nat) (acts acts' : List Dt) (v v' : Value) : Prop where
 rd : RD w' B acts' v'
 kept : Kept (fun k => k = B ∨ v.ownBlock = some k) w w'
 own : ∀ k, rdfoot B acts' v' k → rdfoot B acts v k ∨ w.heap.size ≤ k
 ap : RDap B acts' v'
theorem RDTo.same {w u : World} {B : Nat} {acts : List Dt} {v : Value} (hR : RD w B acts v) (hap : RDap B acts v) (hb : Below w.heap.size w u) : RDTo w u B acts acts v v :=
 ⟨hR.below hb, Kept.of_below hb, fun k h => .inl h, hap⟩
theorem RDTo.then {w u u2 : World} {B : Nat} {acts acts' : List Dt} {v v' : Value} (h : RDTo w u B acts acts' v v') (hb : Below u.heap.size u u2) : RDTo w u2 B acts acts' v v' :=
 ⟨h.rd.below hb, h.kept.trans (Kept.of_below (S := fun _ => False) hb) (fun i hi => hi.elim), h.own, h.ap⟩
theorem RD.foot_lt {w : World} {B : Nat} {acts : List Dt} {v : Value} (h : RD w B acts v) {k : Nat} (hk : rdfoot B acts v k) : k < w.heap.size := by
 rcases hk with rfl | hk | ⟨x, hx, hk⟩
 ·exact h.lt
 ·exact h.row.lt hk
 ·exact (h.legs x hx).lt hk
theorem RD.grow {w0 w w2 : World} {B g n cap : Nat} {acts : List Dt} {e : Dt} {v : Value} (hR : RD w0 B acts v) (hap : RDap B acts v) (hb : Below w0.heap.size w0 w) (hrow : RowOf w2 216 14 Dt.cells (.slice (some ⟨g, 0, none⟩) n cap) (acts ++ [e])) (hk : Kept (fun k => v.ownBlock = some k) w w2) (hg : v.ownBlock = some g ∨ w.heap.size ≤ g)
  (hL : RowOf w 67 4 Pl.cells e.pay.lv e.pay.legs) (hLf : ∀ h, e.pay.lv.ownBlock = some h → w0.heap.size ≤ h) : RDTo w0 (w2.setCell ⟨B, 0, none⟩ (.slice (some ⟨g, 0, none⟩) n cap)) B acts (acts ++ [e]) v (.slice (some ⟨g, 0, none⟩) n cap) := by
 have one : ∀ g', (Value.slice (some ⟨g, 0, none⟩) n cap).ownBlock = some g' → g' = g := fun g' h' => by simpa [Value.ownBlock] using h'.symm
 have hRw := hR.below hb
 have hBl := hR.lt
 have hs0 := hb.size
 have hB : w2.heap[B]? = some (.cells #[v] 155 (0, 0)) := by rw [hk.block B hRw.lt hap.a]; exact hRw.blk
 have hvl : ∀ k, v.ownBlock = some k → k < w0.heap.size := fun k h => hR.row.lt h
 have hgB : g ≠ B := by
  rcases hg with h | h
  ·intro e; subst e; exact hap.a h
  ·omega
 have hgl : ∀ x, x ∈ acts → ∀ h, x.pay.lv.ownBlock = some h → g ≠ h := fun x hx h hh e => by
  subst e;rcases hg with h' | h'
  ·exact (hap.l x hx _ hh).2 h'
  ·have := (hRw.legs x hx).lt hh; omega
 have hge : ∀ h, e.pay.lv.ownBlock = some h → g ≠ h := fun h hh e => by
  subst e;rcases hg with h' | h'
  ·have := hvl _ h'; have := hLf _ hh; omega
  ·have := hL.lt hh; omega
 refine ⟨⟨heap_set_self hB 0 _, hrow.kept (Kept.of_setCell _ _ _) (fun g' h' => by rw [one g' h']; exact hgB), ?_⟩, ?_, ?_, ⟨fun e => hgB (one _ e).symm, ?_⟩⟩
 ·intro x hx;rcases List.mem_append.1 hx with hx | hx
  ·exact ((hRw.legs x hx).kept hk (fun h hh e => (hap.l x hx h hh).2 e)).kept (Kept.of_setCell _ _ _) (fun h hh => (hap.l x hx h hh).1)
  ·rw [List.mem_singleton] at hx;subst hx
   exact (hL.kept hk (fun h hh e => by have := hvl _ e; have := hLf _ hh; omega)).kept (Kept.of_setCell _ _ _) (fun h hh e => by
    have h1 := hLf _ hh;have h2 : h = B := e
    omega)
 ·exact ((Kept.of_below hb).trans hk (fun i h => .inl (.inr h))).trans (Kept.of_setCell _ _ _) (fun i h => .inl (.inl h))
 ·rintro k (rfl | h | ⟨x, hx, h⟩)
  ·exact .inl (.inl rfl)
  ·rw [one k h];rcases hg with h' | h'
   ·exact .inl (.inr (.inl h'))
   ·exact .inr (by omega)
  ·rcases List.mem_append.1 hx with hx | hx
   ·exact .inl (.inr (.inr ⟨x, hx, h⟩))
   ·rw [List.mem_singleton] at hx;subst hx;exact .inr (hLf _ h)
 ·intro x hx h hh;rcases List.mem_append.1 hx with hx | hx
  ·exact ⟨(hap.l x hx h hh).1, fun e => hgl x hx h hh (one _ e).symm⟩
  ·rw [List.mem_singleton] at hx;subst hx;exact ⟨by have := hLf _ hh; omega, fun e => hge h hh (one _ e).symm⟩
theorem dtInfo : (Tryz.prog.info? 216).map (fun i => (i.zero.map (fun z => z.cells.size), i.size, i.bytes)) = some (some 14, 14, 104) := by kernel_rfl
theorem dt_parts : ∃ i z, Tryz.prog.info? 216 = some i ∧ i.zero = some z ∧ i.size = 14 ∧ i.bytes = 104 ∧ z.cells.size = 14 := by
 have h := dtInfo
 cases hi : Tryz.prog.info? 216 with
 | none => rw [hi] at h; simp at h
 | some i =>
  rw [hi] at h;simp only [Option.map_some, Option.some.injEq, Prod.mk.injEq] at h;obtain ⟨h1, h2, h3⟩ := h;cases hz : i.zero with
  | none => rw [hz] at h1; simp at h1
  | some z =>
   rw [hz] at h1;exact ⟨i, z, rfl, hz, h2, h3, by simpa using h1⟩
theorem dt_each (x : Dt) : ∀ u ∈ x.cells, u.oneCell' = true := by
 intro u hu
 simp only [Dt.cells, Pm.lv, List.mem_cons, List.not_mem_nil, or_false] at hu
 rcases hu with h | h | h | h | h | h | h | h | h | h | h | h | h | h <;> subst h <;> rfl
theorem plInfo : (Tryz.prog.info? 67).map (fun i => (i.zero, i.size, i.bytes)) = some (some (.agg #[.int .u8 0, .int .u16 0, .int .u16 0, .int .u32 0]), 4, 12) := by kernel_rfl
theorem pl_each (x : Pl) : ∀ u ∈ x.cells, u.oneCell' = true := by
 intro u hu
 simp only [Pl.cells, List.mem_cons, List.not_mem_nil, or_false] at hu
 rcases hu with h | h | h | h <;> subst h <;> rfl
theorem wpList_legs {ops : Array Oper} {rest : List Oper} {o : Oper} {a : Act} {w : World} {Q : Exit → Act → World → Prop} (hgd : o.guard = none) (s x : Operand)
  (ho : o.op = .call { callee := .builtin .append, args := #[s, x], argTypes := #[29, 29] }) (hs : a.eval s = .slice none 0 0) (la : Option Addr) (legs : List Pl) (c : Nat) (hx : a.eval x = .slice la legs.length c) (hL : LegsAt w la legs) (h0 : 0 < legs.length) (hlen : legs.length ≤ 1000000)
  (h : ∀ g cap w', RowOf w' 67 4 Pl.cells (.slice (some ⟨g, 0, none⟩) legs.length cap) legs → Below w.heap.size w w' → w.heap.size ≤ g → g < w'.heap.size → wpList Tryz.prog ops Q rest (a.put o.dst (.slice (some ⟨g, 0, none⟩) legs.length cap)) w') : wpList Tryz.prog ops Q (o :: rest) a w := by
 obtain ⟨i0, hi, y0, y1, y2⟩ := info_parts plInfo
 obtain ⟨ad, e, _, _⟩ := hL 0 h0
 subst e
 have hnil : w.ownsRow 0 67 4 (.slice none 0 0) 0 [] := (RowOf.nil (α := Pl) (sz := 4) (f := Pl.cells) w 67)
 refine wpList_append_lies w hgd s x 29 ho 0 67 i0 _ 4 12 Tryz.underlying29 hi y0 y1 y2 rfl (by decide) (.slice none 0 0) 0 [] hs hnil ad legs.length c (legs.flatMap Pl.cells) hx (flat_length Pl.cells_length legs) ?_ ?_ h0 (by unfold maxLen; omega) (by omega) (Nat.zero_le _) _ rfl ?_
 ·intro j u hu;have hjl := (List.getElem?_eq_some_iff.1 hu).1;rw [flat_length Pl.cells_length] at hjl;have hk : j / 4 < legs.length := by omega
  have e : j = (j / 4) * 4 + j % 4 := by omega
  rw [e, flat_get Pl.cells_length legs (j / 4) (j % 4) hk (by omega)] at hu;obtain ⟨a', e', _, hc⟩ := hL (j / 4) hk;injection e' with e'
  subst e';have := hc (j % 4) u hu;rw [addr_add, ← e] at this;exact this
 ·intro u hu;obtain ⟨y, _, hy⟩ := List.mem_flatMap.1 hu;exact pl_each y u hy
 ·intro g cap w' hown hgrow hat hlt;have hk := Kept.of_grown hgrow
  have hg : w.heap.size ≤ g := by
   rcases hat with h' | h'
   ·simp [Value.ownBlock] at h'
   ·omega
  rw [Nat.zero_add] at hown;rw [Nat.zero_add];exact h g cap w' (RowOf.to (xs := ([] : List Pl)) Pl.cells_length (ys := legs) hown (by simp) rfl) (hk.below (Nat.le_refl _) (fun k e => by simp [Value.ownBlock] at e)) hg hlt
theorem asksTo_at (i d d' : Nat) (m : List UInt8) (l : List Pl) (la la' : Option Addr) (lc lc' k but : Nat) : ∀ n, asksTo ⟨i, d, m, l, la, lc⟩ k but n = asksTo ⟨i, d', m, l, la', lc'⟩ k but n
 | 0 => rfl
 | n + 1 => by
  simp only [asksTo];rw [asksTo_at i d d' m l la la' lc lc' k but n];rfl
theorem asksOf_at (i d d' : Nat) (m : List UInt8) (l : List Pl) (la la' : Option Addr) (lc lc' k but : Nat) : asksOf ⟨i, d, m, l, la, lc⟩ k but = asksOf ⟨i, d', m, l, la', lc'⟩ k but := asksTo_at i d d' m l la la' lc lc' k but _
theorem stopAt2 {p : Prop} (h : Hid p) : p := h
def zeroMsg : Msg := ⟨0, 0, 0, 0, 0, 0, 0, 0, []⟩
structure DHanded (w w' : World) (B : Nat) (acts acts' : List Dt) (v v' lv : Value) (outs : List (List UInt8)) : Prop where
 to : RDTo w w' B acts acts' v v'
 row : RowOf w' 9 1 txtCell lv outs
 fresh : ∀ g, lv.ownBlock = some g → w.heap.size ≤ g ∧ ¬ rdfoot B acts' v' g
theorem DHanded.from {w u u2 : World} {B : Nat} {acts acts' : List Dt} {v v' lv : Value} {outs : List (List UInt8)} (h : RDTo w u B acts acts' v v') (hb : Below u.heap.size u u2) (hr : RowOf u2 9 1 txtCell lv outs) (hf : ∀ g, lv.ownBlock = some g → u.heap.size ≤ g) : DHanded w u2 B acts acts' v v' lv outs :=
 ⟨h.then hb, hr, fun g hg => ⟨Nat.le_trans h.kept.size (hf g hg), fun hk => by have := h.rd.foot_lt hk; have := hf g hg; omega⟩⟩
theorem submit_new (p : Pm) (hp : p.ok) (hm : p.memo.length ≤ 140737488351232) (w : World) (B : Nat) (acts : List Dt) (v : Value) (hR : RD w B acts v) (hap : RDap B acts v) (hok : ∀ x, x ∈ acts → x.ok) (hlen : acts.length ≤ 1000000000000) (hL : LegsAt w p.la p.legs) (hw : wrongOf p = 0) (hf : (findOf p.id acts).2.1 = false) (hd : clockOf acts < p.dl) (hn : (findOf p.id acts).2.2 < 32) :
  Calls Tryz.prog 123 #[.pointer (some ⟨B, 0, none⟩), p.v] w fun e w' => ∃ lv la lc v', e = .returned (.tuple #[lv, .int .i64 0]) ∧ DHanded w w' B acts (acts ++ [⟨-1, ⟨p.id, p.dl, p.memo, p.legs, la, lc⟩, zeroMsg⟩]) v v' lv (asksOf p 1 0) := by
 have hW := hide (fun u hu => wrong_any p hp hm (by have := wrongOf_few hw; omega) u hu)
 have hF := hide (fun u hu => find_pay p.id hp.1 u B acts v hu hok hlen)
 have hC := hide (fun u hu => clock_any u B acts v hu hok hlen)
 have hfl := findOf_le p.id acts
 have hcl := clockOf_le acts
 have hp4 := wrongOf_few hw
 have hp0 : 0 < p.legs.length := by
  rcases Nat.eq_zero_or_pos p.legs.length with h | h
  ·simp [wrongOf, h] at hw
  ·exact h
 have hAs := hide (fun (la : Option Addr) (lc : Nat) u hu => asks_any ⟨p.id, p.dl, p.memo, p.legs, la, lc⟩ hp hm 1 0 (by decide) (by decide) u hu hp4)
 have hAo := hide (fun (la : Option Addr) (lc : Nat) => asksOf_at p.id p.dl p.dl p.memo p.legs la p.la lc p.lc 1 0)
 rw [hw] at hW
 obtain ⟨ri, rz, hri, hrz, hrs, hrb, hrc⟩ := dt_parts
 generalize findOf p.id acts = S at *
 generalize clockOf acts = ck at *
 obtain ⟨⟨qi, qd, qm, ql, qa, qc⟩, s2, s3⟩ := S
 simp only at hf hn hfl
 subst hf
 obtain ⟨ad, cap, hv, _⟩ := hR.row.form Dt.cells_length
 subst hv
 obtain ⟨pi, pd, pm, pl, pa, pc⟩ := p
 obtain ⟨hpi, hpd, hpo⟩ := hp
 simp only [Pm.v, Pm.lv] at *
 generalize asksOf ⟨pi, pd, pm, pl, pa, pc⟩ 1 0 = AS at *
 have hB0 : Hid (Below w.heap.size w (w.alloc (.cells #[.int .u32 (pi : Int), .int .u64 (pd : Int), .string (bs pm), .slice pa pl.length pc] 69))) := hide ((Below.refl _ _).alloc (Nat.le_refl _) _)
 have hp0' : Hid ((w.alloc (.cells #[.int .u32 (pi : Int), .int .u64 (pd : Int), .string (bs pm), .slice pa pl.length pc] 69)).heap[w.heap.size]? = some (.cells #[.int .u32 (pi : Int), .int .u64 (pd : Int), .string (bs pm), .slice pa pl.length pc] 69 (0, 0))) := hide (heap_alloc_self _ _)
 go_enter Tryz.func123, Tryz.ntmps123
 go_wp2_with fail
 refine (hW.out _ (hL.below hB0.out)).mono ?_
 rintro e w2 ⟨rfl, hb2⟩
 have hB2 := hide (hB0.out.trans (hb2.mono hB0.out.size))
 have hp2 : Hid (w2.heap[w.heap.size]? = some (.cells #[.int .u32 (pi : Int), .int .u64 (pd : Int), .string (bs pm), .slice pa pl.length pc] 69 (0, 0))) := hide (by rw [hb2.block _ (by simp)]; exact hp0'.out)
 have hc2 : ∀ o, w2.cell? ⟨w.heap.size, o, none⟩ = (#[.int .u32 (pi : Int), .int .u64 (pd : Int), .string (bs pm), .slice pa pl.length pc] : Array Value)[o]? := fun o => cell_at hp2.out o
 have hl2 := block_lt hp2.out
 clear hb2 hW hp0'
 go_wp2_with fail
 refine (hF.out _ (hR.below hB2.out)).mono ?_
 rintro e w3 ⟨rfl, hb3⟩
 have hB3 := hide (hB2.out.trans (hb3.mono hB2.out.size))
 have hp3 : Hid (w3.heap[w.heap.size]? = some (.cells #[.int .u32 (pi : Int), .int .u64 (pd : Int), .string (bs pm), .slice pa pl.length pc] 69 (0, 0))) := hide (by rw [hb3.block _ hl2]; exact hp2.out)
 have hc3 : ∀ o, w3.cell? ⟨w.heap.size, o, none⟩ = (#[.int .u32 (pi : Int), .int .u64 (pd : Int), .string (bs pm), .slice pa pl.length pc] : Array Value)[o]? := fun o => cell_at hp3.out o
 have hl3 := block_lt hp3.out
 clear hb3 hF hp2 hc2 hl2
 go_wp2_with fail
 refine (hC.out _ ((hR.below hB3.out).below ((Below.refl _ _).alloc (Nat.le_refl _) _))).mono ?_
 rintro e w4 ⟨rfl, rfl⟩
 have hB4 : Hid (Below w.heap.size w (w3.alloc (.cells #[.int .u32 (qi : Int), .int .u64 (qd : Int), .string (bs qm), .slice qa ql.length qc] 69))) := hide (hB3.out.alloc hB3.out.size _)
 clear hC
 have d1 : decide ((pd : Int) ≤ (ck : Int)) = false := by simp; omega
 have d2 : decide ((s3 : Int) ≥ 32) = false := by simp; omega
 have d2' : decide ((32 : Int) ≤ (s3 : Int)) = false := by simp; omega
 go_wp2_with (first | (at_builtin; refine stopAt2 ?_))
 refine hide ?_
 have hB5 : Hid (Below w.heap.size w ((w3.alloc (.cells #[.int .u32 (qi : Int), .int .u64 (qd : Int), .string (bs qm), .slice qa ql.length qc] 69)).alloc (.cells #[.int .u32 (pi : Int), .int .u64 (pd : Int), .string (bs pm), .slice none 0 0] 69))) := hide (hB4.out.alloc hB4.out.size _)
 have ho5 : Hid (((w3.alloc (.cells #[.int .u32 (qi : Int), .int .u64 (qd : Int), .string (bs qm), .slice qa ql.length qc] 69)).alloc (.cells #[.int .u32 (pi : Int), .int .u64 (pd : Int), .string (bs pm), .slice none 0 0] 69)).heap[w3.heap.size + 1]? = some (.cells #[.int .u32 (pi : Int), .int .u64 (pd : Int), .string (bs pm), .slice none 0 0] 69 (0, 0))) := hide (by
  rw [show w3.heap.size + 1 = (w3.alloc (.cells #[.int .u32 (qi : Int), .int .u64 (qd : Int), .string (bs qm), .slice qa ql.length qc] 69)).heap.size from by simp]
  exact heap_alloc_self _ _)
 have hz5 : Hid (w.heap.size ≤ w3.heap.size + 1) := hide (by have := hB3.out.size; omega)
 generalize World.alloc (World.alloc w3 _) _ = W5 at *
 generalize hH : w3.heap.size + 1 = H at *
 refine wpList_legs (by rfl) _ _ (by rfl) (by rfl) pa pl pc (by rfl) (hL.below hB5.out) hp0 (by omega) ?_
 intro gL cL w6 hrL hb6 hg6 hlt6
 have ho6 : w6.heap[H]? = some (.cells #[.int .u32 (pi : Int), .int .u64 (pd : Int), .string (bs pm), .slice none 0 0] 69 (0, 0)) := by rw [hb6.block _ (block_lt ho5.out)]; exact ho5.out
 have hB6 := hide (hB5.out.trans (hb6.mono hB5.out.size))
 have hc6 : ∀ o, w6.cell? ⟨H, o, none⟩ = (#[.int .u32 (pi : Int), .int .u64 (pd : Int), .string (bs pm), .slice none 0 0] : Array Value)[o]? := fun o => cell_at ho6 o
 have hf6 : ∀ o, w6.frozen? ⟨H, o, none⟩ = false := fun o => frozen_at ho6 o
 have hl6 := block_lt ho6
 have hgH : gL ≠ H := by have := block_lt ho5.out; omega
 have hR6 := hR.below hB6.out
 have hcB : ∀ o, w6.cell? ⟨B, o, none⟩ = (#[.slice ad acts.length cap] : Array Value)[o]? := fun o => cell_at hR6.blk o
 have hfB : ∀ o, w6.frozen? ⟨B, o, none⟩ = false := fun o => frozen_at hR6.blk o
 have hBl6 := hR6.lt
 have hBH : B ≠ H := by have := hR.lt; have := hz5.out; omega
 clear hB0 hB2 hB3 hB4 hp3 hc3
 replace hrL := hide hrL
 replace hb6 := hide hb6
 replace ho6 := hide ho6
 replace hR6 := hide hR6
 obtain ⟨W7, hW7⟩ : ∃ W7, W7 = w6.setCell ⟨H, 3, none⟩ (.slice (some ⟨gL, 0, none⟩) pl.length cL) := ⟨_, rfl⟩
 have hB7 : Below w.heap.size w W7 := by rw [hW7]; exact hB6.out.setCell (p := ⟨H, 3, none⟩) hz5.out _
 have ho7 : W7.heap[H]? = some (.cells #[.int .u32 (pi : Int), .int .u64 (pd : Int), .string (bs pm), .slice (some ⟨gL, 0, none⟩) pl.length cL] 69 (0, 0)) := by rw [hW7]; exact heap_set_self ho6.out 3 _
 have hrL7 : RowOf W7 67 4 Pl.cells (.slice (some ⟨gL, 0, none⟩) pl.length cL) pl := by
  rw [hW7]
  exact hrL.out.kept (Kept.of_setCell _ _ _) (fun g hg e => hgH (by
   have h1 : gL = g := by simpa [Value.ownBlock] using hg
   have h2 : g = H := e
   omega))
 have hR7 := hR.below hB7
 have hrow1 := hR7.row
 have hWb : Below W7.heap.size W7 (W7.alloc (.cells (Dt.cells ⟨-1, ⟨pi, pd, pm, pl, some ⟨gL, 0, none⟩, cL⟩, zeroMsg⟩).toArray 216)).drew := ((Below.refl _ _).alloc (Nat.le_refl _) _).drew
 have hWr := hide (hrow1.below hWb)
 have hWa : Hid ((W7.alloc (.cells (Dt.cells ⟨-1, ⟨pi, pd, pm, pl, some ⟨gL, 0, none⟩, cL⟩, zeroMsg⟩).toArray 216)).drew.heap[W7.heap.size]? = some (.cells (Dt.cells ⟨-1, ⟨pi, pd, pm, pl, some ⟨gL, 0, none⟩, cL⟩, zeroMsg⟩).toArray 216 (0, 0))) := hide (heap_alloc_self W7 _)
 have hWk : Hid (Kept (fun k => (Value.slice ad acts.length cap).ownBlock = some k) W7 (W7.alloc (.cells (Dt.cells ⟨-1, ⟨pi, pd, pm, pl, some ⟨gL, 0, none⟩, cL⟩, zeroMsg⟩).toArray 216)).drew) := hide (Kept.of_below hWb)
 have hBl7 := hR7.lt
 have hvl : ∀ k, (Value.slice ad acts.length cap).ownBlock = some k → k < w.heap.size := fun k hk => hR.row.lt hk
 have hHl7 := block_lt ho7
 have hc7 : ∀ o, W7.cell? ⟨H, o, none⟩ = (#[.int .u32 (pi : Int), .int .u64 (pd : Int), .string (bs pm), .slice (some ⟨gL, 0, none⟩) pl.length cL] : Array Value)[o]? := fun o => cell_at ho7 o
 have hcB7 : ∀ o, W7.cell? ⟨B, o, none⟩ = (#[.slice ad acts.length cap] : Array Value)[o]? := fun o => cell_at hR7.blk o
 replace hW7 := hide hW7
 simp only [Dt.cells, zeroMsg, Pm.lv] at hWb hWr hWa hWk
 go_wp2_with fail
 rw [← hW7.out]
 clear hc6 hf6 hcB hfB
 have hfB7 : ∀ o, W7.frozen? ⟨B, o, none⟩ = false := fun o => frozen_at hR7.blk o
 have hneB' : H ≠ B := fun e => hBH e.symm
 go_region_law (refine step_row Dt.cells_length (by rfl) _ _ 153 (by rfl) 216 ri rz 104 Tryz.underlying153 hri hrz hrs hrb hrc (by decide) (.slice ad acts.length cap) acts W7.heap.size 1 ⟨-1, ⟨pi, pd, pm, pl, some ⟨gL, 0, none⟩, cL⟩, zeroMsg⟩ (dt_each _) (by unfold maxLen; omega) (by omega) (by first | rfl | simp [Act.eval, Act.put]) (by first | rfl | simp [Act.eval, Act.put]) (by exact hWr.out) (by exact hWa.out) ?_; intro g' cap' w8 hrow2 hk2 hg2 hlt2; replace hk2 := hWk.out.trans hk2 (fun i hi => .inl hi); replace hg2 := hg2.imp_right (fun h => Nat.le_trans hWb.size h); have hblk : w8.heap[B]? = some (.cells #[.slice ad acts.length cap] 155 (0, 0)) := (by rw [hk2.block B hBl7 hap.a]; exact hR7.blk); have hblkH : w8.heap[H]? = some (.cells #[.int .u32 (pi : Int), .int .u64 (pd : Int), .string (bs pm), .slice (some ⟨gL, 0, none⟩) pl.length cL] 69 (0, 0)) := (by rw [hk2.block H hHl7 (fun e => by have h1 := hvl _ e; have h2 := hz5.out; omega)]; exact ho7); have hc2 := fun o => cell_at hblk o; have hf2 := fun o => frozen_at hblk o; have hcH := fun o => cell_at hblkH o; have hltH := block_lt hblkH; have X : Hid (RowOf w8 216 14 Dt.cells (.slice (some ⟨g', 0, none⟩) (acts.length + 1) cap') (acts ++ [⟨-1, ⟨pi, pd, pm, pl, some ⟨gL, 0, none⟩, cL⟩, zeroMsg⟩]) ∧ Kept (fun k => (Value.slice ad acts.length cap).ownBlock = some k) W7 w8 ∧ ((Value.slice ad acts.length cap).ownBlock = some g' ∨ W7.heap.size ≤ g')) := hide ⟨hrow2, hk2, hg2⟩; clear hrow2 hk2 hg2 hblk hblkH)
 all_goals (
  have hto := hide (RD.grow hR hap hB7 X.out.1 X.out.2.1 X.out.2.2 hrL7 (fun h hh => by
   have h1 : gL = h := by simpa [Pm.lv, Value.ownBlock] using hh
   have h2 := hB5.out.size
   omega))
  have hlr := hide (hto.out.rd.legs _ (List.mem_append_right _ (List.mem_singleton_self _)));clear hWb hWr hWa hWk hc7 hcB7 hfB7 X hrL7 hR7 hrow1 ho7;go_wp2_with fail
  refine (hAs.out (some ⟨gL, 0, none⟩) cL _ hlr.out).mono ?_;rintro e w9 ⟨⟨lv, rfl, hrow, hown⟩, hb9⟩;rw [hAo.out] at hrow;replace hrow := hide hrow;replace hown := hide hown;replace hb9 := hide hb9;clear hAs hlr hc2 hf2 hcH;go_wp2;go_ret2
  exact ⟨_, some ⟨gL, 0, none⟩, cL, _, rfl, DHanded.from hto.out hb9.out hrow.out hown.out⟩)
end Go.Proofs.YtjkhbjgfoopomabGreat
