import Derived.Test.YtjkhbjgfoopomaaGreatG15
import Derived.Test.YtjkhbjgfoopomaaGreatRefStatus
import Derived.Deep.RegionWith
import Derived.Test.YtjkhbjgfoopomaaGreatG14
import Derived.Test.YtjkhbjgfoopomaaGreatG11
/-
  The document's Reminds.
-/
namespace Go.Proofs.YtjkhbjgfoopomaaGreat
open Go.RowKit
set_option linter.unusedVariables false
set_option linter.unusedSimpArgs false
/-- P11: what is said again of a payment -/
def remindsOf (p : Pm) (acts : List Dt) : List (List UInt8) := if (stOf p acts).1 = 1 then asksOf p 1 (stOf p acts).2.1 else asksOf p (askKind (stOf p acts).1) (stOf p acts).2.2.1
theorem askKind_lt (st : Nat) : askKind st < 256 := by unfold askKind; split; omega; split <;> omega

set_option maxRecDepth 100000 in
set_option maxHeartbeats 1000000 in
theorem reminds_any (p : Pm) (hp : p.ok) (hm : p.memo.length ≤ 140737488351232) (hl4 : p.legs.length ≤ 4) (w : World) (B : Nat) (acts : List Dt) (v : Value) (hR : RD w B acts v) (hok : ∀ x, x ∈ acts → x.ok) (h4 : ∀ x, x ∈ acts → few4 x) (hlen : acts.length ≤ 1000000000000) (hL : RowOf w 54 4 Pl.cells p.lv p.legs) :
    Calls Tryz.prog 77 #[.pointer (some ⟨B, 0, none⟩), p.v] w fun e w' => (∃ lv, e = .returned lv ∧ RowOf w' 9 1 txtCell lv (remindsOf p acts) ∧ ∀ g, lv.ownBlock = some g → w.heap.size ≤ g) ∧ Below w.heap.size w w' := by
  have hS := hide (fun u hu => status_any p hp hl4 u B acts v hu hok h4 hlen)
  have hbd := stOf_bd p acts h4
  have hA := hide (fun k but (hk : k < 256) (hb : but < 1000) u hu => asks_any p hp hm k but hk hb u hu hl4)
  have hz : Hid (remindsOf p acts = if (stOf p acts).1 = 1 then asksOf p 1 (stOf p acts).2.1 else asksOf p (askKind (stOf p acts).1) (stOf p acts).2.2.1) := hide rfl
  generalize stOf p acts = S at *
  obtain ⟨s1, s2, s3, s4⟩ := S
  have hkd := hide (fun u => kind_any s1 (by simp only at hbd; omega) u)
  generalize remindsOf p acts = Z at *
  obtain ⟨b1, b2, b3, _⟩ := hbd
  simp only at hS hz b1 b2 b3
  obtain ⟨pi, pd, pm, pl, pa, pc⟩ := p
  simp only [Pm.v, Pm.lv] at *
  have hB0 : Hid (Below w.heap.size w (w.alloc (.cells #[.int .u32 (pi : Int), .int .u64 (pd : Int), .string (bs pm), .slice pa pl.length pc] 44))) := hide ((Below.refl _ _).alloc (Nat.le_refl _) _)
  go_enter Tryz.func77, Tryz.ntmps77
  go_wp2_with fail
  refine (hS.out _ (hR.below hB0.out)).mono ?_
  rintro e w2 ⟨rfl, hb2⟩
  have hp2 : w2.heap[w.heap.size]? = some (.cells #[.int .u32 (pi : Int), .int .u64 (pd : Int), .string (bs pm), .slice pa pl.length pc] 44 (0, 0)) := by rw [hb2.block _ (by simp)]; exact heap_alloc_self _ _
  have hc : ∀ o, w2.cell? ⟨w.heap.size, o, none⟩ = (#[.int .u32 (pi : Int), .int .u64 (pd : Int), .string (bs pm), .slice pa pl.length pc] : Array Value)[o]? := fun o => cell_at hp2 o
  have hlt2 := block_lt hp2
  have hB2 := hide (hB0.out.trans (hb2.mono hB0.out.size))
  have hL2 := hide (hL.below hB2.out)
  clear hS hb2 hp2 hB0
  by_cases h1 : s1 = 1
  · subst h1
    have hZ : Hid (Z = asksOf ⟨pi, pd, pm, pl, pa, pc⟩ 1 s2) := hide (by rw [hz.out]; simp)
    have hA2 := hide (hA.out 1 s2 (by omega) (by omega))
    clear hz hA hkd
    go_wp2_with fail
    refine (hA2.out _ hL2.out).mono ?_
    rintro e w3 ⟨⟨lv, rfl, hrow, hown⟩, hb3⟩
    replace hrow := hide hrow
    replace hb3 := hide hb3
    replace hown := hide hown
    go_wp2
    go_ret
    exact ⟨⟨_, rfl, by rw [hZ.out]; exact hrow.out, fun g hg => Nat.le_trans hB2.out.size (hown.out g hg)⟩, hB2.out.trans (hb3.out.mono hB2.out.size)⟩
  · have d1 : ((s1 : Int) == 1) = false := by simp; omega
    have hZ : Hid (Z = asksOf ⟨pi, pd, pm, pl, pa, pc⟩ (askKind s1) s3) := hide (by rw [hz.out]; simp [h1])
    have hA2 := hide (hA.out (askKind s1) s3 (askKind_lt _) (by omega))
    clear hz hA h1
    generalize askKind s1 = kd at *
    go_wp2_with fail
    go_region_with (first
      | (go_at_call 74; refine (hkd.out _).mono ?_; rintro e u5 ⟨rfl, rfl⟩)
      | (go_at_call 73; refine (hA2.out _ (by first | exact hL2.out | exact hL2.out.below ((Below.refl _ _).drew))).mono ?_; rintro e w3 ⟨⟨lv, rfl, hrow, hown⟩, hb3⟩))
    all_goals (replace hrow := hide hrow; replace hown := hide hown; have hb4 : Hid (Below w2.heap.size w2 w3) := hide (by first | exact hb3 | exact undrew hb3); clear hb3; go_wp2; go_ret; exact ⟨⟨_, rfl, by rw [hZ.out]; exact hrow.out, fun g hg => Nat.le_trans hB2.out.size (hown.out g hg)⟩, hB2.out.trans (hb4.out.mono hB2.out.size)⟩)
end Go.Proofs.YtjkhbjgfoopomaaGreat
/-
  The document's Same.
-/
namespace Go.Proofs.YtjkhbjgfoopomaaGreat
open Go.RowKit
set_option linter.unusedVariables false
set_option linter.unusedSimpArgs false
def plSame (x y : Pl) : Bool := x.b == y.b && x.p == y.p && x.g == y.g && x.a == y.a
def lsSame : List Pl → List Pl → Bool
  | x :: r, y :: s => plSame x y && lsSame r s
  | _, _ => true
/-- P9: the same payment? -/
def sameOf (a b : Pm) : Bool := a.id == b.id && a.dl == b.dl && a.memo == b.memo && a.legs.length == b.legs.length && lsSame a.legs b.legs
theorem lsSame_at : ∀ (k : Nat) {l m : List Pl} (hl : k < l.length) (hm : k < m.length), lsSame (l.take k) (m.take k) = true → plSame l[k] m[k] = false → lsSame l m = false
  | 0, x :: r, y :: s, _, _, _, h => by
    simp only [List.getElem_cons_zero] at h
    simp [lsSame, h]
  | k + 1, x :: r, y :: s, hl, hm, h0, h => by
    simp only [List.take_succ_cons, lsSame, Bool.and_eq_true] at h0
    simp only [List.getElem_cons_succ] at h
    simp [lsSame, lsSame_at k (by simpa using hl) (by simpa using hm) h0.2 h]
theorem lsSame_next : ∀ (k : Nat) {l m : List Pl} (hl : k < l.length) (hm : k < m.length), lsSame (l.take k) (m.take k) = true → plSame l[k] m[k] = true → lsSame (l.take (k + 1)) (m.take (k + 1)) = true
  | 0, x :: r, y :: s, _, _, _, h => by
    simp only [List.getElem_cons_zero] at h
    simp [lsSame, h]
  | k + 1, x :: r, y :: s, hl, hm, h0, h => by
    simp only [List.take_succ_cons, lsSame, Bool.and_eq_true] at h0
    simp only [List.getElem_cons_succ] at h
    rw [List.take_succ_cons, List.take_succ_cons, lsSame, h0.1, lsSame_next k (by simpa using hl) (by simpa using hm) h0.2 h]
    rfl
theorem plSize : (Tryz.prog.info? 54).map (·.size) = some 4 := by kernel_rfl
theorem TwoP.mk2 (w : World) (x y : Pm) : TwoP w x y ((w.alloc (.cells x.cells.toArray 44)).alloc (.cells y.cells.toArray 44)) := by
  refine ⟨((Below.refl _ _).alloc (Nat.le_refl _) _).alloc (by simp) _, ?_, ?_⟩
  · rw [Below.heap_alloc _ _ _ (by simp)]
    exact heap_alloc_self _ _
  · rw [show w.heap.size + 1 = (w.alloc (.cells x.cells.toArray 44)).heap.size from by simp]
    exact heap_alloc_self _ _
theorem TwoP.below {w u u' : World} {x y : Pm} (h : TwoP w x y u) (hb : Below u.heap.size u u') : TwoP w x y u' :=
  ⟨h.bel.trans (hb.mono h.bel.size), by rw [hb.block _ (block_lt h.one)]; exact h.one, by rw [hb.block _ (block_lt h.two)]; exact h.two⟩

set_option maxRecDepth 100000 in
set_option maxHeartbeats 1000000 in
theorem same_any (a b : Pm) (ha : a.ok) (hb : b.ok) (hal : a.legs.length ≤ 11728124029269) (w : World) (hA : LegsAt w a.la a.legs) (hB : RowOf w 54 4 Pl.cells b.lv b.legs) (hbl : b.legs.length ≤ 11728124029269) :
    Calls Tryz.prog 101 #[a.v, b.v] w fun e w' => e = .returned (.bool (sameOf a b)) ∧ Below w.heap.size w w' := by
  have hT0 := hide (TwoP.mk2 w a b)
  obtain ⟨ai, ad, am, al, aa, ac⟩ := a
  obtain ⟨bi, bd, bm, bl, ba, bc⟩ := b
  obtain ⟨hai, had, hao⟩ := ha
  obtain ⟨hbi, hbd, hbo⟩ := hb
  simp only [Pm.v, Pm.lv] at *
  have hsame : Hid (sameOf ⟨ai, ad, am, al, aa, ac⟩ ⟨bi, bd, bm, bl, ba, bc⟩ = (ai == bi && ad == bd && am == bm && al.length == bl.length && lsSame al bl)) := hide rfl
  go_enter Tryz.func101, Tryz.ntmps101
  by_cases h1 : ai = bi
  case neg =>
    have d1 : ((ai : Int) != (bi : Int)) = true := by simp; omega
    have hq : Hid (sameOf ⟨ai, ad, am, al, aa, ac⟩ ⟨bi, bd, bm, bl, ba, bc⟩ = false) := hide (by rw [hsame.out]; simp [h1])
    clear h1 hsame
    go_wp2
    go_ret
    exact ⟨by rw [hq.out]; rfl, hT0.out.bel⟩
  have d1 : ((ai : Int) != (bi : Int)) = false := by simp; omega
  by_cases h2 : ad = bd
  case neg =>
    have d2 : ((ad : Int) != (bd : Int)) = true := by simp; omega
    have hq : Hid (sameOf ⟨ai, ad, am, al, aa, ac⟩ ⟨bi, bd, bm, bl, ba, bc⟩ = false) := hide (by rw [hsame.out]; simp [h2])
    clear h1 h2 hsame
    go_wp2
    go_ret
    exact ⟨by rw [hq.out]; rfl, hT0.out.bel⟩
  have d2 : ((ad : Int) != (bd : Int)) = false := by simp; omega
  by_cases h3 : am = bm
  case neg =>
    have d3 : ((bs am).toList == (bs bm).toList) = false := by rw [bs_same]; simpa using h3
    have d3' : ((bs am).toList != (bs bm).toList) = true := by rw [bne, d3]; rfl
    have hq : Hid (sameOf ⟨ai, ad, am, al, aa, ac⟩ ⟨bi, bd, bm, bl, ba, bc⟩ = false) := hide (by rw [hsame.out]; simp [h3])
    clear h1 h2 h3 hsame
    go_wp2
    go_ret
    exact ⟨by rw [hq.out]; rfl, hT0.out.bel⟩
  have d3 : ((bs am).toList == (bs bm).toList) = true := by rw [bs_same]; simpa using h3
  have d3' : ((bs am).toList != (bs bm).toList) = false := by rw [bne, d3]; rfl
  by_cases h4 : al.length = bl.length
  case neg =>
    have d4 : ((al.length : Int) != (bl.length : Int)) = true := by simp; omega
    have hq : Hid (sameOf ⟨ai, ad, am, al, aa, ac⟩ ⟨bi, bd, bm, bl, ba, bc⟩ = false) := hide (by rw [hsame.out]; simp [h4])
    clear h1 h2 h3 h4 hsame
    go_wp2
    go_ret
    exact ⟨by rw [hq.out]; rfl, hT0.out.bel⟩
  have d4 : ((al.length : Int) != (bl.length : Int)) = false := by simp; omega
  have hq : Hid (sameOf ⟨ai, ad, am, al, aa, ac⟩ ⟨bi, bd, bm, bl, ba, bc⟩ = lsSame al bl) := hide (by rw [hsame.out]; simp [h1, h2, h3, h4])
  clear h1 h2 h3 hsame
  replace h4 := hide h4
  go_wp2
  go_loopw [5] (fun c u => ∃ k : Nat, k ≤ al.length ∧ c = .int .i64 k ∧ lsSame (al.take k) (bl.take k) = true ∧ TwoP w ⟨ai, ad, am, al, aa, ac⟩ ⟨bi, bd, bm, bl, ba, bc⟩ u) (fun c _ => al.length - (intOf c).toNat)
  case atStart => exact ⟨0, Nat.zero_le _, rfl, rfl, hT0.out⟩
  case round =>
    clear hT0 d1 d2 d3 d3' d4
    obtain ⟨k, hk, rfl, he, hT⟩ := hrel
    have hA' := hide (hA.below hT.bel)
    have hB' := hide (hB.below hT.bel)
    have hca : ∀ o, wr.cell? ⟨w.heap.size, o, none⟩ = (#[.int .u32 (ai : Int), .int .u64 (ad : Int), .string (bs am), .slice aa al.length ac] : Array Value)[o]? := fun o => cell_at hT.one o
    have hcb : ∀ o, wr.cell? ⟨w.heap.size + 1, o, none⟩ = (#[.int .u32 (bi : Int), .int .u64 (bd : Int), .string (bs bm), .slice ba bl.length bc] : Array Value)[o]? := fun o => cell_at hT.two o
    have hl1 := block_lt hT.one
    have hl2 := block_lt hT.two
    replace hT := hide hT
    by_cases hlt : k < al.length
    · have hlt2 : k < bl.length := by have := h4.out; omega
      obtain ⟨ga, hg, hgl, hcell⟩ := hA'.out k hlt
      subst hg
      have hra : ∀ j v, al[k].cells[j]? = some v → wr.cell? ((ga.add (k * 4)).add j) = some v := hcell
      clear hcell
      obtain ⟨ad', cap', hv', hev'⟩ := hB'.out.form Pl.cells_length
      obtain ⟨f, hf, hcell, _⟩ := hev' k hlt2
      have ead : ba = ad' := by injection hv'
      subst ead
      subst hf
      have hfl : f < wr.heap.size := hB'.out.lt rfl
      have b0 := hcell 0 (by decide)
      have b1 := hcell 1 (by decide)
      have b2 := hcell 2 (by decide)
      have b3 := hcell 3 (by decide)
      clear hcell hev' hv'
      have hoa := hao al[k] (List.getElem_mem hlt)
      have hob := hbo bl[k] (List.getElem_mem hlt2)
      have hat := hide (lsSame_at k hlt hlt2 he)
      have hnx := hide (lsSame_next k hlt hlt2 he)
      clear hao hbo hA hB hA' hB' he
      generalize al[k] = E at *
      generalize bl[k] = F at *
      obtain ⟨xb, xp, xg, xa⟩ := E
      obtain ⟨yb, yp, yg, ya⟩ := F
      obtain ⟨hxb, hxp, hxg, hxa⟩ := hoa
      obtain ⟨hyb, hyp, hyg, hya⟩ := hob
      simp only [Pl.cells, List.getElem?_cons_zero, List.getElem?_cons_succ, Nat.add_zero] at hra b0 b1 b2 b3
      simp only at hxb hxp hxg hxa hyb hyp hyg hya
      replace hra := hide hra
      go_wp2_with (first | (with_reducible refine stopLd 54 ?_))
      refine hide ?_
      refine longAt (by rfl) 54 _ (by rfl) (ga.add (k * 4)) (by rfl) [.int .u8 (xb : Int), .int .u16 (xp : Int), .int .u16 (xg : Int), .int .u32 (xa : Int)] _ hra.out Tryz.underlying54 plSize ?_
      clear hra
      by_cases e0 : xb = yb
      case neg =>
        have q0 : ((xb : Int) != (yb : Int)) = true := by simp; omega
        have hq2 := hide (hq.out.trans (hat.out (by simp [plSame, e0])))
        clear hat hnx hq e0 h4
        go_wp2
        go_ret
        refine ⟨by rw [hq2.out]; rfl, hT.out.bel.trans (Below.mono ?_ hT.out.bel.size)⟩
        repeat' (first | exact Below.refl _ _ | refine Below.setCell ?_ (by simp) _ | refine Below.alloc ?_ (by simp) _)
      have q0 : ((xb : Int) != (yb : Int)) = false := by simp; omega
      by_cases e1 : xp = yp
      case neg =>
        have q1 : ((xp : Int) != (yp : Int)) = true := by simp; omega
        have hq2 := hide (hq.out.trans (hat.out (by simp [plSame, e1])))
        clear hat hnx hq e1 h4 e0
        go_wp2
        go_ret
        refine ⟨by rw [hq2.out]; rfl, hT.out.bel.trans (Below.mono ?_ hT.out.bel.size)⟩
        repeat' (first | exact Below.refl _ _ | refine Below.setCell ?_ (by simp) _ | refine Below.alloc ?_ (by simp) _)
      have q1 : ((xp : Int) != (yp : Int)) = false := by simp; omega
      by_cases e2 : xg = yg
      case neg =>
        have q2 : ((xg : Int) != (yg : Int)) = true := by simp; omega
        have hq2 := hide (hq.out.trans (hat.out (by simp [plSame, e2])))
        clear hat hnx hq e2 h4 e0 e1
        go_wp2
        go_ret
        refine ⟨by rw [hq2.out]; rfl, hT.out.bel.trans (Below.mono ?_ hT.out.bel.size)⟩
        repeat' (first | exact Below.refl _ _ | refine Below.setCell ?_ (by simp) _ | refine Below.alloc ?_ (by simp) _)
      have q2 : ((xg : Int) != (yg : Int)) = false := by simp; omega
      by_cases e3 : xa = ya
      case neg =>
        have q3 : ((xa : Int) != (ya : Int)) = true := by simp; omega
        have hq2 := hide (hq.out.trans (hat.out (by simp [plSame, e3])))
        clear hat hnx hq e3 h4 e0 e1 e2
        go_wp2
        go_ret
        refine ⟨by rw [hq2.out]; rfl, hT.out.bel.trans (Below.mono ?_ hT.out.bel.size)⟩
        repeat' (first | exact Below.refl _ _ | refine Below.setCell ?_ (by simp) _ | refine Below.alloc ?_ (by simp) _)
      have q3 : ((xa : Int) != (ya : Int)) = false := by simp; omega
      have hq2 := hide (hnx.out (by simp [plSame, e0, e1, e2, e3]))
      clear hat hnx h4 e0 e1 e2 e3
      go_wp2
      refine ⟨⟨k + 1, hlt, by go_num, hq2.out, hT.out.below ?_⟩, by simp [intOf]; omega⟩
      repeat' (first | exact Below.refl _ _ | refine Below.setCell ?_ (by simp) _ | refine Below.alloc ?_ (by simp) _)
    · obtain rfl : k = al.length := by omega
      rw [List.take_length, h4.out, List.take_length] at he
      go_wp2
      go_ret
      exact ⟨by rw [hq.out, he]; rfl, hT.out.bel⟩
end Go.Proofs.YtjkhbjgfoopomaaGreat
/-
  The document's Submit, where it answers an error.
-/
namespace Go.Proofs.YtjkhbjgfoopomaaGreat
open Go.RowKit
set_option linter.unusedVariables false
set_option linter.unusedSimpArgs false
theorem findFold_mem (id : Nat) (acts : List Dt) : ∀ s : Pm × Bool × Nat, (acts.foldl (findStep id) s).2.1 = true → (s.2.1 = true ∧ (acts.foldl (findStep id) s).1 = s.1) ∨ ∃ x, x ∈ acts ∧ x.kind = -1 ∧ x.pay.id = id ∧ (acts.foldl (findStep id) s).1 = x.pay := by
  induction acts with
  | nil => intro s h; exact .inl ⟨h, rfl⟩
  | cons x r ih =>
    intro s h
    simp only [List.foldl_cons] at h ⊢
    rcases ih (findStep id s x) h with ⟨h1, h2⟩ | ⟨y, hy, h1, h2, h3⟩
    · by_cases hk : x.kind = -1
      · by_cases hi : x.pay.id = id
        · exact .inr ⟨x, by simp, hk, hi, by rw [h2]; simp [findStep, hk, hi]⟩
        · left
          simp only [findStep, hk, hi, if_true, if_false] at h1 h2 ⊢
          exact ⟨h1, h2⟩
      · left
        simp only [findStep, hk, if_false] at h1 h2 ⊢
        exact ⟨h1, h2⟩
    · exact .inr ⟨y, by simp [hy], h1, h2, h3⟩
theorem findOf_mem {id : Nat} {acts : List Dt} (h : (findOf id acts).2.1 = true) : ∃ x, x ∈ acts ∧ x.kind = -1 ∧ x.pay.id = id ∧ (findOf id acts).1 = x.pay := by
  rcases findFold_mem id acts (noPm, false, 0) h with ⟨h1, _⟩ | h1
  · simp at h1
  · exact h1
/-- P9: the error of Submit -/
def subErr (p : Pm) (acts : List Dt) : Nat :=
  if wrongOf p = 0 then (if (findOf p.id acts).2.1 then (if sameOf p (findOf p.id acts).1 then 0 else 11) else if p.dl ≤ clockOf acts then 12 else if 32 ≤ (findOf p.id acts).2.2 then 10 else 0) else wrongOf p
/-- the payments that are kept are none too large -/
def PayOk (x : Dt) : Prop := x.pay.legs.length ≤ 4 ∧ x.pay.memo.length ≤ 1000
theorem wrongOf_few {p : Pm} (h : wrongOf p = 0) : p.legs.length ≤ 4 := by
  unfold wrongOf at h
  split at h
  · omega
  · omega

set_option maxRecDepth 100000 in
set_option maxHeartbeats 1000000 in
theorem submit_wrong (p : Pm) (hp : p.ok) (hm : p.memo.length ≤ 140737488351232) (hll : p.legs.length ≤ 11728124029269) (w : World) (B : Nat) (hL : LegsAt w p.la p.legs) (hw : wrongOf p ≠ 0) :
    Calls Tryz.prog 70 #[.pointer (some ⟨B, 0, none⟩), p.v] w fun e w' => e = .returned (.tuple #[.slice none 0 0, .int .i64 (wrongOf p : Int)]) ∧ Below w.heap.size w w' := by
  have hW := hide (fun u hu => wrong_any p hp hm hll u hu)
  generalize wrongOf p = E at *
  obtain ⟨pi, pd, pm, pl, pa, pc⟩ := p
  simp only [Pm.v, Pm.lv] at *
  have hB0 : Hid (Below w.heap.size w (w.alloc (.cells #[.int .u32 (pi : Int), .int .u64 (pd : Int), .string (bs pm), .slice pa pl.length pc] 44))) := hide ((Below.refl _ _).alloc (Nat.le_refl _) _)
  have d1 : ((E : Int) != 0) = true := by simp; omega
  go_enter Tryz.func70, Tryz.ntmps70
  go_wp2_with fail
  refine (hW.out _ (hL.below hB0.out)).mono ?_
  rintro e w2 ⟨rfl, hb2⟩
  have hB2 := hide (hB0.out.trans (hb2.mono hB0.out.size))
  clear hb2 hW
  go_wp2
  go_ret2
  exact ⟨rfl, hB2.out⟩
set_option maxRecDepth 100000 in
set_option maxHeartbeats 1000000 in
theorem submit_late (p : Pm) (hp : p.ok) (hm : p.memo.length ≤ 140737488351232) (w : World) (B : Nat) (acts : List Dt) (v : Value) (hR : RD w B acts v) (hok : ∀ x, x ∈ acts → x.ok) (hlen : acts.length ≤ 1000000000000) (hL : LegsAt w p.la p.legs) (hw : wrongOf p = 0) (hf : (findOf p.id acts).2.1 = false) (hd : p.dl ≤ clockOf acts ∨ 32 ≤ (findOf p.id acts).2.2) :
    Calls Tryz.prog 70 #[.pointer (some ⟨B, 0, none⟩), p.v] w fun e w' => e = .returned (.tuple #[.slice none 0 0, .int .i64 (subErr p acts : Int)]) ∧ Below w.heap.size w w' := by
  have hW := hide (fun u hu => wrong_any p hp hm (by have := wrongOf_few hw; omega) u hu)
  have hF := hide (fun u hu => find_pay p.id hp.1 u B acts v hu hok hlen)
  have hC := hide (fun u hu => clock_any u B acts v hu hok hlen)
  have hE : Hid (subErr p acts = if p.dl ≤ clockOf acts then 12 else if 32 ≤ (findOf p.id acts).2.2 then 10 else 0) := hide (by simp [subErr, hw, hf])
  have hfl := findOf_le p.id acts
  have hcl := clockOf_le acts
  rw [hw] at hW
  generalize findOf p.id acts = S at *
  generalize clockOf acts = ck at *
  generalize subErr p acts = E at *
  obtain ⟨⟨qi, qd, qm, ql, qa, qc⟩, s2, s3⟩ := S
  simp only at hf hd hfl hE
  subst hf
  obtain ⟨pi, pd, pm, pl, pa, pc⟩ := p
  obtain ⟨hpi, hpd, hpo⟩ := hp
  simp only [Pm.v, Pm.lv] at *
  have hB0 : Hid (Below w.heap.size w (w.alloc (.cells #[.int .u32 (pi : Int), .int .u64 (pd : Int), .string (bs pm), .slice pa pl.length pc] 44))) := hide ((Below.refl _ _).alloc (Nat.le_refl _) _)
  have hp0 : Hid ((w.alloc (.cells #[.int .u32 (pi : Int), .int .u64 (pd : Int), .string (bs pm), .slice pa pl.length pc] 44)).heap[w.heap.size]? = some (.cells #[.int .u32 (pi : Int), .int .u64 (pd : Int), .string (bs pm), .slice pa pl.length pc] 44 (0, 0))) := hide (heap_alloc_self _ _)
  go_enter Tryz.func70, Tryz.ntmps70
  go_wp2_with fail
  refine (hW.out _ (hL.below hB0.out)).mono ?_
  rintro e w2 ⟨rfl, hb2⟩
  have hB2 := hide (hB0.out.trans (hb2.mono hB0.out.size))
  have hp2 : Hid (w2.heap[w.heap.size]? = some (.cells #[.int .u32 (pi : Int), .int .u64 (pd : Int), .string (bs pm), .slice pa pl.length pc] 44 (0, 0))) := hide (by rw [hb2.block _ (by simp)]; exact hp0.out)
  have hc2 : ∀ o, w2.cell? ⟨w.heap.size, o, none⟩ = (#[.int .u32 (pi : Int), .int .u64 (pd : Int), .string (bs pm), .slice pa pl.length pc] : Array Value)[o]? := fun o => cell_at hp2.out o
  have hl2 := block_lt hp2.out
  clear hb2 hW hp0
  go_wp2_with fail
  refine (hF.out _ (hR.below hB2.out)).mono ?_
  rintro e w3 ⟨rfl, hb3⟩
  have hB3 := hide (hB2.out.trans (hb3.mono hB2.out.size))
  have hp3 : Hid (w3.heap[w.heap.size]? = some (.cells #[.int .u32 (pi : Int), .int .u64 (pd : Int), .string (bs pm), .slice pa pl.length pc] 44 (0, 0))) := hide (by rw [hb3.block _ hl2]; exact hp2.out)
  have hc3 : ∀ o, w3.cell? ⟨w.heap.size, o, none⟩ = (#[.int .u32 (pi : Int), .int .u64 (pd : Int), .string (bs pm), .slice pa pl.length pc] : Array Value)[o]? := fun o => cell_at hp3.out o
  have hl3 := block_lt hp3.out
  clear hb3 hF hp2 hc2 hl2
  go_wp2_with fail
  refine (hC.out _ ((hR.below hB3.out).below ((Below.refl _ _).alloc (Nat.le_refl _) _))).mono ?_
  rintro e w4 ⟨rfl, rfl⟩
  have hB4 : Hid (Below w.heap.size w (w3.alloc (.cells #[.int .u32 (qi : Int), .int .u64 (qd : Int), .string (bs qm), .slice qa ql.length qc] 44))) := hide (hB3.out.alloc hB3.out.size _)
  clear hC
  by_cases h1 : pd ≤ ck
  · have d1 : decide ((pd : Int) ≤ (ck : Int)) = true := by simp; omega
    have hq : Hid (E = 12) := hide (by rw [hE.out]; simp [h1])
    clear hE hd
    go_wp2
    go_ret2
    exact ⟨by rw [hq.out]; rfl, hB4.out⟩
  · have d1 : decide ((pd : Int) ≤ (ck : Int)) = false := by simp; omega
    have d2 : decide ((s3 : Int) ≥ 32) = true := by simp; omega
    have hq : Hid (E = 10) := hide (by rw [hE.out]; simp only [if_neg h1, if_pos (show 32 ≤ s3 by omega)])
    have h2 : (32 : Int) ≤ (s3 : Int) := by omega
    clear hE hd
    go_wp2
    go_ret2
    exact ⟨by rw [hq.out]; rfl, hB4.out⟩
end Go.Proofs.YtjkhbjgfoopomaaGreat
