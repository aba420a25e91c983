import Derived.Test.YtjkhbjgfoopomaaA9
import Derived.Test.YtjkhbjgfoopomaaA8
import Derived.Test.YtjkhbjgfoopomaaA10
import Derived.Test.YtjkhbjgfoopomaaA1
/-
  The program's notary: isSame, copyOf.
-/
namespace Go.Proofs.Ytjkhbjgfoopomaa
open Go.RowKit
set_option linter.unusedVariables false
set_option linter.unusedSimpArgs false
set_option maxRecDepth 100000 in
/-- legs are laid behind an empty row -/
theorem wpList_legs0 {ops : Array Oper} {rest : List Oper} {o : Oper} {a : Act} {w : World} {Q : Exit → Act → World → Prop} (hgd : o.guard = none) (s x : Operand)
    (ho : o.op = .call { callee := .builtin .append, args := #[s, x], argTypes := #[50, 50] }) (v : Value) (hs : a.eval s = v) (hv : RowOf w 57 4 Pl.cells v []) (la : Option Addr) (legs : List Pl) (c : Nat) (hx : a.eval x = .slice la legs.length c) (hL : LegsAt w la legs) (h0 : 0 < legs.length) (hlen : legs.length ≤ 1000000)
    (h : ∀ g cap w', RowOf w' 57 4 Pl.cells (.slice (some ⟨g, 0, none⟩) legs.length cap) legs → Kept (fun k => v.ownBlock = some k) w w' → (v.ownBlock = some g ∨ w.heap.size ≤ g) → g < w'.heap.size → wpList Try.prog ops Q rest (a.put o.dst (.slice (some ⟨g, 0, none⟩) legs.length cap)) w') : wpList Try.prog ops Q (o :: rest) a w := by
  obtain ⟨i0, hi, y0, y1, y2⟩ := info_parts plInfo
  obtain ⟨ad, e, _, _⟩ := hL 0 h0
  subst e
  refine wpList_append_lies w hgd s x 50 ho 0 57 i0 _ 4 12 Try.underlying50 hi y0 y1 y2 rfl (by decide) v 0 [] hs hv ad legs.length c (legs.flatMap Pl.cells) hx (flat_length Pl.cells_length legs) ?_ ?_ h0 (by unfold maxLen; omega) (by omega) (Nat.zero_le _) _ rfl ?_
  · intro j u hu
    have hjl := (List.getElem?_eq_some_iff.1 hu).1
    rw [flat_length Pl.cells_length] at hjl
    have hk : j / 4 < legs.length := by omega
    have e : j = (j / 4) * 4 + j % 4 := by omega
    rw [e, flat_get Pl.cells_length legs (j / 4) (j % 4) hk (by omega)] at hu
    obtain ⟨a', e', _, hc⟩ := hL (j / 4) hk
    injection e' with e'
    subst e'
    have := hc (j % 4) u hu
    rw [addr_add, ← e] at this
    exact this
  · intro u hu
    obtain ⟨y, _, hy⟩ := List.mem_flatMap.1 hu
    exact pl_each y u hy
  · intro g cap w' hown hgrow hat hlt
    rw [Nat.zero_add] at hown
    rw [Nat.zero_add]
    exact h g cap w' (RowOf.to (xs := ([] : List Pl)) Pl.cells_length (ys := legs) hown (by simp) rfl) (Kept.of_grown hgrow) (hat.imp_right (fun e => by omega)) hlt
set_option maxRecDepth 100000 in
set_option maxHeartbeats 1000000 in
theorem copyOf_any (p : Pm) (hp : p.ok) (hm : p.memo.length ≤ 1000) (h0 : 0 < p.legs.length) (h4 : p.legs.length ≤ 4) (w : World) (hR : LegsAt w p.la p.legs) :
    Calls Try.prog 76 #[p.v] w fun e w' => (∃ g lc, e = .returned (⟨p.id, p.dl, p.memo, p.legs, some ⟨g, 0, none⟩, lc⟩ : Pm).v ∧ w.heap.size ≤ g ∧ RowOf w' 57 4 Pl.cells (.slice (some ⟨g, 0, none⟩) p.legs.length lc) p.legs) ∧ Below w.heap.size w w' := by
  obtain ⟨pi, pd, pm, pl, pa, pc⟩ := p
  obtain ⟨hpi, hpd, hpl⟩ := hp
  simp only [Pm.v, Pm.lv] at *
  obtain ⟨W, cap, h1, h2, h3, h5, h6⟩ := bytes_laid2 ((w.alloc (.cells #[.int .u32 (pi : Int), .int .u64 (pd : Int), .string (bs pm), .slice pa pl.length pc] 70)).alloc (.cells #[.int .u32 0, .int .u64 0, .string ⟨#[]⟩, .slice none 0 0] 70)) pm
  have h1' := h1 _ rfl
  have hN : ((w.alloc (.cells #[.int .u32 (pi : Int), .int .u64 (pd : Int), .string (bs pm), .slice pa pl.length pc] 70)).alloc (.cells #[.int .u32 0, .int .u64 0, .string ⟨#[]⟩, .slice none 0 0] 70)).heap.size = w.heap.size + 1 + 1 := by simp
  have B2 : W.heap[w.heap.size]? = some (.cells #[.int .u32 (pi : Int), .int .u64 (pd : Int), .string (bs pm), .slice pa pl.length pc] 70 (0, 0)) := by
    rw [h2.block _ (by rw [hN]; omega), Below.heap_alloc _ _ _ (by simp)]
    exact heap_alloc_self _ _
  have B3 : W.heap[w.heap.size + 1]? = some (.cells #[.int .u32 0, .int .u64 0, .string ⟨#[]⟩, .slice none 0 0] 70 (0, 0)) := by
    rw [h2.block _ (by rw [hN]; omega)]
    have e : w.heap.size + 1 = (w.alloc (.cells #[.int .u32 (pi : Int), .int .u64 (pd : Int), .string (bs pm), .slice pa pl.length pc] 70)).heap.size := by simp
    rw [e]
    exact heap_alloc_self _ _
  have hbel : Below w.heap.size w W := (((Below.refl _ _).alloc (Nat.le_refl _) _).alloc (by simp) _).trans (h2.mono (by rw [hN]; omega))
  rw [hN] at h1' h3 h5
  have hc2 : ∀ o, W.cell? ⟨w.heap.size, o, none⟩ = (#[.int .u32 (pi : Int), .int .u64 (pd : Int), .string (bs pm), .slice pa pl.length pc] : Array Value)[o]? := fun o => cell_at B2 o
  have hl2 := block_lt B2
  have hvoid : Below W.heap.size W (W.alloc (.cells #[] 57)) := (Below.refl _ _).alloc (Nat.le_refl _) _
  have hLA := hide ((hR.below hbel).below hvoid)
  have hRV := RowOf.void (f := Pl.cells) (sz := 4) W 57
  rw [h3] at hRV
  replace hRV := hide hRV
  replace B2 := hide B2
  replace B3 := hide B3
  replace h5 := hide h5
  replace hbel := hide hbel
  clear h1 h2 h6 hN
  go_enter Try.func76, Try.ntmps76
  go_wp2_with (first | (at_builtin; refine stopAt2 ?_))
  refine hide ?_
  refine wpList_legs0 (by rfl) _ _ (by rfl) _ (by rfl) hRV.out pa pl pc (by rfl) hLA.out h0 (by omega) ?_
  intro gL cL w6 hrL hk6 hg6 hlt6
  have hown : ∀ k, (Value.slice (some ⟨w.heap.size + 1 + 1 + 1, 0, none⟩) 0 0).ownBlock = some k → k = w.heap.size + 1 + 1 + 1 := fun k hk => by
    have : w.heap.size + 1 + 1 + 1 = k := by simpa [Value.ownBlock] using hk
    omega
  have hkW : Kept (fun k => k = w.heap.size + 1 + 1 + 1) W w6 := (Kept.of_below hvoid).trans (hk6.mono (fun i _ h => hown i h)) (fun i h => .inl h)
  have B26 : w6.heap[w.heap.size]? = some (.cells #[.int .u32 (pi : Int), .int .u64 (pd : Int), .string (bs pm), .slice pa pl.length pc] 70 (0, 0)) := by rw [hkW.block _ (by omega) (by omega)]; exact B2.out
  have B36 : w6.heap[w.heap.size + 1]? = some (.cells #[.int .u32 0, .int .u64 0, .string ⟨#[]⟩, .slice none 0 0] 70 (0, 0)) := by rw [hkW.block _ (by omega) (by omega)]; exact B3.out
  have h6 := bytes_read w6 (w.heap.size + 1 + 1) cap pm (fun j hj => (hkW.cell (p := ⟨w.heap.size + 1 + 1, j, none⟩) (by show w.heap.size + 1 + 1 < W.heap.size; omega) (by show ¬ w.heap.size + 1 + 1 = _; omega)).trans (h5.out j hj))
  have hgL : w.heap.size ≤ gL := by
    rcases hg6 with h | h
    · have := hown _ h; omega
    · have : W.heap.size ≤ gL := Nat.le_trans hvoid.size h
      omega
  have hgL3 : gL ≠ w.heap.size + 1 := by
    rcases hg6 with h | h
    · have := hown _ h; omega
    · have : W.heap.size ≤ gL := Nat.le_trans hvoid.size h
      omega
  have hb6 : Below w.heap.size w w6 := hbel.out.trans (hkW.below hbel.out.size (fun k e => by omega))
  have hc6 : ∀ o, w6.cell? ⟨w.heap.size, o, none⟩ = (#[.int .u32 (pi : Int), .int .u64 (pd : Int), .string (bs pm), .slice pa pl.length pc] : Array Value)[o]? := fun o => cell_at B26 o
  have hc3 : ∀ o, w6.cell? ⟨w.heap.size + 1, o, none⟩ = (#[.int .u32 0, .int .u64 0, .string ⟨#[]⟩, .slice none 0 0] : Array Value)[o]? := fun o => cell_at B36 o
  have hf3 : ∀ o, w6.frozen? ⟨w.heap.size + 1, o, none⟩ = false := fun o => frozen_at B36 o
  have hl3 := block_lt B36
  have hl26 := block_lt B26
  have hP := putL_whole [.int .u32 (pi : Int), .int .u64 (pd : Int), .string (bs pm), .slice (some ⟨gL, 0, none⟩) pl.length cL] B36 rfl
  have hkp := putL_kept [.int .u32 (pi : Int), .int .u64 (pd : Int), .string (bs pm), .slice (some ⟨gL, 0, none⟩) pl.length cL] w6 (w.heap.size + 1) 0
  have hB := hb6.trans (hkp.below hb6.size (fun k e => by omega))
  have hrL2 := hrL.kept hkp (fun k hk e => hgL3 (by
    have h1 : gL = k := by simpa [Value.ownBlock] using hk
    have h2 : k = w.heap.size + 1 := e
    omega))
  clear hLA hRV h5 B2 B3 hk6 hg6 hkW hc2 hbel hrL B26 B36 h1' hvoid
  replace hB := hide hB
  replace hrL2 := hide hrL2
  replace hP := hide hP
  replace hb6 := hide hb6
  go_wp2_with fail
  have hq := fun o => cell_at hP.out o
  have hB9 := hB.out
  have hr9 := hrL2.out
  simp only [putL] at hq hB9 hr9
  generalize World.setCell _ _ _ = u at *
  exact bodyPost_ret (v := .agg #[.int .u32 (pi : Int), .int .u64 (pd : Int), .string (bs pm), .slice (some ⟨gL, 0, none⟩) pl.length cL]) (by simp [results, Try.results76, go_sem, hq]) rfl ⟨⟨gL, cL, rfl, hgL, hr9⟩, hB9⟩
set_option maxRecDepth 100000 in
set_option maxHeartbeats 1000000 in
theorem isSame_any (a b : Pm) (ha : a.ok) (hb : b.ok) (hal : a.legs.length ≤ 4) (w : World) (hA : RowOf w 57 4 Pl.cells a.lv a.legs) (hB : RowOf w 57 4 Pl.cells b.lv b.legs) (hbl : b.legs.length ≤ 11728124029269) :
    Calls Try.prog 74 #[a.v, b.v] w fun e w' => e = .returned (.bool (sameOf a b)) ∧ Below w.heap.size w w' := by
  have hT0 := hide (TwoP.mk2 w a b)
  obtain ⟨ai, ad, am, al, aa, ac⟩ := a
  obtain ⟨bi, bd, bm, bl, ba, bc⟩ := b
  obtain ⟨hai, had, hao⟩ := ha
  obtain ⟨hbi, hbd, hbo⟩ := hb
  simp only [Pm.v, Pm.lv] at *
  have hsame : Hid (sameOf ⟨ai, ad, am, al, aa, ac⟩ ⟨bi, bd, bm, bl, ba, bc⟩ = (ai == bi && ad == bd && am == bm && al.length == bl.length && lsSame al bl)) := hide rfl
  go_enter Try.func74, Try.ntmps74
  by_cases h1 : ai = bi
  case neg =>
    have d1 : ((ai : Int) != (bi : Int)) = true := by simp; omega
    have hq : Hid (sameOf ⟨ai, ad, am, al, aa, ac⟩ ⟨bi, bd, bm, bl, ba, bc⟩ = false) := hide (by rw [hsame.out]; simp [h1])
    clear h1 hsame
    go_wp2
    go_ret
    exact ⟨by rw [hq.out]; rfl, hT0.out.bel⟩
  have d1 : ((ai : Int) != (bi : Int)) = false := by simp; omega
  by_cases h2 : ad = bd
  case neg =>
    have d2 : ((ad : Int) != (bd : Int)) = true := by simp; omega
    have hq : Hid (sameOf ⟨ai, ad, am, al, aa, ac⟩ ⟨bi, bd, bm, bl, ba, bc⟩ = false) := hide (by rw [hsame.out]; simp [h2])
    clear h1 h2 hsame
    go_wp2
    go_ret
    exact ⟨by rw [hq.out]; rfl, hT0.out.bel⟩
  have d2 : ((ad : Int) != (bd : Int)) = false := by simp; omega
  by_cases h3 : am = bm
  case neg =>
    have d3 : ((bs am).toList == (bs bm).toList) = false := by rw [bs_same]; simpa using h3
    have d3' : ((bs am).toList != (bs bm).toList) = true := by rw [bne, d3]; rfl
    have hq : Hid (sameOf ⟨ai, ad, am, al, aa, ac⟩ ⟨bi, bd, bm, bl, ba, bc⟩ = false) := hide (by rw [hsame.out]; simp [h3])
    clear h1 h2 h3 hsame
    go_wp2
    go_ret
    exact ⟨by rw [hq.out]; rfl, hT0.out.bel⟩
  have d3 : ((bs am).toList == (bs bm).toList) = true := by rw [bs_same]; simpa using h3
  have d3' : ((bs am).toList != (bs bm).toList) = false := by rw [bne, d3]; rfl
  by_cases h4 : al.length = bl.length
  case neg =>
    have d4 : ((al.length : Int) != (bl.length : Int)) = true := by simp; omega
    have hq : Hid (sameOf ⟨ai, ad, am, al, aa, ac⟩ ⟨bi, bd, bm, bl, ba, bc⟩ = false) := hide (by rw [hsame.out]; simp [h4])
    clear h1 h2 h3 h4 hsame
    go_wp2
    go_ret
    exact ⟨by rw [hq.out]; rfl, hT0.out.bel⟩
  have d4 : ((al.length : Int) != (bl.length : Int)) = false := by simp; omega
  have hq : Hid (sameOf ⟨ai, ad, am, al, aa, ac⟩ ⟨bi, bd, bm, bl, ba, bc⟩ = lsSame al bl) := hide (by rw [hsame.out]; simp [h1, h2, h3, h4])
  clear h1 h2 h3 hsame
  replace h4 := hide h4
  go_wp2
  go_loopw [35] (fun c u => ∃ k : Nat, k ≤ al.length ∧ c = .int .i64 k ∧ lsSame (al.take k) (bl.take k) = true ∧ TwoP w ⟨ai, ad, am, al, aa, ac⟩ ⟨bi, bd, bm, bl, ba, bc⟩ u) (fun c _ => al.length - (intOf c).toNat)
  case atStart => exact ⟨0, Nat.zero_le _, rfl, rfl, hT0.out⟩
  case round =>
    clear hT0 d1 d2 d3 d3' d4
    obtain ⟨k, hk, rfl, he, hT⟩ := hrel
    have hA' := hide (hA.below hT.bel)
    have hB' := hide (hB.below hT.bel)
    have hca : ∀ o, wr.cell? ⟨w.heap.size, o, none⟩ = (#[.int .u32 (ai : Int), .int .u64 (ad : Int), .string (bs am), .slice aa al.length ac] : Array Value)[o]? := fun o => cell_at hT.one o
    have hcb : ∀ o, wr.cell? ⟨w.heap.size + 1, o, none⟩ = (#[.int .u32 (bi : Int), .int .u64 (bd : Int), .string (bs bm), .slice ba bl.length bc] : Array Value)[o]? := fun o => cell_at hT.two o
    have hl1 := block_lt hT.one
    have hl2 := block_lt hT.two
    replace hT := hide hT
    by_cases hlt : k < al.length
    · have hlt2 : k < bl.length := by have := h4.out; omega
      have hlk : (k : Int) < (al.length : Int) := by omega
      have hlk2 : (k : Int) < (bl.length : Int) := by omega
      have dl : decide ((k : Int) < (al.length : Int)) = true := by simp; omega
      obtain ⟨ad', cap', hv', hev'⟩ := hA'.out.form Pl.cells_length
      obtain ⟨g, hg, hcell, _⟩ := hev' k hlt
      have ead : aa = ad' := by injection hv'
      subst ead
      subst hg
      have hgl : g < wr.heap.size := hA'.out.lt rfl
      have a0 := hcell 0 (by decide)
      have a1 := hcell 1 (by decide)
      have a2 := hcell 2 (by decide)
      have a3 := hcell 3 (by decide)
      clear hcell hev' hv'
      obtain ⟨ad', cap', hv', hev'⟩ := hB'.out.form Pl.cells_length
      obtain ⟨f, hf, hcell, _⟩ := hev' k hlt2
      have ead : ba = ad' := by injection hv'
      subst ead
      subst hf
      have hfl : f < wr.heap.size := hB'.out.lt rfl
      have b0 := hcell 0 (by decide)
      have b1 := hcell 1 (by decide)
      have b2 := hcell 2 (by decide)
      have b3 := hcell 3 (by decide)
      clear hcell hev' hv'
      have hoa := hao al[k] (List.getElem_mem hlt)
      have hob := hbo bl[k] (List.getElem_mem hlt2)
      have hat := hide (lsSame_at k hlt hlt2 he)
      have hnx := hide (lsSame_next k hlt hlt2 he)
      clear hao hbo hA hB hA' hB' he
      generalize al[k] = E at *
      generalize bl[k] = F at *
      obtain ⟨xb, xp, xg, xa⟩ := E
      obtain ⟨yb, yp, yg, ya⟩ := F
      simp only [Pl.cells, List.getElem?_cons_zero, List.getElem?_cons_succ, Nat.add_zero] at a0 a1 a2 a3 b0 b1 b2 b3
      by_cases e0 : xb = yb
      case neg =>
        have q0 : ((xb : Int) == (yb : Int)) = false := by simp; omega
        have hq2 := hide (hq.out.trans (hat.out (by simp [plSame, e0])))
        clear hat hnx hq e0 h4
        go_wp2_with fail
        go_quiet (fail)
        go_wp2
        go_ret
        exact ⟨by rw [hq2.out]; rfl, hT.out.bel.drewN _⟩
      have q0 : ((xb : Int) == (yb : Int)) = true := by simp; omega
      by_cases e1 : xp = yp
      case neg =>
        have q1 : ((xp : Int) == (yp : Int)) = false := by simp; omega
        have hq2 := hide (hq.out.trans (hat.out (by simp [plSame, e1])))
        clear hat hnx hq e0 e1 h4
        go_wp2_with fail
        go_quiet (fail)
        go_wp2
        go_ret
        exact ⟨by rw [hq2.out]; rfl, hT.out.bel.drewN _⟩
      have q1 : ((xp : Int) == (yp : Int)) = true := by simp; omega
      by_cases e2 : xg = yg
      case neg =>
        have q2 : ((xg : Int) == (yg : Int)) = false := by simp; omega
        have hq2 := hide (hq.out.trans (hat.out (by simp [plSame, e2])))
        clear hat hnx hq e0 e1 e2 h4
        go_wp2_with fail
        go_quiet (fail)
        go_wp2
        go_ret
        exact ⟨by rw [hq2.out]; rfl, hT.out.bel.drewN _⟩
      have q2 : ((xg : Int) == (yg : Int)) = true := by simp; omega
      by_cases e3 : xa = ya
      case neg =>
        have q3 : ((xa : Int) == (ya : Int)) = false := by simp; omega
        have hq2 := hide (hq.out.trans (hat.out (by simp [plSame, e3])))
        clear hat hnx hq e0 e1 e2 e3 h4
        go_wp2_with fail
        go_quiet (fail)
        go_wp2
        go_ret
        exact ⟨by rw [hq2.out]; rfl, hT.out.bel.drewN _⟩
      have q3 : ((xa : Int) == (ya : Int)) = true := by simp; omega
      have hq2 := hide (hnx.out (by simp [plSame, e0, e1, e2, e3]))
      clear hat hnx h4 e0 e1 e2 e3
      go_wp2_with fail
      go_quiet (fail)
      go_wp2
      exact ⟨⟨k + 1, hlt, by go_num, hq2.out, hT.out.below ((Below.refl _ _).drewN _)⟩, by simp [intOf]; omega⟩
    · obtain rfl : k = al.length := by omega
      have dl : decide ((al.length : Int) < (al.length : Int)) = false := by simp
      rw [List.take_length, h4.out, List.take_length] at he
      go_wp2
      go_ret
      exact ⟨by rw [hq.out, he]; rfl, hT.out.bel⟩
end Go.Proofs.Ytjkhbjgfoopomaa
/-
  The program's Bank.Open.
-/
namespace Go.Proofs.Ytjkhbjgfoopomaa
open Go.RowKit
set_option linter.unusedVariables false
set_option linter.unusedSimpArgs false

/-- the blocks of a bank -/
def xfoot (B : Nat) (va vl : Value) (k : Nat) : Prop := k = B ∨ va.ownBlock = some k ∨ vl.ownBlock = some k
/-- they are apart -/
structure Apart (B : Nat) (va vl : Value) : Prop where
  a : va.ownBlock ≠ some B
  l : vl.ownBlock ≠ some B
  al : ∀ g, va.ownBlock = some g → vl.ownBlock ≠ some g
/-- the program's bank has gone on -/
structure XBTo (w w' : World) (B node : Nat) (ac' : List Ac) (ls' : List Lg) (va vl va' vl' : Value) : Prop where
  xb : XB w' B node ac' ls' va' vl'
  kept : Kept (xfoot B va vl) w w'
  owna : ∀ g, va'.ownBlock = some g → va.ownBlock = some g ∨ w.heap.size ≤ g
  ownl : ∀ g, vl'.ownBlock = some g → vl.ownBlock = some g ∨ w.heap.size ≤ g
  ap : Apart B va' vl'
theorem XBTo.same {w u : World} {B node : Nat} {ac : List Ac} {ls : List Lg} {va vl : Value} (hX : XB w B node ac ls va vl) (hap : Apart B va vl) (hb : Below w.heap.size w u) : XBTo w u B node ac ls va vl va vl :=
  ⟨hX.below hb, Kept.of_below hb, fun g h => .inl h, fun g h => .inl h, hap⟩
theorem XBTo.from {w w1 w2 : World} {B node : Nat} {ac' : List Ac} {ls' : List Lg} {va vl va' vl' : Value} (hb : Below w.heap.size w w1) (h : XBTo w1 w2 B node ac' ls' va vl va' vl') : XBTo w w2 B node ac' ls' va vl va' vl' :=
  ⟨h.xb, (Kept.of_below hb).trans h.kept (fun i hi => .inl hi), fun g hg => (h.owna g hg).imp_right (fun x => Nat.le_trans hb.size x), fun g hg => (h.ownl g hg).imp_right (fun x => Nat.le_trans hb.size x), h.ap⟩
theorem XBTo.then {w u u2 : World} {B node : Nat} {ac' : List Ac} {ls' : List Lg} {va vl va' vl' : Value} (h : XBTo w u B node ac' ls' va vl va' vl') (hb : Below u.heap.size u u2) : XBTo w u2 B node ac' ls' va vl va' vl' :=
  ⟨h.xb.below hb, h.kept.trans (Kept.of_below (S := fun _ => False) hb) (fun i hi => hi.elim), h.owna, h.ownl, h.ap⟩
theorem acInfo : (Try.prog.info? 158).map (fun i => (i.zero, i.size, i.bytes)) = some (some (.agg #[.int .u16 0, .int .u32 0]), 2, 8) := by kernel_rfl
theorem ac_one (e : Ac) : ∀ u ∈ e.cells, u.oneCell' = true := by
  intro u hu
  simp only [Ac.cells, List.mem_cons, List.not_mem_nil, or_false] at hu
  rcases hu with h | h <;> subst h <;> rfl
/-- one account more -/
theorem XB.growA {w w2 : World} {B node g n cap : Nat} {ac : List Ac} {ls : List Lg} {e : Ac} {va vl : Value} (hX : XB w B node ac ls va vl) (hap : Apart B va vl) (hrow : RowOf w2 158 2 Ac.cells (.slice (some ⟨g, 0, none⟩) n cap) (ac ++ [e]))
    (hk : Kept (fun k => va.ownBlock = some k) w w2) (hg : va.ownBlock = some g ∨ w.heap.size ≤ g) : XBTo w (w2.setCell ⟨B, 1, none⟩ (.slice (some ⟨g, 0, none⟩) n cap)) B node (ac ++ [e]) ls va vl (.slice (some ⟨g, 0, none⟩) n cap) vl := by
  have hB : w2.heap[B]? = some (.cells #[.int .u8 (node : Int), va, vl] (tyAt w B) (0, 0)) := by rw [hk.block B hX.lt hap.a]; exact hX.blk
  have one : ∀ g', (Value.slice (some ⟨g, 0, none⟩) n cap).ownBlock = some g' → g' = g := fun g' h' => by simpa [Value.ownBlock] using h'.symm
  have hgB : g ≠ B := by
    rcases hg with h | h
    · intro e; subst e; exact hap.a h
    · have := hX.lt; omega
  have hgl : ∀ g', vl.ownBlock = some g' → g' ≠ g := fun g' h' e => by
    subst e
    rcases hg with h | h
    · exact hap.al _ h h'
    · have := hX.lrow.lt h'; omega
  refine ⟨⟨ty_of (heap_set_self hB 1 _), hrow.kept (Kept.of_setCell _ _ _) ?_, ?_⟩, ?_, ?_, fun g h => .inl h, ⟨?_, hap.l, ?_⟩⟩
  · intro g' h'; rw [one g' h']; exact hgB
  · refine (hX.lrow.kept hk (fun g' h' e => hap.al g' e h')).kept (Kept.of_setCell _ _ _) (fun g' h' e => hap.l ?_)
    rw [h', e]
  · exact (hk.mono (fun i _ h => .inr (.inl h))).trans (Kept.of_setCell _ _ _) (fun i h => .inl (.inl h))
  · intro g' h'; rw [one g' h']; exact hg
  · intro h'; exact hgB (one _ h').symm
  · intro g' h' h2; exact hgl g' h2 (one g' h')

/-- what Open logs -/
def openTextOf (a b : Nat) : List UInt8 := 79 :: (be 2 a ++ be 4 b)
theorem openText_length (a b : Nat) : (openTextOf a b).length = 7 := by simp [openTextOf, be_length]
attribute [local go_sem] bs_size bs_append conv1 in
set_option maxRecDepth 100000 in
set_option maxHeartbeats 1000000 in
theorem openText_any (a b : Nat) (ha : a < 65536) (hb : b < 4294967296) (w : World) :
    Calls Try.prog 98 #[.int .u16 (a : Int), .int .u32 (b : Int)] w fun e w' => e = .returned (.string (bs (openTextOf a b))) ∧ Below w.heap.size w w' := by
  have l2 := be_length 2 a
  have l4 := be_length 4 b
  have hq : Hid (openTextOf a b = 79 :: (be 2 a ++ be 4 b)) := hide rfl
  have h2 := hide (fun u => two_any a ha u)
  have h4 := hide (fun u => four_any b hb u)
  generalize be 2 a = x2 at *
  generalize be 4 b = x4 at *
  go_enter Try.func98, Try.ntmps98
  go_wp2_with fail
  refine (h2.out _).mono ?_
  rintro e w1 ⟨rfl, hb1⟩
  go_wp2_with fail
  refine (h4.out _).mono ?_
  rintro e w2 ⟨rfl, hb2⟩
  go_wp2
  go_ret
  exact ⟨ret_str hq.out.symm, ((Below.refl _ _).alloc (Nat.le_refl _) _).trans ((hb1.trans (hb2.mono hb1.size)).mono (by simp))⟩
set_option maxRecDepth 100000 in
set_option maxHeartbeats 1000000 in
theorem xOpen_any (a b : Nat) (ha : a < 65536) (hb32 : b < 4294967296) (w : World) (B node : Nat) (ac : List Ac) (ls : List Lg) (va vl : Value) (hX : XB w B node ac ls va vl) (hap : Apart B va vl) (hok : ∀ x, x ∈ ac → x.ok) (hlen : ac.length ≤ 1000000) :
    Calls Try.prog 71 #[.pointer (some ⟨B, 0, none⟩), .int .u16 (a : Int), .int .u32 (b : Int)] w fun e w' =>
      ∃ va', (if hasB a ac then e = .returned (.tuple #[.string ⟨#[]⟩, .int .i64 9]) ∧ XBTo w w' B node ac ls va vl va' vl else if 16 ≤ ac.length then e = .returned (.tuple #[.string ⟨#[]⟩, .int .i64 10]) ∧ XBTo w w' B node ac ls va vl va' vl else e = .returned (.tuple #[.string (bs (openTextOf a b)), .int .i64 0]) ∧ XBTo w w' B node (ac ++ [⟨a, b⟩]) ls va vl va' vl) := by
  have hTx := hide (fun u => openText_any a b ha hb32 u)
  have hH := hide (has_any a ha w B node ac ls va vl hX hok hlen)
  obtain ⟨i0, hi, y0, y1, y2⟩ := info_parts acInfo
  obtain ⟨ad, cap, hv, hev⟩ := hX.arow.form Ac.cells_length
  clear hev
  subst hv
  have hc : ∀ o, _ = _ := fun o => cell_at hX.blk o
  have hf : ∀ o, _ = _ := fun o => frozen_at hX.blk o
  have hBl := hX.lt
  have hrow1 := hX.arow
  generalize hasB a ac = hs at *
  cases hs with
  | true =>
    simp only [if_true]
    go_enter Try.func71, Try.ntmps71
    go_wp2_with fail
    refine hH.out.mono ?_
    rintro e w1 ⟨rfl, rfl⟩
    clear hH
    go_wp2
    go_ret2
    exact ⟨_, rfl, XBTo.same hX hap (Below.refl _ _)⟩
  | false =>
    simp only [Bool.false_eq_true, if_false]
    by_cases h16 : 16 ≤ ac.length
    · have d1 : decide ((ac.length : Int) ≥ 16) = true := by simp; omega
      have d2 : decide ((16 : Int) ≤ (ac.length : Int)) = true := by simp; omega
      simp only [h16, if_true]
      go_enter Try.func71, Try.ntmps71
      go_wp2_with fail
      refine hH.out.mono ?_
      rintro e w1 ⟨rfl, rfl⟩
      clear hH
      go_wp2
      go_ret2
      exact ⟨_, rfl, XBTo.same hX hap (Below.refl _ _)⟩
    · have d1 : decide ((ac.length : Int) ≥ 16) = false := by simp; omega
      have d2 : decide ((16 : Int) ≤ (ac.length : Int)) = false := by simp; omega
      simp only [h16, if_false]
      go_enter Try.func71, Try.ntmps71
      go_wp2_with fail
      refine hH.out.mono ?_
      rintro e w1 ⟨rfl, rfl⟩
      clear hH
      go_wp2_with (first
        | (at_builtin; refine wpList_row Ac.cells_length w1 (by rfl) _ _ 118 (by rfl) 158 i0 _ 8 Try.underlying118 hi y0 y1 y2 rfl (by decide) (.slice ad ac.length cap) ac (by rfl) hrow1 1 ⟨a, b⟩ (by rfl) (ac_one _) (by unfold maxLen; omega) (by omega) ?_ _ (by rfl); intro g cap' w2 hrow2 hk2 hg2 hlt2; have hblk : w2.heap[B]? = some (.cells #[.int .u8 (node : Int), .slice ad ac.length cap, vl] (tyAt w1 B) (0, 0)) := (by rw [hk2.block B hBl hap.a]; exact hX.blk); have hc2 := fun o => cell_at hblk o; have hf2 := fun o => frozen_at hblk o; have X : Hid (RowOf w2 158 2 Ac.cells (.slice (some ⟨g, 0, none⟩) (ac.length + 1) cap') (ac ++ [⟨a, b⟩]) ∧ Kept (fun k => (Value.slice ad ac.length cap).ownBlock = some k) w1 w2 ∧ ((Value.slice ad ac.length cap).ownBlock = some g ∨ w1.heap.size ≤ g)) := hide ⟨hrow2, hk2, hg2⟩; clear hrow2 hk2 hg2 hblk))
      refine (hTx.out _).mono ?_
      rintro e w3 ⟨rfl, hb3⟩
      clear hTx
      go_wp2
      go_ret2
      exact ⟨_, rfl, (XB.growA hX hap X.out.1 X.out.2.1 X.out.2.2).then hb3⟩
end Go.Proofs.Ytjkhbjgfoopomaa
