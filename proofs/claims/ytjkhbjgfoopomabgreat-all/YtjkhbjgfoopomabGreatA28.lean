import Derived.Test.YtjkhbjgfoopomabGreatA27
import Derived.Test.YtjkhbjgfoopomabGreatA16
namespace Go.Proofs.YtjkhbjgfoopomabGreat
open Go.RowKit
set_option maxRecDepth 100000
set_option maxHeartbeats 2000000
set_option linter.unusedVariables false
set_option linter.unusedSimpArgs false
structure XDHanded (w w' : World) (B ck' : Nat) (ps ps' : List Xp) (v v' lv : Value) (outs : List (List UInt8)) : Prop where
 to : XDTo w w' B ck' ps ps' v v'
 row : RowOf w' 9 1 txtCell lv outs
 fresh : ∀ g, lv.ownBlock = some g → w.heap.size ≤ g ∧ ¬ xdfoot B ps' v' g
theorem XDHanded.from {w u u2 : World} {B ck : Nat} {ps ps' : List Xp} {v v' lv : Value} {outs : List (List UInt8)} (h : XDTo w u B ck ps ps' v v') (hb : Below u.heap.size u u2) (hr : RowOf u2 9 1 txtCell lv outs) (hf : ∀ g, lv.ownBlock = some g → u.heap.size ≤ g) : XDHanded w u2 B ck ps ps' v v' lv outs :=
 ⟨h.then hb, hr, fun g hg => ⟨Nat.le_trans h.kept.size (hf g hg), fun hk => by have := h.xd.foot_lt hk; have := hf g hg; omega⟩⟩
theorem XDHanded.nil {w u : World} {B ck : Nat} {ps ps' : List Xp} {v v' : Value} (h : XDTo w u B ck ps ps' v v') : XDHanded w u B ck ps ps' v v' (.slice none 0 0) [] :=
 ⟨h, RowOf.nil _ _, fun g hg => by simp [Value.ownBlock] at hg⟩
theorem XDHanded.then {w u u2 : World} {B ck : Nat} {ps ps' : List Xp} {v v' lv : Value} {outs : List (List UInt8)} (h : XDHanded w u B ck ps ps' v v' lv outs) (hb : Below u.heap.size u u2) : XDHanded w u2 B ck ps ps' v v' lv outs :=
 ⟨h.to.then hb, h.row.below hb, h.fresh⟩
theorem lateX_fine (ck : Nat) {x : Xp} (h : x.fine) : (lateX ck x).fine := by
 unfold lateX
 split
 ·exact ⟨⟨h.ok.1, by show (3 : Nat) < 256; omega, h.ok.2.2⟩, ⟨by show (1 : Nat) ≤ 3; omega, by show (3 : Nat) ≤ 3; omega⟩, h.memo, h.few, h.held, h.done⟩
 ·exact h
theorem remX_le (x : Xp) (h : x.fine) : (remX x).length ≤ 4 := Nat.le_trans (sayTo_le _ _ _ _) h.few
def saysX (ps : List Xp) : List (List UInt8) := ps.flatMap remX
theorem saysX_le : ∀ ps : List Xp, (∀ p, p ∈ ps → p.fine) → (saysX ps).length ≤ 4 * ps.length
 | [], _ => by simp [saysX]
 | p :: r, h => by
  have h1 := saysX_le r (fun q hq => h q (by simp [hq]));have h2 := remX_le p (h p (by simp));simp only [saysX, List.flatMap_cons, List.length_append, List.length_cons] at *;omega
theorem xTickD_end (w : World) (B ck : Nat) (ps : List Xp) (v : Value) (hX : XD w B ck ps v) (hck : 1000000 ≤ ck) (hck2 : ck < 18446744073709551616) :
  Calls Tryz.prog 69 #[.pointer (some ⟨B, 0, none⟩)] w fun e w' => e = .returned (.tuple #[.slice none 0 0, .string ⟨#[]⟩, .int .i64 15]) ∧ w' = w := by
 have hG := hide (goOn_end w B ck ps v hX hck hck2)
 go_enter Tryz.func69, Tryz.ntmps69
 go_wp2_with fail
 refine (hG.out).mono ?_
 rintro e w1 ⟨rfl, rfl⟩
 clear hG
 go_wp2
 go_ret3
 exact ⟨rfl, rfl⟩
theorem xTickD_any (w : World) (B ck : Nat) (ps : List Xp) (v : Value) (hX : XD w B ck ps v) (hap : XDap B ps v) (hfine : ∀ y, y ∈ ps → y.fine) (hlen : ps.length ≤ 1000) (hck : ck < 1000000) :
  Calls Tryz.prog 69 #[.pointer (some ⟨B, 0, none⟩)] w fun e w' => ∃ lv, e = .returned (.tuple #[lv, .string (bs [84]), .int .i64 0]) ∧ XDHanded w w' B (ck + 1) ps (ps.map (lateX (ck + 1))) v v lv (saysX (ps.map (lateX (ck + 1)))) := by
 have hG := hide (goOn_any w B ck ps v hX hap (fun y hy => (hfine y hy).ok) hlen hck)
 obtain ⟨i0, hi0, y0, y1, y2⟩ := info_parts txtInfo
 have hf2 : ∀ y, y ∈ ps.map (lateX (ck + 1)) → y.fine := fun y hy => by
  obtain ⟨x, hx, rfl⟩ := List.mem_map.1 hy;exact lateX_fine _ (hfine x hx)
 have hl2 : (ps.map (lateX (ck + 1))).length ≤ 1000 := by simpa using hlen
 generalize hPS : ps.map (lateX (ck + 1)) = qs at *
 clear hPS
 have hsay : ∀ n, (saysX (qs.take n)).length ≤ 4000 := fun n => by
  have h1 := saysX_le (qs.take n) (fun p hp => hf2 p (List.mem_of_mem_take hp));have h2 : (qs.take n).length ≤ qs.length := List.length_take_le' _ _;omega
 go_enter Tryz.func69, Tryz.ntmps69
 go_wp2_with fail
 refine (hG.out).mono ?_
 rintro e w1 ⟨rfl, hT⟩
 obtain ⟨ad, cap, hv, _⟩ := hT.xd.row.form Xp.cells_length
 have hX1 := hT.xd
 have hc : ∀ o, w1.cell? ⟨B, o, none⟩ = (#[.int .u64 (((ck + 1 : Nat)) : Int), v] : Array Value)[o]? := fun o => cell_at hX1.blk o
 rw [hv] at hc
 have hBl := hX1.lt
 replace hT := hide hT
 replace hv := hide hv
 clear hG hX
 go_wp2_with fail
 go_loopw [6, 21] (fun fr c u => ∃ n : Nat, n ≤ qs.length ∧ c = .int .i64 n ∧ RowOf u 9 1 txtCell fr (saysX (qs.take n)) ∧ (∀ g, fr.ownBlock = some g → w1.heap.size ≤ g) ∧ Below w1.heap.size w1 u) (fun _ c _ => qs.length - (intOf c).toNat)
 case atStart =>
  refine ⟨0, Nat.zero_le _, rfl, RowOf.void _ _, fun g hg => ?_, (Below.refl _ _).alloc (Nat.le_refl _) _⟩;have : w1.heap.size = g := by simpa [Value.ownBlock] using hg
  omega
 case round =>
  obtain ⟨n, hn, rfl, hrow, hxown, hb⟩ := hrel;have hsl := hsay n;obtain ⟨adx, capx, rfl⟩ := hrow.slice;have hXu := hX1.below hb;clear hc;have hc : ∀ o, wr.cell? ⟨B, o, none⟩ = (#[.int .u64 (((ck + 1 : Nat)) : Int), v] : Array Value)[o]? := fun o => cell_at hXu.blk o;rw [hv.out] at hc;have hBu := hXu.lt;by_cases hlt : n < qs.length
  ·have hnl : (n : Int) < (qs.length : Int) := by omega
   have dl : decide ((n : Int) < (qs.length : Int)) = true := by simp; omega
   obtain ⟨ad', cap', hv', hev'⟩ := hXu.row.form Xp.cells_length;obtain ⟨g, hg, hcell, _⟩ := hev' n hlt;have ead : ad = ad' := by rw [hv.out] at hv'; injection hv'
   subst ead;subst hg;have hgl : g < wr.heap.size := hXu.row.lt (by rw [hv.out]; rfl);have hfx := hf2 qs[n] (List.getElem_mem hlt);have hlg := hXu.legs qs[n] (List.getElem_mem hlt)
   have hsn : Hid (saysX (qs.take (n + 1)) = saysX (qs.take n) ++ remX qs[n]) := hide (by
    unfold saysX;rw [List.take_succ_eq_append_getElem hlt, List.flatMap_append]
    simp)
   have hle4 := hsay (n + 1);rw [hsn.out, List.length_append] at hle4;have hRm := hide (fun (u : World) (hu : PBox u wr.heap.size qs[n]) => remind_any qs[n] hfx u wr.heap.size hu);have hPB : Hid (PBox (wr.alloc (.cells qs[n].cells.toArray 135)) wr.heap.size qs[n]) := hide ⟨heap_alloc_self _ _, hlg.below ((Below.refl _ _).alloc (Nat.le_refl _) _)⟩;have c0 := hcell 0 (by decide);have c1 := hcell 1 (by decide);have c2 := hcell 2 (by decide);have c3 := hcell 3 (by decide);have c4 := hcell 4 (by decide);have c5 := hcell 5 (by decide);have c6 := hcell 6 (by decide);clear hcell hev' hv' hlg hfx;generalize remX qs[n] = RM at *;generalize qs[n] = E at *;obtain ⟨⟨ei, ed, em, el, ea, ec⟩, es, eh, en⟩ := E;simp only [Xp.cells, List.getElem?_cons_zero, List.getElem?_cons_succ, Nat.add_zero] at c0 c1 c2 c3 c4 c5 c6 hPB;generalize saysX (qs.take n) = L at *;go_wp2_with fail
   refine (hRm.out _ hPB.out).mono ?_;rintro e w2 ⟨⟨lv, rfl, hlr, hlo⟩, hbt⟩;have hb2 : Below wr.heap.size wr w2 := ((Below.refl _ _).alloc (Nat.le_refl _) _).trans (hbt.mono (by simp));have hrow2 := hrow.below hb2;have hb3 := hide (hb.trans (hb2.mono hb.size));obtain ⟨lad, lcap, hlv⟩ := hlr.slice;subst hlv;replace hxown := hide hxown;clear hRm hc c0 c1 c2 c3 c4 c5 c6 hPB hrow hXu
   go_wp2_with (first
    | (at_builtin; refine wpList_spread txtCell_length w2 (by rfl) _ _ 38 (by rfl) 9 i0 _ 16 Tryz.underlying38 hi0 y0 y1 y2 rfl (by decide) (.slice adx L.length capx) (.slice lad RM.length lcap) L RM (by rfl) (by rfl) hrow2 hlr (fun y _ => txt_one y) (by unfold maxLen; omega) (by omega) ?_; intro v9 w9 hr9 hk9 ho9; have X : Hid (RowOf w9 9 1 txtCell v9 (L ++ RM) ∧ Kept (fun k => (Value.slice adx L.length capx).ownBlock = some k) w2 w9 ∧ ∀ g, v9.ownBlock = some g → (Value.slice adx L.length capx).ownBlock = some g ∨ w2.heap.size ≤ g) := hide ⟨hr9, hk9, ho9⟩; clear hr9 hk9 ho9))
   have hb9 := hb3.out.trans (X.out.2.1.below hb3.out.size (fun k hk => hxown.out k hk));refine ⟨⟨n + 1, hlt, by go_num, by rw [hsn.out]; exact X.out.1, fun g hg => ?_, hb9⟩, by simp [intOf]; omega⟩;rcases X.out.2.2 g hg with h | h
   ·exact hxown.out g h
   ·exact Nat.le_trans hb3.out.size h
  ·obtain rfl : n = qs.length := by omega
   have dl : decide ((qs.length : Int) < (qs.length : Int)) = false := by simp
   simp only [List.take_length] at hrow hxown;rw [List.take_length];replace hrow := hide hrow;replace hxown := hide hxown;replace hb := hide hb;clear hc;go_wp2;go_ret3;exact ⟨_, rfl, XDHanded.from hT.out hb.out hrow.out hxown.out⟩
theorem xSubmit_wrong (p : Pm) (hp : p.ok) (hm : p.memo.length ≤ 140737488351232) (hll : p.legs.length ≤ 11728124029269) (w : World) (B : Nat) (hL : LegsAt w p.la p.legs) (hw : wrongOf p ≠ 0) :
  Calls Tryz.prog 39 #[.pointer (some ⟨B, 0, none⟩), p.v] w fun e w' => e = .returned (.tuple #[.slice none 0 0, .string ⟨#[]⟩, .int .i64 (wrongOf p : Int)]) ∧ Below w.heap.size w w' := by
 have hW := hide (fun u hu => xfault_any p hp hm hll u hu)
 generalize wrongOf p = E at *
 obtain ⟨pi, pd, pm, pl, pa, pc⟩ := p
 simp only [Pm.v, Pm.lv] at *
 have hB0 : Hid (Below w.heap.size w (w.alloc (.cells #[.int .u32 (pi : Int), .int .u64 (pd : Int), .string (bs pm), .slice pa pl.length pc] 69))) := hide ((Below.refl _ _).alloc (Nat.le_refl _) _)
 have d1 : ((E : Int) != 0) = true := by simp; omega
 go_enter Tryz.func39, Tryz.ntmps39
 go_wp2_with fail
 refine (hW.out _ (hL.below hB0.out)).mono ?_
 rintro e w2 ⟨rfl, hb2⟩
 have hB2 := hide (hB0.out.trans (hb2.mono hB0.out.size))
 clear hb2 hW
 go_wp2
 go_ret3
 exact ⟨rfl, hB2.out⟩
theorem xSubmit_late (p : Pm) (hp : p.ok) (hm : p.memo.length ≤ 140737488351232) (w : World) (B ck : Nat) (ps : List Xp) (v : Value) (hX : XD w B ck ps v) (hok : ∀ y, y ∈ ps → y.ok) (hlen : ps.length ≤ 1000) (hL : LegsAt w p.la p.legs) (hw : wrongOf p = 0) (hno : ps.length ≤ findX p.id ps) (hck : ck < 18446744073709551616) (er : Nat) (her : (p.dl ≤ ck ∧ er = 12) ∨ (ck < p.dl ∧ 32 ≤ ps.length ∧ er = 10)) :
  Calls Tryz.prog 39 #[.pointer (some ⟨B, 0, none⟩), p.v] w fun e w' => e = .returned (.tuple #[.slice none 0 0, .string ⟨#[]⟩, .int .i64 (er : Int)]) ∧ Below w.heap.size w w' := by
 have hW := hide (fun u hu => xfault_any p hp hm (by have := wrongOf_few hw; omega) u hu)
 rw [hw] at hW
 have hF := hide (fun u hu => xfind_any p.id hp.1 u B ck ps v hu hok (by omega))
 have hfl := findX_le p.id ps
 generalize findX p.id ps = j at *
 obtain ⟨ad, cap, hv, _⟩ := hX.row.form Xp.cells_length
 subst hv
 obtain ⟨pi, pd, pm, pl, pa, pc⟩ := p
 obtain ⟨hpi, hpd, hpl⟩ := hp
 simp only [Pm.v, Pm.lv] at *
 have hB0 : Hid (Below w.heap.size w (w.alloc (.cells #[.int .u32 (pi : Int), .int .u64 (pd : Int), .string (bs pm), .slice pa pl.length pc] 69))) := hide ((Below.refl _ _).alloc (Nat.le_refl _) _)
 have hp0 := Box.mk0 w #[.int .u32 (pi : Int), .int .u64 (pd : Int), .string (bs pm), .slice pa pl.length pc] 69
 have d0 : decide ((j : Int) < (ps.length : Int)) = false := by simp; omega
 go_enter Tryz.func39, Tryz.ntmps39
 go_wp2_with fail
 refine (hW.out _ (hL.below hB0.out)).mono ?_
 rintro e w2 ⟨rfl, hb2⟩
 have B2 := hp0.below hb2
 have hc2 := B2.cell
 have hl2 := B2.lt
 have hX2 := hX.below B2.bel
 have hcB : ∀ o, w2.cell? ⟨B, o, none⟩ = (#[.int .u64 (ck : Int), .slice ad ps.length cap] : Array Value)[o]? := fun o => cell_at hX2.blk o
 have hBl := hX2.lt
 have hB2 := hide B2.bel
 clear hb2 hW hp0 hB0
 go_wp2_with fail
 refine (hF.out _ hX2).mono ?_
 rintro e w3 ⟨rfl, rfl⟩
 clear hF
 rcases her with ⟨h1, rfl⟩ | ⟨h1, h2, rfl⟩
 ·have d1 : decide ((pd : Int) ≤ (ck : Int)) = true := by simp; omega
  have d1n : decide (pd ≤ ck) = true := by simp; omega
  go_wp2_with fail
  go_quiet (fail)
  go_wp2;go_ret3;exact ⟨rfl, hB2.out.drewN _⟩
 ·have d1 : decide ((pd : Int) ≤ (ck : Int)) = false := by simp; omega
  have d1n : decide (pd ≤ ck) = false := by simp; omega
  have d2 : decide ((ps.length : Int) ≥ 32) = true := by simp; omega
  have d2' : decide ((32 : Int) ≤ (ps.length : Int)) = true := by simp; omega
  go_wp2_with fail
  go_quiet (fail)
  go_wp2;go_ret3;exact ⟨rfl, hB2.out.drewN _⟩
theorem xSubmit_there (p : Pm) (hp : p.ok) (hm : p.memo.length ≤ 140737488351232) (w : World) (B ck : Nat) (ps : List Xp) (v : Value) (hX : XD w B ck ps v) (hfine : ∀ y, y ∈ ps → y.fine) (hlen : ps.length ≤ 1000) (hL : RowOf w 67 4 Pl.cells p.lv p.legs) (hw : wrongOf p = 0) (hj : findX p.id ps < ps.length) :
  Calls Tryz.prog 39 #[.pointer (some ⟨B, 0, none⟩), p.v] w fun e w' => (∃ lv, e = .returned (.tuple #[lv, .string ⟨#[]⟩, .int .i64 (if sameOf ps[findX p.id ps].pm p then 0 else 11)]) ∧ RowOf w' 9 1 txtCell lv (if sameOf ps[findX p.id ps].pm p then remX ps[findX p.id ps] else []) ∧ ∀ g, lv.ownBlock = some g → w.heap.size ≤ g) ∧ Below w.heap.size w w' := by
 have hLA := hL.legsAt (la := p.la) (lc := p.lc)
 have hW := hide (fun u hu => xfault_any p hp hm (by have := wrongOf_few hw; omega) u hu)
 rw [hw] at hW
 have hF := hide (fun u hu => xfind_any p.id hp.1 u B ck ps v hu (fun y hy => (hfine y hy).ok) (by omega))
 have hp4 := wrongOf_few hw
 have hfx := hfine _ (List.getElem_mem hj)
 have hSm := hide (fun (u : World) (hu : RowOf u 67 4 Pl.cells ps[findX p.id ps].pm.lv ps[findX p.id ps].pm.legs) (hv : RowOf u 67 4 Pl.cells p.lv p.legs) => isSame_any ps[findX p.id ps].pm p hfx.ok.1 hp hfx.few u hu hv (by omega))
 have hRm := hide (fun (u : World) b (hu : PBox u b ps[findX p.id ps]) => remind_any ps[findX p.id ps] hfx u b hu)
 have hlg := hX.legs _ (List.getElem_mem hj)
 obtain ⟨ad, cap, hv, hev⟩ := hX.row.form Xp.cells_length
 obtain ⟨g, hg, hcell0, _⟩ := hev _ hj
 subst hg
 subst hv
 have hgl : g < w.heap.size := hX.row.lt rfl
 generalize remX ps[findX p.id ps] = RM at *
 generalize sameOf ps[findX p.id ps].pm p = SB at *
 generalize ps[findX p.id ps] = E at *
 generalize findX p.id ps = j at *
 obtain ⟨⟨ei, ed, em, el, ea, ec⟩, es, eh, en⟩ := E
 obtain ⟨pi, pd, pm, pl, pa, pc⟩ := p
 obtain ⟨hpi, hpd, hpl⟩ := hp
 simp only [Pm.v, Pm.lv] at *
 have hp0 := Box.mk0 w #[.int .u32 (pi : Int), .int .u64 (pd : Int), .string (bs pm), .slice pa pl.length pc] 69
 have d0 : decide ((j : Int) < (ps.length : Int)) = true := by simp; omega
 have hji : (j : Int) < (ps.length : Int) := by omega
 go_enter Tryz.func39, Tryz.ntmps39
 go_wp2_with fail
 refine (hW.out _ (hLA.below hp0.bel)).mono ?_
 rintro e w2 ⟨rfl, hb2⟩
 have B2 := hp0.below hb2
 have hc2 := B2.cell
 have hl2 := B2.lt
 have hX2 := hX.below B2.bel
 have hcB : ∀ o, w2.cell? ⟨B, o, none⟩ = (#[.int .u64 (ck : Int), .slice (some ⟨g, 0, none⟩) ps.length cap] : Array Value)[o]? := fun o => cell_at hX2.blk o
 have hBl := hX2.lt
 have hcell : ∀ o, o < 7 → w2.cell? ⟨g, j * 7 + o, none⟩ = (Xp.cells ⟨⟨ei, ed, em, el, ea, ec⟩, es, eh, en⟩)[o]? := fun o ho => (B2.bel.cell (p := ⟨g, j * 7 + o, none⟩) hgl).trans (hcell0 o ho)
 have c0 := hcell 0 (by decide)
 have c1 := hcell 1 (by decide)
 have c2 := hcell 2 (by decide)
 have c3 := hcell 3 (by decide)
 have c4 := hcell 4 (by decide)
 have c5 := hcell 5 (by decide)
 have c6 := hcell 6 (by decide)
 simp only [Xp.cells, List.getElem?_cons_zero, List.getElem?_cons_succ, Nat.add_zero] at c0 c1 c2 c3 c4 c5 c6
 clear hb2 hW hcell hcell0 hev
 go_wp2_with fail
 refine (hF.out _ hX2).mono ?_
 rintro e w3 ⟨rfl, rfl⟩
 clear hF
 have hPB : PBox (w3.alloc (.cells #[.int .u32 (ei : Int), .int .u64 (ed : Int), .string (bs em), .slice ea el.length ec, .int .u8 (es : Int), .int .u8 (eh : Int), .int .u8 (en : Int)] 135)) w3.heap.size ⟨⟨ei, ed, em, el, ea, ec⟩, es, eh, en⟩ := ⟨heap_alloc_self _ _, (hlg.below B2.bel).below ((Below.refl _ _).alloc (Nat.le_refl _) _)⟩
 have hb4 : Below w.heap.size w (w3.alloc (.cells #[.int .u32 (ei : Int), .int .u64 (ed : Int), .string (bs em), .slice ea el.length ec, .int .u8 (es : Int), .int .u8 (eh : Int), .int .u8 (en : Int)] 135)) := B2.bel.alloc B2.bel.size _
 have hlg4 := hide (hlg.below hb4)
 have hL4 := hide (hL.below hb4)
 replace hPB := hide hPB
 replace hb4 := hide hb4
 clear hlg
 go_wp2_with fail
 refine (hSm.out _ hlg4.out hL4.out).mono ?_
 rintro e w5 ⟨rfl, hb5⟩
 have hPB5 := hide (hPB.out.below hb5)
 have hB5 := hide (hb4.out.trans (hb5.mono hb4.out.size))
 clear hSm hlg4 hL4 hb4 hPB hb5 c0 c1 c2 c3 c4 c5 c6 hcB hc2
 cases SB with
 | false =>
  clear hRm;go_wp2;go_ret3;exact ⟨⟨_, rfl, RowOf.nil _ _, fun g hg => by simp [Value.ownBlock] at hg⟩, hB5.out⟩
 | true =>
  go_wp2_with fail
  refine (hRm.out _ _ hPB5.out).mono ?_;rintro e w6 ⟨⟨lv, rfl, hr6, ho6⟩, hb6⟩;replace hr6 := hide hr6;replace ho6 := hide ho6;replace hb6 := hide hb6;clear hRm;go_wp2;go_ret3;exact ⟨⟨_, rfl, hr6.out, fun g hg => Nat.le_trans hB5.out.size (ho6.out g hg)⟩, hB5.out.trans (hb6.out.mono hB5.out.size)⟩
theorem newX_ok {q : Pm} (h : q.ok) : (⟨q, 1, 0, 0⟩ : Xp).ok := ⟨h, by show (1 : Nat) < 256; omega, by show (0 : Nat) < 256; omega, by show (0 : Nat) < 256; omega⟩
theorem sayTo_at (i d d' : Nat) (m : List UInt8) (l : List Pl) (la la' : Option Addr) (lc lc' st mask : Nat) : ∀ n, sayTo ⟨i, d, m, l, la, lc⟩ st mask n = sayTo ⟨i, d', m, l, la', lc'⟩ st mask n
 | 0 => rfl
 | n + 1 => by
  simp only [sayTo];rw [sayTo_at i d d' m l la la' lc lc' st mask n];rfl
theorem xSubmit_new (p : Pm) (hp : p.ok) (hm : p.memo.length ≤ 140737488351232) (w : World) (B ck : Nat) (ps : List Xp) (v : Value) (hX : XD w B ck ps v) (hap : XDap B ps v) (hok : ∀ y, y ∈ ps → y.ok) (hL : RowOf w 67 4 Pl.cells p.lv p.legs) (hw : wrongOf p = 0) (hm64 : p.memo.length ≤ 64) (hno : ps.length ≤ findX p.id ps) (hck : ck < p.dl) (h32 : ps.length < 32) (hLd : ∀ g, p.lv.ownBlock = some g → g ≠ B ∧ v.ownBlock ≠ some g) :
  Calls Tryz.prog 39 #[.pointer (some ⟨B, 0, none⟩), p.v] w fun e w' => ∃ lv la lc k v', e = .returned (.tuple #[lv, .string (bs (subTextOf p)), .int .i64 0]) ∧ k ≤ ps.length ∧ (∀ q (hq : q < ps.length), k ≤ q → p.id < ps[q].pm.id) ∧ (∀ j (hj : j < ps.length), k = j + 1 → ¬ p.id < ps[j].pm.id) ∧ XDHanded w w' B ck ps (insX ⟨⟨p.id, p.dl, p.memo, p.legs, la, lc⟩, 1, 0, 0⟩ k ps) v v' lv (sayL p 1 15) := by
 have hLA := hL.legsAt (la := p.la) (lc := p.lc)
 have hW := hide (fun u hu => xfault_any p hp hm (by have := wrongOf_few hw; omega) u hu)
 rw [hw] at hW
 have hF := hide (fun u hu => xfind_any p.id hp.1 u B ck ps v hu hok (by omega))
 have hp4 := wrongOf_few hw
 have hp0' : 0 < p.legs.length := by
  rcases Nat.eq_zero_or_pos p.legs.length with h | h
  ·simp [wrongOf, h] at hw
  ·exact h
 have hCp := hide (fun u hu => copyOf_any p hp (by omega) hp0' hp4 u hu)
 have hTx := hide (fun u hu => subText_any p hp hm64 hp4 u hu)
 have hKp := hide (fun (la : Option Addr) (lc : Nat) (u : World) hb hl hf => keepD_any ⟨⟨p.id, p.dl, p.memo, p.legs, la, lc⟩, 1, 0, 0⟩ (newX_ok hp) w u B ck ps v hX hap hb hl hf hok (by omega))
 have hSy := hide (fun (la : Option Addr) (lc : Nat) (u : World) b hu => say_any ⟨⟨p.id, p.dl, p.memo, p.legs, la, lc⟩, 1, 0, 0⟩ (newX_ok hp) ⟨Nat.le_refl 1, by show (1 : Nat) ≤ 3; omega⟩ hm64 hp4 15 (by decide) u b hu)
 have hsl : Hid (∀ la lc, sayL ⟨p.id, p.dl, p.memo, p.legs, la, lc⟩ 1 15 = sayL p 1 15) := hide (fun la lc => sayTo_at p.id p.dl p.dl p.memo p.legs la p.la lc p.lc 1 15 _)
 have hfl := findX_le p.id ps
 generalize findX p.id ps = j at *
 generalize sayL p 1 15 = SY at *
 generalize subTextOf p = TX at *
 obtain ⟨ad, cap, hv, _⟩ := hX.row.form Xp.cells_length
 subst hv
 obtain ⟨pi, pd, pm, pl, pa, pc⟩ := p
 obtain ⟨hpi, hpd, hpl⟩ := hp
 simp only [Pm.v, Pm.lv, Xp.cells] at *
 have hp0 := Box.mk0 w #[.int .u32 (pi : Int), .int .u64 (pd : Int), .string (bs pm), .slice pa pl.length pc] 69
 have d0 : decide ((j : Int) < (ps.length : Int)) = false := by simp; omega
 have d1 : decide ((pd : Int) ≤ (ck : Int)) = false := by simp; omega
 have d1n : decide (pd ≤ ck) = false := by simp; omega
 have d2 : decide ((ps.length : Int) ≥ 32) = false := by simp; omega
 have d2' : decide ((32 : Int) ≤ (ps.length : Int)) = false := by simp; omega
 go_enter Tryz.func39, Tryz.ntmps39
 go_wp2_with fail
 refine (hW.out _ (hLA.below hp0.bel)).mono ?_
 rintro e w2 ⟨rfl, hb2⟩
 have B2 := hp0.below hb2
 have hc2 := B2.cell
 have hl2 := B2.lt
 have hX2 := hX.below B2.bel
 have hcB : ∀ o, w2.cell? ⟨B, o, none⟩ = (#[.int .u64 (ck : Int), .slice ad ps.length cap] : Array Value)[o]? := fun o => cell_at hX2.blk o
 have hBl := hX2.lt
 clear hb2 hW
 go_wp2_with fail
 refine (hF.out _ hX2).mono ?_
 rintro e w3 ⟨rfl, rfl⟩
 clear hF
 go_wp2_with fail
 go_quiet (fail)
 replace B2 := B2.drewN nq
 have hB2 := B2.bel
 generalize World.drewN _ _ = w4 at *
 clear hc2 hcB hX2
 have hX4 := hX.below hB2
 have hc2 := B2.cell
 have hl4 := B2.lt
 have hcB : ∀ o, w4.cell? ⟨B, o, none⟩ = (#[.int .u64 (ck : Int), .slice ad ps.length cap] : Array Value)[o]? := fun o => cell_at hX4.blk o
 have hBl4 := hX4.lt
 go_wp2_with fail
 refine (hCp.out _ (hLA.below hB2)).mono ?_
 rintro e w5 ⟨⟨gL, cL, rfl, hgL, hrL⟩, hb5⟩
 have B5 := B2.below hb5
 have hB5 := B5.bel
 have hgw : w.heap.size ≤ gL := Nat.le_trans hB2.size hgL
 have hv5 : Below w5.heap.size w5 (w5.alloc (.cells #[.int .u32 (pi : Int), .int .u64 (pd : Int), .string (bs pm), .slice (some ⟨gL, 0, none⟩) pl.length cL, .int .u8 1, .int .u8 0, .int .u8 0] 135)) := (Below.refl _ _).alloc (Nat.le_refl _) _
 have hbx : (w5.alloc (.cells #[.int .u32 (pi : Int), .int .u64 (pd : Int), .string (bs pm), .slice (some ⟨gL, 0, none⟩) pl.length cL, .int .u8 1, .int .u8 0, .int .u8 0] 135)).heap[w5.heap.size]? = some (.cells #[.int .u32 (pi : Int), .int .u64 (pd : Int), .string (bs pm), .slice (some ⟨gL, 0, none⟩) pl.length cL, .int .u8 1, .int .u8 0, .int .u8 0] 135 (0, 0)) := heap_alloc_self _ _
 have hB6 := hB5.trans (hv5.mono hB5.size)
 have hK6 := hKp.out (some ⟨gL, 0, none⟩) cL _ hB6 (hrL.below hv5) (fun h hh => by
  have h1 : gL = h := by simpa [Value.ownBlock] using hh
  omega)
 have B6 := B5.below hv5
 have hs5 := hB5.size
 clear hCp hKp hc2 hcB
 generalize hU : w5.alloc (.cells #[.int .u32 (pi : Int), .int .u64 (pd : Int), .string (bs pm), .slice (some ⟨gL, 0, none⟩) pl.length cL, .int .u8 1, .int .u8 0, .int .u8 0] 135) = U6 at *
 replace hU := hide hU
 replace hK6 := hide hK6
 go_wp2_with fail
 rw [hU.out]
 refine (hK6.out).mono ?_
 rintro e w7 ⟨rfl, k, v', hk1, hk2, hk3, hT, hkU⟩
 have hvl : ∀ i, (Value.slice ad ps.length cap).ownBlock = some i → i < w.heap.size := fun i hi => hX.row.lt hi
 have hBl0 := hX.lt
 have hs6 : w5.heap.size < U6.heap.size := block_lt hbx
 have hbx7 : w7.heap[w5.heap.size]? = some (.cells #[.int .u32 (pi : Int), .int .u64 (pd : Int), .string (bs pm), .slice (some ⟨gL, 0, none⟩) pl.length cL, .int .u8 1, .int .u8 0, .int .u8 0] 135 (0, 0)) := by
  rw [hkU.block _ hs6 (fun e => by
   rcases e with e | e
   ·omega
   ·have := hvl _ e; omega)]
  exact hbx
 have hPB : PBox w7 w5.heap.size ⟨⟨pi, pd, pm, pl, some ⟨gL, 0, none⟩, cL⟩, 1, 0, 0⟩ := ⟨hbx7, hT.xd.legs _ (insX_mem _ _ _)⟩
 have hc7 : ∀ o, w7.cell? ⟨w.heap.size, o, none⟩ = (#[.int .u32 (pi : Int), .int .u64 (pd : Int), .string (bs pm), .slice pa pl.length pc] : Array Value)[o]? := fun o => (hkU.cell (p := ⟨w.heap.size, o, none⟩) B6.lt (fun e => by
  rcases e with e | e
  ·have e' : w.heap.size = B := e;omega
  ·have := hvl _ e;have e' : w.heap.size < w.heap.size := this
   omega)).trans (B6.cell o)
 have hl7 : w.heap.size < w7.heap.size := Nat.lt_of_lt_of_le B6.lt hkU.size
 have hL7 := hide (hL.kept hT.kept (fun g hg e => by
  have h1 := hLd g hg;rcases e with e | e
  ·exact h1.1 e
  ·exact h1.2 e))
 have hS7 := hSy.out (some ⟨gL, 0, none⟩) cL w7 w5.heap.size hPB
 rw [hsl.out] at hS7
 replace hS7 := hide hS7
 replace hT := hide hT
 replace hk2 := hide hk2
 replace hk3 := hide hk3
 clear hK6 hSy hPB hbx hbx7 hkU
 go_wp2_with fail
 refine (hS7.out).mono ?_
 rintro e w8 ⟨⟨lv, rfl, hr8, ho8⟩, hb8⟩
 have hc8 : ∀ o, w8.cell? ⟨w.heap.size, o, none⟩ = (#[.int .u32 (pi : Int), .int .u64 (pd : Int), .string (bs pm), .slice pa pl.length pc] : Array Value)[o]? := fun o => (hb8.cell (p := ⟨w.heap.size, o, none⟩) hl7).trans (hc7 o)
 have hl8 : w.heap.size < w8.heap.size := Nat.lt_of_lt_of_le hl7 hb8.size
 have hL8 := hide (hL7.out.below hb8)
 have hH := hide (XDHanded.from hT.out hb8 hr8 ho8)
 clear hc7 hS7 hT hr8 ho8 hb8
 go_wp2_with fail
 refine (hTx.out _ hL8.out).mono ?_
 rintro e w9 ⟨rfl, hb9⟩
 replace hb9 := hide hb9
 clear hTx hc8
 go_wp2
 go_ret3
 exact ⟨_, some ⟨gL, 0, none⟩, cL, k, v', rfl, hk1, hk2.out, hk3.out, hH.out.then hb9.out⟩
theorem xTaken_dec (s : ByteArray) (hs : s.size ≤ maxLen) (w : World) (B : Nat) (he0 : decErr s.data.toList ≠ 0) (her : decErr s.data.toList < 100) :
  Calls Tryz.prog 113 #[.pointer (some ⟨B, 0, none⟩), .string s] w fun e w' => e = .returned (.tuple #[.slice none 0 0, .string ⟨#[]⟩, .int .i64 (decErr s.data.toList : Int)]) ∧ Below w.heap.size w w' := by
 have hD := hide (decode_any s hs)
 generalize decErr s.data.toList = er at *
 generalize decMsg s.data.toList = x at *
 obtain ⟨k, f, t', i, l, p, g, a, m⟩ := x
 simp only [Msg.v, Msg.cells] at hD
 have d0 : ((er : Int) != 0) = true := by simp; omega
 go_enter Tryz.func113, Tryz.ntmps113
 go_wp2_with fail
 refine (hD.out _).mono ?_
 rintro e w1 ⟨rfl, hb⟩
 clear hD
 go_wp2
 go_ret3
 exact ⟨rfl, hb.alloc hb.size _⟩
theorem xTaken_node (s : ByteArray) (hs : s.size ≤ maxLen) (w : World) (B : Nat) (he0 : decErr s.data.toList = 0) (ht0 : (decMsg s.data.toList).t ≠ 0) :
  Calls Tryz.prog 113 #[.pointer (some ⟨B, 0, none⟩), .string s] w fun e w' => e = .returned (.tuple #[.slice none 0 0, .string ⟨#[]⟩, .int .i64 4]) ∧ Below w.heap.size w w' := by
 have hD := hide (decode_any s hs)
 have hxok := decMsg_ok s.data.toList
 rw [he0] at hD
 clear he0
 generalize decMsg s.data.toList = x at *
 obtain ⟨k, f, t, i, l, p, g, a, m⟩ := x
 have ht8 : t < 256 := hxok.2.2.1
 simp only [Msg.v, Msg.cells] at hD ht0
 have d0 : ((t : Int) != 0) = true := by simp; omega
 clear hxok
 go_enter Tryz.func113, Tryz.ntmps113
 go_wp2_with fail
 refine (hD.out _).mono ?_
 rintro e w1 ⟨rfl, hb⟩
 clear hD
 go_wp2
 go_ret3
 exact ⟨rfl, hb.alloc hb.size _⟩
theorem xTaken_none (s : ByteArray) (hs : s.size ≤ maxLen) (w : World) (B ck : Nat) (ps : List Xp) (v : Value) (hX : XD w B ck ps v) (hok : ∀ y, y ∈ ps → y.ok) (hlen : ps.length ≤ 1000) (he0 : decErr s.data.toList = 0) (ht0 : (decMsg s.data.toList).t = 0) (hno : ps.length ≤ findX (decMsg s.data.toList).i ps) :
  Calls Tryz.prog 113 #[.pointer (some ⟨B, 0, none⟩), .string s] w fun e w' => e = .returned (.tuple #[.slice none 0 0, .string ⟨#[]⟩, .int .i64 13]) ∧ Below w.heap.size w w' := by
 have hD := hide (decode_any s hs)
 have hxok := decMsg_ok s.data.toList
 rw [he0] at hD
 clear he0
 generalize decMsg s.data.toList = x at *
 have hF := hide (fun u hu => xfind_any x.i hxok.2.2.2.1 u B ck ps v hu hok (by omega))
 have hfl := findX_le x.i ps
 generalize findX x.i ps = j at *
 obtain ⟨ad, cap, hv, _⟩ := hX.row.form Xp.cells_length
 subst hv
 obtain ⟨k, f, t, i, l, p, g, a, m⟩ := x
 simp only [Msg.v, Msg.cells] at hD ht0 hF
 subst ht0
 have d0 : decide ((j : Int) ≥ (ps.length : Int)) = true := by simp; omega
 have d0' : decide ((ps.length : Int) ≤ (j : Int)) = true := by simp; omega
 clear hxok
 go_enter Tryz.func113, Tryz.ntmps113
 go_wp2_with fail
 refine (hD.out _).mono ?_
 rintro e w1 ⟨rfl, hb⟩
 have B1 := Box.mk0 w1 #[Value.int .u8 (k : Int), .int .u8 (f : Int), .int .u8 0, .int .u32 (i : Int), .int .u8 (l : Int), .int .u16 (p : Int), .int .u16 (g : Int), .int .u32 (a : Int), .string (bs m)] 102
 have hb2 := hb.trans (B1.bel.mono hb.size)
 have hX2 := hX.below hb2
 have hcB : ∀ o, _ = (#[.int .u64 (ck : Int), .slice ad ps.length cap] : Array Value)[o]? := fun o => cell_at hX2.blk o
 have hBl := hX2.lt
 clear hD
 go_wp2_with fail
 refine (hF.out _ hX2).mono ?_
 rintro e w3 ⟨rfl, rfl⟩
 clear hF
 go_wp2
 go_ret3
 exact ⟨rfl, hb2⟩
theorem box_of {w u : World} {B ck : Nat} {ps : List Xp} {v : Value} {x : Xp} (hX : XD w B ck ps v) (hx : x ∈ ps) (hb : Below w.heap.size w u) : PBox (u.alloc (.cells x.cells.toArray 135)) u.heap.size x :=
 ⟨heap_alloc_self _ _, ((hX.legs x hx).below hb).below ((Below.refl _ _).alloc (Nat.le_refl _) _)⟩
theorem xTaken_leg (s : ByteArray) (hs : s.size ≤ maxLen) (w : World) (B ck : Nat) (ps : List Xp) (v : Value) (hX : XD w B ck ps v) (hfine : ∀ y, y ∈ ps → y.fine) (hlen : ps.length ≤ 1000) (he0 : decErr s.data.toList = 0) (ht0 : (decMsg s.data.toList).t = 0) (hj : findX (decMsg s.data.toList).i ps < ps.length)
  (hhl : hasLegB ps[findX (decMsg s.data.toList).i ps].pm (decMsg s.data.toList).l (decMsg s.data.toList).f = false) :
  Calls Tryz.prog 113 #[.pointer (some ⟨B, 0, none⟩), .string s] w fun e w' => e = .returned (.tuple #[.slice none 0 0, .string ⟨#[]⟩, .int .i64 13]) ∧ Below w.heap.size w w' := by
 have hD := hide (decode_any s hs)
 have hxok := decMsg_ok s.data.toList
 rw [he0] at hD
 clear he0
 generalize decMsg s.data.toList = x at *
 have hF := hide (fun u hu => xfind_any x.i hxok.2.2.2.1 u B ck ps v hu (fun y hy => (hfine y hy).ok) (by omega))
 have hmem := List.getElem_mem hj
 have hfx := hfine _ hmem
 have hH := hide (fun (u : World) b (hu : PBox u b ps[findX x.i ps]) => hasLeg_any ps[findX x.i ps] hfx.ok hfx.few x.l x.f hxok.2.2.2.2.1 hxok.2.1 u b hu)
 rw [hhl] at hH
 have hPb := hide (fun (u : World) (hb : Below w.heap.size w u) => box_of hX hmem hb)
 obtain ⟨ad, cap, hv, hev⟩ := hX.row.form Xp.cells_length
 obtain ⟨g', hg, hcell0, _⟩ := hev _ hj
 subst hg
 subst hv
 have hgl : g' < w.heap.size := hX.row.lt rfl
 clear hhl hmem hfx
 generalize ps[findX x.i ps] = E at *
 generalize findX x.i ps = j at *
 obtain ⟨⟨ei, ed, em, el, ea, ec⟩, es, eh, en⟩ := E
 obtain ⟨k, f, t, i, l, p, g, a, m⟩ := x
 simp only [Msg.v, Msg.cells, Xp.cells] at hD ht0 hF hH hPb
 subst ht0
 have d0 : decide ((j : Int) ≥ (ps.length : Int)) = false := by simp; omega
 have d0' : decide ((ps.length : Int) ≤ (j : Int)) = false := by simp; omega
 have hji : (j : Int) < (ps.length : Int) := by omega
 clear hxok
 go_enter Tryz.func113, Tryz.ntmps113
 go_wp2_with fail
 refine (hD.out _).mono ?_
 rintro e w1 ⟨rfl, hb⟩
 clear hD
 go_wp2_with fail
 have B1 := Box.mk0 w1 #[Value.int .u8 (k : Int), .int .u8 (f : Int), .int .u8 0, .int .u32 (i : Int), .int .u8 (l : Int), .int .u16 (p : Int), .int .u16 (g : Int), .int .u32 (a : Int), .string (bs m)] 102
 generalize World.alloc _ _ = W2 at B1 ⊢
 have hb2 := hb.trans (B1.bel.mono hb.size)
 have hX2 := hX.below hb2
 have hcB : ∀ o, W2.cell? ⟨B, o, none⟩ = (#[.int .u64 (ck : Int), .slice (some ⟨g', 0, none⟩) ps.length cap] : Array Value)[o]? := fun o => cell_at hX2.blk o
 have hBl := hX2.lt
 have hcm := B1.cell
 have hlm := B1.lt
 have hcell : ∀ o, o < 7 → W2.cell? ⟨g', j * 7 + o, none⟩ = (Xp.cells ⟨⟨ei, ed, em, el, ea, ec⟩, es, eh, en⟩)[o]? := fun o ho => (hb2.cell (p := ⟨g', j * 7 + o, none⟩) hgl).trans (hcell0 o ho)
 have c0 := hcell 0 (by decide)
 have c1 := hcell 1 (by decide)
 have c2 := hcell 2 (by decide)
 have c3 := hcell 3 (by decide)
 have c4 := hcell 4 (by decide)
 have c5 := hcell 5 (by decide)
 have c6 := hcell 6 (by decide)
 simp only [Xp.cells, List.getElem?_cons_zero, List.getElem?_cons_succ, Nat.add_zero] at c0 c1 c2 c3 c4 c5 c6
 clear hcell hcell0 hev
 refine (hF.out _ hX2).mono ?_
 rintro e w3 ⟨rfl, rfl⟩
 clear hF
 have hPB := hide (hPb.out _ hb2)
 have hb4 := hide (hb2.alloc hb2.size (.cells #[.int .u32 (ei : Int), .int .u64 (ed : Int), .string (bs em), .slice ea el.length ec, .int .u8 (es : Int), .int .u8 (eh : Int), .int .u8 (en : Int)] 135))
 go_wp2_with fail
 refine (hH.out _ _ hPB.out).mono ?_
 rintro e w4 ⟨rfl, hb5⟩
 have hB5 := hide (hb4.out.trans (hb5.mono hb4.out.size))
 clear hH hPb hPB c0 c1 c2 c3 c4 c5 c6 hcB hcm
 go_wp2
 go_ret3
 exact ⟨rfl, hB5.out⟩
end Go.Proofs.YtjkhbjgfoopomabGreat
