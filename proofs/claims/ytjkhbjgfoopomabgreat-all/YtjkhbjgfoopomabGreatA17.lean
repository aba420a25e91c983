import Derived.Test.YtjkhbjgfoopomabGreatA11
import Derived.Test.YtjkhbjgfoopomabGreatA14
namespace Go.Proofs.YtjkhbjgfoopomabGreat
open Go.RowKit
set_option maxRecDepth 100000
set_option maxHeartbeats 1000000
set_option linter.unusedVariables false
set_option linter.unusedSimpArgs false
def balOf (a : Nat) (evs : List Ev) : Nat := (openedOf a evs).1 + inOf a evs (keysOf evs) - outOf a evs (keysOf evs)
def heldOf (a : Nat) (evs : List Ev) : Nat := staysOf a evs (keysOf evs)
def dueOf (a : Nat) (evs : List Ev) : Nat := comesOf a evs (keysOf evs)
def canB (x : Msg) (evs : List Ev) : Bool := (openedOf x.p evs).2.1 && ((openedOf x.g evs).2.1 && (decide (heldOf x.p evs + x.a ≤ balOf x.p evs) && decide (balOf x.g evs + dueOf x.g evs + x.a ≤ 4294967295)))
theorem bals_bd (a : Nat) (evs : List Ev) (hok : ∀ e, e ∈ evs → e.ok) (hlen : evs.length ≤ 1000000) : balOf a evs ≤ 4294971589967296 ∧ heldOf a evs ≤ 4294967295000000 ∧ dueOf a evs ≤ 4294967295000000 := by
 have h1 := sums_bd a evs hok (keysOf evs) (Nat.le_trans (keysTo_length _ _) hlen)
 have h2 := openedOf_bd a evs hok
 unfold balOf heldOf dueOf
 omega
theorem can_any (x : Msg) (hx : x.ok) (w : World) (B node : Nat) (evs : List Ev) (v : Value) (hR : RB w B node evs v) (hok : ∀ e, e ∈ evs → e.ok) (hlen : evs.length ≤ 1000000)
  (hge : ∀ a, outOf a evs (keysOf evs) ≤ (openedOf a evs).1 + inOf a evs (keysOf evs)) :
  Calls Tryz.prog 119 #[.pointer (some ⟨B, 0, none⟩), x.v] w fun e w' => e = .returned (.bool (canB x evs)) ∧ Below w.heap.size w w' := by
 have hF1 := hide (fun u (hu : RB u B node evs v) => funds_any x.p hx.2.2.2.2.2.1 u B node evs v hu hok hlen (hge x.p))
 have hF2 := hide (fun u (hu : RB u B node evs v) => funds_any x.g hx.2.2.2.2.2.2.1 u B node evs v hu hok hlen (hge x.g))
 have hz : Hid (canB x evs = ((openedOf x.p evs).2.1 && ((openedOf x.g evs).2.1 && (decide (heldOf x.p evs + x.a ≤ balOf x.p evs) && decide (balOf x.g evs + dueOf x.g evs + x.a ≤ 4294967295))))) := hide rfl
 have b1 := bals_bd x.p evs hok hlen
 have b2 := bals_bd x.g evs hok hlen
 change Hid (∀ u, RB u B node evs v → Calls Tryz.prog 81 #[.pointer (some ⟨B, 0, none⟩), .int .u16 (x.p : Int)] u fun e w' => e = .returned (.tuple #[.int .u64 (balOf x.p evs : Int), .int .u64 (heldOf x.p evs : Int), .int .u64 (dueOf x.p evs : Int), .bool (openedOf x.p evs).2.1]) ∧ Below u.heap.size u w') at hF1
 change Hid (∀ u, RB u B node evs v → Calls Tryz.prog 81 #[.pointer (some ⟨B, 0, none⟩), .int .u16 (x.g : Int)] u fun e w' => e = .returned (.tuple #[.int .u64 (balOf x.g evs : Int), .int .u64 (heldOf x.g evs : Int), .int .u64 (dueOf x.g evs : Int), .bool (openedOf x.g evs).2.1]) ∧ Below u.heap.size u w') at hF2
 clear hge
 generalize canB x evs = R at *
 generalize (openedOf x.p evs).2.1 = o1 at *
 generalize (openedOf x.g evs).2.1 = o2 at *
 generalize balOf x.p evs = bp at *
 generalize heldOf x.p evs = sp at *
 generalize dueOf x.p evs = dp at *
 generalize balOf x.g evs = bg at *
 generalize heldOf x.g evs = sg at *
 generalize dueOf x.g evs = dg at *
 obtain ⟨k, f, t, i, l, p, g, a, m⟩ := x
 obtain ⟨hk, hf, ht, hi, hl, hp, hg, ha⟩ := hx
 simp only [Msg.v, Msg.cells] at *
 obtain ⟨b11, b12, b13⟩ := b1
 obtain ⟨b21, b22, b23⟩ := b2
 have W1 : IntKind.u64.wrap ((sp : Int) + (a : Int)) = ((sp + a : Nat) : Int) := by rw [IntKind.wrap_u64]; omega
 have W2 : IntKind.u64.wrap ((bg : Int) + (dg : Int)) = ((bg + dg : Nat) : Int) := by rw [IntKind.wrap_u64]; omega
 have W3 : IntKind.u64.wrap (((bg + dg : Nat) : Int) + (a : Int)) = ((bg + dg + a : Nat) : Int) := by rw [IntKind.wrap_u64]; omega
 go_enter Tryz.func119, Tryz.ntmps119
 go_wp2_with fail
 refine (hF1.out _ (hR.below ((Below.refl _ _).alloc (Nat.le_refl _) _))).mono ?_
 rintro e w1 ⟨rfl, hb⟩
 have B1 := (Box.mk0 _ _ _).below hb
 have hc := B1.cell
 have hlt := B1.lt
 have hR1 := hR.below B1.bel
 clear hb hF1
 go_wp2_with fail
 refine (hF2.out _ hR1).mono ?_
 rintro e w2 ⟨rfl, hb⟩
 have B2 := B1.below hb
 clear hc
 have hc := B2.cell
 have hbel := B2.bel
 clear hb hF2 B1 B2 hR1 hR hlt
 cases o1 with
 | false =>
  have hq : Hid (R = false) := hide (by rw [hz.out]; simp);clear hz;go_wp2;go_ret;exact ⟨by rw [hq.out]; rfl, hbel⟩
 | true =>
  cases o2 with
  | false =>
   have hq : Hid (R = false) := hide (by rw [hz.out]; simp);clear hz;go_wp2;go_ret;exact ⟨by rw [hq.out]; rfl, hbel⟩
  | true =>
   by_cases h1 : sp + a ≤ bp
   ·have d1 : decide ((sp : Int) + (a : Int) ≤ (bp : Int)) = true := by simp; omega
    have d1' : decide (((sp + a : Nat) : Int) ≤ (bp : Int)) = true := by simp; omega
    have d1'' : decide ((bp : Int) ≥ (sp : Int) + (a : Int)) = true := by simp; omega
    have hq : Hid (R = decide (bg + dg + a ≤ 4294967295)) := hide (by rw [hz.out]; simp [h1]);have hq2 : Hid (decide ((bg : Int) + (dg : Int) + (a : Int) ≤ 4294967295) = decide (bg + dg + a ≤ 4294967295)) := hide (decide_eq_decide.2 (by omega));clear hz h1;go_wp2;go_ret;exact ⟨by rw [hq.out, ← hq2.out]; rfl, hbel⟩
   ·have d1 : decide ((sp : Int) + (a : Int) ≤ (bp : Int)) = false := by simp; omega
    have d1' : decide (((sp + a : Nat) : Int) ≤ (bp : Int)) = false := by simp; omega
    have hq : Hid (R = false) := hide (by rw [hz.out]; simp [h1]);clear hz h1;go_wp2;go_ret;exact ⟨by rw [hq.out]; rfl, hbel⟩
theorem bs_same (a b : List UInt8) : ((bs a).toList == (bs b).toList) = decide (a = b) := by rw [bs_toList, bs_toList]; by_cases h : a = b <;> simp [h]
theorem legFold_asked (id l : Nat) (evs : List Ev) : ∀ s : Nat × Msg × Bool, (s.2.2 = true → s.1 ≠ 0) → ((evs.foldl (legStep id l) s).2.2 = true → (evs.foldl (legStep id l) s).1 ≠ 0) := by
 induction evs with
 | nil => intro s h; exact h
 | cons e r ih =>
  intro s h;refine ih _ ?_;unfold legStep
  (repeat' split) <;> first | exact h | (intro _; simp)
theorem legOf_asked (id l : Nat) (evs : List Ev) : (legOf id l evs).2.2 = true → (legOf id l evs).1 ≠ 0 := legFold_asked id l evs _ (by simp)
def otherB (x y : Msg) : Bool := decide (y.p ≠ x.p) || (decide (y.g ≠ x.g) || (decide (y.a ≠ x.a) || decide (y.m ≠ x.m)))
def hErrT (x : Msg) (T : Nat × Msg × Bool) (n : Nat) : Nat :=
 if x.k = 1 ∧ T.2.2 = true ∧ otherB x T.2.1 = true then 11
 else if (x.k = 2 ∧ T.1 ≠ 1 ∧ T.1 ≠ 3) ∨ (x.k = 3 ∧ T.1 = 3) then 14
 else if x.k ≠ 2 ∧ T.1 = 0 ∧ 128 ≤ n then 10 else 0
def hErrOf (x : Msg) (evs : List Ev) : Nat := hErrT x (legOf x.i x.l evs) (keysOf evs).length
def hNewT (x : Msg) (T : Nat × Msg × Bool) (n : Nat) (can : Bool) : List Ev :=
 if hErrT x T n ≠ 0 then [] else if x.k = 1 ∧ T.1 = 0 then [⟨1, x, can⟩] else if x.k = 2 ∧ T.1 = 1 then [⟨2, x, false⟩] else if x.k = 3 ∧ T.1 ≠ 4 then [⟨3, x, false⟩] else []
def hEvsOf (x : Msg) (evs : List Ev) : List Ev := evs ++ hNewT x (legOf x.i x.l evs) (keysOf evs).length (canB x evs)
def strCell (l : List UInt8) : List Value := [.string (bs l)]
theorem strCell_length (l : List UInt8) : (strCell l).length = 1 := rfl
structure Handed (w w' : World) (B node : Nat) (evs' : List Ev) (v v' lv : Value) (outs : List (List UInt8)) : Prop where
 to : RBTo w w' B node evs' v v'
 row : RowOf w' 9 1 strCell lv outs
 fresh : ∀ g, lv.ownBlock = some g → w.heap.size ≤ g ∧ v'.ownBlock ≠ some g
theorem RBTo.then {w u u2 : World} {B node : Nat} {evs' : List Ev} {v v' : Value} (h : RBTo w u B node evs' v v') (hb : Below u.heap.size u u2) : RBTo w u2 B node evs' v v' :=
 ⟨h.rb.below hb, h.kept.trans (Kept.of_below (S := fun _ => False) hb) (fun i hi => hi.elim), h.own, h.ap⟩
theorem RBTo.same {w u : World} {B node : Nat} {evs : List Ev} {v : Value} (hR : RB w B node evs v) (hap : v.ownBlock ≠ some B) (hb : Below w.heap.size w u) : RBTo w u B node evs v v :=
 ⟨hR.below hb, Kept.of_below hb, fun g h => .inl h, hap⟩
theorem Handed.nil {w u : World} {B node : Nat} {evs' : List Ev} {v v' : Value} (h : RBTo w u B node evs' v v') : Handed w u B node evs' v v' (.slice none 0 0) [] :=
 ⟨h, RowOf.nil _ _, fun g hg => by simp [Value.ownBlock] at hg⟩
theorem Handed.single {w u u2 : World} {B node : Nat} {evs' : List Ev} {v v' : Value} (h : RBTo w u B node evs' v v') (hb : Below u.heap.size u u2) (ans : List UInt8) :
  Handed w (u2.alloc (.cells #[.string (bs ans)] 9)) B node evs' v v' (.slice (some ⟨u2.heap.size, 0, none⟩) 1 1) [ans] := by
 have h2 := h.then hb
 have hbel : Below u2.heap.size u2 (u2.alloc (.cells #[.string (bs ans)] 9)) := (Below.refl _ _).alloc (Nat.le_refl _) _
 have h3 := h2.then hbel
 refine ⟨h3, ⟨rfl, .inr ⟨u2.heap.size, 1, #[.string (bs ans)], rfl, Nat.zero_le _, heap_alloc_self _ _, Nat.le_refl _, by unfold maxLen; omega, rfl, rfl⟩⟩, ?_⟩
 intro g hg
 have : g = u2.heap.size := by simpa [Value.ownBlock] using hg.symm
 subst this
 refine ⟨h2.kept.size, fun e => ?_⟩
 have := h2.rb.row.lt e
 omega
theorem told_at (k f t i l p g a : Nat) (m : List UInt8) (hx : (⟨k, f, t, i, l, p, g, a, m⟩ : Msg).ok) (kk : Int) (hkk : (k : Int) = kk) (B node : Nat) (hnode : node < 256) (E : List Ev) (hok : ∀ e, e ∈ E → e.ok) (hlen : E.length ≤ 1000000) :
  Hid (∀ u v', RB u B node E v' → Calls Tryz.prog 120 #[.pointer (some ⟨B, 0, none⟩), .agg #[.int .u8 kk, .int .u8 (f : Int), .int .u8 (t : Int), .int .u32 (i : Int), .int .u8 (l : Int), .int .u16 (p : Int), .int .u16 (g : Int), .int .u32 (a : Int), .string (bs m)]] u fun e w' => e = .returned (.string (bs (ansOf node i l (legOf i l E).1))) ∧ Below u.heap.size u w') := by
 subst hkk
 exact hide (fun u v' hu => told_any ⟨k, f, t, i, l, p, g, a, m⟩ hx u B node hnode E v' hu hok hlen)
theorem boxes_kept {w1 u u' : World} {S : Nat → Prop} {cs : Array Value} (h : Box w1 cs u) (hk : Kept S u u') (hs : ∀ k, S k → k < w1.heap.size) : ∀ o, u'.cell? ⟨w1.heap.size, o, none⟩ = cs[o]? := fun o => by
 rw [hk.cell (p := ⟨w1.heap.size, o, none⟩) h.lt (fun x => by have := hs _ x; simp at this)]
 exact h.cell o
theorem strInfo : (Tryz.prog.info? 9).map (fun i => (i.zero, i.size, i.bytes)) = some (some (.string ByteArray.empty), 1, 16) := by kernel_rfl
theorem str_one (e : List UInt8) : ∀ u ∈ strCell e, u.oneCell' = true := by
 intro u hu
 simp only [strCell, List.mem_cons, List.not_mem_nil, or_false] at hu
 subst hu
 rfl
def tickL (node : Nat) (ls : List Lg) : List (List UInt8) := (ls.filter fun x => decide (x.st = 1)).map fun x => ansOf node x.id x.l 1
theorem tickL_yes (node : Nat) (ls : List Lg) (k : Nat) (hk : k < ls.length) (h : ls[k].st = 1) : tickL node (ls.take (k + 1)) = tickL node (ls.take k) ++ [ansOf node ls[k].id ls[k].l 1] := by
 unfold tickL
 rw [List.take_succ_eq_append_getElem hk, List.filter_append, List.map_append]
 simp [h]
theorem tickL_no (node : Nat) (ls : List Lg) (k : Nat) (hk : k < ls.length) (h : ls[k].st ≠ 1) : tickL node (ls.take (k + 1)) = tickL node (ls.take k) := by
 unfold tickL
 rw [List.take_succ_eq_append_getElem hk, List.filter_append, List.map_append]
 simp [h]
theorem tickL_length (node : Nat) (ls : List Lg) : (tickL node ls).length ≤ ls.length := by
 unfold tickL
 rw [List.length_map]
 exact List.length_filter_le _ _
theorem str_empty (w : World) : RowOf (w.alloc (.cells #[] 9)) 9 1 strCell (.slice (some ⟨w.heap.size, 0, none⟩) 0 0) [] :=
 ⟨rfl, .inr ⟨w.heap.size, 0, #[], rfl, Nat.zero_le _, heap_alloc_self _ _, Nat.le_refl _, by unfold maxLen; omega, rfl, rfl⟩⟩
theorem xTick_any (w : World) (B node : Nat) (hnode : 1 ≤ node ∧ node ≤ 7) (ac : List Ac) (ls : List Lg) (va vl : Value) (hX : XB w B node ac ls va vl) (hok : ∀ x, x ∈ ls → x.ok) (hl4 : ∀ x, x ∈ ls → x.l < 4) (hlen : ls.length ≤ 1000000) :
  Calls Tryz.prog 68 #[.pointer (some ⟨B, 0, none⟩)] w fun e w' => (∃ lv, e = .returned lv ∧ RowOf w' 9 1 strCell lv (tickL node ls) ∧ ∀ g, lv.ownBlock = some g → w.heap.size ≤ g) ∧ Below w.heap.size w w' := by
 obtain ⟨ad, cap, hv, hev⟩ := hX.lrow.form Lg.cells_length
 obtain ⟨i0, hi0, y0, y1, y2⟩ := info_parts strInfo
 subst hv
 clear hev
 have hc : ∀ o, _ = _ := fun o => cell_at hX.blk o
 have hBl := hX.lt
 go_enter Tryz.func68, Tryz.ntmps68
 go_wp2
 go_loopw [3, 12] (fun v c u => ∃ k : Nat, k ≤ ls.length ∧ c = .int .i64 k ∧ (∃ g cap', v = .slice (some ⟨g, 0, none⟩) (tickL node (ls.take k)).length cap' ∧ w.heap.size ≤ g ∧ RowOf u 9 1 strCell (.slice (some ⟨g, 0, none⟩) (tickL node (ls.take k)).length cap') (tickL node (ls.take k))) ∧ Below w.heap.size w u) (fun _ c _ => ls.length - (intOf c).toNat)
 case atStart => exact ⟨0, Nat.zero_le _, rfl, ⟨_, _, rfl, Nat.le_refl _, str_empty w⟩, (Below.refl _ _).alloc (Nat.le_refl _) _⟩
 case round =>
  obtain ⟨k, hk, rfl, ⟨gl, capl, rfl, hgl, hrow⟩, hb⟩ := hrel;have hXu := hX.below hb;clear hc;have hc : ∀ o, _ = _ := fun o => cell_at hXu.blk o;have hBu := hXu.lt;by_cases hlt : k < ls.length
  ·obtain ⟨ad', cap', hv', hev'⟩ := hXu.lrow.form Lg.cells_length;obtain ⟨g, hg, hcell, _⟩ := hev' k hlt;have ead : ad = ad' := by injection hv'
   subst ead;subst hg;have hgu : g < wr.heap.size := hXu.lrow.lt rfl;have hy := hide (tickL_yes node ls k hlt);have hn := hide (tickL_no node ls k hlt);have c0 := hcell 0 (by decide);have c1 := hcell 1 (by decide);have c2 := hcell 2 (by decide);have hek := hok ls[k] (List.getElem_mem hlt);have h4 := hl4 ls[k] (List.getElem_mem hlt);have htl : (tickL node (ls.take k)).length ≤ k := Nat.le_trans (tickL_length _ _) (List.length_take_le _ _);clear hcell hev' hv';generalize ls[k] = E at *;obtain ⟨ei, el, es, ep, eg, ea, em⟩ := E;obtain ⟨h1, h2, h3, _, _, _⟩ := hek;simp only [Lg.cells, List.getElem?_cons_zero, List.getElem?_cons_succ, Nat.add_zero] at c0 c1 c2 h1 h2 h3 h4;simp only at hy hn;generalize tickL node (ls.take k) = L at *;have hlk : (k : Int) < (ls.length : Int) := by omega
   by_cases hst : es = 1
   ·have dst : ((es : Int) == 1) = true := by simp; omega
    have hq : Hid (tickL node (ls.take (k + 1)) = L ++ [ansOf node ei el 1]) := hide (hy.out hst);have hRp := hide (fun u (hu : (u.cell? ⟨B, 2, none⟩ = some (.slice (some ⟨g, 0, none⟩) ls.length cap) ∧ u.cell? ⟨g, k * 7, none⟩ = some (.int .u32 (ei : Int)) ∧ u.cell? ⟨g, k * 7 + 1, none⟩ = some (.int .u8 (el : Int))) ∧ Below wr.heap.size wr u) => report_any ei el 1 h1 h4 (by omega) u B node hnode ac ls _ _ (hXu.below hu.2));change Hid (∀ u, _ → Calls Tryz.prog 106 #[.pointer (some ⟨B, 0, none⟩), .int .u32 (ei : Int), .int .u8 (el : Int), .int .u8 1] u _) at hRp;have b2 : wr.cell? ⟨B, 2, none⟩ = some (.slice (some ⟨g, 0, none⟩) ls.length cap) := hc 2;generalize ansOf node ei el 1 = A at *;clear hy hn hst;go_wp2_with fail
    go_region_held3 (fun u => (u.cell? ⟨B, 2, none⟩ = some (.slice (some ⟨g, 0, none⟩) ls.length cap) ∧ u.cell? ⟨g, k * 7, none⟩ = some (.int .u32 (ei : Int)) ∧ u.cell? ⟨g, k * 7 + 1, none⟩ = some (.int .u8 (el : Int))) ∧ Below wr.heap.size wr u)
     (first
      | with_reducible exact keep3_drew ⟨b2, c0, c1⟩
      | with_reducible exact keep3_call hBu hgu hgu (by assumption) hb9)
     (first
      | (go_at_call 106; refine (hRp.out _ ?_).mono ?_; assumption; rintro e u2 ⟨rfl, hb9⟩))
    have hb2 := hb.trans ((undrew hb9).mono hb.size);have hrow2 := hrow.below (undrew hb9);clear hRp hb9 hc c0 c1 c2 b2 hrow
    go_wp2_with (first
     | (at_builtin; refine wpList_row strCell_length u2 (by rfl) _ _ 38 (by rfl) 9 i0 _ 16 Tryz.underlying38 hi0 y0 y1 y2 rfl (by decide) (.slice (some ⟨gl, 0, none⟩) L.length capl) L (by rfl) hrow2 1 A (by rfl) (str_one _) (by unfold maxLen; omega) (by omega) ?_ _ (by rfl); intro g9 cap9 w9 hrow9 hk9 hg9 hlt9; have X : Hid (RowOf w9 9 1 strCell (.slice (some ⟨g9, 0, none⟩) (L.length + 1) cap9) (L ++ [A]) ∧ Kept (fun k => (Value.slice (some ⟨gl, 0, none⟩) L.length capl).ownBlock = some k) u2 w9 ∧ ((Value.slice (some ⟨gl, 0, none⟩) L.length capl).ownBlock = some g9 ∨ u2.heap.size ≤ g9)) := hide ⟨hrow9, hk9, hg9⟩; clear hrow9 hk9 hg9))
    have hown : ∀ k', (Value.slice (some ⟨gl, 0, none⟩) L.length capl).ownBlock = some k' → w.heap.size ≤ k' := fun k' h' => by
     have : k' = gl := by simpa [Value.ownBlock] using h'.symm
     omega
    have hg9 : w.heap.size ≤ g9 := X.out.2.2.elim (hown g9) (fun h => Nat.le_trans hb2.size h);have hb9 := hb2.trans (X.out.2.1.below hb2.size hown);refine ⟨⟨k + 1, hlt, by go_num, ⟨g9, cap9, by rw [hq.out, List.length_append]; rfl, hg9, ?_⟩, hb9⟩, by simp [intOf]; omega⟩;rw [hq.out, List.length_append];exact X.out.1
   ·have dst : ((es : Int) == 1) = false := by simp; omega
    have hq : Hid (tickL node (ls.take (k + 1)) = L) := hide (hn.out hst);clear hy hn hst;go_wp2;exact ⟨⟨k + 1, hlt, by go_num, ⟨gl, capl, by rw [hq.out], hgl, by rw [hq.out]; exact hrow⟩, hb⟩, by simp [intOf]; omega⟩
  ·obtain rfl : k = ls.length := by omega
   simp only [List.take_length] at hrow ⊢;go_wp2;go_ret;refine ⟨⟨_, rfl, hrow, fun g' h' => ?_⟩, hb⟩;have : g' = gl := by simpa [Value.ownBlock] using h'.symm
   subst this;exact hgl
theorem Box.drewN {w u : World} {cs : Array Value} (h : Box w cs u) (n : Nat) : Box w cs (u.drewN n) := ⟨h.bel.drewN n, h.lt, h.cell, h.fro⟩
theorem rh_conflict (s : ByteArray) (hs : s.size ≤ 140737488351232) (w : World) (B : Nat) (evs : List Ev) (v : Value) (f t i l p g a : Nat) (m : List UInt8) (hxok : (⟨1, f, t, i, l, p, g, a, m⟩ : Msg).ok) (t1 nk nf nt ni nl np ng na : Nat) (nm : List UInt8) (t3 : Bool)
  (he0 : decErr s.data.toList = 0) (hx : decMsg s.data.toList = ⟨1, f, t, i, l, p, g, a, m⟩) (hT : legOf i l evs = (t1, ⟨nk, nf, nt, ni, nl, np, ng, na, nm⟩, t3))
  (hR : RB w B t evs v) (hap : v.ownBlock ≠ some B) (hok : ∀ e, e ∈ evs → e.ok) (hlen : evs.length ≤ 900000) (h3 : t3 = true) (ho : otherB ⟨1, f, t, i, l, p, g, a, m⟩ ⟨nk, nf, nt, ni, nl, np, ng, na, nm⟩ = true) :
  Calls Tryz.prog 84 #[.pointer (some ⟨B, 0, none⟩), .string s] w fun e w' => e = .returned (.tuple #[.slice none 0 0, .int .i64 11]) ∧ ∃ v', RBTo w w' B t evs v v' := by
 have hD := hide (refDecode_any s hs)
 rw [he0, hx] at hD
 have hL := hide (fun u (hu : RB u B t evs v) => leg_any i l hxok.2.2.2.1 hxok.2.2.2.2.1 u B t evs v hu hok (by omega))
 rw [hT] at hL
 have hK := hide (fun u (hu : RB u B t evs v) => kept_any u B t evs v hu hok (by omega))
 have hkl : (keysOf evs).length ≤ evs.length := keysTo_length _ _
 generalize hnn : (keysOf evs).length = n at *
 replace hnn := hide hnn
 obtain ⟨ad, cap, hv, hev⟩ := hR.form
 clear hev he0 hx
 replace hT := hide hT
 subst hv
 have hxok' := hide hxok
 obtain ⟨hk, hf, ht, hi, hl, hp, hg, ha⟩ := hxok
 simp only [Msg.v, Msg.cells] at hk hf ht hi hl hp hg ha hD hL
 have hBl := hR.lt
 have hcs : ((t : Int) != (t : Int)) = false := by simp
 go_enter Tryz.func84, Tryz.ntmps84
 go_wp2_with fail
 refine (hD.out _).mono ?_
 rintro e w1 ⟨rfl, hb⟩
 have hR1 := hR.below hb
 have hc : ∀ o, _ = _ := fun o => cell_at hR1.blk o
 have hBl1 := hR1.lt
 clear hD
 go_wp2_with fail
 go_quiet (fail)
 have B1 := (Box.mk0 w1 #[Value.int .u8 1, .int .u8 (f : Int), .int .u8 (t : Int), .int .u32 (i : Int), .int .u8 (l : Int), .int .u16 (p : Int), .int .u16 (g : Int), .int .u32 (a : Int), .string (bs m)] 102).drewN nq
 generalize World.drewN _ _ = w2 at *
 have hcm := B1.cell
 have hlt1 := B1.lt
 have hR2 := hR1.below B1.bel
 have hBl2 := hR2.lt
 clear hc
 go_wp2_with fail
 refine (hL.out _ hR2).mono ?_
 rintro e w3 ⟨rfl, hb3⟩
 have hR3 := hR2.below hb3
 have B3 := B1.below hb3
 clear hcm hlt1 B1 hL
 go_wp2_with fail
 refine (hK.out _ (hR3.below ((Below.refl _ _).alloc (Nat.le_refl _) _))).mono ?_
 rintro e w4 ⟨rfl, hb4⟩
 have B4 := (B3.alloc _).below hb4
 have hcm := B4.cell
 have hltm := B4.lt
 have hco := fun o => cel_kept hb4 o
 have hlto := lt_kept hb4
 have hR4 := (hR3.below ((Below.refl _ _).alloc (Nat.le_refl _) _)).below hb4
 have hbel4 := hb.trans (B4.bel.mono hb.size)
 clear hb3 hb4 hK B3
 subst h3
 have hno := (legOf_ok i l evs hok).2
 rw [hT.out] at hno
 obtain ⟨_, _, _, _, _, hnp, hng, hna⟩ := hno
 simp only at hnp hng hna
 simp only [otherB, Bool.or_eq_true, decide_eq_true_eq] at ho
 by_cases o1 : np = p
 ·have d1 : ((np : Int) != (p : Int)) = false := by simp; omega
  by_cases o2 : ng = g
  ·have d2 : ((ng : Int) != (g : Int)) = false := by simp; omega
   by_cases o3 : na = a
   ·have d3 : ((na : Int) != (a : Int)) = false := by simp; omega
    have o4 : nm ≠ m := by
     rcases ho with h | h | h | h
     ·exact absurd o1 h
     ·exact absurd o2 h
     ·exact absurd o3 h
     ·exact h
    have d4 : ((bs nm).toList == (bs m).toList) = false := by rw [bs_same]; simpa using o4
    clear ho o1 o2 o3;go_wp2;go_ret2;exact ⟨rfl, _, RBTo.same hR hap hbel4⟩
   ·have d3 : ((na : Int) != (a : Int)) = true := by simp; omega
    clear ho o1 o2 o3;go_wp2;go_ret2;exact ⟨rfl, _, RBTo.same hR hap hbel4⟩
  ·have d2 : ((ng : Int) != (g : Int)) = true := by simp; omega
   clear ho o1 o2;go_wp2;go_ret2;exact ⟨rfl, _, RBTo.same hR hap hbel4⟩
 ·have d1 : ((np : Int) != (p : Int)) = true := by simp; omega
  clear ho o1;go_wp2;go_ret2;exact ⟨rfl, _, RBTo.same hR hap hbel4⟩
theorem rh_state2 (s : ByteArray) (hs : s.size ≤ 140737488351232) (w : World) (B : Nat) (evs : List Ev) (v : Value) (f t i l p g a : Nat) (m : List UInt8) (hxok : (⟨2, f, t, i, l, p, g, a, m⟩ : Msg).ok) (t1 nk nf nt ni nl np ng na : Nat) (nm : List UInt8) (t3 : Bool)
  (he0 : decErr s.data.toList = 0) (hx : decMsg s.data.toList = ⟨2, f, t, i, l, p, g, a, m⟩) (hT : legOf i l evs = (t1, ⟨nk, nf, nt, ni, nl, np, ng, na, nm⟩, t3))
  (hR : RB w B t evs v) (hap : v.ownBlock ≠ some B) (hok : ∀ e, e ∈ evs → e.ok) (hlen : evs.length ≤ 900000) (h1 : t1 ≠ 1) (h3 : t1 ≠ 3) :
  Calls Tryz.prog 84 #[.pointer (some ⟨B, 0, none⟩), .string s] w fun e w' => e = .returned (.tuple #[.slice none 0 0, .int .i64 14]) ∧ ∃ v', RBTo w w' B t evs v v' := by
 have hD := hide (refDecode_any s hs)
 rw [he0, hx] at hD
 have hL := hide (fun u (hu : RB u B t evs v) => leg_any i l hxok.2.2.2.1 hxok.2.2.2.2.1 u B t evs v hu hok (by omega))
 rw [hT] at hL
 have hK := hide (fun u (hu : RB u B t evs v) => kept_any u B t evs v hu hok (by omega))
 have hkl : (keysOf evs).length ≤ evs.length := keysTo_length _ _
 generalize hnn : (keysOf evs).length = n at *
 replace hnn := hide hnn
 obtain ⟨ad, cap, hv, hev⟩ := hR.form
 clear hev he0 hx
 replace hT := hide hT
 subst hv
 have hxok' := hide hxok
 obtain ⟨hk, hf, ht, hi, hl, hp, hg, ha⟩ := hxok
 simp only [Msg.v, Msg.cells] at hk hf ht hi hl hp hg ha hD hL
 have hBl := hR.lt
 have hcs : ((t : Int) != (t : Int)) = false := by simp
 go_enter Tryz.func84, Tryz.ntmps84
 go_wp2_with fail
 refine (hD.out _).mono ?_
 rintro e w1 ⟨rfl, hb⟩
 have hR1 := hR.below hb
 have hc : ∀ o, _ = _ := fun o => cell_at hR1.blk o
 have hBl1 := hR1.lt
 clear hD
 go_wp2_with fail
 go_quiet (fail)
 have B1 := (Box.mk0 w1 #[Value.int .u8 2, .int .u8 (f : Int), .int .u8 (t : Int), .int .u32 (i : Int), .int .u8 (l : Int), .int .u16 (p : Int), .int .u16 (g : Int), .int .u32 (a : Int), .string (bs m)] 102).drewN nq
 generalize World.drewN _ _ = w2 at *
 have hcm := B1.cell
 have hlt1 := B1.lt
 have hR2 := hR1.below B1.bel
 have hBl2 := hR2.lt
 clear hc
 go_wp2_with fail
 refine (hL.out _ hR2).mono ?_
 rintro e w3 ⟨rfl, hb3⟩
 have hR3 := hR2.below hb3
 have B3 := B1.below hb3
 clear hcm hlt1 B1 hL
 go_wp2_with fail
 refine (hK.out _ (hR3.below ((Below.refl _ _).alloc (Nat.le_refl _) _))).mono ?_
 rintro e w4 ⟨rfl, hb4⟩
 have B4 := (B3.alloc _).below hb4
 have hcm := B4.cell
 have hltm := B4.lt
 have hco := fun o => cel_kept hb4 o
 have hlto := lt_kept hb4
 have hR4 := (hR3.below ((Below.refl _ _).alloc (Nat.le_refl _) _)).below hb4
 have hbel4 := hb.trans (B4.bel.mono hb.size)
 clear hb3 hb4 hK B3
 have d1 : ((t1 : Int) != 1) = true := by simp; omega
 have d3 : ((t1 : Int) != 3) = true := by simp; omega
 clear h1 h3
 go_wp2
 go_ret2
 exact ⟨rfl, _, RBTo.same hR hap hbel4⟩
theorem rh_state3 (s : ByteArray) (hs : s.size ≤ 140737488351232) (w : World) (B : Nat) (evs : List Ev) (v : Value) (f t i l p g a : Nat) (m : List UInt8) (hxok : (⟨3, f, t, i, l, p, g, a, m⟩ : Msg).ok) (t1 nk nf nt ni nl np ng na : Nat) (nm : List UInt8) (t3 : Bool)
  (he0 : decErr s.data.toList = 0) (hx : decMsg s.data.toList = ⟨3, f, t, i, l, p, g, a, m⟩) (hT : legOf i l evs = (t1, ⟨nk, nf, nt, ni, nl, np, ng, na, nm⟩, t3))
  (hR : RB w B t evs v) (hap : v.ownBlock ≠ some B) (hok : ∀ e, e ∈ evs → e.ok) (hlen : evs.length ≤ 900000) (h3 : t1 = 3) :
  Calls Tryz.prog 84 #[.pointer (some ⟨B, 0, none⟩), .string s] w fun e w' => e = .returned (.tuple #[.slice none 0 0, .int .i64 14]) ∧ ∃ v', RBTo w w' B t evs v v' := by
 have hD := hide (refDecode_any s hs)
 rw [he0, hx] at hD
 have hL := hide (fun u (hu : RB u B t evs v) => leg_any i l hxok.2.2.2.1 hxok.2.2.2.2.1 u B t evs v hu hok (by omega))
 rw [hT] at hL
 have hK := hide (fun u (hu : RB u B t evs v) => kept_any u B t evs v hu hok (by omega))
 have hkl : (keysOf evs).length ≤ evs.length := keysTo_length _ _
 generalize hnn : (keysOf evs).length = n at *
 replace hnn := hide hnn
 obtain ⟨ad, cap, hv, hev⟩ := hR.form
 clear hev he0 hx
 replace hT := hide hT
 subst hv
 have hxok' := hide hxok
 obtain ⟨hk, hf, ht, hi, hl, hp, hg, ha⟩ := hxok
 simp only [Msg.v, Msg.cells] at hk hf ht hi hl hp hg ha hD hL
 have hBl := hR.lt
 have hcs : ((t : Int) != (t : Int)) = false := by simp
 go_enter Tryz.func84, Tryz.ntmps84
 go_wp2_with fail
 refine (hD.out _).mono ?_
 rintro e w1 ⟨rfl, hb⟩
 have hR1 := hR.below hb
 have hc : ∀ o, _ = _ := fun o => cell_at hR1.blk o
 have hBl1 := hR1.lt
 clear hD
 go_wp2_with fail
 go_quiet (fail)
 have B1 := (Box.mk0 w1 #[Value.int .u8 3, .int .u8 (f : Int), .int .u8 (t : Int), .int .u32 (i : Int), .int .u8 (l : Int), .int .u16 (p : Int), .int .u16 (g : Int), .int .u32 (a : Int), .string (bs m)] 102).drewN nq
 generalize World.drewN _ _ = w2 at *
 have hcm := B1.cell
 have hlt1 := B1.lt
 have hR2 := hR1.below B1.bel
 have hBl2 := hR2.lt
 clear hc
 go_wp2_with fail
 refine (hL.out _ hR2).mono ?_
 rintro e w3 ⟨rfl, hb3⟩
 have hR3 := hR2.below hb3
 have B3 := B1.below hb3
 clear hcm hlt1 B1 hL
 go_wp2_with fail
 refine (hK.out _ (hR3.below ((Below.refl _ _).alloc (Nat.le_refl _) _))).mono ?_
 rintro e w4 ⟨rfl, hb4⟩
 have B4 := (B3.alloc _).below hb4
 have hcm := B4.cell
 have hltm := B4.lt
 have hco := fun o => cel_kept hb4 o
 have hlto := lt_kept hb4
 have hR4 := (hR3.below ((Below.refl _ _).alloc (Nat.le_refl _) _)).below hb4
 have hbel4 := hb.trans (B4.bel.mono hb.size)
 clear hb3 hb4 hK B3
 have d3 : ((t1 : Int) == 3) = true := by simp; omega
 clear h3
 go_wp2
 go_ret2
 exact ⟨rfl, _, RBTo.same hR hap hbel4⟩
theorem rh_full1 (s : ByteArray) (hs : s.size ≤ 140737488351232) (w : World) (B : Nat) (evs : List Ev) (v : Value) (f t i l p g a : Nat) (m : List UInt8) (hxok : (⟨1, f, t, i, l, p, g, a, m⟩ : Msg).ok) (t1 nk nf nt ni nl np ng na : Nat) (nm : List UInt8) (t3 : Bool)
  (he0 : decErr s.data.toList = 0) (hx : decMsg s.data.toList = ⟨1, f, t, i, l, p, g, a, m⟩) (hT : legOf i l evs = (t1, ⟨nk, nf, nt, ni, nl, np, ng, na, nm⟩, t3))
  (hR : RB w B t evs v) (hap : v.ownBlock ≠ some B) (hok : ∀ e, e ∈ evs → e.ok) (hlen : evs.length ≤ 900000) (h0 : t1 = 0) (ha3 : t3 = false) (hfull : 128 ≤ (keysOf evs).length) :
  Calls Tryz.prog 84 #[.pointer (some ⟨B, 0, none⟩), .string s] w fun e w' => e = .returned (.tuple #[.slice none 0 0, .int .i64 10]) ∧ ∃ v', RBTo w w' B t evs v v' := by
 have hD := hide (refDecode_any s hs)
 rw [he0, hx] at hD
 have hL := hide (fun u (hu : RB u B t evs v) => leg_any i l hxok.2.2.2.1 hxok.2.2.2.2.1 u B t evs v hu hok (by omega))
 rw [hT] at hL
 have hK := hide (fun u (hu : RB u B t evs v) => kept_any u B t evs v hu hok (by omega))
 have hkl : (keysOf evs).length ≤ evs.length := keysTo_length _ _
 generalize hnn : (keysOf evs).length = n at *
 replace hnn := hide hnn
 obtain ⟨ad, cap, hv, hev⟩ := hR.form
 clear hev he0 hx
 replace hT := hide hT
 subst hv
 have hxok' := hide hxok
 obtain ⟨hk, hf, ht, hi, hl, hp, hg, ha⟩ := hxok
 simp only [Msg.v, Msg.cells] at hk hf ht hi hl hp hg ha hD hL
 have hBl := hR.lt
 have hcs : ((t : Int) != (t : Int)) = false := by simp
 go_enter Tryz.func84, Tryz.ntmps84
 go_wp2_with fail
 refine (hD.out _).mono ?_
 rintro e w1 ⟨rfl, hb⟩
 have hR1 := hR.below hb
 have hc : ∀ o, _ = _ := fun o => cell_at hR1.blk o
 have hBl1 := hR1.lt
 clear hD
 go_wp2_with fail
 go_quiet (fail)
 have B1 := (Box.mk0 w1 #[Value.int .u8 1, .int .u8 (f : Int), .int .u8 (t : Int), .int .u32 (i : Int), .int .u8 (l : Int), .int .u16 (p : Int), .int .u16 (g : Int), .int .u32 (a : Int), .string (bs m)] 102).drewN nq
 generalize World.drewN _ _ = w2 at *
 have hcm := B1.cell
 have hlt1 := B1.lt
 have hR2 := hR1.below B1.bel
 have hBl2 := hR2.lt
 clear hc
 go_wp2_with fail
 refine (hL.out _ hR2).mono ?_
 rintro e w3 ⟨rfl, hb3⟩
 have hR3 := hR2.below hb3
 have B3 := B1.below hb3
 clear hcm hlt1 B1 hL
 go_wp2_with fail
 refine (hK.out _ (hR3.below ((Below.refl _ _).alloc (Nat.le_refl _) _))).mono ?_
 rintro e w4 ⟨rfl, hb4⟩
 have B4 := (B3.alloc _).below hb4
 have hcm := B4.cell
 have hltm := B4.lt
 have hco := fun o => cel_kept hb4 o
 have hlto := lt_kept hb4
 have hR4 := (hR3.below ((Below.refl _ _).alloc (Nat.le_refl _) _)).below hb4
 have hbel4 := hb.trans (B4.bel.mono hb.size)
 clear hb3 hb4 hK B3
 subst ha3
 have d0 : ((t1 : Int) == 0) = true := by simp; omega
 have d3 : ((t1 : Int) == 3) = false := by simp; omega
 have dn : decide ((n : Int) ≥ 128) = true := by simp; omega
 have dn' : decide ((128 : Int) ≤ (n : Int)) = true := by simp; omega
 clear h0
 go_wp2
 go_ret2
 exact ⟨rfl, _, RBTo.same hR hap hbel4⟩
theorem rh_full3 (s : ByteArray) (hs : s.size ≤ 140737488351232) (w : World) (B : Nat) (evs : List Ev) (v : Value) (f t i l p g a : Nat) (m : List UInt8) (hxok : (⟨3, f, t, i, l, p, g, a, m⟩ : Msg).ok) (t1 nk nf nt ni nl np ng na : Nat) (nm : List UInt8) (t3 : Bool)
  (he0 : decErr s.data.toList = 0) (hx : decMsg s.data.toList = ⟨3, f, t, i, l, p, g, a, m⟩) (hT : legOf i l evs = (t1, ⟨nk, nf, nt, ni, nl, np, ng, na, nm⟩, t3))
  (hR : RB w B t evs v) (hap : v.ownBlock ≠ some B) (hok : ∀ e, e ∈ evs → e.ok) (hlen : evs.length ≤ 900000) (h0 : t1 = 0) (ha3 : t3 = false) (hfull : 128 ≤ (keysOf evs).length) :
  Calls Tryz.prog 84 #[.pointer (some ⟨B, 0, none⟩), .string s] w fun e w' => e = .returned (.tuple #[.slice none 0 0, .int .i64 10]) ∧ ∃ v', RBTo w w' B t evs v v' := by
 have hD := hide (refDecode_any s hs)
 rw [he0, hx] at hD
 have hL := hide (fun u (hu : RB u B t evs v) => leg_any i l hxok.2.2.2.1 hxok.2.2.2.2.1 u B t evs v hu hok (by omega))
 rw [hT] at hL
 have hK := hide (fun u (hu : RB u B t evs v) => kept_any u B t evs v hu hok (by omega))
 have hkl : (keysOf evs).length ≤ evs.length := keysTo_length _ _
 generalize hnn : (keysOf evs).length = n at *
 replace hnn := hide hnn
 obtain ⟨ad, cap, hv, hev⟩ := hR.form
 clear hev he0 hx
 replace hT := hide hT
 subst hv
 have hxok' := hide hxok
 obtain ⟨hk, hf, ht, hi, hl, hp, hg, ha⟩ := hxok
 simp only [Msg.v, Msg.cells] at hk hf ht hi hl hp hg ha hD hL
 have hBl := hR.lt
 have hcs : ((t : Int) != (t : Int)) = false := by simp
 go_enter Tryz.func84, Tryz.ntmps84
 go_wp2_with fail
 refine (hD.out _).mono ?_
 rintro e w1 ⟨rfl, hb⟩
 have hR1 := hR.below hb
 have hc : ∀ o, _ = _ := fun o => cell_at hR1.blk o
 have hBl1 := hR1.lt
 clear hD
 go_wp2_with fail
 go_quiet (fail)
 have B1 := (Box.mk0 w1 #[Value.int .u8 3, .int .u8 (f : Int), .int .u8 (t : Int), .int .u32 (i : Int), .int .u8 (l : Int), .int .u16 (p : Int), .int .u16 (g : Int), .int .u32 (a : Int), .string (bs m)] 102).drewN nq
 generalize World.drewN _ _ = w2 at *
 have hcm := B1.cell
 have hlt1 := B1.lt
 have hR2 := hR1.below B1.bel
 have hBl2 := hR2.lt
 clear hc
 go_wp2_with fail
 refine (hL.out _ hR2).mono ?_
 rintro e w3 ⟨rfl, hb3⟩
 have hR3 := hR2.below hb3
 have B3 := B1.below hb3
 clear hcm hlt1 B1 hL
 go_wp2_with fail
 refine (hK.out _ (hR3.below ((Below.refl _ _).alloc (Nat.le_refl _) _))).mono ?_
 rintro e w4 ⟨rfl, hb4⟩
 have B4 := (B3.alloc _).below hb4
 have hcm := B4.cell
 have hltm := B4.lt
 have hco := fun o => cel_kept hb4 o
 have hlto := lt_kept hb4
 have hR4 := (hR3.below ((Below.refl _ _).alloc (Nat.le_refl _) _)).below hb4
 have hbel4 := hb.trans (B4.bel.mono hb.size)
 clear hb3 hb4 hK B3
 subst ha3
 have d0 : ((t1 : Int) == 0) = true := by simp; omega
 have d3 : ((t1 : Int) == 3) = false := by simp; omega
 have dn : decide ((n : Int) ≥ 128) = true := by simp; omega
 have dn' : decide ((128 : Int) ≤ (n : Int)) = true := by simp; omega
 clear h0
 go_wp2
 go_ret2
 exact ⟨rfl, _, RBTo.same hR hap hbel4⟩
def FreshL (w : World) (outs : List (List UInt8)) (w' : World) (lv : Value) : Prop := RowOf w' 9 1 strCell lv outs ∧ ∀ g, lv.ownBlock = some g → w.heap.size ≤ g
theorem eTick_any (w : World) (B node : Nat) (hnode : 1 ≤ node ∧ node ≤ 7) (ac : List Ac) (ls : List Lg) (va vl : Value) (hX : XB w B node ac ls va vl) (hok : ∀ x, x ∈ ls → x.ok) (hl4 : ∀ x, x ∈ ls → x.l < 4) (hlen : ls.length ≤ 1000000) :
  Calls Tryz.prog 42 #[.pointer (some ⟨B, 0, none⟩)] w fun e w' => (∃ lv, e = .returned lv ∧ FreshL w (tickL node ls) w' lv) ∧ Below w.heap.size w w' := by
 have hT := hide (xTick_any w B node hnode ac ls va vl hX hok hl4 hlen)
 have hc : ∀ o, _ = _ := fun o => cell_at hX.blk o
 go_enter Tryz.func42, Tryz.ntmps42
 go_wp2_with fail
 refine hT.out.mono ?_
 rintro e w1 ⟨⟨lv, rfl, h1, h2⟩, hb⟩
 have H : Hid (FreshL w (tickL node ls) w1 lv) := hide ⟨h1, h2⟩
 clear h1 h2 hT hc
 go_wp2
 go_ret
 exact ⟨⟨lv, rfl, H.out⟩, hb⟩
end Go.Proofs.YtjkhbjgfoopomabGreat
