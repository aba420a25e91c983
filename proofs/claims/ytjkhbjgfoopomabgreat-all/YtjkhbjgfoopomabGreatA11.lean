import Derived.Test.YtjkhbjgfoopomabGreatA10
import Derived.Test.YtjkhbjgfoopomabGreatA7
namespace Go.Proofs.YtjkhbjgfoopomabGreat
open Go.RowKit
set_option maxRecDepth 100000
set_option maxHeartbeats 2000000
set_option linter.unusedVariables false
set_option linter.unusedSimpArgs false
def kindFor (st : Nat) : Nat := if st = 1 then 4 else if st = 2 then 5 else 6
def ansMsg (node id l st : Nat) : Msg := ⟨kindFor st, node, 0, id, l, 0, 0, 0, []⟩
def ansOf (node id l st : Nat) : List UInt8 := encOf (ansMsg node id l st)
theorem kindFor_lt (st : Nat) : kindFor st < 256 := by unfold kindFor; (repeat' split) <;> omega
theorem told_any (x : Msg) (hx : x.ok) (w : World) (B node : Nat) (hnode : node < 256) (evs : List Ev) (v : Value) (hR : RB w B node evs v) (hok : ∀ e, e ∈ evs → e.ok) (hlen : evs.length ≤ 1000000) :
  Calls Tryz.prog 120 #[.pointer (some ⟨B, 0, none⟩), x.v] w fun e w' => e = .returned (.string (bs (ansOf node x.i x.l (legOf x.i x.l evs).1))) ∧ Below w.heap.size w w' := by
 have hL := hide (fun u (hu : RB u B node evs v) => leg_any x.i x.l hx.2.2.2.1 hx.2.2.2.2.1 u B node evs v hu hok hlen)
 have hE := hide (fun st u => refEncode_any (ansMsg node x.i x.l st) ⟨kindFor_lt st, hnode, by show (0:Nat) < 256; omega, hx.2.2.2.1, hx.2.2.2.2.1, by show (0:Nat) < 65536; omega, by show (0:Nat) < 65536; omega, by show (0:Nat) < 4294967296; omega⟩ (by show (0:Nat) ≤ _; omega) u)
 change Hid (∀ st u, Calls Tryz.prog 98 #[(ansMsg node x.i x.l st).v] u fun e w' => e = .returned (.tuple #[.string (bs (ansOf node x.i x.l st)), .int .i64 ((faultOf (ansMsg node x.i x.l st) : Nat) : Int)]) ∧ Below u.heap.size u w') at hE
 generalize legOf x.i x.l evs = T at *
 obtain ⟨t1, ⟨nk, nf, nt, ni, nl, np, ng, na, nm⟩, t3⟩ := T
 obtain ⟨k, f, t, i, l, p, g, a, m⟩ := x
 obtain ⟨hk, hf, ht, hi, hl, hp, hg, ha⟩ := hx
 simp only [Msg.v, Msg.cells, ansMsg] at *
 have hEt := hide (hE.out t1)
 generalize ansOf node i l t1 = A at *
 generalize faultOf _ = fv at hEt
 clear hE
 have hc0 : ∀ o, _ = _ := fun o => cell_at hR.blk o
 have hBl := hR.lt
 go_enter Tryz.func120, Tryz.ntmps120
 go_wp2_with fail
 refine (hL.out _ (hR.below ((Below.refl _ _).alloc (Nat.le_refl _) _))).mono ?_
 rintro e w1 ⟨rfl, hb⟩
 have B1 := (Box.mk0 _ _ _).below hb
 have hc := B1.cell
 have hlt := B1.lt
 have hR1 := hR.below B1.bel
 clear hb hL hc0
 have hc0 : ∀ o, _ = _ := fun o => cell_at hR1.blk o
 have e0 : w1.cell? ⟨B, 0, none⟩ = some (.int .u8 (node : Int)) := hc0 0
 have e3 : w1.cell? ⟨w.heap.size, 3, none⟩ = some (.int .u32 (i : Int)) := hc 3
 have e4 : w1.cell? ⟨w.heap.size, 4, none⟩ = some (.int .u8 (l : Int)) := hc 4
 have hB1 : B < w1.heap.size := hR1.lt
 have hE1 : Hid (t1 = 1 → kindFor t1 = 4) := hide (by intro h; simp [kindFor, h])
 have hE2 : Hid (t1 = 2 → kindFor t1 = 5) := hide (by intro h; simp [kindFor, h])
 have hE3 : Hid (t1 ≠ 1 → t1 ≠ 2 → kindFor t1 = 6) := hide (by intro h1 h2; simp [kindFor, h1, h2])
 by_cases h1 : t1 = 1
 ·have d1 : ((t1 : Int) == 1) = true := by simp; omega
  have d2 : ((t1 : Int) == 2) = false := by simp; omega
  have hEu : Hid (∀ u, Calls Tryz.prog 98 #[.agg #[.int .u8 4, .int .u8 (node : Int), .int .u8 0, .int .u32 (i : Int), .int .u8 (l : Int), .int .u16 0, .int .u16 0, .int .u32 0, .string ⟨#[]⟩]] u fun e w' => e = .returned (.tuple #[.string (bs A), .int .i64 (fv : Int)]) ∧ Below u.heap.size u w') := hide (by
   have h := hEt.out;rw [hE1.out h1] at h
   exact h)
  clear h1 hEt hE1 hE2 hE3;go_wp2_with fail
  go_region_held3 (fun u => (u.cell? ⟨B, 0, none⟩ = some (.int .u8 (node : Int)) ∧ u.cell? ⟨w.heap.size, 3, none⟩ = some (.int .u32 (i : Int)) ∧ u.cell? ⟨w.heap.size, 4, none⟩ = some (.int .u8 (l : Int))) ∧ Below w1.heap.size w1 u)
   (first
    | with_reducible exact keep3_start hB1 hlt hlt ⟨e0, e3, e4⟩ _
    | with_reducible exact keep3_call hB1 hlt hlt (by assumption) hb9)
   (first
    | (go_at_call 98; refine (hEu.out _).mono ?_; rintro e u2 ⟨rfl, hb9⟩))
  have B2 := B1.below (all_kept (undrew hb9));clear hb9 hEu hc hc0;go_wp2;go_ret;exact ⟨rfl, B2.bel⟩
 ·have d1 : ((t1 : Int) == 1) = false := by simp; omega
  by_cases h2 : t1 = 2
  ·have d2 : ((t1 : Int) == 2) = true := by simp; omega
   have hEu : Hid (∀ u, Calls Tryz.prog 98 #[.agg #[.int .u8 5, .int .u8 (node : Int), .int .u8 0, .int .u32 (i : Int), .int .u8 (l : Int), .int .u16 0, .int .u16 0, .int .u32 0, .string ⟨#[]⟩]] u fun e w' => e = .returned (.tuple #[.string (bs A), .int .i64 (fv : Int)]) ∧ Below u.heap.size u w') := hide (by
    have h := hEt.out;rw [hE2.out h2] at h
    exact h)
   clear h1 h2 hEt hE1 hE2 hE3;go_wp2_with fail
   go_region_held3 (fun u => (u.cell? ⟨B, 0, none⟩ = some (.int .u8 (node : Int)) ∧ u.cell? ⟨w.heap.size, 3, none⟩ = some (.int .u32 (i : Int)) ∧ u.cell? ⟨w.heap.size, 4, none⟩ = some (.int .u8 (l : Int))) ∧ Below w1.heap.size w1 u)
    (first
     | with_reducible exact keep3_start hB1 hlt hlt ⟨e0, e3, e4⟩ _
     | with_reducible exact keep3_call hB1 hlt hlt (by assumption) hb9)
    (first
     | (go_at_call 98; refine (hEu.out _).mono ?_; rintro e u2 ⟨rfl, hb9⟩))
   have B2 := B1.below (all_kept (undrew hb9));clear hb9 hEu hc hc0;go_wp2;go_ret;exact ⟨rfl, B2.bel⟩
  ·have d2 : ((t1 : Int) == 2) = false := by simp; omega
   have hEu : Hid (∀ u, Calls Tryz.prog 98 #[.agg #[.int .u8 6, .int .u8 (node : Int), .int .u8 0, .int .u32 (i : Int), .int .u8 (l : Int), .int .u16 0, .int .u16 0, .int .u32 0, .string ⟨#[]⟩]] u fun e w' => e = .returned (.tuple #[.string (bs A), .int .i64 (fv : Int)]) ∧ Below u.heap.size u w') := hide (by
    have h := hEt.out;rw [hE3.out h1 h2] at h
    exact h)
   clear h1 h2 hEt hE1 hE2 hE3;go_wp2_with fail
   go_region_held3 (fun u => (u.cell? ⟨B, 0, none⟩ = some (.int .u8 (node : Int)) ∧ u.cell? ⟨w.heap.size, 3, none⟩ = some (.int .u32 (i : Int)) ∧ u.cell? ⟨w.heap.size, 4, none⟩ = some (.int .u8 (l : Int))) ∧ Below w1.heap.size w1 u)
    (first
     | with_reducible exact keep3_start hB1 hlt hlt ⟨e0, e3, e4⟩ _
     | with_reducible exact keep3_call hB1 hlt hlt (by assumption) hb9)
    (first
     | (go_at_call 98; refine (hEu.out _).mono ?_; rintro e u2 ⟨rfl, hb9⟩))
   have B2 := B1.below (all_kept (undrew hb9));clear hb9 hEu hc hc0;go_wp2;go_ret;exact ⟨rfl, B2.bel⟩
def txtCell (l : List UInt8) : List Value := [.string (bs l)]
theorem txtCell_length (l : List UInt8) : (txtCell l).length = 1 := rfl
theorem txt_one (e : List UInt8) : ∀ u ∈ txtCell e, u.oneCell' = true := by
 intro u hu
 simp only [txtCell, List.mem_cons, List.not_mem_nil, or_false] at hu
 subst hu
 rfl
theorem txtInfo : (Tryz.prog.info? 9).map (fun i => (i.zero, i.size, i.bytes)) = some (some (.string ByteArray.empty), 1, 16) := by kernel_rfl
def rankK (k : Nat × Nat) : Nat := k.1 * 4 + k.2
def keyE (e : Ev) : Nat × Nat := (e.msg.i, e.msg.l)
def goodE (evs : List Ev) (nx : Nat) (e : Ev) : Prop := e.kind ≠ 0 ∧ (legOf e.msg.i e.msg.l evs).1 = 1 ∧ nx ≤ rankK (keyE e)
structure Helds (evs : List Ev) (hs : List (Nat × Nat)) : Prop where
 sort : hs.Pairwise fun a b => rankK a < rankK b
 mem : ∀ k, k ∈ hs ↔ ∃ e, e ∈ evs ∧ e.kind ≠ 0 ∧ keyE e = k ∧ (legOf k.1 k.2 evs).1 = 1
 few : ∀ e, e ∈ evs → e.kind ≠ 0 → e.msg.l < 4
def nextK (hs : List (Nat × Nat)) : Nat → Nat
 | 0 => 0
 | n + 1 => match hs[n]? with
  | none => 0
  | some k => rankK k + 1
theorem Helds.below {evs : List Ev} {hs : List (Nat × Nat)} (h : Helds evs hs) (n : Nat) (hn : n ≤ hs.length) (q : Nat) (hq : q < hs.length) : nextK hs n ≤ rankK hs[q] ↔ n ≤ q := by
 have hp := List.pairwise_iff_getElem.1 h.sort
 cases n with
 | zero => simp [nextK]
 | succ n =>
  have hn' : n < hs.length := hn;simp only [nextK, List.getElem?_eq_getElem hn'];constructor
  ·intro h1;rcases Nat.lt_or_ge n q with x | x
   ·omega
   ·rcases Nat.lt_or_ge q n with y | y
    ·have := hp q n hq hn' y;omega
    ·obtain rfl : q = n := by omega
     omega
  ·intro h1;have := hp n q hn' hq h1;omega
theorem Helds.ofEvent {evs : List Ev} {hs : List (Nat × Nat)} (h : Helds evs hs) (n : Nat) (hn : n ≤ hs.length) (e : Ev) (he : e ∈ evs) (hg : goodE evs (nextK hs n) e) : ∃ q, ∃ hq : q < hs.length, hs[q] = keyE e ∧ n ≤ q := by
 obtain ⟨q, hq, hk⟩ := List.getElem_of_mem ((h.mem (keyE e)).2 ⟨e, he, hg.1, rfl, hg.2.1⟩)
 exact ⟨q, hq, hk, (h.below n hn q hq).1 (by rw [hk]; exact hg.2.2)⟩
theorem Helds.toEvent {evs : List Ev} {hs : List (Nat × Nat)} (h : Helds evs hs) (n : Nat) (hn : n < hs.length) : ∃ j, ∃ hj : j < evs.length, goodE evs (nextK hs n) evs[j] ∧ keyE evs[j] = hs[n] := by
 obtain ⟨e, he, h0, hk, h1⟩ := (h.mem hs[n]).1 (List.getElem_mem hn)
 obtain ⟨j, hj, rfl⟩ := List.getElem_of_mem he
 refine ⟨j, hj, ⟨h0, ?_, ?_⟩, hk⟩
 ·rw [← hk] at h1; exact h1
 ·rw [hk]; exact (h.below n (by omega) n hn).2 (Nat.le_refl _)
theorem Helds.done {evs : List Ev} {hs : List (Nat × Nat)} (h : Helds evs hs) (n : Nat) (hn : n ≤ hs.length) (hno : ∀ j (hj : j < evs.length), ¬ goodE evs (nextK hs n) evs[j]) : n = hs.length := by
 rcases Nat.lt_or_ge n hs.length with x | x
 ·obtain ⟨j, hj, hg, _⟩ := h.toEvent n x;exact absurd hg (hno j hj)
 ·omega
theorem Helds.next {evs : List Ev} {hs : List (Nat × Nat)} (h : Helds evs hs) (n : Nat) (hn : n ≤ hs.length) (j : Nat) (hj : j < evs.length) (hg : goodE evs (nextK hs n) evs[j]) (hmin : ∀ i (hi : i < evs.length), goodE evs (nextK hs n) evs[i] → rankK (keyE evs[j]) ≤ rankK (keyE evs[i])) : ∃ hn' : n < hs.length, hs[n] = keyE evs[j] := by
 obtain ⟨q, hq, hk, hnq⟩ := h.ofEvent n hn evs[j] (List.getElem_mem hj) hg
 have hn' : n < hs.length := by omega
 refine ⟨hn', ?_⟩
 obtain ⟨i, hi, hgi, hki⟩ := h.toEvent n hn'
 have h1 := hmin i hi hgi
 rw [hki, ← hk] at h1
 rcases Nat.lt_or_ge n q with x | x
 ·have := List.pairwise_iff_getElem.1 h.sort n q hn' hq x;omega
 ·obtain rfl : q = n := by omega
  exact hk
def BestTo (evs : List Ev) (nx k : Nat) (best at_ : Int) : Prop :=
 (best = -1 ∧ at_ = -1 ∧ ∀ j (hj : j < evs.length), j < k → ¬ goodE evs nx evs[j]) ∨
 ∃ j, ∃ hj : j < evs.length, j < k ∧ at_ = (j : Int) ∧ best = (rankK (keyE evs[j]) : Int) ∧ goodE evs nx evs[j] ∧ ∀ i (hi : i < evs.length), i < k → goodE evs nx evs[i] → rankK (keyE evs[j]) ≤ rankK (keyE evs[i])
theorem BestTo.stay {evs : List Ev} {nx k : Nat} {b a : Int} (h : BestTo evs nx k b a) (hk : k < evs.length) (hn : ¬ goodE evs nx evs[k] ∨ (0 ≤ b ∧ b ≤ (rankK (keyE evs[k]) : Int))) : BestTo evs nx (k + 1) b a := by
 rcases h with ⟨h1, h2, h3⟩ | ⟨j, hj, h1, h2, h3, h4, h5⟩
 ·left;refine ⟨h1, h2, fun j hj hj2 => ?_⟩;rcases Nat.lt_or_ge j k with x | x
  ·exact h3 j hj x
  ·obtain rfl : j = k := by omega
   rcases hn with hn | hn
   ·exact hn
   ·omega
 ·right;refine ⟨j, hj, by omega, h2, h3, h4, fun i hi hi2 hg => ?_⟩;rcases Nat.lt_or_ge i k with x | x
  ·exact h5 i hi x hg
  ·obtain rfl : i = k := by omega
   rcases hn with hn | hn
   ·exact absurd hg hn
   ·omega
theorem BestTo.take {evs : List Ev} {nx k : Nat} {b a : Int} (h : BestTo evs nx k b a) (hk : k < evs.length) (hg : goodE evs nx evs[k]) (hb : b < 0 ∨ (rankK (keyE evs[k]) : Int) < b) : BestTo evs nx (k + 1) (rankK (keyE evs[k]) : Int) (k : Int) := by
 right
 refine ⟨k, hk, by omega, rfl, rfl, hg, fun i hi hi2 hgi => ?_⟩
 rcases Nat.lt_or_ge i k with x | x
 ·rcases h with ⟨h1, h2, h3⟩ | ⟨j, hj, h1, h2, h3, h4, h5⟩
  ·exact absurd hgi (h3 i hi x)
  ·have := h5 i hi x hgi;omega
 ·obtain rfl : i = k := by omega
  exact Nat.le_refl _
def lenV : Value → Nat
 | .slice _ n _ => n
 | _ => 0
theorem RowOf.slice {α : Type} {f : α → List Value} {sz : Nat} {w : World} {e : TypeId} {v : Value} {xs : List α} (h : RowOf w e sz f v xs) : ∃ ad cap, v = .slice ad xs.length cap := by
 rcases h.2 with ⟨h1, h2⟩ | ⟨g, cap, cur, h1, _⟩
 ·exact ⟨none, 0, by rw [h1, h2]⟩
 ·exact ⟨_, cap, h1⟩
def tickT (node : Nat) (hs : List (Nat × Nat)) : List (List UInt8) := hs.map fun k => ansOf node k.1 k.2 1
theorem refTick_any (w : World) (B node : Nat) (hnode : node < 256) (evs : List Ev) (v : Value) (hR : RB w B node evs v) (hok : ∀ e, e ∈ evs → e.ok) (hlen : evs.length ≤ 1000000) (hs : List (Nat × Nat)) (hH : Helds evs hs) (hsl : hs.length ≤ 1000000) :
  Calls Tryz.prog 87 #[.pointer (some ⟨B, 0, none⟩)] w fun e w' => (∃ lv, e = .returned lv ∧ RowOf w' 9 1 txtCell lv (tickT node hs) ∧ ∀ g, lv.ownBlock = some g → w.heap.size ≤ g) ∧ Below w.heap.size w w' := by
 obtain ⟨i0, hi0, y0, y1, y2⟩ := info_parts txtInfo
 obtain ⟨ad, cap, hv, hev⟩ := hR.form
 subst hv
 clear hev
 go_enter Tryz.func87, Tryz.ntmps87
 go_wp2
 go_loopw [3, 4] (fun x l u => ∃ n : Nat, n ≤ hs.length ∧ l = .int .i64 ((nextK hs n : Int) - 1) ∧ RowOf u 9 1 txtCell x (tickT node (hs.take n)) ∧ (∀ g, x.ownBlock = some g → w.heap.size ≤ g) ∧ Below w.heap.size w u) (fun x _ _ => hs.length - lenV x)
 case atStart => exact ⟨0, Nat.zero_le _, rfl, RowOf.nil _ _, fun g hg => by simp [Value.ownBlock] at hg, Below.refl _ _⟩
 case round =>
  obtain ⟨n, hn, rfl, hrow, hxown, hb⟩ := hrel;obtain ⟨adx, capx, rfl⟩ := hrow.slice;have hRu := hR.below hb;have hc : ∀ o, _ = _ := fun o => cell_at hRu.blk o;have hdone := hide (hH.done n hn);have hnext := hide (hH.next n hn);go_wp2
  go_loopw [5, 6, 7] (fun b a c u => ∃ (k : Nat) (bi ai : Int), k ≤ evs.length ∧ c = .int .i64 k ∧ b = .int .i64 bi ∧ a = .int .i64 ai ∧ BestTo evs (nextK hs n) k bi ai ∧ Below wr.heap.size wr u) (fun _ _ c _ => evs.length - (intOf c).toNat)
  case atStart => exact ⟨0, -1, -1, Nat.zero_le _, rfl, rfl, rfl, .inl ⟨rfl, rfl, fun j hj h => by omega⟩, Below.refl _ _⟩
  case round =>
   obtain ⟨k, bi, ai, hk, rfl, rfl, rfl, hbest, hb1⟩ := hrel;have hRv := hRu.below hb1;clear hc;have hc : ∀ o, _ = _ := fun o => cell_at hRv.blk o;have hBl := hRv.lt;replace hbest := hide hbest;by_cases hlt : k < evs.length
   ·obtain ⟨ad', cap', hv', hev'⟩ := hRv.form;obtain ⟨g, hg, hcell, _⟩ := hev' k hlt;have ead : ad = ad' := by injection hv'
    subst ead;subst hg;have hgl : g < wr.heap.size := hRv.row.lt rfl;have hst := hide (fun h => hbest.out.stay hlt h);have htk := hide (fun h1 h2 => hbest.out.take hlt h1 h2);have hL := hide (fun u (hu : RB u B node evs (.slice (some ⟨g, 0, none⟩) evs.length cap)) => leg_any evs[k].msg.i evs[k].msg.l (hok evs[k] (List.getElem_mem hlt)).2.2.2.2.1 (hok evs[k] (List.getElem_mem hlt)).2.2.2.2.2.1 u B node evs _ hu hok hlen);have hgd : Hid (goodE evs (nextK hs n) evs[k] ↔ (evs[k].kind ≠ 0 ∧ (legOf evs[k].msg.i evs[k].msg.l evs).1 = 1 ∧ nextK hs n ≤ evs[k].msg.i * 4 + evs[k].msg.l)) := hide Iff.rfl;have hrk : Hid ((rankK (keyE evs[k]) : Int) = ((evs[k].msg.i * 4 + evs[k].msg.l : Nat) : Int)) := hide rfl
    have hbb : bi = -1 ∨ 0 ≤ bi := by
     rcases hbest.out with h | ⟨j, hj, _, _, h, _⟩
     ·exact .inl h.1
     ·exact .inr (by rw [h]; omega)
    have c0 := hcell 0 (by decide);have c1 := hcell 1 (by decide);have c2 := hcell 2 (by decide);have c3 := hcell 3 (by decide);have c4 := hcell 4 (by decide);have c5 := hcell 5 (by decide);have c6 := hcell 6 (by decide);have c7 := hcell 7 (by decide);have c8 := hcell 8 (by decide);have c9 := hcell 9 (by decide);have hek := hok evs[k] (List.getElem_mem hlt);clear hcell hev' hv' hbest;generalize goodE evs (nextK hs n) evs[k] = GD at *;generalize (rankK (keyE evs[k]) : Int) = RK at *;generalize evs[k] = E at *;obtain ⟨kind, ⟨mk, mf, mt, mi, ml, mp, mg, ma, mm⟩, held⟩ := E;obtain ⟨hk4, hmk, hmf, hmt, hmi, hml, hmp, hmg, hma⟩ := hek;simp only [Ev.cells, List.getElem?_cons_zero, List.getElem?_cons_succ, Nat.add_zero] at c0 c1 c2 c3 c4 c5 c6 c7 c8 c9 hk4 hmk hmf hmt hmi hml hmp hmg hma hL hgd hrk;generalize legOf mi ml evs = T at *;obtain ⟨t1, ⟨nk, nf, nt, ni, nl, np, ng, na, nm⟩, t3⟩ := T;simp only [Msg.v, Msg.cells] at hL hgd;generalize nextK hs n = nx at *;go_wp2_with fail
    refine (hL.out _ (hRv.below ((Below.refl _ _).alloc (Nat.le_refl _) _))).mono ?_;rintro e w2 ⟨rfl, hb2⟩;have B1 := (Box.mk0 _ _ _).below hb2;have hcm := B1.cell;have hltm := B1.lt;have hR2 := hRv.below B1.bel;have c0' : w2.cell? ⟨g, k * 11, none⟩ = some (.int .i64 (kind : Int)) := by rw [B1.bel.cell (p := ⟨g, k * 11, none⟩) hgl]; exact c0
    clear hc hb2 hL c0 c1 c2 c3 c4 c5 c6 c7 c8 c9;have hc : ∀ o, _ = _ := fun o => cell_at hR2.blk o;have hb9 := hb1.trans (B1.bel.mono hb1.size);have W1 : IntKind.i64.wrap ((mi : Int) * 4) = (mi : Int) * 4 := by rw [IntKind.wrap_i64]; omega
    have W2 : IntKind.i64.wrap ((mi : Int) * 4 + (ml : Int)) = (mi : Int) * 4 + (ml : Int) := by rw [IntKind.wrap_i64]; omega
    have hBl2 := hR2.lt;have hgl2 : g < w2.heap.size := Nat.lt_of_lt_of_le hgl B1.bel.size;clear hRv hR2 hRu hR B1;by_cases hz : kind = 0
    ·have dz : ((kind : Int) != 0) = false := by simp; omega
     have hq := hide (hst.out (.inl (fun h => (hgd.out.1 h).1 hz)));clear hst htk hgd;go_wp2;exact ⟨⟨k + 1, bi, ai, hlt, by go_num, rfl, rfl, hq.out, hb9.alloc hb9.size _⟩, by simp [intOf]; omega⟩
    ·have dz : ((kind : Int) != 0) = true := by simp; omega
     by_cases h1 : t1 = 1
     ·have d1 : ((t1 : Int) == 1) = true := by simp; omega
      by_cases h2 : nx ≤ mi * 4 + ml
      ·have d2 : decide ((nx : Int) - 1 < (mi : Int) * 4 + (ml : Int)) = true := by simp; omega
       have hG := hgd.out.2 ⟨hz, h1, h2⟩;by_cases h3 : bi < 0
       ·have d3 : decide (bi < 0) = true := by simp [h3]
        have hq := hide (htk.out hG (.inl h3));clear hst htk hgd;go_wp2;exact ⟨⟨k + 1, RK, k, hlt, by go_num, by rw [hrk.out]; go_num, rfl, hq.out, hb9.alloc hb9.size _⟩, by simp [intOf]; omega⟩
       ·have d3 : decide (bi < 0) = false := by simp [h3]
        by_cases h4 : ((mi * 4 + ml : Nat) : Int) < bi
        ·have d4 : decide ((mi : Int) * 4 + (ml : Int) < bi) = true := by simp; omega
         have hq := hide (htk.out hG (.inr (by rw [hrk.out]; exact h4)));clear hst htk hgd;go_wp2;exact ⟨⟨k + 1, RK, k, hlt, by go_num, by rw [hrk.out]; go_num, rfl, hq.out, hb9.alloc hb9.size _⟩, by simp [intOf]; omega⟩
        ·have d4 : decide ((mi : Int) * 4 + (ml : Int) < bi) = false := by simp; omega
         have hq := hide (hst.out (.inr ⟨by omega, by rw [hrk.out]; omega⟩));clear hst htk hgd;go_wp2;exact ⟨⟨k + 1, bi, ai, hlt, by go_num, rfl, rfl, hq.out, hb9.alloc hb9.size _⟩, by simp [intOf]; omega⟩
      ·have d2 : decide ((nx : Int) - 1 < (mi : Int) * 4 + (ml : Int)) = false := by simp; omega
       have hq := hide (hst.out (.inl (fun h => h2 (hgd.out.1 h).2.2)));clear hst htk hgd;go_wp2;exact ⟨⟨k + 1, bi, ai, hlt, by go_num, rfl, rfl, hq.out, hb9.alloc hb9.size _⟩, by simp [intOf]; omega⟩
     ·have d1 : ((t1 : Int) == 1) = false := by simp; omega
      have hq := hide (hst.out (.inl (fun h => h1 (hgd.out.1 h).2.1)));clear hst htk hgd;go_wp2;exact ⟨⟨k + 1, bi, ai, hlt, by go_num, rfl, rfl, hq.out, hb9.alloc hb9.size _⟩, by simp [intOf]; omega⟩
   ·obtain rfl : k = evs.length := by omega
    rcases hbest.out with ⟨rfl, rfl, hno⟩ | ⟨j, hj, _, rfl, rfl, hg, hmin⟩
    ·have hq : Hid (n = hs.length) := hide (hdone.out (fun j hj => hno j hj hj));clear hbest hno hdone hnext;go_wp2;have hall : Hid (hs.take n = hs) := hide (by rw [hq.out, List.take_length]);go_ret;refine ⟨⟨_, rfl, ?_, fun g hg => hxown g hg⟩, hb.trans (hb1.mono hb.size)⟩;have := hrow.below hb1;rw [hall.out] at this ⊢;exact this
    ·obtain ⟨hn', hkey⟩ := hnext.out j hj hg (fun i hi h => hmin i hi hi h);have hkey' := hide hkey;have hl1 := hg.2.1
     have hsn : Hid (tickT node (hs.take (n + 1)) = tickT node (hs.take n) ++ [ansOf node evs[j].msg.i evs[j].msg.l 1]) := hide (by
      unfold tickT;rw [List.take_succ_eq_append_getElem hn', List.map_append, hkey]
      rfl)
     have hnx : Hid (nextK hs (n + 1) = rankK (keyE evs[j]) + 1) := hide (by simp only [nextK, List.getElem?_eq_getElem hn', hkey])
     have hrk : rankK (keyE evs[j]) < 17179869440 := by
      have h1 := (hok evs[j] (List.getElem_mem hj)).2.2.2.2.1;have h2 := (hok evs[j] (List.getElem_mem hj)).2.2.2.2.2.1;simp only [rankK, keyE];omega
     have hTo := hide (fun u (hu : RB u B node evs (.slice ad evs.length cap)) => told_any evs[j].msg (hok evs[j] (List.getElem_mem hj)).2 u B node hnode evs _ hu hok hlen);rw [hl1] at hTo;obtain ⟨ad', cap', hv', hev'⟩ := hRv.form;obtain ⟨g, hgg, hcell, _⟩ := hev' j hj;have ead : ad = ad' := by injection hv'
     subst ead;subst hgg;have hgl : g < wr.heap.size := hRv.row.lt rfl;have c1 := hcell 1 (by decide);have c2 := hcell 2 (by decide);have c3 := hcell 3 (by decide);have c4 := hcell 4 (by decide);have c5 := hcell 5 (by decide);have c6 := hcell 6 (by decide);have c7 := hcell 7 (by decide);have c8 := hcell 8 (by decide);have c9 := hcell 9 (by decide);have hrow1 := hrow.below hb1;have hb2 := hb.trans (hb1.mono hb.size);have htl : (tickT node (hs.take n)).length = n := by simp [tickT]; omega
     clear hcell hev' hv' hbest hmin hdone hnext hkey hkey' hg hrow;generalize rankK (keyE evs[j]) = RK at *;generalize evs[j] = E at *;obtain ⟨kind, ⟨mk, mf, mt, mi, ml, mp, mg, ma, mm⟩, held⟩ := E;simp only [Ev.cells, List.getElem?_cons_zero, List.getElem?_cons_succ, Nat.add_zero] at c1 c2 c3 c4 c5 c6 c7 c8 c9 hTo hsn;simp only [Msg.v, Msg.cells] at hTo;generalize ansOf node mi ml 1 = A at *;generalize hL0 : tickT node (hs.take n) = L at *;generalize nextK hs n = nx at *;go_wp2_with fail
     refine (hTo.out _ hRv).mono ?_;rintro e w2 ⟨rfl, hbt⟩;have hrow2 := hrow1.below hbt;have hb3 := hb2.trans (hbt.mono hb2.size);clear hTo hc c1 c2 c3 c4 c5 c6 c7 c8 c9 hrow1;rw [htl] at hrow2 hxown;have hlo : Hid (L.length = n) := hide htl;clear htl
     go_wp2_with (first
      | (at_builtin; refine wpList_row txtCell_length w2 (by rfl) _ _ 38 (by rfl) 9 i0 _ 16 Tryz.underlying38 hi0 y0 y1 y2 rfl (by decide) (.slice adx n capx) L (by rfl) hrow2 1 A (by rfl) (txt_one _) (by rw [hlo.out]; unfold maxLen; omega) (by rw [hlo.out]; omega) ?_ _ (by rfl); intro g9 cap9 w9 hrow9 hk9 hg9 hlt9; rw [hlo.out] at hrow9; rw [hlo.out]; have X : Hid (RowOf w9 9 1 txtCell (.slice (some ⟨g9, 0, none⟩) (n + 1) cap9) (L ++ [A]) ∧ Kept (fun k => (Value.slice adx n capx).ownBlock = some k) w2 w9 ∧ ((Value.slice adx n capx).ownBlock = some g9 ∨ w2.heap.size ≤ g9)) := hide ⟨hrow9, hk9, hg9⟩; clear hrow9 hk9 hg9))
     have hg9 : w.heap.size ≤ g9 := X.out.2.2.elim (hxown g9) (fun h => Nat.le_trans hb3.size h);have hb9 := hb3.trans (X.out.2.1.below hb3.size (fun k hk => hxown k hk));refine ⟨⟨n + 1, hn', by rw [hnx.out]; go_num, by rw [hsn.out]; exact X.out.1, fun g' h' => ?_, hb9⟩, by have := hlo.out; have e0 := congrArg List.length hL0; simp only [lenV]; omega⟩;have : g' = g9 := by simpa [Value.ownBlock] using h'.symm
     omega
theorem sameList_any (xs : List (List UInt8)) (va vb : Value) (hlen : xs.length ≤ 1000000) (w : World) (hA : RowOf w 9 1 txtCell va xs) (hB : RowOf w 9 1 txtCell vb xs) :
  Calls Tryz.prog 85 #[va, vb] w fun e w' => e = .returned (.bool true) ∧ Below w.heap.size w w' := by
 obtain ⟨ad, cap, hv, hev⟩ := hA.form txtCell_length
 obtain ⟨ad2, cap2, hv2, hev2⟩ := hB.form txtCell_length
 subst hv hv2
 go_enter Tryz.func85, Tryz.ntmps85
 go_wp2
 go_loopw [5] (fun c u => ∃ k : Nat, k ≤ xs.length ∧ c = .int .i64 k ∧ Below w.heap.size w u ∧ ∀ p, u.cell? p = w.cell? p) (fun c _ => xs.length - (intOf c).toNat)
 case atStart => exact ⟨0, Nat.zero_le _, rfl, Below.refl _ _, fun _ => rfl⟩
 case round =>
  obtain ⟨k, hk, rfl, hb, hsame⟩ := hrel;by_cases hlt : k < xs.length
  ·obtain ⟨g, hg, hcell, _⟩ := hev k hlt;obtain ⟨g2, hg2, hcell2, _⟩ := hev2 k hlt;subst hg hg2;have c0 := hcell 0 (by decide);have c1 := hcell2 0 (by decide);simp only [txtCell, List.getElem?_cons_zero, Nat.add_zero, Nat.mul_one] at c0 c1;rw [← hsame] at c0 c1;replace hsame := hide hsame;have hlk : (k : Int) < (xs.length : Int) := by omega
   generalize xs[k] = X at *;clear hcell hcell2 hev hev2;go_wp2_with fail
   go_quiet (fail)
   go_wp2;exact ⟨⟨k + 1, hlt, by go_num, ⟨hb.os, hb.tape, hb.output, hb.size, hb.block⟩, hsame.out⟩, by simp [intOf]; omega⟩
  ·obtain rfl : k = xs.length := by omega
   clear hev hev2;go_wp2;go_ret;exact ⟨rfl, hb⟩
def lstCell (x : Value × Nat) : List Value := [x.1]
theorem lstCell_length (x : Value × Nat) : (lstCell x).length = 1 := rfl
theorem lstInfo : (Tryz.prog.info? 38).map (fun i => (i.zero, i.size, i.bytes)) = some (some (.slice none 0 0), 1, 24) := by kernel_rfl
theorem row_mark (w : World) (v : Value) (M : List UInt8) (n : Nat) (h : RowOf w 9 1 txtCell v (List.replicate n M)) (k : Nat) (hk : k < n) : ∃ g cap, v = .slice (some ⟨g, 0, none⟩) n cap ∧ w.cell? ⟨g, k, none⟩ = some (.string (bs M)) := by
 obtain ⟨ad, cap, hv, hev⟩ := h.form txtCell_length
 obtain ⟨g, rfl, hcell, _⟩ := hev k (by simpa using hk)
 have c0 := hcell 0 (by decide)
 simp only [txtCell, List.getElem_replicate, List.getElem?_cons_zero, Nat.add_zero, Nat.mul_one] at c0
 exact ⟨g, cap, by rw [hv, List.length_replicate], c0⟩
theorem still_any (w : World) (Wb : Nat) (lg : Bool) (vb vd vl : Value) (ll : List (Value × Nat)) (hW : w.heap[Wb]? = some (.cells #[.bool lg, vb, vd, vl] 98 (0, 0))) (hL : RowOf w 38 1 lstCell vl ll) (hlen : ll.length ≤ 3999999999000)
  (hrows : ∀ i (hi : i < ll.length), ll[i].2 ≤ 1000000 ∧ RowOf w 9 1 txtCell ll[i].1 (List.replicate ll[i].2 (markB (i / 4 + 1)))) :
  Calls Tryz.prog 35 #[.pointer (some ⟨Wb, 0, none⟩)] w fun e w' => e = .returned (.bool true) ∧ Below w.heap.size w w' := by
 obtain ⟨ad, cap, hv, hev⟩ := hL.form lstCell_length
 subst hv
 clear hev
 go_enter Tryz.func35, Tryz.ntmps35
 go_wp2
 go_loopw [3] (fun c u => ∃ k : Nat, k ≤ ll.length ∧ c = .int .i64 k ∧ Below w.heap.size w u) (fun c _ => ll.length - (intOf c).toNat)
 case atStart => exact ⟨0, Nat.zero_le _, rfl, Below.refl _ _⟩
 case round =>
  obtain ⟨k, hk, rfl, hb⟩ := hrel;have hWu : wr.heap[Wb]? = _ := (hb.block Wb (block_lt hW)).trans hW;have hLu := hL.below hb;have hc : ∀ o, _ = _ := fun o => cell_at hWu o;have hWl := block_lt hWu;by_cases hlt : k < ll.length
  ·obtain ⟨ad', cap', hv', hev'⟩ := hLu.form lstCell_length;obtain ⟨g, hg, hcell, _⟩ := hev' k hlt;have ead : ad = ad' := by injection hv'
   subst ead;subst hg;have hgl : g < wr.heap.size := hLu.lt rfl;have c0 := hcell 0 (by decide);simp only [lstCell, List.getElem?_cons_zero, Nat.add_zero, Nat.mul_one] at c0;obtain ⟨hn6, hrow⟩ := hrows k hlt;have hM := hide (fun u => mark_any (k / 4 + 1) (by omega) u);rw [show ((k / 4 + 1 : Nat) : Int) = (k : Int) / 4 + 1 by omega] at hM;have hrow1 := hrow.below hb;obtain ⟨lad, lcap, hlv⟩ := hrow.slice;rw [List.length_replicate] at hlv;generalize hEl : ll[k] = E at *;obtain ⟨lv, n⟩ := E;simp only at hn6 hrow hrow1 hlv c0;subst hlv;clear hcell hev' hv' hrow;generalize markB (k / 4 + 1) = M at *;go_wp2_with fail
   refine (hM.out _).mono ?_;rintro e w1 ⟨rfl, hb1⟩;have hW1 : w1.heap[Wb]? = _ := (hb1.block Wb (block_lt hWu)).trans hWu;have c1 : w1.cell? ⟨g, k, none⟩ = _ := (hb1.cell (p := ⟨g, k, none⟩) hgl).trans c0;have hrow2 := hrow1.below hb1;have hgl1 : g < w1.heap.size := Nat.lt_of_lt_of_le hgl hb1.size;have hb2 := hb.trans (hb1.mono hb.size);clear hc hM hrow1 c0;have hc : ∀ o, _ = _ := fun o => cell_at hW1 o;go_wp2
   go_loopw [5] (fun c u => ∃ j : Nat, j ≤ n ∧ c = .int .i64 j ∧ u.heap = w1.heap ∧ Below w.heap.size w u) (fun c _ => n - (intOf c).toNat)
   case atStart => exact ⟨0, Nat.zero_le _, rfl, rfl, hb2⟩
   case round =>
    obtain ⟨j, hj, rfl, hheap, hb3⟩ := hrel;have hW3 : wr.heap[Wb]? = _ := (congrArg (fun h => h[Wb]?) hheap).trans hW1;have c3 : wr.cell? ⟨g, k, none⟩ = _ := (World.cell?_of_block (congrArg (fun h => h[g]?) hheap)).trans c1;clear hc;have hc : ∀ o, _ = _ := fun o => cell_at hW3 o;have hheap' := hide hheap;by_cases hjl : j < n
    ·obtain ⟨g2, cap2, hvv, cj⟩ := row_mark w1 _ M n hrow2 j hjl;injection hvv with hv1 hv2 hv3
     subst hv1;have c4 : wr.cell? ⟨g2, j, none⟩ = _ := (World.cell?_of_block (congrArg (fun h => h[g2]?) hheap)).trans cj;clear hheap hW3 hW1 hWu hW hrow2 hL hLu hrows c1 cj;have hjn : (j : Int) < (n : Int) := by omega
     go_wp2;exact ⟨⟨j + 1, hjl, by go_num, hheap'.out, hb3⟩, by simp [intOf]; omega⟩
    ·obtain rfl : j = n := by omega
     clear hheap hW3 hW1 hWu hW hrow2 hL hLu hrows c1;go_wp2;exact ⟨⟨k + 1, hlt, by go_num, hb3⟩, by simp [intOf]; omega⟩
  ·obtain rfl : k = ll.length := by omega
   go_wp2;go_ret;exact ⟨rfl, hb⟩
theorem ans_frame (node id l st : Nat) (hn : 1 ≤ node ∧ node ≤ 7) (hl : l < 4) : ansOf node id l st = frameOf (ansMsg node id l st) := by
 have hk : kindFor st = 4 ∨ kindFor st = 5 ∨ kindFor st = 6 := by unfold kindFor; (repeat' split) <;> simp
 have h0 : faultOf (ansMsg node id l st) = 0 := by
  unfold faultOf ansMsg;rcases hk with h | h | h <;> simp [kindB, wayB, bankB, bareB, h, hn.1, hn.2, hl]
 unfold ansOf encOf
 rw [if_pos h0]
theorem spell_at (k node id l : Nat) (hk : k < 256) (hnode : node < 256) (hid : id < 4294967296) (hl : l < 256) (kk : Int) (hkk : (k : Int) = kk) :
  Hid (∀ u, Calls Tryz.prog 137 #[.agg #[.int .u8 kk, .int .u8 (node : Int), .int .u8 0, .int .u32 (id : Int), .int .u8 (l : Int), .int .u16 0, .int .u16 0, .int .u32 0, .string ⟨#[]⟩]] u fun e w' => e = .returned (.string (bs (frameOf ⟨k, node, 0, id, l, 0, 0, 0, []⟩))) ∧ Below u.heap.size u w') := by
 subst hkk
 exact hide (fun u => spell_any ⟨k, node, 0, id, l, 0, 0, 0, []⟩ ⟨hk, hnode, by show (0 : Nat) < 256; omega, hid, hl, by show (0 : Nat) < 65536; omega, by show (0 : Nat) < 65536; omega, by show (0 : Nat) < 4294967296; omega⟩ (by show (0 : Nat) ≤ 64; omega) u)
theorem report_any (id l st : Nat) (hid : id < 4294967296) (hl : l < 4) (hst : 1 ≤ st ∧ st ≤ 4) (w : World) (B node : Nat) (hnode : 1 ≤ node ∧ node ≤ 7) (ac : List Ac) (ls : List Lg) (va vl : Value) (hX : XB w B node ac ls va vl) :
  Calls Tryz.prog 106 #[.pointer (some ⟨B, 0, none⟩), .int .u32 (id : Int), .int .u8 (l : Int), .int .u8 (st : Int)] w fun e w' => e = .returned (.string (bs (ansOf node id l st))) ∧ Below w.heap.size w w' := by
 rw [ans_frame node id l st hnode hl]
 unfold ansMsg
 have hc : ∀ o, _ = _ := fun o => cell_at hX.blk o
 have hS := spell_at (kindFor st) node id l (kindFor_lt st) (by omega) hid (by omega)
 have e1 : Hid (st = 1 → kindFor st = 4) := hide (by intro h; simp [kindFor, h])
 have e2 : Hid (st = 2 → kindFor st = 5) := hide (by intro h; simp [kindFor, h])
 have e3 : Hid (st ≠ 1 → st ≠ 2 → kindFor st = 6) := hide (by intro h1 h2; simp [kindFor, h1, h2])
 generalize frameOf ⟨kindFor st, node, 0, id, l, 0, 0, 0, []⟩ = F at *
 by_cases h1 : st = 1
 ·have d1 : ((st : Int) == 1) = true := by simp; omega
  have d2 : ((st : Int) == 2) = false := by simp; omega
  have hW := hS 4 (by rw [e1.out h1]; rfl);clear e1 e2 e3 h1 hS;go_enter Tryz.func106, Tryz.ntmps106;go_wp2_with fail
  refine (hW.out _).mono ?_;rintro e w1 ⟨rfl, hb⟩;go_wp2;go_ret;exact ⟨rfl, hb⟩
 ·have d1 : ((st : Int) == 1) = false := by simp; omega
  by_cases h2 : st = 2
  ·have d2 : ((st : Int) == 2) = true := by simp; omega
   have hW := hS 5 (by rw [e2.out h2]; rfl);clear e1 e2 e3 h1 h2 hS;go_enter Tryz.func106, Tryz.ntmps106;go_wp2_with fail
   refine (hW.out _).mono ?_;rintro e w1 ⟨rfl, hb⟩;go_wp2;go_ret;exact ⟨rfl, hb⟩
  ·have d2 : ((st : Int) == 2) = false := by simp; omega
   have hW := hS 6 (by rw [e3.out h1 h2]; rfl);clear e1 e2 e3 h1 h2 hS;go_enter Tryz.func106, Tryz.ntmps106;go_wp2_with fail
   refine (hW.out _).mono ?_;rintro e w1 ⟨rfl, hb⟩;go_wp2;go_ret;exact ⟨rfl, hb⟩
theorem run_append_void {P : Program} (w : World) (t ty e : TypeId) (i : TypeInfo) (ht : P.underlying t = some (.slice e)) (hi : P.info? e = some i) (ad : Option Addr) (n cap : Nat) (h : n ≤ cap) :
  (Builtin.append_ #[t, t] ty #[.slice ad n cap, .slice none 0 0]).run P w = .ok (.slice ad n cap) w := by
 cases ad with
 | none => simp [Builtin.append_, run_underlying ht, sizeOf, typeInfo, hi, Builtin.lenOf, Builtin.firstCells, h]
 | some a => simp [Builtin.append_, run_underlying ht, sizeOf, typeInfo, hi, Builtin.lenOf, Builtin.firstCells, h, storeCells]
theorem RowOf.cap {α : Type} {f : α → List Value} {sz : Nat} {w : World} {e : TypeId} {ad : Option Addr} {n cap : Nat} {xs : List α} (h : RowOf w e sz f (.slice ad n cap) xs) : n ≤ cap := by
 rcases h.2 with ⟨h1, h2⟩ | ⟨g, cap', cur, h1, _, _, h4, _⟩
 ·injection h1 with a b c
  omega
 ·injection h1 with a b c
  omega
theorem wpList_spread {P : Program} {ops : Array Oper} {rest : List Oper} {o : Oper} {a : Act} {Q : Exit → Act → World → Prop} {α : Type} {f : α → List Value} {sz : Nat} (hf : ∀ x, (f x).length = sz) (w : World) (hgd : o.guard = none) (s x : Operand) (t : TypeId)
  (ho : o.op = .call { callee := .builtin .append, args := #[s, x], argTypes := #[t, t] }) (e : TypeId) (i : TypeInfo) (z : Value) (bytes : Nat) (ht : P.underlying t = some (.slice e)) (hi : P.info? e = some i) (hz : i.zero = some z)
  (hsize : i.size = sz) (hby : i.bytes = bytes) (hzs : z.cells.size = sz) (hsz : 0 < sz) (v lv : Value) (xs ys : List α) (hs : a.eval s = v) (hx : a.eval x = lv) (hrow : RowOf w e sz f v xs) (hlv : RowOf w e sz f lv ys)
  (h1 : ∀ y, y ∈ ys → ∀ u ∈ f y, u.oneCell' = true) (h63 : xs.length + ys.length ≤ maxLen) (hbytes : (xs.length + ys.length) * bytes ≤ 140737488355328)
  (h : ∀ v' w', RowOf w' e sz f v' (xs ++ ys) → Kept (fun k => v.ownBlock = some k) w w' → (∀ g, v'.ownBlock = some g → v.ownBlock = some g ∨ w.heap.size ≤ g) → wpList P ops Q rest (a.put o.dst v') w') :
  wpList P ops Q (o :: rest) a w := by
 have key : ∃ v' w', (Builtin.append_ #[t, t] o.type #[v, lv]).run P w = .ok v' w' ∧ RowOf w' e sz f v' (xs ++ ys) ∧ Kept (fun k => v.ownBlock = some k) w w' ∧ ∀ g, v'.ownBlock = some g → v.ownBlock = some g ∨ w.heap.size ≤ g := by
  rcases hlv.2 with ⟨h2, h3⟩ | ⟨g, cap, cur, h2, _, h4, _⟩
  ·have hy : ys = [] := List.length_eq_zero_iff.1 h3;subst hy;subst h2;obtain ⟨ad, cap, hv⟩ := hrow.slice;subst hv;refine ⟨_, w, run_append_void w t o.type e i ht hi ad xs.length cap hrow.cap, by rw [List.append_nil]; exact hrow, Kept.refl _ _, fun g h => .inl h⟩
  ·have hc : ∀ j u, (ys.flatMap f)[j]? = some u → w.cell? ((⟨g, 0, none⟩ : Addr).add j) = some u := hlv.cells (g := g) (by rw [h2]; rfl)
   obtain ⟨v', w', hr, h5, h6, _, h8⟩ := run_append_own_at (P := P) w 0 t o.type e i z sz bytes ht hi hz hsize hby hzs hsz v xs.length (xs.flatMap f) hrow ⟨g, 0, none⟩ ys.length cap (ys.flatMap f) (flat_length hf ys) hc (fun u hu => by
    obtain ⟨y, hy, hu'⟩ := List.mem_flatMap.1 hu
    exact h1 y hy u hu') h63 hbytes (Nat.zero_le _)
   rw [h2];refine ⟨v', w', hr, RowOf.to (xs := xs) hf h5 (by simp) (by simp), Kept.of_grown h6, fun g' hg' => ?_⟩;rcases h8 with h8 | h8
   ·exact .inl (by rw [← h8]; exact hg')
   ·right;rw [h8] at hg';injection hg' with hg'
    omega
 obtain ⟨v', w', hr, h2, h3, h4⟩ := key
 refine wpList_plain hgd fun K hK => ?_
 unfold Oper.wp execOp
 simp only [ho, resolve, invoke, builtin, Sem.run_bind, Sem.run_pure, Result.andThen_ok, List.map_toArray, List.map_cons, List.map_nil, hs, hx, hr]
 exact hK _ _ (h v' w' h2 h3 h4)
end Go.Proofs.YtjkhbjgfoopomabGreat
