import Derived.Test.YtjkhbjgfoopomabGreatA38
namespace Go.Proofs.YtjkhbjgfoopomabGreat
open Go.RowKit
set_option maxRecDepth 100000
set_option maxHeartbeats 2000000
set_option linter.unusedVariables false
set_option linter.unusedSimpArgs false
def lentTo (legs : List Pl) (j : Nat) : List Pl := legs ++ (List.replicate j leg77 ++ List.replicate (8 - j) legNo)
theorem lentTo_length (legs : List Pl) (j : Nat) (hj : j ≤ 8) : (lentTo legs j).length = legs.length + 8 := by simp [lentTo]; omega
theorem lentTo_at (legs : List Pl) (j : Nat) (hj : j < 8) : (lentTo legs j)[legs.length + j]'(by rw [lentTo_length _ _ (by omega)]; omega) = legNo := by
 simp only [lentTo]
 rw [List.getElem_append_right (by omega), List.getElem_append_right (by simp)]
 simp
theorem lentTo_step (legs : List Pl) (j : Nat) (hj : j < 8) : lentTo legs (j + 1) = (lentTo legs j).set (legs.length + j) leg77 := by
 simp only [lentTo]
 rw [List.set_append_right _ _ (by omega), Nat.add_sub_cancel_left, List.set_append_right _ _ (by simp)]
 simp only [List.length_replicate, Nat.sub_self]
 have e1 : List.replicate (8 - j) legNo = legNo :: List.replicate (8 - (j + 1)) legNo := by rw [← List.replicate_succ]; congr 1; omega
 have e2 : List.replicate (j + 1) leg77 = List.replicate j leg77 ++ [leg77] := List.replicate_succ'
 rw [e1, List.set_cons_zero, e2]
 simp
def lent8 (legs : List Pl) : List Pl := legs ++ List.replicate 8 leg77
theorem lentTo_all (legs : List Pl) : lentTo legs 8 = lent8 legs := by simp [lentTo, lent8]
def LentOf (w : World) (legs : List Pl) (e : Ending) (w' : World) : Prop :=
 ∃ g, e = .returned (.slice (some ⟨g, 0, none⟩) legs.length (legs.length + 8)) ∧ w.heap.size ≤ g ∧ RowOf w' 67 4 Pl.cells (.slice (some ⟨g, 0, none⟩) (legs.length + 8) (legs.length + 8)) (lent8 legs) ∧ Below w.heap.size w w'
theorem lent_any (la : Option Addr) (lc : Nat) (legs : List Pl) (hll : legs.length ≤ 11728124029269) (w : World) (hL : LegsAt w la legs) :
  Calls Tryz.prog 122 #[.slice la legs.length lc] w (LentOf w legs) := by
 obtain ⟨i0, hi, z0, z1, z2⟩ := info_parts plInfo
 obtain ⟨n, hn⟩ : ∃ n, n = legs.length + 8 := ⟨_, rfl⟩
 have W0 : IntKind.i64.wrap ((legs.length : Int) + 8) = (legs.length : Int) + 8 := by rw [IntKind.wrap_i64]; omega
 have hnn : Hid ((legs.length : Int) + 8 = (n : Int)) := hide (by omega)
 replace hn := hide hn
 have hmx : n ≤ maxLen := by unfold maxLen; have := hn.out; omega
 have hby : i0.bytes * n ≤ 281474976710656 := by rw [z2]; have := hn.out; omega
 have hmd := made_legs n
 replace hmx := hide hmx
 replace hby := hide hby
 go_enter Tryz.func122, Tryz.ntmps122
 go_wp2_with (first
  | (at_make; refine wpList_make_full w rfl _ _ 29 rfl 0 67 i0 _ 4 Tryz.underlying29 hi z0 z1 _ _ _ _ n rfl rfl hnn.out hnn.out hby.out hmx.out (Nat.zero_le _) ?_; intro w1 hown1 hgr1; refine stopAt ?_))
 refine hide ?_
 have hrow1 := RowOf.to (xs := ([] : List Pl)) Pl.cells_length hown1 hmd (by simp)
 have hk1 : Kept (fun k => k = w.heap.size) w w1 := (Kept.of_grown hgr1).mono (fun i _ h => by simp at h)
 have hb1 : Below w.heap.size w w1 := ⟨hk1.os, hk1.tape, hk1.output, hk1.size, fun k hk => hk1.block k hk (by omega)⟩
 have hL1 := hL.below hb1
 have hln : legs.length ≤ n := by have := hn.out; omega
 have hnl : (legs.length : Int) ≤ (n : Int) := by omega
 obtain ⟨w2, hrun, hrow2, hk2⟩ := copy_run w1 3 w.heap.size n la lc legs hrow1 hL1 hln
 clear hown1 hgr1 hk1 hmd hrow1
 have hb2 : Below w.heap.size w w2 := hb1.trans (hk2.below hb1.size (fun k e => by omega))
 have hr2 : RowOf w2 67 4 Pl.cells (.slice (some ⟨w.heap.size, 0, none⟩) n n) (lentTo legs 0) := by
  unfold lentTo;rw [show n - legs.length = 8 by have := hn.out; omega] at hrow2;simpa using hrow2
 replace hr2 := hide hr2
 clear hrow2 hk2
 go_wp2_with fail
 go_loopw [4] (fun c u => ∃ j : Nat, j ≤ 8 ∧ c = .int .i64 ((legs.length + j : Nat) : Int) ∧ RowOf u 67 4 Pl.cells (.slice (some ⟨w.heap.size, 0, none⟩) n n) (lentTo legs j) ∧ Below w.heap.size w u) (fun c _ => n - (intOf c).toNat)
 case atStart => exact ⟨0, by omega, rfl, hr2.out, hb2⟩
 case round =>
  obtain ⟨j, hj, rfl, hr, hb⟩ := hrel;have hgl : w.heap.size < wr.heap.size := hr.lt rfl;obtain ⟨x1, hx1⟩ : ∃ x1, x1 = legs.length + j := ⟨_, rfl⟩;rw [← hx1];rcases Nat.lt_or_ge j 8 with h8 | h8
  ·have hxn : (x1 : Int) < (n : Int) := by have := hn.out; omega
   have dl : decide ((x1 : Int) < (n : Int)) = true := by simp; have := hn.out; omega
   have hl2 : x1 < (lentTo legs j).length := by rw [lentTo_length _ _ hj]; omega
   obtain ⟨ad', cap', hv', hev'⟩ := hr.form Pl.cells_length;obtain ⟨g, hg, hcell, hfro⟩ := hev' x1 hl2;have eg : w.heap.size = g := by rw [hg] at hv'; injection hv' with h1; injection h1 with h1; injection h1 with h1
   subst eg;have c0 := hcell 0 (by decide);have c1 := hcell 1 (by decide);have c2 := hcell 2 (by decide);have c3 := hcell 3 (by decide);simp only [Pl.cells, List.getElem?_cons_zero, List.getElem?_cons_succ, Nat.add_zero] at c0 c1 c2 c3;have hput := hr.put Pl.cells_length (g := w.heap.size) rfl x1 hl2 leg77;have hkp := putL_kept leg77.cells wr w.heap.size (x1 * 4);rw [show (lentTo legs j).set x1 leg77 = lentTo legs (j + 1) by rw [lentTo_step _ _ h8, hx1]] at hput;have hbp := hb.trans (hkp.below hb.size (fun k e => by omega));simp only [putL, Pl.cells, leg77, Nat.add_assoc, Nat.reduceAdd] at hput hbp;replace hput := hide hput;replace hbp := hide hbp;have W1 : IntKind.i64.wrap ((x1 : Int) + 1) = ((x1 + 1 : Nat) : Int) := by rw [IntKind.wrap_i64]; omega
   have hxx := hide hx1;clear hcell hev' hv' hg hkp hx1;go_wp2;exact ⟨⟨j + 1, h8, by rw [show legs.length + (j + 1) = x1 + 1 by have := hxx.out; omega]; go_num, hput.out, hbp.out⟩, by simp [intOf]; have := hn.out; omega⟩
  ·have hxn : (n : Int) ≤ (x1 : Int) := by have := hn.out; omega
   have dl : decide ((x1 : Int) < (n : Int)) = false := by simp; have := hn.out; omega
   obtain rfl : j = 8 := by omega
   have hxx := hide hx1;have hnc : (n : Nat) ≤ n := Nat.le_refl _;have hr9 : Hid (RowOf wr 67 4 Pl.cells (.slice (some ⟨w.heap.size, 0, none⟩) (legs.length + 8) (legs.length + 8)) (lent8 legs)) := hide (by rw [← hn.out, ← lentTo_all]; exact hr);clear hx1;go_wp2;go_ret;exact ⟨w.heap.size, by rw [show legs.length + 8 = n from hn.out.symm]; rfl, Nat.le_refl _, hr9.out, hb⟩
theorem lent8_length (legs : List Pl) : (lent8 legs).length = legs.length + 8 := by simp [lent8]
theorem lent8_low (legs : List Pl) (k : Nat) (hk : k < legs.length) : (lent8 legs)[k]'(by rw [lent8_length]; omega) = legs[k] := List.getElem_append_left hk
theorem lent8_high (legs : List Pl) (k : Nat) (h1 : legs.length ≤ k) (h2 : k < (lent8 legs).length) : (lent8 legs)[k] = leg77 := by
 simp only [lent8]
 rw [List.getElem_append_right h1, List.getElem_replicate]
theorem keptL_any (g : Nat) (la : Option Addr) (lc : Nat) (legs : List Pl) (hll : legs.length ≤ 11728124029269) (w : World) (hL : LegsAt w la legs) (hR : RowOf w 67 4 Pl.cells (.slice (some ⟨g, 0, none⟩) (legs.length + 8) (legs.length + 8)) (lent8 legs)) :
  Calls Tryz.prog 124 #[.slice (some ⟨g, 0, none⟩) legs.length (legs.length + 8), .slice la legs.length lc] w fun e w' => e = .returned (.bool true) ∧ Below w.heap.size w w' := by
 obtain ⟨n, hn⟩ : ∃ n, n = legs.length + 8 := ⟨_, rfl⟩
 rw [← hn] at hR ⊢
 have W0 : IntKind.i64.wrap ((legs.length : Int) + 8) = (n : Int) := by rw [IntKind.wrap_i64]; omega
 have hnl : (legs.length : Int) ≤ (n : Int) := by omega
 replace hn := hide hn
 have hmx : n ≤ 23456248058600 := by have := hn.out; omega
 go_enter Tryz.func124, Tryz.ntmps124
 go_wp2_with fail
 go_loopw [6] (fun c u => ∃ k : Nat, k ≤ n ∧ c = .int .i64 k ∧ Below w.heap.size w u) (fun c _ => n - (intOf c).toNat)
 case atStart => exact ⟨0, Nat.zero_le _, rfl, Below.refl _ _⟩
 case round =>
  obtain ⟨k, hk, rfl, hb⟩ := hrel;have hL' := hL.below hb;have hR' := hR.below hb;clear hL hR;have hsz := hb.size;have W1 : IntKind.i64.wrap ((k : Int) + 1) = ((k + 1 : Nat) : Int) := by rw [IntKind.wrap_i64]; omega
  by_cases hlt : k < n
  ·have dl : decide ((k : Int) < (n : Int)) = true := by simp; omega
   have hkn : (k : Int) < (n : Int) := by omega
   have hl2 : k < (lent8 legs).length := by rw [lent8_length]; have := hn.out; omega
   have hgl : g < wr.heap.size := hR'.lt rfl;obtain ⟨ad', cap', hv', hev'⟩ := hR'.form Pl.cells_length;obtain ⟨g2, hg, hcell, _⟩ := hev' k hl2;have eg : g = g2 := by rw [hg] at hv'; injection hv' with h1; injection h1 with h1; injection h1 with h1
   subst eg;have B1 := Box.mk0 wr #[Value.int .u8 77, .int .u16 0, .int .u16 0, .int .u32 0] 67;have hblk := heap_alloc_self wr (.cells #[Value.int .u8 77, .int .u16 0, .int .u16 0, .int .u32 0] 67);have hcg : ∀ o, o < 4 → (wr.alloc (.cells #[Value.int .u8 77, .int .u16 0, .int .u16 0, .int .u32 0] 67)).cell? ⟨g, k * 4 + o, none⟩ = (lent8 legs)[k].cells[o]? := fun o ho => (B1.bel.cell (p := ⟨g, k * 4 + o, none⟩) hgl).trans (hcell o ho);have hb2 := hb.trans (B1.bel.mono hsz);have hlw := B1.lt;by_cases hlow : k < legs.length
   ·have d2 : decide ((k : Int) < (legs.length : Int)) = true := by simp; omega
    have hkl : (k : Int) < (legs.length : Int) := by omega
    rw [lent8_low legs k hlow] at hcg;obtain ⟨ga, hga, hgal, hra⟩ := (hL'.below B1.bel) k hlow;subst hga;have hP := putL_whole (legs[k]).cells hblk rfl;have hkp := putL_kept (legs[k]).cells (wr.alloc (.cells #[Value.int .u8 77, .int .u16 0, .int .u16 0, .int .u32 0] 67)) wr.heap.size 0;have hcw : ∀ o, _ = _ := fun o => cell_at hblk o;have hfw : ∀ o, _ = _ := fun o => frozen_at hblk o;clear hcell hev' hv' hg hL' hR';generalize legs[k] = E at *;obtain ⟨xb, xp, xg, xa⟩ := E;simp only [Pl.cells, List.getElem?_cons_zero, List.getElem?_cons_succ] at hra hP hkp hcg;generalize hA1 : wr.alloc (.cells #[Value.int .u8 77, .int .u16 0, .int .u16 0, .int .u32 0] 67) = W1' at *;replace hA1 := hide hA1;have hb3 := hb2.trans (hkp.below hb2.size (fun q e => by omega));have b0 := (hkp.cell (p := ⟨g, k * 4, none⟩) (by show g < W1'.heap.size; omega) (by show ¬ g = wr.heap.size; omega)).trans (hcg 0 (by decide));have b1 := (hkp.cell (p := ⟨g, k * 4 + 1, none⟩) (by show g < W1'.heap.size; omega) (by show ¬ g = wr.heap.size; omega)).trans (hcg 1 (by decide));have b2 := (hkp.cell (p := ⟨g, k * 4 + 2, none⟩) (by show g < W1'.heap.size; omega) (by show ¬ g = wr.heap.size; omega)).trans (hcg 2 (by decide));have b3 := (hkp.cell (p := ⟨g, k * 4 + 3, none⟩) (by show g < W1'.heap.size; omega) (by show ¬ g = wr.heap.size; omega)).trans (hcg 3 (by decide));have a0 : ∀ o, _ = _ := fun o => cell_at hP o;simp only [List.getElem?_cons_zero, List.getElem?_cons_succ] at b0 b1 b2 b3;obtain ⟨W2, hW2⟩ : ∃ W2, W2 = putL W1' wr.heap.size 0 [.int .u8 (xb : Int), .int .u16 (xp : Int), .int .u16 (xg : Int), .int .u32 (xa : Int)] := ⟨_, rfl⟩;rw [← hW2] at b0 b1 b2 b3 a0 hb3;simp only [putL, Nat.zero_add, Nat.reduceAdd] at hW2;replace hW2 := hide hW2;have hlg2 : g < W2.heap.size := by have := hb3.size; have h1 := block_lt hP; have h2 := hkp.size; rw [hW2.out]; simp [World.setCell]; omega
    replace hra := hide hra;replace hb3 := hide hb3;clear hP hkp hcg hb2 hblk;go_wp2_with (first | (with_reducible refine stopLd 67 ?_))
    refine hide ?_;rw [hA1.out];refine longAt (by rfl) 67 _ (by rfl) (ga.add (k * 4)) (by rfl) [.int .u8 (xb : Int), .int .u16 (xp : Int), .int .u16 (xg : Int), .int .u32 (xa : Int)] _ hra.out Tryz.underlying67 plSize ?_;clear hra;go_wp2_with fail
    rw [← hW2.out];clear hcw hfw;go_quiet (fail)
    go_wp2;exact ⟨⟨k + 1, hlt, by go_num, hb3.out.drewN _⟩, by simp [intOf]; omega⟩
   ·have d2 : decide ((k : Int) < (legs.length : Int)) = false := by simp; omega
    have hlg : legs.length ≤ k := by omega
    rw [lent8_high legs k hlg hl2] at hcg;have b0 := hcg 0 (by decide);have b1 := hcg 1 (by decide);have b2 := hcg 2 (by decide);have b3 := hcg 3 (by decide);simp only [Pl.cells, leg77, List.getElem?_cons_zero, List.getElem?_cons_succ, Nat.add_zero] at b0 b1 b2 b3;have hcw : ∀ o, _ = _ := fun o => cell_at hblk o;clear hcell hev' hv' hg hL' hR' hcg hblk;generalize hA1 : wr.alloc (.cells #[Value.int .u8 77, .int .u16 0, .int .u16 0, .int .u32 0] 67) = W1' at *;replace hA1 := hide hA1;replace hb2 := hide hb2;go_wp2_with fail
    rw [hA1.out];go_quiet (fail)
    go_wp2;exact ⟨⟨k + 1, hlt, by go_num, hb2.out.drewN _⟩, by simp [intOf]; omega⟩
  ·have dl : decide ((k : Int) < (n : Int)) = false := by simp; omega
   go_wp2;go_ret;exact ⟨rfl, hb⟩
section
variable {w0 : DBase} {w w' : World} {Wb : Nat} {own : Nat → Nat} {hs : List Office} {ll : List (Value × Nat)} {vd vl : Value} {S : Nat → Prop}
theorem DInv.free (I : DInv w0 w Wb own hs ll vd vl) (hk : Kept S w w') (hS : ∀ k, k < w.heap.size → S k → own k = 0 ∧ ¬ w0.F k) : DInv w0 w' Wb own hs ll vd vl := by
 have hWl := block_lt I.wblk
 refine ⟨I.bel.kept hk (fun k hF hs => (hS k (Nat.lt_of_lt_of_le (w0.lt k hF) I.bel.size) hs).2 hF), I.old, ?_, I.wown, part_row I.drow I.down hk (fun k hk' hs => by have := (hS k hk' hs).1; omega), I.down, part_row I.lrow I.lown hk (fun k hk' hs => by have := (hS k hk' hs).1; omega), I.lown, ?_, I.fown, I.four, ?_, w0.loc _ _ _ _ S I.oth hk (fun k hk' hs h => by have := (hS k hk' hs).1; unfold bankCls at h; omega) (fun _ _ => rfl)⟩
 ·rw [hk.block _ hWl (fun hs => by have := (hS _ hWl hs).1; rw [I.wown] at this; omega)];exact I.wblk
 ·intro i hi;exact ⟨(I.full i hi).1, part_row (I.full i hi).2 (I.fown i hi) hk (fun k hk' hs => by have := (hS k hk' hs).1; omega)⟩
 ·intro i hi;exact (I.house i hi).kept hk (fun k hk' hs => by have := (hS k hk' hs).1; omega) (fun _ _ => rfl)
theorem DInv.below0 (I : DInv w0 w Wb own hs ll vd vl) (hb : Below w.heap.size w w') : DInv w0 w' Wb (fun k => if k < w.heap.size then own k else 0) hs ll vd vl :=
 have hA : ∀ k, k < w.heap.size → (fun k => if k < w.heap.size then own k else 0) k = own k := fun k hk => by simp [hk]
 I.rest (S := fun _ => False) (Kept.of_below hb) (fun _ h => h.elim) hA I.far (I.drow.below hb) (fun i hi => (I.house i hi).kept (S := fun _ => False) (Kept.of_below hb) (fun _ _ h => h.elim) hA)
structure Stays (w0 : DBase) (la : Option Addr) (legs : List Pl) : Prop where
 at0 : LegsAt w0.w la legs
 own : ∀ a, la = some a → 0 < legs.length → w0.F a.block
theorem Stays.legsAt {la : Option Addr} {legs : List Pl} (h : Stays w0 la legs) (hb : BelF w0.bs w) : LegsAt w la legs := by
 intro k hk
 obtain ⟨a, e, h1, h2⟩ := h.at0 k hk
 have hF := h.own a e (by omega)
 have hbl : w.heap[a.block]? = w0.w.heap[a.block]? := hb.block a.block hF
 refine ⟨a, e, Nat.lt_of_lt_of_le h1 hb.size, fun j v hv => ?_⟩
 rw [← h2 j v hv]
 have : ((a.add (k * 4)).add j).block = a.block := by rw [addr_block, addr_block]
 unfold World.cell?
 rw [this, hbl]
end
theorem cells_kept {S : Nat → Prop} {w u : World} {b : Nat} {cs : Array Value} (hk : Kept S w u) (hb : b < w.heap.size) (hn : ¬ S b) (hc : ∀ o, w.cell? ⟨b, o, none⟩ = cs[o]?) : ∀ o, u.cell? ⟨b, o, none⟩ = cs[o]? := fun o => (hk.cell (p := ⟨b, o, none⟩) hb hn).trans (hc o)
theorem cells_below {w u : World} {b : Nat} {cs : Array Value} (hk : Below w.heap.size w u) (hb : b < w.heap.size) (hc : ∀ o, w.cell? ⟨b, o, none⟩ = cs[o]?) : ∀ o, u.cell? ⟨b, o, none⟩ = cs[o]? := fun o => (hk.cell (p := ⟨b, o, none⟩) hb).trans (hc o)
theorem frameOf_ne (x : Msg) : frameOf x ≠ [] := fun h => by
 have := congrArg List.length h
 simp [frameOf, bodyOf_length, be_length] at this
theorem new_one (x : Msg) (T : Nat × Msg × Bool) (n : Nat) (c : Bool) : hNewT x T n c = [] ∨ ∃ e, hNewT x T n c = [e] ∧ e.kind ≠ 0 ∧ e.msg = x := by
 unfold hNewT
 split
 ·exact .inl rfl
 ·split
  ·exact .inr ⟨_, rfl, by simp, rfl⟩
  ·split
   ·exact .inr ⟨_, rfl, by simp, rfl⟩
   ·split
    ·exact .inr ⟨_, rfl, by simp, rfl⟩
    ·exact .inl rfl
theorem rEvs_one (node : Nat) (l : List UInt8) (evs : List Ev) : rEvs node l evs = evs ∨ ∃ e, rEvs node l evs = evs ++ [e] ∧ e.kind ≠ 0 ∧ e.msg = decMsg l := by
 unfold rEvs
 split
 ·unfold hEvsOf;rcases new_one (decMsg l) (legOf (decMsg l).i (decMsg l).l evs) (keysOf evs).length (canB (decMsg l) evs) with h | ⟨e, h, h1, h2⟩
  ·left; rw [h, List.append_nil]
  ·exact .inr ⟨e, by rw [h], h1, h2⟩
 ·exact .inl rfl
theorem rLog_log (node : Nat) (l : List UInt8) (evs : List Ev) (lgs : List (List UInt8 × Nat)) (hlg : lgs = logOf evs) (b : Bool) : heardOf lgs (rLog node l evs) evs.length = logOf (rEvs node l evs) ∧ (b = true → (rEvs node l evs).length = evs.length ∨ rLog node l evs ≠ []) := by
 rcases rEvs_one node l evs with h | ⟨e, h, h1, h2⟩
 ·have : rLog node l evs = [] := by unfold rLog; rw [h, if_pos rfl]
  rw [this, h];exact ⟨by simpa [heardOf] using hlg, fun _ => .inl rfl⟩
 ·have : rLog node l evs = frameOf (decMsg l) := by unfold rLog; rw [h, if_neg (by simp)]
  rw [this, h, logOf_snoc];refine ⟨?_, fun _ => .inr (frameOf_ne _)⟩;unfold heardOf textOf;rw [if_neg (frameOf_ne _), if_neg h1, h2, hlg]
theorem rLog_bare (node : Nat) (l : List UInt8) (evs : List Ev) (h : rErr node l evs ≠ 0) : rLog node l evs = [] := by
 unfold rLog rEvs
 rw [if_neg h, if_pos rfl]
theorem frame_len (o : Opr) (ho : o.ok) : o.frame.length ≤ 140737488351232 := by
 unfold Opr.frame
 split
 ·unfold encOf;split
  ·rename_i h;have := fault_zero_memo h;simp [frameOf, bodyOf_length, be_length];omega
  ·simp
 ·exact ho.2.2.2.1
theorem bank_handle (w0 : Base) (w : World) (Wb : Nat) (own : Nat → Nat) (hs : List House) (ll : List (Value × Nat)) (vb vl : Value) (i : Nat) (hi : i < hs.length) (hb xb rb node : Nat) (evs : List Ev) (ac : List Ac) (ls : List Lg) (va vll v : Value) (lgs : List (List UInt8 × Nat)) (vg : Value)
  (I : MemInv w0 w Wb own (hs.set i ⟨hb, xb, rb, node, evs, ac, ls, va, vll, v, lgs, vg⟩) ll vb vl) (hok : ∀ h, h ∈ hs → h.ok) (hR : Rel evs ac ls) (hn1 : 1 ≤ node) (hn7 : node ≤ 7) (hlg : LgB node evs lgs)
  (at_ n : Int) (s : List UInt8) (k f t mi l p g a : Nat) (m : List UInt8) (pid dead : Int) (memo : List UInt8) (legs : Option Addr) (llen lcap acc amt : Nat) (ho : (⟨5, at_, n, s, ⟨k, f, t, mi, l, p, g, a, m⟩, pid, dead, memo, legs, llen, lcap, acc, amt⟩ : Opr).ok) (hlen : ll.length ≤ 3999999999000) :
  Calls Tryz.prog 51 #[.pointer (some ⟨Wb, 0, none⟩), .pointer (some ⟨hb, 0, none⟩), (⟨5, at_, n, s, ⟨k, f, t, mi, l, p, g, a, m⟩, pid, dead, memo, legs, llen, lcap, acc, amt⟩ : Opr).v] w (BankSays w0 Wb hs ll vb i hb) := by
 have H := MemInv.at hi I
 have F0 := foot_lt H
 have hc : ∀ o, w.cell? ⟨hb, o, none⟩ = (#[.pointer (some ⟨xb, 0, none⟩), .pointer (some ⟨rb, 0, none⟩), vg] : Array Value)[o]? := fun o => cell_at H.blk o
 have hl1 : hb < w.heap.size := block_lt H.blk
 have hl2 : rb < w.heap.size := H.r.lt
 have hRl : ∀ k, v.ownBlock = some k → k < w.heap.size := fun k hk => F0.2 k (.inr hk)
 have hnx : ¬ xfoot xb va vll hb := fun hx => by have h1 := H.xown _ hx; have h2 : own hb = _ := H.hown; omega
 have hnw : ¬ xfoot xb va vll w.heap.size := fun hx => by have := F0.1 _ hx; omega
 have hnr : ¬ (hb = rb ∨ v.ownBlock = some hb) := fun hx => by have h1 := H.rown _ hx; have h2 : own hb = _ := H.hown; omega
 have hnw2 : ¬ (w.heap.size = rb ∨ v.ownBlock = some w.heap.size) := fun hx => by
  rcases hx with hx | hx
  ·omega
  ·have := hRl _ hx; omega
 obtain ⟨rad, rcap, hv, _⟩ := H.r.form
 have hcr : ∀ o, w.cell? ⟨rb, o, none⟩ = (#[.int .u8 (node : Int), .slice rad evs.length rcap] : Array Value)[o]? := fun o => by rw [← (show v = _ from hv)]; exact cell_at H.r.blk o
 have hRs := hR.short
 obtain ⟨W1, hW1⟩ : ∃ W1, W1 = (w.alloc (.cells (⟨5, at_, n, s, ⟨k, f, t, mi, l, p, g, a, m⟩, pid, dead, memo, legs, llen, lcap, acc, amt⟩ : Opr).cells 104)) := ⟨_, rfl⟩
 have hbW : Below w.heap.size w W1 := by rw [hW1]; exact (Below.refl w.heap.size w).alloc (Nat.le_refl _) _
 have hlW : w.heap.size < W1.heap.size := by rw [hW1]; simp
 have I1 := I.below hbW
 have H1 := MemInv.at hi I1
 have e0 : W1.cell? ⟨hb, 0, none⟩ = some (.pointer (some ⟨xb, 0, none⟩)) := cell_at H1.blk 0
 have hlb : hb < W1.heap.size := by omega
 have hFr := hide (fun u => frame_any (⟨5, at_, n, s, ⟨k, f, t, mi, l, p, g, a, m⟩, pid, dead, memo, legs, llen, lcap, acc, amt⟩ : Opr) ho u)
 have hFl := frame_len (⟨5, at_, n, s, ⟨k, f, t, mi, l, p, g, a, m⟩, pid, dead, memo, legs, llen, lcap, acc, amt⟩ : Opr) ho
 generalize hF : (⟨5, at_, n, s, ⟨k, f, t, mi, l, p, g, a, m⟩, pid, dead, memo, legs, llen, lcap, acc, amt⟩ : Opr).frame = F at hFr hFl
 replace hF := hide hF
 have hrg := hide (op_range (⟨5, at_, n, s, ⟨k, f, t, mi, l, p, g, a, m⟩, pid, dead, memo, legs, llen, lcap, acc, amt⟩ : Opr) w)
 replace I1 := hide I1
 replace hok := hide hok
 replace hlg := hide hlg
 clear H H1 F0 I hv
 simp only [Opr.v, Opr.cells] at *
 replace hW1 := hide hW1
 go_enter Tryz.func51, Tryz.ntmps51
 go_wp2_with (first
  | (refine wpList_load_mid (by rfl) 104 _ (by rfl) w.heap.size 0 (by rfl) [.int .i64 5, .int .i64 at_, .int .i64 n, .string (bs s), .int .u8 (k : Int), .int .u8 (f : Int), .int .u8 (t : Int), .int .u32 (mi : Int), .int .u8 (l : Int), .int .u16 (p : Int), .int .u16 (g : Int), .int .u32 (a : Int), .string (bs m), .int .u32 pid, .int .u64 dead, .string (bs memo), .slice legs llen lcap, .int .u16 (acc : Int), .int .u32 (amt : Int)] _ hrg.out Tryz.underlying104 rfl opSize ?_)
  | (go_at_call 83; refine stopAt ?_))
 refine hide ?_
 rw [← hW1.out]
 refine (hFr.out W1).mono ?_
 rintro e w2 ⟨rfl, hb2⟩
 have I2 := I1.out.below hb2
 have H2 := MemInv.at hi I2
 have hc2 : ∀ o, w2.cell? ⟨hb, o, none⟩ = (#[.pointer (some ⟨xb, 0, none⟩), .pointer (some ⟨rb, 0, none⟩), vg] : Array Value)[o]? := fun o => cell_at H2.blk o
 have hX := eHandle_any (bs F) (by rw [bs_size]; exact hFl) w2 xb node ⟨hn1, hn7⟩ evs ac ls va vll hR H2.x H2.xap
 rw [bs_data] at hX
 replace hX := hide hX
 have hrl2 : rb < w2.heap.size ∧ ∀ g, v.ownBlock = some g → g < w2.heap.size := ⟨H2.r.lt, fun g hg => H2.r.row.lt hg⟩
 replace I2 := hide I2
 clear hFr hF hrg hc hcr e0 H2 hb2 I1 ho
 go_wp2_with fail
 refine (hX.out).mono ?_
 rintro e w3 ⟨lv, ac', ls', va', vl', rfl, hR', hH⟩
 have I3 := I2.out.xstepS hi lv ac' ls' va' vl' hH.to hH.fresh
 have hlo3 : ∀ g, lv.ownBlock = some g → (fun k => if k < w2.heap.size then own k else if lv.ownBlock = some k then 4 else 7 + 8 * i) g = 4 := fun g hg => by have := (hH.fresh g hg).1; simp only [if_neg (Nat.not_lt.2 this), if_pos hg]
 have hap := hide (I2.out.apartL (lv := lv) (fun g hg => (hH.fresh g hg).1))
 have H3 := MemInv.at hi I3
 have hX2 := refHandle_any (bs F) (by rw [bs_size]; exact hFl) w3 rb node ⟨hn1, hn7⟩ evs v H3.r H3.rap hR.eok (by omega) hR.ge
 rw [bs_data] at hX2
 have hc3 : ∀ o, w3.cell? ⟨hb, o, none⟩ = (#[.pointer (some ⟨xb, 0, none⟩), .pointer (some ⟨rb, 0, none⟩), vg] : Array Value)[o]? := fun o => cell_at H3.blk o
 have hlv3 := hide hH.row
 have hlf : Hid (∀ g, lv.ownBlock = some g → w2.heap.size ≤ g) := hide (fun g hg => (hH.fresh g hg).1)
 replace hX2 := hide hX2
 replace I3 := hide I3
 replace hlo3 := hide hlo3
 replace hR' := hide hR'
 clear hX hc2 H3 hH I2
 go_wp2_with fail
 refine (hX2.out).mono ?_
 rintro e w4 ⟨v', mv, rfl, hHd⟩
 have I4 := I3.out.rstepS hi _ v' hHd.to
 have hlv4 : RowOf w4 9 1 txtCell lv (rOuts node F evs) := hlv3.out.kept hHd.to.kept (fun g hg hs => by
  have h1 := hlf.out g hg;rcases hs with hs | hs
  ·have := hrl2.1; omega
  ·have := hrl2.2 g hs; omega)
 have hlo4 : ∀ g, lv.ownBlock = some g → (fun k => if k < w3.heap.size then (fun k => if k < w2.heap.size then own k else if lv.ownBlock = some k then 4 else 7 + 8 * i) k else 8 + 8 * i) g = 4 := fun g hg => by have := hlv3.out.lt hg; simp only [if_pos this]; exact hlo3.out g hg
 obtain ⟨mad, mcap, hmv⟩ := hHd.row.slice
 have hmr := hHd.row
 have hol : (rOuts node F evs).length ≤ 1 := by unfold rOuts; split <;> simp
 have hbr : rErr node F evs = 0 ∨ ((rOuts node F evs).length = 0 ∧ rLog node F evs = []) := by
  by_cases h0 : rErr node F evs = 0
  ·exact .inl h0
  ·right; exact ⟨by unfold rOuts; rw [if_neg h0]; rfl, rLog_bare _ _ _ h0⟩
 have hlw := hide (rLog_log node F evs lgs hlg.out.eq w0.lg)
 have hS := hide (sameList_any (rOuts node F evs) lv mv (by omega) w4 hlv4 hmr)
 subst hmv
 have hbare := hide (fun u => bare_any mad (rOuts node F evs).length mcap (rErr node F evs) (rLog node F evs) u hbr)
 generalize hER : rErr node F evs = er at *
 generalize (rOuts node F evs).length = ol at *
 replace hlv4 := hide hlv4
 replace I4 := hide I4
 replace hlo4 := hide hlo4
 clear hX2 hc3 hlv3 hlo3 hHd hmr I3 hbr
 go_wp2_with fail
 refine (hS.out).mono ?_
 rintro e w5 ⟨rfl, hb5⟩
 have I5 := I4.out.below hb5
 have hlv5 := hlv4.out.below hb5
 have sp := I5.sep hlo4.out
 have hK := hide (keep4_any w5 Wb w0.lg vb w0.vd vl ll I5.wblk I5.lrow hlen lv (rOuts node F evs) (by have : (rOuts node F evs).length ≤ 1 := (by unfold rOuts; split <;> simp); omega) hlv5 sp.1 sp.2.1 sp.2.2)
 have hG := hide (fun w6 (hB : Booked w5 w6 Wb w0.lg vb w0.vd vl ll lv (rOuts node F evs).length) => I5.keeps lv (rOuts node F evs) (by have : (rOuts node F evs).length ≤ 1 := (by unfold rOuts; split <;> simp); omega) hlv5 hlo4.out hap.out hB)
 clear hS hlv4 I4 sp hb5 hlv5 I5
 go_wp2_with fail
 refine (hK.out).mono ?_
 rintro e w6 ⟨rfl, hB⟩
 obtain ⟨own6, ll6, vl6, I6, h6⟩ := hG.out w6 hB
 have H6 := MemInv.at hi I6
 have hc6 : ∀ o, w6.cell? ⟨hb, o, none⟩ = (#[.pointer (some ⟨xb, 0, none⟩), .pointer (some ⟨rb, 0, none⟩), vg] : Array Value)[o]? := fun o => cell_at H6.blk o
 have hf6 : ∀ o, w6.frozen? ⟨hb, o, none⟩ = false := fun o => frozen_at H6.blk o
 have hlb6 : hb < w6.heap.size := block_lt H6.blk
 obtain ⟨rad6, rcap6, hv6, _⟩ := H6.r.form
 have hcr6 : ∀ o, w6.cell? ⟨rb, o, none⟩ = (#[.int .u8 (node : Int), .slice rad6 (rEvs node F evs).length rcap6] : Array Value)[o]? := fun o => by rw [← (show v' = _ from hv6)]; exact cell_at H6.r.blk o
 have hbrn : hb ≠ rb := fun e => hnr (.inl e)
 have hlr6 : rb < w6.heap.size := H6.r.lt
 have hg6 : ∀ k, vg.ownBlock = some k → k ≠ rb := fun k hk e => by have h1 := H6.gown k hk; have h2 := H6.rown rb (.inl rfl); rw [e] at h1; omega
 have hHe := hide (heard_any lgs vg (rLog node F evs) evs.length w6 H6.grow (by rw [hlg.out.eq, logOf_length]; omega))
 replace I6 := hide I6
 clear hK hG hB H6 hv6 hnr
 go_wp2_with fail
 refine (hHe.out).mono ?_
 rintro e w7 ⟨vg', rfl, hr7, hk7, ho7⟩
 obtain ⟨gad, gcap, hvg⟩ := hr7.slice
 subst hvg
 obtain ⟨hb7, I7⟩ := I6.out.log hi _ _ hk7 hr7 ho7
 have hc7 : ∀ o, w7.cell? ⟨hb, o, none⟩ = (#[.pointer (some ⟨xb, 0, none⟩), .pointer (some ⟨rb, 0, none⟩), vg] : Array Value)[o]? := fun o => cell_at hb7 o
 have hf7 : ∀ o, w7.frozen? ⟨hb, o, none⟩ = false := fun o => frozen_at hb7 o
 have hlb7 : hb < w7.heap.size := block_lt hb7
 have hcr7 : ∀ o, w7.cell? ⟨rb, o, none⟩ = (#[.int .u8 (node : Int), .slice rad6 (rEvs node F evs).length rcap6] : Array Value)[o]? := fun o => (hk7.cell (p := ⟨rb, o, none⟩) hlr6 (fun h => hg6 _ h rfl)).trans (hcr6 o)
 have hlr7 : rb < w7.heap.size := Nat.lt_of_lt_of_le hlr6 hk7.size
 have hbl7 := hide (I7.wblk)
 replace I7 := hide I7
 clear hHe hr7 hk7 ho7 hb7 I6 hc6 hf6 hcr6 hg6
 go_wp2_with fail
 refine (logged_any (rLog node F evs) evs.length (rEvs node F evs).length _ Wb w0.lg _ _ _ hbl7.out hlw.out.2).mono ?_
 rintro e w8 ⟨rfl, hb8⟩
 have I8 := hide (I7.out.below hb8)
 clear I7 hb8 hbl7 hc7 hf7 hcr7
 go_wp2_with fail
 refine (num_any _ _).mono ?_
 rintro e w9 ⟨rfl, rfl⟩
 go_wp2_with fail
 refine (hbare.out _).mono ?_
 rintro e w10 ⟨rfl, rfl⟩
 go_wp2
 go_ret
 exact ⟨rfl, goes_of I8.out hok.out ⟨hR'.out, hn1, hn7, ⟨hlw.out.1, hlg.out.hist.hears F⟩⟩ (by omega)⟩
end Go.Proofs.YtjkhbjgfoopomabGreat
