import Derived.Test.YtjkhbjgfoopomaaGreatG26
import Derived.OwnWalk
import Derived.BigQuiet
import Derived.Deep.QuietTactic
/-
  The statement's lent, walked.
-/
namespace Go.Proofs.YtjkhbjgfoopomaaGreat
open Go.RowKit
set_option linter.unusedVariables false
set_option linter.unusedSimpArgs false
theorem flat_legs (legs : List Pl) : ∀ j v, (legs.flatMap Pl.cells)[j]? = some v → ∃ k, ∃ hk : k < legs.length, ∃ i, j = k * 4 + i ∧ legs[k].cells[i]? = some v := by
  induction legs with
  | nil => intro j v h; simp at h
  | cons x r ih =>
    intro j v h
    rw [List.flatMap_cons] at h
    by_cases hj : j < 4
    · rw [List.getElem?_append_left (by rw [Pl.cells_length]; exact hj)] at h
      exact ⟨0, by simp, j, by omega, h⟩
    · rw [List.getElem?_append_right (by rw [Pl.cells_length]; omega), Pl.cells_length] at h
      obtain ⟨k, hk, i, e, h2⟩ := ih (j - 4) v h
      exact ⟨k + 1, by simpa using hk, i, by omega, h2⟩
theorem pl_flat_one (legs : List Pl) : ∀ v ∈ legs.flatMap Pl.cells, v.oneCell' = true := by
  intro v hv
  obtain ⟨x, hx, h⟩ := List.mem_flatMap.1 hv
  exact pl_each x v h
set_option maxRecDepth 100000 in
set_option maxHeartbeats 2000000 in
theorem copy_run (w : World) (ty : TypeId) (g n : Nat) (la : Option Addr) (lc : Nat) (legs : List Pl)
    (hrow : RowOf w 54 4 Pl.cells (.slice (some ⟨g, 0, none⟩) n n) (List.replicate n legNo)) (hL : LegsAt w la legs) (hln : legs.length ≤ n) :
    ∃ w', (Builtin.copy_ #[42, 42] ty #[.slice (some ⟨g, 0, none⟩) n n, .slice la legs.length lc]).run Tryz.prog w = .ok (goInt (legs.length : Nat)) w' ∧ RowOf w' 54 4 Pl.cells (.slice (some ⟨g, 0, none⟩) n n) (legs ++ List.replicate (n - legs.length) legNo) ∧ Kept (fun k => k = g) w w' := by
  have hsz : (Tryz.prog.info? 54).map (·.size) = some 4 := by kernel_rfl
  rcases hrow.2 with ⟨h1, _⟩ | ⟨g', cap, cur, h1, h2, h3, h4, h5, h6, h7⟩
  · cases h1
  · injection h1 with e1 e2 e3
    injection e1 with e1
    injection e1 with e1
    subst e1 e3
    simp only [List.length_replicate] at h4 h7 e2
    cases legs with
    | nil =>
      have hrun := run_copy_zero (P := Tryz.prog) w 42 42 ty 54 4 g n n la lc cur 54 h3 Tryz.underlying42 hsz
      exact ⟨w, hrun, by simpa using hrow, ⟨rfl, rfl, rfl, Nat.le_refl _, fun _ _ _ => rfl⟩⟩
    | cons x r =>
      obtain ⟨ad, rfl, _, _⟩ := hL 0 (by simp)
      have hmin : Nat.min (x :: r).length n = (x :: r).length := Nat.min_eq_left hln
      have hcl : ((x :: r).flatMap Pl.cells).length = (x :: r).length * 4 := flat_length Pl.cells_length (x :: r)
      have hfit : 0 + ((x :: r).flatMap Pl.cells).length ≤ cur.size := by rw [hcl, h6, Nat.zero_add]; exact Nat.mul_le_mul_right _ hln
      have hrun := run_copy_many (P := Tryz.prog) w 42 42 ty 54 4 g 0 n n ad (x :: r).length lc cur 54 ((x :: r).flatMap Pl.cells) Tryz.underlying42 hsz h3 (by rw [hmin]; exact hcl)
        (fun j v hv => by
          obtain ⟨k, hk, i, e, h8⟩ := flat_legs _ j v hv
          obtain ⟨a', e', _, h9⟩ := hL k hk
          injection e' with e'
          subst e'
          rw [e, ← addr_add]
          exact h9 i v h8) hfit (pl_flat_one _)
      rw [hmin] at hrun
      have hset := setRow_heap w g cur (cur.toList.take 0 ++ (x :: r).flatMap Pl.cells ++ cur.toList.drop (0 + ((x :: r).flatMap Pl.cells).length)).toArray 54 (0, 0) h3
      have hkept : Kept (fun k => k = g) w (w.setRow g (cur.toList.take 0 ++ (x :: r).flatMap Pl.cells ++ cur.toList.drop (0 + ((x :: r).flatMap Pl.cells).length)).toArray) := ⟨rfl, rfl, rfl, by simp [World.setRow], fun k hk hn => setRow_other w g k _ (fun e => hn e)⟩
      refine ⟨_, hrun, ⟨by rw [flat_length Pl.cells_length], .inr ⟨g, n, _, by simp only [List.length_append, List.length_replicate]; rw [Nat.add_sub_cancel' hln], h2, hset, by simp only [List.length_append, List.length_replicate]; omega, h5, ?_, ?_⟩⟩, hkept⟩
      · simp only [List.size_toArray, List.length_append, List.length_take, List.length_drop, hcl]
        have : (x :: r).length * 4 ≤ n * 4 := Nat.mul_le_mul_right _ hln
        simp only [Array.length_toList, h6]
        omega
      · have e9 : List.replicate n legNo = List.replicate (x :: r).length legNo ++ List.replicate (n - (x :: r).length) legNo := by rw [List.replicate_append_replicate]; congr 1; omega
        rw [e9, List.flatMap_append] at h7
        have e10 := congrArg (List.drop ((x :: r).length * 4)) h7
        have e11 : ((List.replicate (x :: r).length legNo).flatMap Pl.cells).length = (x :: r).length * 4 := by rw [flat_length Pl.cells_length, List.length_replicate]
        rw [List.drop_left' e11, List.drop_take] at e10
        simp only [List.length_append, List.length_replicate, Nat.add_sub_cancel' hln, List.take_zero, List.nil_append, Nat.zero_add, hcl]
        rw [List.take_append, hcl, List.take_of_length_le (by rw [hcl]; exact Nat.mul_le_mul_right _ hln), e10, List.flatMap_append]
end Go.Proofs.YtjkhbjgfoopomaaGreat
/-
  The statement's lent, walked.
-/
namespace Go.Proofs.YtjkhbjgfoopomaaGreat
open Go.RowKit
set_option linter.unusedVariables false
set_option linter.unusedSimpArgs false
/-- j of the eight are written -/
def lentTo (legs : List Pl) (j : Nat) : List Pl := legs ++ (List.replicate j leg77 ++ List.replicate (8 - j) legNo)
theorem lentTo_length (legs : List Pl) (j : Nat) (hj : j ≤ 8) : (lentTo legs j).length = legs.length + 8 := by simp [lentTo]; omega
theorem lentTo_step (legs : List Pl) (j : Nat) (hj : j < 8) : lentTo legs (j + 1) = (lentTo legs j).set (legs.length + j) leg77 := by
  simp only [lentTo]
  rw [List.set_append_right _ _ (by omega), Nat.add_sub_cancel_left, List.set_append_right _ _ (by simp)]
  simp only [List.length_replicate, Nat.sub_self]
  have e1 : List.replicate (8 - j) legNo = legNo :: List.replicate (8 - (j + 1)) legNo := by rw [← List.replicate_succ]; congr 1; omega
  have e2 : List.replicate (j + 1) leg77 = List.replicate j leg77 ++ [leg77] := List.replicate_succ'
  rw [e1, List.set_cons_zero, e2]
  simp
def lent8 (legs : List Pl) : List Pl := legs ++ List.replicate 8 leg77
theorem lentTo_all (legs : List Pl) : lentTo legs 8 = lent8 legs := by simp [lentTo, lent8]
def LentOf (w : World) (legs : List Pl) (e : Ending) (w' : World) : Prop :=
  ∃ g, e = .returned (.slice (some ⟨g, 0, none⟩) legs.length (legs.length + 8)) ∧ w.heap.size ≤ g ∧ RowOf w' 54 4 Pl.cells (.slice (some ⟨g, 0, none⟩) (legs.length + 8) (legs.length + 8)) (lent8 legs) ∧ Below w.heap.size w w'
set_option maxRecDepth 100000 in
set_option maxHeartbeats 2000000 in
theorem lent_any (la : Option Addr) (lc : Nat) (legs : List Pl) (hll : legs.length ≤ 11728124029269) (w : World) (hL : LegsAt w la legs) :
    Calls Tryz.prog 68 #[.slice la legs.length lc] w (LentOf w legs) := by
  obtain ⟨i0, hi, z0, z1, z2⟩ := info_parts plInfo
  obtain ⟨n, hn⟩ : ∃ n, n = legs.length + 8 := ⟨_, rfl⟩
  have W0 : IntKind.i64.wrap ((legs.length : Int) + 8) = (legs.length : Int) + 8 := by rw [IntKind.wrap_i64]; omega
  have hnn : Hid ((legs.length : Int) + 8 = (n : Int)) := hide (by omega)
  replace hn := hide hn
  have hmx : n ≤ maxLen := by unfold maxLen; have := hn.out; omega
  have hby : i0.bytes * n ≤ 281474976710656 := by rw [z2]; have := hn.out; omega
  have hmd := made_legs n
  replace hmx := hide hmx
  replace hby := hide hby
  go_enter Tryz.func68, Tryz.ntmps68
  go_wp2_with (first
    | (at_make; refine wpList_make_full w rfl _ _ 42 rfl 0 54 i0 _ 4 Tryz.underlying42 hi z0 z1 _ _ _ _ n rfl rfl hnn.out hnn.out hby.out hmx.out (Nat.zero_le _) ?_; intro w1 hown1 hgr1; refine stopAt ?_))
  refine hide ?_
  have hrow1 := RowOf.to (xs := ([] : List Pl)) Pl.cells_length hown1 hmd (by simp)
  have hk1 : Kept (fun k => k = w.heap.size) w w1 := (Kept.of_grown hgr1).mono (fun i _ h => by simp at h)
  have hb1 : Below w.heap.size w w1 := ⟨hk1.os, hk1.tape, hk1.output, hk1.size, fun k hk => hk1.block k hk (by omega)⟩
  have hL1 := hL.below hb1
  have hln : legs.length ≤ n := by have := hn.out; omega
  have hnl : (legs.length : Int) ≤ (n : Int) := by omega
  obtain ⟨w2, hrun, hrow2, hk2⟩ := copy_run w1 3 w.heap.size n la lc legs hrow1 hL1 hln
  clear hown1 hgr1 hk1 hmd hrow1
  have hb2 : Below w.heap.size w w2 := hb1.trans (hk2.below hb1.size (fun k e => by omega))
  have hr2 : RowOf w2 54 4 Pl.cells (.slice (some ⟨w.heap.size, 0, none⟩) n n) (lentTo legs 0) := by
    unfold lentTo
    rw [show n - legs.length = 8 by have := hn.out; omega] at hrow2
    simpa using hrow2
  replace hr2 := hide hr2
  clear hrow2 hk2
  go_wp2_with fail
  go_loopw [4] (fun c u => ∃ j : Nat, j ≤ 8 ∧ c = .int .i64 ((legs.length + j : Nat) : Int) ∧ RowOf u 54 4 Pl.cells (.slice (some ⟨w.heap.size, 0, none⟩) n n) (lentTo legs j) ∧ Below w.heap.size w u) (fun c _ => n - (intOf c).toNat)
  case atStart => exact ⟨0, by omega, rfl, hr2.out, hb2⟩
  case round =>
    obtain ⟨j, hj, rfl, hr, hb⟩ := hrel
    have hgl : w.heap.size < wr.heap.size := hr.lt rfl
    obtain ⟨x1, hx1⟩ : ∃ x1, x1 = legs.length + j := ⟨_, rfl⟩
    rw [← hx1]
    rcases Nat.lt_or_ge j 8 with h8 | h8
    · have hxn : (x1 : Int) < (n : Int) := by have := hn.out; omega
      have dl : decide ((x1 : Int) < (n : Int)) = true := by simp; have := hn.out; omega
      have hl2 : x1 < (lentTo legs j).length := by rw [lentTo_length _ _ hj]; omega
      obtain ⟨ad', cap', hv', hev'⟩ := hr.form Pl.cells_length
      obtain ⟨g, hg, hcell, hfro⟩ := hev' x1 hl2
      have eg : w.heap.size = g := by rw [hg] at hv'; injection hv' with h1; injection h1 with h1; injection h1 with h1
      subst eg
      have c0 := hcell 0 (by decide)
      have c1 := hcell 1 (by decide)
      have c2 := hcell 2 (by decide)
      have c3 := hcell 3 (by decide)
      simp only [Pl.cells, List.getElem?_cons_zero, List.getElem?_cons_succ, Nat.add_zero] at c0 c1 c2 c3
      have hput := hr.put Pl.cells_length (g := w.heap.size) rfl x1 hl2 leg77
      have hkp := putL_kept leg77.cells wr w.heap.size (x1 * 4)
      rw [show (lentTo legs j).set x1 leg77 = lentTo legs (j + 1) by rw [lentTo_step _ _ h8, hx1]] at hput
      have hbp := hb.trans (hkp.below hb.size (fun k e => by omega))
      simp only [putL, Pl.cells, leg77, Nat.add_assoc, Nat.reduceAdd] at hput hbp
      replace hput := hide hput
      replace hbp := hide hbp
      have W1 : IntKind.i64.wrap ((x1 : Int) + 1) = ((x1 + 1 : Nat) : Int) := by rw [IntKind.wrap_i64]; omega
      have hxx := hide hx1
      clear hcell hev' hv' hg hkp hx1
      go_wp2
      exact ⟨⟨j + 1, h8, by rw [show legs.length + (j + 1) = x1 + 1 by have := hxx.out; omega]; go_num, hput.out, hbp.out⟩, by simp [intOf]; have := hn.out; omega⟩
    · have hxn : (n : Int) ≤ (x1 : Int) := by have := hn.out; omega
      have dl : decide ((x1 : Int) < (n : Int)) = false := by simp; have := hn.out; omega
      obtain rfl : j = 8 := by omega
      have hxx := hide hx1
      have hnc : (n : Nat) ≤ n := Nat.le_refl _
      have hr9 : Hid (RowOf wr 54 4 Pl.cells (.slice (some ⟨w.heap.size, 0, none⟩) (legs.length + 8) (legs.length + 8)) (lent8 legs)) := hide (by rw [← hn.out, ← lentTo_all]; exact hr)
      clear hx1
      go_wp2
      go_ret
      exact ⟨w.heap.size, by rw [show legs.length + 8 = n from hn.out.symm]; rfl, Nat.le_refl _, hr9.out, hb⟩
end Go.Proofs.YtjkhbjgfoopomaaGreat
/-
  The statement's kept: do legs that were lent read as they did?
-/
namespace Go.Proofs.YtjkhbjgfoopomaaGreat
open Go.RowKit
set_option linter.unusedVariables false
set_option linter.unusedSimpArgs false
theorem lent8_length (legs : List Pl) : (lent8 legs).length = legs.length + 8 := by simp [lent8]
theorem lent8_low (legs : List Pl) (k : Nat) (hk : k < legs.length) : (lent8 legs)[k]'(by rw [lent8_length]; omega) = legs[k] := List.getElem_append_left hk
theorem lent8_high (legs : List Pl) (k : Nat) (h1 : legs.length ≤ k) (h2 : k < (lent8 legs).length) : (lent8 legs)[k] = leg77 := by
  simp only [lent8]
  rw [List.getElem_append_right h1, List.getElem_replicate]
set_option maxRecDepth 100000 in
set_option maxHeartbeats 2000000 in
theorem keptL_any (g : Nat) (la : Option Addr) (lc : Nat) (legs : List Pl) (hll : legs.length ≤ 11728124029269) (w : World) (hL : LegsAt w la legs) (hR : RowOf w 54 4 Pl.cells (.slice (some ⟨g, 0, none⟩) (legs.length + 8) (legs.length + 8)) (lent8 legs)) :
    Calls Tryz.prog 71 #[.slice (some ⟨g, 0, none⟩) legs.length (legs.length + 8), .slice la legs.length lc] w fun e w' => e = .returned (.bool true) ∧ Below w.heap.size w w' := by
  obtain ⟨n, hn⟩ : ∃ n, n = legs.length + 8 := ⟨_, rfl⟩
  rw [← hn] at hR ⊢
  have W0 : IntKind.i64.wrap ((legs.length : Int) + 8) = (n : Int) := by rw [IntKind.wrap_i64]; omega
  have hnl : (legs.length : Int) ≤ (n : Int) := by omega
  replace hn := hide hn
  have hmx : n ≤ 23456248058600 := by have := hn.out; omega
  go_enter Tryz.func71, Tryz.ntmps71
  go_wp2_with fail
  go_loopw [6] (fun c u => ∃ k : Nat, k ≤ n ∧ c = .int .i64 k ∧ Below w.heap.size w u) (fun c _ => n - (intOf c).toNat)
  case atStart => exact ⟨0, Nat.zero_le _, rfl, Below.refl _ _⟩
  case round =>
    obtain ⟨k, hk, rfl, hb⟩ := hrel
    have hL' := hL.below hb
    have hR' := hR.below hb
    clear hL hR
    have hsz := hb.size
    have W1 : IntKind.i64.wrap ((k : Int) + 1) = ((k + 1 : Nat) : Int) := by rw [IntKind.wrap_i64]; omega
    by_cases hlt : k < n
    · have dl : decide ((k : Int) < (n : Int)) = true := by simp; omega
      have hkn : (k : Int) < (n : Int) := by omega
      have hl2 : k < (lent8 legs).length := by rw [lent8_length]; have := hn.out; omega
      have hgl : g < wr.heap.size := hR'.lt rfl
      obtain ⟨ad', cap', hv', hev'⟩ := hR'.form Pl.cells_length
      obtain ⟨g2, hg, hcell, _⟩ := hev' k hl2
      have eg : g = g2 := by rw [hg] at hv'; injection hv' with h1; injection h1 with h1; injection h1 with h1
      subst eg
      have B1 := Box.mk0 wr #[Value.int .u8 77, .int .u16 0, .int .u16 0, .int .u32 0] 54
      have hblk := heap_alloc_self wr (.cells #[Value.int .u8 77, .int .u16 0, .int .u16 0, .int .u32 0] 54)
      have hcg : ∀ o, o < 4 → (wr.alloc (.cells #[Value.int .u8 77, .int .u16 0, .int .u16 0, .int .u32 0] 54)).cell? ⟨g, k * 4 + o, none⟩ = (lent8 legs)[k].cells[o]? := fun o ho => (B1.bel.cell (p := ⟨g, k * 4 + o, none⟩) hgl).trans (hcell o ho)
      have hb2 := hb.trans (B1.bel.mono hsz)
      have hlw := B1.lt
      by_cases hlow : k < legs.length
      · have d2 : decide ((k : Int) < (legs.length : Int)) = true := by simp; omega
        have hkl : (k : Int) < (legs.length : Int) := by omega
        rw [lent8_low legs k hlow] at hcg
        obtain ⟨ga, hga, hgal, hra⟩ := (hL'.below B1.bel) k hlow
        subst hga
        have hP := putL_whole (legs[k]).cells hblk rfl
        have hkp := putL_kept (legs[k]).cells (wr.alloc (.cells #[Value.int .u8 77, .int .u16 0, .int .u16 0, .int .u32 0] 54)) wr.heap.size 0
        have hcw : ∀ o, _ = _ := fun o => cell_at hblk o
        have hfw : ∀ o, _ = _ := fun o => frozen_at hblk o
        clear hcell hev' hv' hg hL' hR'
        generalize legs[k] = E at *
        obtain ⟨xb, xp, xg, xa⟩ := E
        simp only [Pl.cells, List.getElem?_cons_zero, List.getElem?_cons_succ] at hra hP hkp hcg
        generalize hA1 : wr.alloc (.cells #[Value.int .u8 77, .int .u16 0, .int .u16 0, .int .u32 0] 54) = W1' at *
        replace hA1 := hide hA1
        have hb3 := hb2.trans (hkp.below hb2.size (fun q e => by omega))
        have b0 := (hkp.cell (p := ⟨g, k * 4, none⟩) (by show g < W1'.heap.size; omega) (by show ¬ g = wr.heap.size; omega)).trans (hcg 0 (by decide))
        have b1 := (hkp.cell (p := ⟨g, k * 4 + 1, none⟩) (by show g < W1'.heap.size; omega) (by show ¬ g = wr.heap.size; omega)).trans (hcg 1 (by decide))
        have b2 := (hkp.cell (p := ⟨g, k * 4 + 2, none⟩) (by show g < W1'.heap.size; omega) (by show ¬ g = wr.heap.size; omega)).trans (hcg 2 (by decide))
        have b3 := (hkp.cell (p := ⟨g, k * 4 + 3, none⟩) (by show g < W1'.heap.size; omega) (by show ¬ g = wr.heap.size; omega)).trans (hcg 3 (by decide))
        have a0 : ∀ o, _ = _ := fun o => cell_at hP o
        simp only [List.getElem?_cons_zero, List.getElem?_cons_succ] at b0 b1 b2 b3
        obtain ⟨W2, hW2⟩ : ∃ W2, W2 = putL W1' wr.heap.size 0 [.int .u8 (xb : Int), .int .u16 (xp : Int), .int .u16 (xg : Int), .int .u32 (xa : Int)] := ⟨_, rfl⟩
        rw [← hW2] at b0 b1 b2 b3 a0 hb3
        simp only [putL, Nat.zero_add, Nat.reduceAdd] at hW2
        replace hW2 := hide hW2
        have hlg2 : g < W2.heap.size := by have := hb3.size; have h1 := block_lt hP; have h2 := hkp.size; rw [hW2.out]; simp [World.setCell]; omega
        replace hra := hide hra
        replace hb3 := hide hb3
        clear hP hkp hcg hb2 hblk
        go_wp2_with (first | (with_reducible refine stopLd 54 ?_))
        refine hide ?_
        rw [hA1.out]
        refine longAt (by rfl) 54 _ (by rfl) (ga.add (k * 4)) (by rfl) [.int .u8 (xb : Int), .int .u16 (xp : Int), .int .u16 (xg : Int), .int .u32 (xa : Int)] _ hra.out Tryz.underlying54 plSize ?_
        clear hra
        go_wp2_with fail
        rw [← hW2.out]
        clear hcw hfw
        go_quiet (fail)
        go_wp2
        exact ⟨⟨k + 1, hlt, by go_num, hb3.out.drewN _⟩, by simp [intOf]; omega⟩
      · have d2 : decide ((k : Int) < (legs.length : Int)) = false := by simp; omega
        have hlg : legs.length ≤ k := by omega
        rw [lent8_high legs k hlg hl2] at hcg
        have b0 := hcg 0 (by decide)
        have b1 := hcg 1 (by decide)
        have b2 := hcg 2 (by decide)
        have b3 := hcg 3 (by decide)
        simp only [Pl.cells, leg77, List.getElem?_cons_zero, List.getElem?_cons_succ, Nat.add_zero] at b0 b1 b2 b3
        have hcw : ∀ o, _ = _ := fun o => cell_at hblk o
        clear hcell hev' hv' hg hL' hR' hcg hblk
        generalize hA1 : wr.alloc (.cells #[Value.int .u8 77, .int .u16 0, .int .u16 0, .int .u32 0] 54) = W1' at *
        replace hA1 := hide hA1
        replace hb2 := hide hb2
        go_wp2_with fail
        rw [hA1.out]
        go_quiet (fail)
        go_wp2
        exact ⟨⟨k + 1, hlt, by go_num, hb2.out.drewN _⟩, by simp [intOf]; omega⟩
    · have dl : decide ((k : Int) < (n : Int)) = false := by simp; omega
      go_wp2
      go_ret
      exact ⟨rfl, hb⟩
end Go.Proofs.YtjkhbjgfoopomaaGreat
/-
  A step of the statement Deeds: blocks that are nobody's; legs that stay.
-/
namespace Go.Proofs.YtjkhbjgfoopomaaGreat
open Go.RowKit
set_option linter.unusedVariables false
set_option linter.unusedSimpArgs false
section
variable {w0 : DBase} {w w' : World} {Wb : Nat} {own : Nat → Nat} {hs : List Office} {ll : List (Value × Nat)} {vd vl : Value} {S : Nat → Prop}
theorem DInv.free (I : DInv w0 w Wb own hs ll vd vl) (hk : Kept S w w') (hS : ∀ k, k < w.heap.size → S k → own k = 0 ∧ ¬ w0.F k) : DInv w0 w' Wb own hs ll vd vl := by
  have hWl := block_lt I.wblk
  refine ⟨I.bel.kept hk (fun k hF hs => (hS k (Nat.lt_of_lt_of_le (w0.lt k hF) I.bel.size) hs).2 hF), I.old, ?_, I.wown, part_row I.drow I.down hk (fun k hk' hs => by have := (hS k hk' hs).1; omega), I.down, part_row I.lrow I.lown hk (fun k hk' hs => by have := (hS k hk' hs).1; omega), I.lown, ?_, I.fown, I.four, ?_, w0.loc _ _ _ _ S I.oth hk (fun k hk' hs h => by have := (hS k hk' hs).1; unfold bankCls at h; omega) (fun _ _ => rfl)⟩
  · rw [hk.block _ hWl (fun hs => by have := (hS _ hWl hs).1; rw [I.wown] at this; omega)]
    exact I.wblk
  · intro i hi
    exact ⟨(I.full i hi).1, part_row (I.full i hi).2 (I.fown i hi) hk (fun k hk' hs => by have := (hS k hk' hs).1; omega)⟩
  · intro i hi
    exact (I.house i hi).kept hk (fun k hk' hs => by have := (hS k hk' hs).1; omega) (fun _ _ => rfl)
theorem DInv.below0 (I : DInv w0 w Wb own hs ll vd vl) (hb : Below w.heap.size w w') : DInv w0 w' Wb (fun k => if k < w.heap.size then own k else 0) hs ll vd vl :=
  have hA : ∀ k, k < w.heap.size → (fun k => if k < w.heap.size then own k else 0) k = own k := fun k hk => by simp [hk]
  I.rest (S := fun _ => False) (Kept.of_below hb) (fun _ h => h.elim) hA I.far (I.drow.below hb) (fun i hi => (I.house i hi).kept (S := fun _ => False) (Kept.of_below hb) (fun _ _ h => h.elim) hA)
/-- legs of the argument's -/
structure Stays (w0 : DBase) (la : Option Addr) (legs : List Pl) : Prop where
  at0 : LegsAt w0.w la legs
  own : ∀ a, la = some a → 0 < legs.length → w0.F a.block
theorem Stays.legsAt {la : Option Addr} {legs : List Pl} (h : Stays w0 la legs) (hb : BelF w0.bs w) : LegsAt w la legs := by
  intro k hk
  obtain ⟨a, e, h1, h2⟩ := h.at0 k hk
  have hF := h.own a e (by omega)
  have hbl : w.heap[a.block]? = w0.w.heap[a.block]? := hb.block a.block hF
  refine ⟨a, e, Nat.lt_of_lt_of_le h1 hb.size, fun j v hv => ?_⟩
  rw [← h2 j v hv]
  have : ((a.add (k * 4)).add j).block = a.block := by rw [addr_block, addr_block]
  unfold World.cell?
  rw [this, hbl]
end
theorem cells_kept {S : Nat → Prop} {w u : World} {b : Nat} {cs : Array Value} (hk : Kept S w u) (hb : b < w.heap.size) (hn : ¬ S b) (hc : ∀ o, w.cell? ⟨b, o, none⟩ = cs[o]?) : ∀ o, u.cell? ⟨b, o, none⟩ = cs[o]? := fun o => (hk.cell (p := ⟨b, o, none⟩) hb hn).trans (hc o)
theorem cells_below {w u : World} {b : Nat} {cs : Array Value} (hk : Below w.heap.size w u) (hb : b < w.heap.size) (hc : ∀ o, w.cell? ⟨b, o, none⟩ = cs[o]?) : ∀ o, u.cell? ⟨b, o, none⟩ = cs[o]? := fun o => (hk.cell (p := ⟨b, o, none⟩) hb).trans (hc o)
end Go.Proofs.YtjkhbjgfoopomaaGreat
