import Derived.Test.YtjkhbjgfoopomaaR40
import Derived.Test.YtjkhbjgfoopomaaR41
import Derived.Deep.RegionHeld3
/-
  Networks: a payment is submitted.
-/
namespace Go.Proofs.Ytjkhbjgfoopomaa
open Go.RowKit
set_option linter.unusedVariables false
set_option linter.unusedSimpArgs false
theorem sub_len (p : Pm) (A : List Dt) (hm : p.memo.length ≤ 64) (h4 : p.legs.length ≤ 4) : (subLog p A).length ≤ 200 := by
  unfold subLog
  split
  · unfold subTextOf
    have := flat9 p.legs
    have e4 := be_length 4 p.id
    have e8 := be_length 8 p.dl
    simp only [List.length_cons, List.length_append]
    omega
  · simp
theorem subMs_len {P : PN} {fs : List Int} (h : Sound fs P) {ck : Nat} {ps : List Xp} (hd : DRel P.A ck ps) (s : Stp) (hs : ∀ x, x ∈ s.legs → x.ok) : (subMs (stepPm P s) P.A).length ≤ 4 := by
  unfold subMs
  split
  · exact asksM_len _ _ _ (legsOf_ok hs).2.2
  · split
    · rename_i hh
      have hS := hd.stand (i := (stepPm P s).id) hh.2.1
      unfold remindM
      split
      · exact asksM_len _ _ _ hS.few
      · exact asksM_len _ _ _ hS.few
    · simp
section
variable {W u u' : World} {B nb : Nat} {x y z v : Value}
theorem keep4 (hB : B < W.heap.size) (hp : nb < W.heap.size) (h : (u.cell? ⟨B, 1, none⟩ = some x ∧ u.cell? ⟨B, 2, none⟩ = some y ∧ u.cell? ⟨B, 3, none⟩ = some z ∧ u.cell? ⟨nb, 4, none⟩ = some v) ∧ Below W.heap.size W u) (hb : Below W.heap.size u u') : (u'.cell? ⟨B, 1, none⟩ = some x ∧ u'.cell? ⟨B, 2, none⟩ = some y ∧ u'.cell? ⟨B, 3, none⟩ = some z ∧ u'.cell? ⟨nb, 4, none⟩ = some v) ∧ Below W.heap.size W u' :=
  ⟨⟨by rw [hb.cell (p := ⟨B, 1, none⟩) hB]; exact h.1.1, by rw [hb.cell (p := ⟨B, 2, none⟩) hB]; exact h.1.2.1, by rw [hb.cell (p := ⟨B, 3, none⟩) hB]; exact h.1.2.2.1, by rw [hb.cell (p := ⟨nb, 4, none⟩) hp]; exact h.1.2.2.2⟩, h.2.trans hb⟩
theorem keep4_drew (h : W.cell? ⟨B, 1, none⟩ = some x ∧ W.cell? ⟨B, 2, none⟩ = some y ∧ W.cell? ⟨B, 3, none⟩ = some z ∧ W.cell? ⟨nb, 4, none⟩ = some v) : (W.drew.cell? ⟨B, 1, none⟩ = some x ∧ W.drew.cell? ⟨B, 2, none⟩ = some y ∧ W.drew.cell? ⟨B, 3, none⟩ = some z ∧ W.drew.cell? ⟨nb, 4, none⟩ = some v) ∧ Below W.heap.size W W.drew :=
  ⟨h, (Below.refl _ _).drew⟩
theorem keep4_alloc (hB : B < W.heap.size) (hp : nb < W.heap.size) (h : (u.cell? ⟨B, 1, none⟩ = some x ∧ u.cell? ⟨B, 2, none⟩ = some y ∧ u.cell? ⟨B, 3, none⟩ = some z ∧ u.cell? ⟨nb, 4, none⟩ = some v) ∧ Below W.heap.size W u) (o : Obj) : ((u.alloc o).cell? ⟨B, 1, none⟩ = some x ∧ (u.alloc o).cell? ⟨B, 2, none⟩ = some y ∧ (u.alloc o).cell? ⟨B, 3, none⟩ = some z ∧ (u.alloc o).cell? ⟨nb, 4, none⟩ = some v) ∧ Below W.heap.size W (u.alloc o) :=
  keep4 hB hp h ((Below.refl _ _).alloc h.2.size _)
theorem keep4_call (hB : B < W.heap.size) (hp : nb < W.heap.size) (h : (u.cell? ⟨B, 1, none⟩ = some x ∧ u.cell? ⟨B, 2, none⟩ = some y ∧ u.cell? ⟨B, 3, none⟩ = some z ∧ u.cell? ⟨nb, 4, none⟩ = some v) ∧ Below W.heap.size W u) (hb : Below u.heap.size u u') : (u'.cell? ⟨B, 1, none⟩ = some x ∧ u'.cell? ⟨B, 2, none⟩ = some y ∧ u'.cell? ⟨B, 3, none⟩ = some z ∧ u'.cell? ⟨nb, 4, none⟩ = some v) ∧ Below W.heap.size W u' :=
  keep4 hB hp h (hb.mono h.2.size)
theorem keep4_start (hB : B < W.heap.size) (hp : nb < W.heap.size) (h : W.cell? ⟨B, 1, none⟩ = some x ∧ W.cell? ⟨B, 2, none⟩ = some y ∧ W.cell? ⟨B, 3, none⟩ = some z ∧ W.cell? ⟨nb, 4, none⟩ = some v) (o : Obj) : ((W.alloc o).drew.cell? ⟨B, 1, none⟩ = some x ∧ (W.alloc o).drew.cell? ⟨B, 2, none⟩ = some y ∧ (W.alloc o).drew.cell? ⟨B, 3, none⟩ = some z ∧ (W.alloc o).drew.cell? ⟨nb, 4, none⟩ = some v) ∧ Below W.heap.size W (W.alloc o).drew :=
  keep4 hB hp ⟨h, Below.refl _ _⟩ (((Below.refl _ _).alloc (Nat.le_refl _) _).drew)
theorem keep4_again {o : Obj} (hB : B < W.heap.size) (hp : nb < W.heap.size) (hs : W.heap.size ≤ u.heap.size) (o' : Obj) (h : ((u.alloc o).cell? ⟨B, 1, none⟩ = some x ∧ (u.alloc o).cell? ⟨B, 2, none⟩ = some y ∧ (u.alloc o).cell? ⟨B, 3, none⟩ = some z ∧ (u.alloc o).cell? ⟨nb, 4, none⟩ = some v) ∧ Below W.heap.size W (u.alloc o)) : ((u.alloc o').cell? ⟨B, 1, none⟩ = some x ∧ (u.alloc o').cell? ⟨B, 2, none⟩ = some y ∧ (u.alloc o').cell? ⟨B, 3, none⟩ = some z ∧ (u.alloc o').cell? ⟨nb, 4, none⟩ = some v) ∧ Below W.heap.size W (u.alloc o') := by
  have hb : Below W.heap.size (u.alloc o) (u.alloc o') := ⟨rfl, rfl, rfl, by simp, fun k hk => by rw [Below.heap_alloc _ _ _ (by omega), Below.heap_alloc _ _ _ (by omega)]⟩
  exact keep4 hB hp h hb
end
set_option maxRecDepth 100000 in
set_option maxHeartbeats 8000000 in
attribute [local go_sem] bs_append in
theorem submit_any (w : World) (own : Nat → Nat) (nb : Nat) (M : NM) (fs : List Int) (P : PN) (I : NetAt w own nb 3 M P) (hS : Sound fs P) (s : Stp) (hsa : i64ok s.a) (hsb : i64ok s.b) (hs : ∀ x, x ∈ s.legs → x.ok) (la : Option Addr) (lc : Nat) (hL : LegsAt w la s.legs) (hll : s.legs.length ≤ 1000000000000000) (hlen : P.wire.length + 128 ≤ 8000000000000) (hlg : (P.lg 0).length + 200 ≤ 1000000000000000000) :
    Calls Try.prog 59 #[.pointer (some ⟨nb, 0, none⟩), .agg #[.int .i64 s.k, .int .i64 s.a, .int .i64 s.b, .slice la s.legs.length lc]] w fun e w' => e = .returned (.bool true) ∧ ∃ own' M', NetAt w' own' nb 3 M' (subTo P (stepPm P s)) ∧ Frame w w' own own' := by
  have hck := hS.clk
  have hclk := I.deed.rel.clk
  have h6 : pickN s.a 6 < 6 := Nat.mod_lt _ (by omega)
  have h9 : pickN s.b 9 < 9 := Nat.mod_lt _ (by omega)
  have hp6 := hide (fun u => kpick_any s.a hsa 6 (by omega) (by omega) u)
  have hp9 := hide (fun u => kpick_any s.b hsb 9 (by omega) (by omega) u)
  have hC := hide (fun u (hu : Below w.heap.size w u) => eClock_any u M.db M.ck M.ps M.xv (I.deed.x.below hu))
  have hLg := hide (fun u (hu : Below w.heap.size w u) => legs_any u la lc s.legs hs (fun k hk => by
    obtain ⟨a, ea, h1, h2⟩ := hL k hk
    exact ⟨a, ea, Nat.lt_of_lt_of_le h1 hu.size, fun j v hj => (World.cell?_of_block (w := w) (by rw [addr_block, addr_block]; exact hu.block _ h1)).trans (h2 j v hj)⟩) hll)
  have hcd : w.cell? ⟨nb, 4, none⟩ = some (.pointer (some ⟨M.db, 0, none⟩)) := cell_at I.blk 4
  have hnl := I.lt
  have hck2 : M.ck ≤ 1000000 := by omega
  obtain ⟨sk, sa, sb, sl⟩ := s
  simp only at *
  obtain ⟨W1, hW1⟩ : ∃ W1, W1 = w.alloc (.cells #[.int .i64 sk, .int .i64 sa, .int .i64 sb, .slice la sl.length lc] 95) := ⟨_, rfl⟩
  have hB1 : Below w.heap.size w W1 := by rw [hW1]; exact (Below.refl _ _).alloc (Nat.le_refl _) _
  have hcO : ∀ o, W1.cell? ⟨w.heap.size, o, none⟩ = (#[.int .i64 sk, .int .i64 sa, .int .i64 sb, .slice la sl.length lc] : Array Value)[o]? := fun o => by rw [hW1]; exact World.cell?_alloc_new ..
  have hs1 : W1.heap.size = w.heap.size + 1 := by rw [hW1]; simp
  have hcd1 : W1.cell? ⟨nb, 4, none⟩ = some (.pointer (some ⟨M.db, 0, none⟩)) := by rw [hB1.cell (p := ⟨nb, 4, none⟩) hnl]; exact hcd
  have hc1 : W1.cell? ⟨w.heap.size, 1, none⟩ = some (.int .i64 sa) := hcO 1
  have hc2 : W1.cell? ⟨w.heap.size, 2, none⟩ = some (.int .i64 sb) := hcO 2
  have hc3 : W1.cell? ⟨w.heap.size, 3, none⟩ = some (.slice la sl.length lc) := hcO 3
  have hC1 := hide (fun u (hu : (u.cell? ⟨w.heap.size, 1, none⟩ = some (.int .i64 sa) ∧ u.cell? ⟨w.heap.size, 2, none⟩ = some (.int .i64 sb) ∧ u.cell? ⟨w.heap.size, 3, none⟩ = some (.slice la sl.length lc) ∧ u.cell? ⟨nb, 4, none⟩ = some (.pointer (some ⟨M.db, 0, none⟩))) ∧ Below W1.heap.size W1 u) => hC.out u (hB1.trans (hu.2.mono hB1.size)))
  have hL1 := hide (fun u (hu : (u.cell? ⟨w.heap.size, 1, none⟩ = some (.int .i64 sa) ∧ u.cell? ⟨w.heap.size, 2, none⟩ = some (.int .i64 sb) ∧ u.cell? ⟨w.heap.size, 3, none⟩ = some (.slice la sl.length lc) ∧ u.cell? ⟨nb, 4, none⟩ = some (.pointer (some ⟨M.db, 0, none⟩))) ∧ Below W1.heap.size W1 u) => (hLg.out u (hB1.trans (hu.2.mono hB1.size))).mono (R' := fun e w' => ∃ lad lcap, e = .returned (.slice lad (legsOf sl).length lcap) ∧ RowOf w' 57 4 Pl.cells (.slice lad (legsOf sl).length lcap) (legsOf sl) ∧ (∀ g, (Value.slice lad (legsOf sl).length lcap).ownBlock = some g → u.heap.size ≤ g) ∧ Below u.heap.size u w') (fun e w' h => by
    obtain ⟨⟨lv, rfl, hr, hf⟩, hb⟩ := h
    obtain ⟨lad, lcap, rfl⟩ := hr.slice
    exact ⟨lad, lcap, rfl, hr, hf, hb⟩))
  have hlO : w.heap.size < W1.heap.size := by omega
  have hnl1 : nb < W1.heap.size := by omega
  replace hW1 := hide hW1
  replace hs1 := hide hs1
  have hstp : stepPm P ⟨sk, sa, sb, sl⟩ = ⟨1 + pickN sa 6, clockOf P.A + 1 + pickN sb 9, memoF, legsOf sl, none, 0⟩ := rfl
  have herr := step_err hS I.deed.rel ⟨sk, sa, sb, sl⟩ hs
  have hmsl := subMs_len hS I.deed.rel ⟨sk, sa, sb, sl⟩ hs
  have hlgl := sub_len (stepPm P ⟨sk, sa, sb, sl⟩) P.A (by show memoF.length ≤ 64; decide) (legsOf_ok hs).2.2
  have hpok := step_ok P ⟨sk, sa, sb, sl⟩ hs hck
  generalize pickN sa 6 = na at *
  generalize pickN sb 9 = nc at *
  have hp6' : Hid (∀ u, Calls Try.prog 21 #[.int .i64 sa, .int .i64 6] u fun e w' => e = .returned (.int .i64 (na : Int)) ∧ w' = u) := hide (fun u => hp6.out u)
  have hp9' : Hid (∀ u, Calls Try.prog 21 #[.int .i64 sb, .int .i64 9] u fun e w' => e = .returned (.int .i64 (nc : Int)) ∧ w' = u) := hide (fun u => hp9.out u)
  obtain ⟨idn, hidn⟩ : ∃ idn, idn = 1 + na := ⟨_, rfl⟩
  obtain ⟨c1, hc1n⟩ : ∃ c1, c1 = M.ck + 1 := ⟨_, rfl⟩
  obtain ⟨dl, hdl⟩ : ∃ dl, dl = M.ck + 1 + nc := ⟨_, rfl⟩
  have x1 : IntKind.i64.wrap (1 + (na : Int)) = (idn : Int) := by rw [IntKind.wrap_i64]; omega
  have x2 : IntKind.u32.wrap (idn : Int) = (idn : Int) := by rw [IntKind.wrap_u32]; omega
  have x3 : IntKind.u64.wrap ((M.ck : Int) + 1) = (c1 : Int) := by rw [IntKind.wrap_u64]; omega
  have x4 : IntKind.u64.wrap (nc : Int) = (nc : Int) := by rw [IntKind.wrap_u64]; omega
  have x5 : IntKind.u64.wrap ((c1 : Int) + (nc : Int)) = (dl : Int) := by rw [IntKind.wrap_u64]; omega
  rw [← hidn, ← hclk, ← hdl] at hstp
  rw [hstp] at herr hmsl hlgl hpok
  have hLt := legsOf_ok hs
  have hl4 := hide hLt.2.2
  replace hstp := hide hstp
  replace herr := hide herr
  replace hmsl := hide hmsl
  replace hlgl := hide hlgl
  replace hpok := hide hpok
  clear hidn hc1n hdl hLt
  have hclk' := hide hclk
  have hI' := hide I
  have hS' := hide hS
  have hB1' := hide hB1
  clear hclk I hS hC hLg hcd hL hp6 hp9 hcO hs hsa hsb hB1
  go_enter Try.func59, Try.ntmps59
  go_wp2_with fail
  rw [← hW1.out]
  go_region_held3 (fun u => (u.cell? ⟨w.heap.size, 1, none⟩ = some (.int .i64 sa) ∧ u.cell? ⟨w.heap.size, 2, none⟩ = some (.int .i64 sb) ∧ u.cell? ⟨w.heap.size, 3, none⟩ = some (.slice la sl.length lc) ∧ u.cell? ⟨nb, 4, none⟩ = some (.pointer (some ⟨M.db, 0, none⟩))) ∧ Below W1.heap.size W1 u)
    (first
      | (with_reducible exact keep4_drew ⟨hc1, hc2, hc3, hcd1⟩)
      | (with_reducible assumption)
      | (with_reducible exact keep4_start hlO hnl1 ⟨hc1, hc2, hc3, hcd1⟩ _)
      | (with_reducible exact keep4_alloc hlO hnl1 (by assumption) _)
      | (with_reducible exact keep4_call hlO hnl1 (by assumption) hb2)
      | (with_reducible exact keep4_again hlO hnl1 hs9 _ (by assumption))
      | (with_reducible refine keep4 hlO hnl1 (by assumption) ?_; repeat (first | with_reducible exact Below.refl _ _ | with_reducible refine setHere ?_ (Nat.le_refl _) | with_reducible refine setHere ?_ hs9))
      | fail)
    (first
      | (go_at_call 21; first | (with_reducible refine (hp6'.out _).mono ?_; rintro e u1 ⟨rfl, rfl⟩) | (with_reducible refine (hp9'.out _).mono ?_; rintro e u1 ⟨rfl, rfl⟩))
      | (go_at_call 35; refine (hC1.out _ ?_).mono ?_; assumption; rintro e u1 ⟨rfl, rfl⟩)
      | (go_at_call 22; refine (hL1.out _ ?_).mono ?_; assumption; rintro e w2 ⟨lad, lcap, rfl, hr2, hf2, hb2⟩; (try have hf9 : ∀ o, w2.frozen? ⟨W1.heap.size, o, none⟩ = false := fun o => fro_kept (undrew hb2) o); (try have hc9 : ∀ o, w2.cell? ⟨W1.heap.size, o, none⟩ = _ := fun o => cel_kept (undrew hb2) o); (try have hl9 : W1.heap.size < w2.heap.size := lt_kept (undrew hb2)); have hs9 : W1.heap.size ≤ w2.heap.size := (by first | exact hb2.size | exact Nat.le_of_lt (lt_kept (undrew hb2)))))
  all_goals (
    first
      | (rename_i hHeld
         clear hHeld
         have hbw : Below w.heap.size w w2 := hB1'.out.trans (Below.mono (undrew hb2) hB1'.out.size)
         have hb3 : Below w2.heap.size w2 (w2.alloc (.cells #[.int .u32 (idn : Int), .int .u64 (dl : Int), .string ⟨#[102, 195, 188, 114, 32, 100, 105, 99, 104]⟩, .slice lad (legsOf sl).length lcap] 70)) := (Below.refl _ _).alloc (Nat.le_refl _) _
         have hw1 := hB1'.out.size
         have hZ : Hid ((∀ o, (w2.alloc (.cells #[.int .u32 (idn : Int), .int .u64 (dl : Int), .string ⟨#[102, 195, 188, 114, 32, 100, 105, 99, 104]⟩, .slice lad (legsOf sl).length lcap] 70)).cell? ⟨w2.heap.size, o, none⟩ = (#[.int .u32 (idn : Int), .int .u64 (dl : Int), .string ⟨#[102, 195, 188, 114, 32, 100, 105, 99, 104]⟩, .slice lad (legsOf sl).length lcap] : Array Value)[o]?) ∧ w2.heap.size < (w2.alloc (.cells #[.int .u32 (idn : Int), .int .u64 (dl : Int), .string ⟨#[102, 195, 188, 114, 32, 100, 105, 99, 104]⟩, .slice lad (legsOf sl).length lcap] 70)).heap.size ∧ RowOf (w2.alloc (.cells #[.int .u32 (idn : Int), .int .u64 (dl : Int), .string ⟨#[102, 195, 188, 114, 32, 100, 105, 99, 104]⟩, .slice lad (legsOf sl).length lcap] 70)) 57 4 Pl.cells (.slice lad (legsOf sl).length lcap) (legsOf sl) ∧ (∀ g, (Value.slice lad (legsOf sl).length lcap).ownBlock = some g → w.heap.size ≤ g) ∧ Below w.heap.size w (w2.alloc (.cells #[.int .u32 (idn : Int), .int .u64 (dl : Int), .string ⟨#[102, 195, 188, 114, 32, 100, 105, 99, 104]⟩, .slice lad (legsOf sl).length lcap] 70))) := hide ⟨fun o => World.cell?_alloc_new .., by simp, hr2.below hb3, fun g hg => Nat.le_trans hw1 (hf2 g hg), hbw.trans (hb3.mono hbw.size)⟩
         clear hr2 hf2 hb2 hs9 hbw hb3 hw1
         generalize w2.alloc _ = U at *
         generalize w2.heap.size = xb at *)
      | (rename_i hHeld
         clear hHeld
         have hbw : Below w.heap.size w w2 := hB1'.out.trans (Below.mono (all_kept (undrew hb2)) hB1'.out.size)
         have hw1 := hB1'.out.size
         have hP := putL_whole [.int .u32 (idn : Int), .int .u64 (dl : Int), .string ⟨#[102, 195, 188, 114, 32, 100, 105, 99, 104]⟩, .slice lad (legsOf sl).length lcap] (blk_kept (undrew hb2)) rfl
         have hPk := putL_kept [.int .u32 (idn : Int), .int .u64 (dl : Int), .string ⟨#[102, 195, 188, 114, 32, 100, 105, 99, 104]⟩, .slice lad (legsOf sl).length lcap] w2 W1.heap.size 0
         have he : (W1.alloc (.cells #[.int .u32 0, .int .u64 0, .string ⟨#[]⟩, .slice none 0 0] 70)).drew.heap.size = W1.heap.size + 1 := by show (W1.alloc _).heap.size = _; simp
         have hZ : Hid ((∀ o, (putL w2 W1.heap.size 0 [.int .u32 (idn : Int), .int .u64 (dl : Int), .string ⟨#[102, 195, 188, 114, 32, 100, 105, 99, 104]⟩, .slice lad (legsOf sl).length lcap]).cell? ⟨W1.heap.size, o, none⟩ = (#[.int .u32 (idn : Int), .int .u64 (dl : Int), .string ⟨#[102, 195, 188, 114, 32, 100, 105, 99, 104]⟩, .slice lad (legsOf sl).length lcap] : Array Value)[o]?) ∧ W1.heap.size < (putL w2 W1.heap.size 0 [.int .u32 (idn : Int), .int .u64 (dl : Int), .string ⟨#[102, 195, 188, 114, 32, 100, 105, 99, 104]⟩, .slice lad (legsOf sl).length lcap]).heap.size ∧ RowOf (putL w2 W1.heap.size 0 [.int .u32 (idn : Int), .int .u64 (dl : Int), .string ⟨#[102, 195, 188, 114, 32, 100, 105, 99, 104]⟩, .slice lad (legsOf sl).length lcap]) 57 4 Pl.cells (.slice lad (legsOf sl).length lcap) (legsOf sl) ∧ (∀ g, (Value.slice lad (legsOf sl).length lcap).ownBlock = some g → w.heap.size ≤ g) ∧ Below w.heap.size w (putL w2 W1.heap.size 0 [.int .u32 (idn : Int), .int .u64 (dl : Int), .string ⟨#[102, 195, 188, 114, 32, 100, 105, 99, 104]⟩, .slice lad (legsOf sl).length lcap])) := hide ⟨fun o => cell_at hP o, block_lt hP, hr2.kept hPk (fun g hg e => by have := hf2 g hg; omega), fun g hg => by have := hf2 g hg; omega, hbw.trans (hPk.below hbw.size (fun k e => by omega))⟩
         clear hr2 hf2 hb2 hs9 hbw hw1 hf9 hc9 hl9 hP hPk he
         simp only [putL] at hZ
         generalize World.setCell _ _ _ = U at *
         obtain ⟨xb, hxb⟩ : ∃ xb, xb = W1.heap.size := ⟨_, rfl⟩
         rw [← hxb] at hZ ⊢
         clear hxb)
    clear hlO hnl1 hc1 hc2 hc3 hcd1 hC1 hL1 hp6' hp9' x1 x2 x3 x4 x5 hW1 hs1
    obtain ⟨hcx, hlx, hrU, hfU, hbU⟩ := hZ.out
    clear hZ
    have IU := hI'.out.below0 hbU.drew
    have hcdU : U.cell? ⟨nb, 4, none⟩ = some (.pointer (some ⟨M.db, 0, none⟩)) := cell_at IU.blk 4
    have hcdU' : U.drew.cell? ⟨nb, 4, none⟩ = some (.pointer (some ⟨M.db, 0, none⟩)) := cell_at IU.blk 4
    have hcx' : ∀ o, U.drew.cell? ⟨xb, o, none⟩ = _ := hcx
    have hnlU : nb < U.heap.size := IU.lt
    have F0 : Frame w U.drew own (fun i => if i < w.heap.size then own i else 0) := ⟨Kept.of_below hbU.drew, fun i hi => by simp [hi]⟩
    replace hrU := hrU.below (Below.drew (Below.refl U.heap.size U))
    have hSu := sub_net U.drew _ nb M P IU ⟨idn, dl, memoF, legsOf sl, lad, lcap⟩ hpok.out (by show memoF.length ≤ 1000000; decide) (by show (legsOf sl).length ≤ 1000000; have := hl4.out; omega) (by omega) hrU (fun g hg => by
      have := hfU g hg
      show (if g < w.heap.size then own g else 0) = 0
      rw [if_neg (by omega)])
    have hcore : core ⟨idn, dl, memoF, legsOf sl, lad, lcap⟩ = ⟨idn, dl, memoF, legsOf sl, none, 0⟩ := rfl
    have q1 : subLog ⟨idn, dl, memoF, legsOf sl, lad, lcap⟩ P.A = subLog ⟨idn, dl, memoF, legsOf sl, none, 0⟩ P.A := rfl
    have q2 : subErr ⟨idn, dl, memoF, legsOf sl, lad, lcap⟩ P.A = subErr ⟨idn, dl, memoF, legsOf sl, none, 0⟩ P.A := rfl
    have q3 : subOuts ⟨idn, dl, memoF, legsOf sl, lad, lcap⟩ P.A = (subMs ⟨idn, dl, memoF, legsOf sl, none, 0⟩ P.A).map encOf := (subMs_map ⟨idn, dl, memoF, legsOf sl, lad, lcap⟩ P.A).symm
    have q4 : subActs ⟨idn, dl, memoF, legsOf sl, lad, lcap⟩ (core ⟨idn, dl, memoF, legsOf sl, lad, lcap⟩) P.A = subActs ⟨idn, dl, memoF, legsOf sl, none, 0⟩ (core ⟨idn, dl, memoF, legsOf sl, none, 0⟩) P.A := rfl
    rw [q1, q2, q3, q4] at hSu
    have hEnd : Hid (∀ u2 own2 M2, NetAt u2 own2 nb 3 M2 { P with A := subActs ⟨idn, dl, memoF, legsOf sl, none, 0⟩ (core ⟨idn, dl, memoF, legsOf sl, none, 0⟩) P.A, lg := upd P.lg 0 (P.lg 0 ++ subLog ⟨idn, dl, memoF, legsOf sl, none, 0⟩ P.A), wire := P.wire ++ subMs ⟨idn, dl, memoF, legsOf sl, none, 0⟩ P.A } → NetAt u2 own2 nb 3 M2 (subTo P (stepPm P ⟨sk, sa, sb, sl⟩))) := hide (fun u2 own2 M2 h => by rw [hstp.out]; exact h)
    simp only [Pm.v, Pm.lv] at hSu
    replace hSu := hide (hSu.mono (R' := fun e w' => ∃ ad cap own' M', e = .returned (.tuple #[.slice ad (subMs ⟨idn, dl, memoF, legsOf sl, none, 0⟩ P.A).length cap, .string (bs (subLog ⟨idn, dl, memoF, legsOf sl, none, 0⟩ P.A)), .int .i64 (subErr ⟨idn, dl, memoF, legsOf sl, none, 0⟩ P.A : Int)]) ∧ NetAt w' own' nb 3 M' { P with A := subActs ⟨idn, dl, memoF, legsOf sl, none, 0⟩ (core ⟨idn, dl, memoF, legsOf sl, none, 0⟩) P.A } ∧ Frame U.drew w' (fun i => if i < w.heap.size then own i else 0) own' ∧ RowOf w' 9 1 msgCell (.slice ad (subMs ⟨idn, dl, memoF, legsOf sl, none, 0⟩ P.A).length cap) (subMs ⟨idn, dl, memoF, legsOf sl, none, 0⟩ P.A) ∧ ∀ g, (Value.slice ad (subMs ⟨idn, dl, memoF, legsOf sl, none, 0⟩ P.A).length cap).ownBlock = some g → own' g = 0) (fun e w' h => by
      obtain ⟨lv, own', M', rfl, h1, h2, h3, h4, _⟩ := h
      have h5 := row_msgs (ms := subMs ⟨idn, dl, memoF, legsOf sl, none, 0⟩ P.A) (fun l => rfl) h3
      obtain ⟨ad, cap, rfl⟩ := h5.slice
      exact ⟨ad, cap, own', M', rfl, h1, h2, h5, h4⟩))
    generalize (fun i => if i < w.heap.size then own i else 0) = own0 at *
    generalize subLog ⟨idn, dl, memoF, legsOf sl, none, 0⟩ P.A = LG at *
    generalize subErr ⟨idn, dl, memoF, legsOf sl, none, 0⟩ P.A = er at *
    generalize subMs ⟨idn, dl, memoF, legsOf sl, none, 0⟩ P.A = ms at *
    generalize subActs ⟨idn, dl, memoF, legsOf sl, none, 0⟩ (core ⟨idn, dl, memoF, legsOf sl, none, 0⟩) P.A = AA at *
    clear q1 q2 q3 q4 hcore IU hrU hfU hbU hpok hstp hl4 hI' hS' hclk' hB1'
    replace F0 := hide F0
    have hmf : bs memoF = ⟨#[102, 195, 188, 114, 32, 100, 105, 99, 104]⟩ := rfl
    rw [hmf] at hSu
    clear hmf
    generalize legsOf sl = LL at *
    go_wp2_with fail
    go_region_with (first
      | (go_at_call 24; refine hSu.out.mono ?_; rintro e u ⟨ad, cap, own1, M1, rfl, I1, F1, hrow, hlo⟩))
    all_goals (
      clear hSu hcx hlx hcdU hnlU hcdU' hcx'
      have hcl : u.cell? ⟨nb, 5, none⟩ = some (.string (bs (P.lg 0))) := cell_at I1.blk 5
      have hfl := frozen_at I1.blk 5
      have hnl1 := I1.lt
      have hCt := I1.cellTo 5 (.string (bs (P.lg 0 ++ LG))) (P' := { P with A := AA, lg := upd P.lg 0 (P.lg 0 ++ LG) }) rfl rfl rfl rfl
      have hbd : Below (u.setCell ⟨nb, 5, none⟩ (.string (bs (P.lg 0 ++ LG)))).heap.size (u.setCell ⟨nb, 5, none⟩ (.string (bs (P.lg 0 ++ LG)))) (u.setCell ⟨nb, 5, none⟩ (.string (bs (P.lg 0 ++ LG)))).drew := (Below.refl _ _).drew
      have hr1 := hrow.kept (Kept.of_setCell u ⟨nb, 5, none⟩ (.string (bs (P.lg 0 ++ LG)))) (fun g hg e => by have e' : g = nb := e; have h := hlo g hg; rw [e', I1.nown] at h; omega)
      have hml := hmsl.out
      have hsd := hide (send_any _ own1 nb M1 _ (hCt.1.below hbd) (.slice ad ms.length cap) ms (hr1.below hbd) (by simp only; omega))
      have hsd0 := hide (send_any _ own1 nb M1 _ hCt.1 (.slice ad ms.length cap) ms hr1 (by simp only; omega))
      have hFr := hide ((F1.trans hCt.2).trans (Frame.of_below hbd))
      have hFr0 := hide (F1.trans hCt.2)
      have hkl := hlgl.out
      have hsz : (9223372036854775807 < (bs (P.lg 0)).size + (bs LG).size) = False := by rw [bs_size, bs_size]; simp; omega
      clear hmsl hlgl
      go_wp2_with fail
      first
        | go_region
        | skip
      all_goals (
        clear hCt hcl hfl hrow hlo I1 F1 hbd hr1
        go_wp2_with fail
        first
          | refine hsd.out.mono ?_
          | refine hsd0.out.mono ?_
        rintro e w3 ⟨rfl, own2, M2, I2, F2, _⟩
        have X : Hid (∃ own' M', NetAt w3 own' nb 3 M' (subTo P (stepPm P ⟨sk, sa, sb, sl⟩)) ∧ Frame w w3 own own') := hide ⟨own2, M2, hEnd.out _ _ _ I2, by first | exact F0.out.trans (hFr.out.trans F2) | exact F0.out.trans (hFr0.out.trans F2)⟩
        clear hsd hsd0 hFr hFr0 I2 F2 hEnd hkl hsz hlg hlen hml F0
        generalize bs LG = Z at *
        rcases herr.out with he | he
        · subst he
          go_wp2
          go_ret
          exact ⟨rfl, X.out⟩
        · subst he
          go_wp2
          go_ret
          exact ⟨rfl, X.out⟩)))
end Go.Proofs.Ytjkhbjgfoopomaa
