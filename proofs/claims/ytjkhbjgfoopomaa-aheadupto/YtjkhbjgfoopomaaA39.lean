import Derived.Test.YtjkhbjgfoopomaaA38
import Derived.Test.YtjkhbjgfoopomaaA34
import Derived.Test.YtjkhbjgfoopomaaA36
import Derived.Test.YtjkhbjgfoopomaaA37
/-
  Networks: legs that may be.
-/
namespace Go.Proofs.Ytjkhbjgfoopomaa
open Go.RowKit
set_option linter.unusedVariables false
set_option linter.unusedSimpArgs false
def bendL (x : Pl) : Pl := ⟨1 + x.b % 3, x.p % 3, x.g % 3, if x.a = 0 then 1 else x.a⟩
def oneLeg : Pl := ⟨1, 0, 1, 1⟩
def legsOf (l : List Pl) : List Pl := if l = [] then [oneLeg] else (l.take 4).map bendL
theorem bend_ok {x : Pl} (h : x.ok) : (bendL x).ok ∧ 1 ≤ (bendL x).b ∧ (bendL x).b ≤ 3 ∧ (bendL x).p < 3 ∧ (bendL x).g < 3 ∧ 1 ≤ (bendL x).a := by
  obtain ⟨h1, h2, h3, h4⟩ := h
  unfold bendL Pl.ok
  simp only
  refine ⟨⟨by omega, by omega, by omega, ?_⟩, by omega, by omega, by omega, by omega, ?_⟩ <;> split <;> omega
theorem legsOf_ok {l : List Pl} (h : ∀ x, x ∈ l → x.ok) : (∀ x, x ∈ legsOf l → x.ok ∧ 1 ≤ x.b ∧ x.b ≤ 3 ∧ x.p < 3 ∧ x.g < 3 ∧ 1 ≤ x.a) ∧ 1 ≤ (legsOf l).length ∧ (legsOf l).length ≤ 4 := by
  unfold legsOf
  split
  · refine ⟨fun x hx => ?_, by simp, by simp⟩
    rw [List.mem_singleton] at hx
    subst hx
    simp [oneLeg, Pl.ok]
  · rename_i hn
    refine ⟨fun x hx => ?_, ?_, by simp; omega⟩
    · obtain ⟨y, hy, rfl⟩ := List.mem_map.1 hx
      exact bend_ok (h y (List.mem_of_mem_take hy))
    · cases l with
      | nil => exact absurd rfl hn
      | cons y r => simp
theorem pl_one1 (x : Pl) : ∀ u ∈ x.cells, u.oneCell' = true := by
  intro u hu
  simp only [Pl.cells, List.mem_cons, List.not_mem_nil, or_false] at hu
  rcases hu with rfl | rfl | rfl | rfl <;> rfl
theorem World.heap_size_alloc' (w : World) (o : Obj) : (w.alloc o).heap.size = w.heap.size + 1 := by simp
set_option maxRecDepth 100000 in
set_option maxHeartbeats 2000000 in
theorem legs_any (w : World) (la : Option Addr) (lc : Nat) (l : List Pl) (hok : ∀ x, x ∈ l → x.ok) (hL : LegsAt w la l) (hlen : l.length ≤ 1000000000000000) :
    Calls Try.prog 22 #[.slice la l.length lc] w fun e w' => (∃ lv, e = .returned lv ∧ RowOf w' 57 4 Pl.cells lv (legsOf l) ∧ ∀ g, lv.ownBlock = some g → w.heap.size ≤ g) ∧ Below w.heap.size w w' := by
  obtain ⟨i0, hi0, y0, y1, y2⟩ := info_parts plInfo
  replace hL := hide hL
  go_enter Try.func22, Try.ntmps22
  go_wp2_with fail
  go_loopw [3, 4] (fun o c u => ∃ k : Nat, k ≤ l.length ∧ k ≤ 4 ∧ c = .int .i64 (k : Int) ∧ RowOf u 57 4 Pl.cells o ((l.take k).map bendL) ∧ (∀ g, o.ownBlock = some g → w.heap.size ≤ g) ∧ Below w.heap.size w u) (fun _ c _ => 5 - (intOf c).toNat)
  case atStart =>
    refine ⟨0, Nat.zero_le _, by omega, rfl, ⟨by simp, .inr ⟨w.heap.size, 0, #[], rfl, Nat.zero_le _, heap_alloc_self _ _, Nat.le_refl _, by unfold maxLen; omega, rfl, rfl⟩⟩, fun g hg => ?_, (Below.refl _ _).alloc (Nat.le_refl _) _⟩
    have : w.heap.size = g := by simpa [Value.ownBlock] using hg
    omega
  case round =>
    obtain ⟨k, hk, hk4, rfl, hrow, hfr, hb⟩ := hrel
    obtain ⟨oad, ocap, rfl⟩ := hrow.slice
    have hol : ((l.take k).map bendL).length = k := by rw [List.length_map, List.length_take]; omega
    by_cases hlt : k < l.length ∧ k < 4
    · have d1 : decide ((k : Int) < (l.length : Int)) = true := by simp; omega
      have d2 : decide ((k : Int) < 4) = true := by simp; omega
      have hki : (k : Int) < (l.length : Int) := by omega
      obtain ⟨a, ea, hal, hac⟩ := hL.out k hlt.1
      subst ea
      have hcc : ∀ j v, l[k].cells[j]? = some v → wr.cell? ((a.add (k * 4)).add j) = some v := fun j v hj => (World.cell?_of_block (w := w) (by rw [addr_block, addr_block]; exact hb.block _ hal)).trans (hac j v hj)
      have hx := hok l[k] (List.getElem_mem hlt.1)
      have hsn : Hid ((l.take (k + 1)).map bendL = (l.take k).map bendL ++ [bendL l[k]]) := hide (by rw [List.take_succ_eq_append_getElem hlt.1, List.map_append]; rfl)
      generalize l[k] = E at *
      generalize (l.take k).map bendL = XS at *
      obtain ⟨xb, xp, xg, xa⟩ := E
      obtain ⟨q1, q2, q3, q4⟩ := hx
      simp only at q1 q2 q3 q4
      have r0 : wr.cell? (a.add (k * 4)) = some (.int .u8 (xb : Int)) := by have h := hcc 0 _ rfl; rwa [addr_add, Nat.add_zero] at h
      have r1 : wr.cell? ⟨(a.add (k * 4)).block, (a.add (k * 4)).off + 1, none⟩ = some (.int .u16 (xp : Int)) := hcc 1 _ rfl
      have r2 : wr.cell? ⟨(a.add (k * 4)).block, (a.add (k * 4)).off + 2, none⟩ = some (.int .u16 (xg : Int)) := hcc 2 _ rfl
      have r3 : wr.cell? ⟨(a.add (k * 4)).block, (a.add (k * 4)).off + 3, none⟩ = some (.int .u32 (xa : Int)) := hcc 3 _ rfl
      replace hol := hide hol
      clear hcc hac hok
      have hfin : Hid (∀ o u, RowOf u 57 4 Pl.cells o (XS ++ [bendL ⟨xb, xp, xg, xa⟩]) → Kept (fun q => (Value.slice oad XS.length ocap).ownBlock = some q) wr u → (∀ g, o.ownBlock = some g → (Value.slice oad XS.length ocap).ownBlock = some g ∨ wr.heap.size ≤ g) → RowOf u 57 4 Pl.cells o ((l.take (k + 1)).map bendL) ∧ (∀ g, o.ownBlock = some g → w.heap.size ≤ g) ∧ Below w.heap.size w u) := hide (fun o u h1 h2 h3 => ⟨by rw [hsn.out]; exact h1, fun g hg => by
        rcases h3 g hg with h | h
        · exact hfr g h
        · exact Nat.le_trans hb.size h, hb.trans (h2.below hb.size (fun q hq => hfr q hq))⟩)
      have hbx : ∀ (cs : Array Value), Below wr.heap.size wr (wr.alloc (.cells cs 57)) := fun cs => (Below.refl _ _).alloc (Nat.le_refl _) _
      by_cases hz : xa = 0
      · subst hz
        go_wp2_with (first | (at_builtin; refine stopAt ?_))
        refine hide ?_
        refine wpList_row (y := bendL ⟨xb, xp, xg, 0⟩) Pl.cells_length (wr.alloc (.cells #[.int .u8 (1 + (xb : Int) % 3), .int .u16 ((xp : Int) % 3), .int .u16 ((xg : Int) % 3), .int .u32 1] 57)) (by rfl) _ _ 50 (by rfl) 57 i0 _ 12 Try.underlying50 hi0 y0 y1 y2 rfl (by decide) (.slice oad XS.length ocap) XS (by rfl) (hrow.below (hbx _)) 1 (by rw [World.heap_size_alloc']; rfl) (pl_one1 _) (by have := hol.out; unfold maxLen; omega) (by have := hol.out; omega) ?_ _ (by simp [Pl.cells, bendL])
        intro g c u h1 h2 h3 h4
        have X := hide (hfin.out _ u h1 ((Kept.of_below (hbx _)).trans h2 (fun q hq => .inl hq)) (fun q hq => by
          have e : g = q := by simpa [Value.ownBlock] using hq
          subst e
          exact h3.imp_right (fun h => by have := (hbx #[.int .u8 (1 + (xb : Int) % 3), .int .u16 ((xp : Int) % 3), .int .u16 ((xg : Int) % 3), .int .u32 1]).size; omega)))
        clear h1 h2 h3 h4 hfin hrow hfr hbx r0 r1 r2 r3
        go_wp2
        exact ⟨⟨k + 1, hlt.1, hlt.2, by go_num, X.out⟩, by simp [intOf]; omega⟩
      · have hz' : ((xa : Int) == 0) = false := by simp; omega
        have hbn : bendL ⟨xb, xp, xg, xa⟩ = ⟨1 + xb % 3, xp % 3, xg % 3, xa⟩ := by unfold bendL; simp [hz]
        go_wp2_with (first | (at_builtin; refine stopAt ?_))
        refine hide ?_
        refine wpList_row (y := bendL ⟨xb, xp, xg, xa⟩) Pl.cells_length (wr.alloc (.cells #[.int .u8 (1 + (xb : Int) % 3), .int .u16 ((xp : Int) % 3), .int .u16 ((xg : Int) % 3), .int .u32 (xa : Int)] 57)) (by rfl) _ _ 50 (by rfl) 57 i0 _ 12 Try.underlying50 hi0 y0 y1 y2 rfl (by decide) (.slice oad XS.length ocap) XS (by rfl) (hrow.below (hbx _)) 1 (by rw [World.heap_size_alloc']; rfl) (pl_one1 _) (by have := hol.out; unfold maxLen; omega) (by have := hol.out; omega) ?_ _ (by rw [hbn]; simp [Pl.cells])
        intro g c u h1 h2 h3 h4
        have X := hide (hfin.out _ u h1 ((Kept.of_below (hbx _)).trans h2 (fun q hq => .inl hq)) (fun q hq => by
          have e : g = q := by simpa [Value.ownBlock] using hq
          subst e
          exact h3.imp_right (fun h => by have := (hbx #[.int .u8 (1 + (xb : Int) % 3), .int .u16 ((xp : Int) % 3), .int .u16 ((xg : Int) % 3), .int .u32 (xa : Int)]).size; omega)))
        clear h1 h2 h3 h4 hfin hrow hfr hbx r0 r1 r2 r3
        go_wp2
        exact ⟨⟨k + 1, hlt.1, hlt.2, by go_num, X.out⟩, by simp [intOf]; omega⟩
    · have hend : (l.take k).map bendL = (l.take 4).map bendL := by
        have : l.take k = l.take 4 := by
          by_cases h4 : k < 4
          · have : k = l.length := by omega
            subst this
            rw [List.take_length, List.take_of_length_le (by omega)]
          · rw [show k = 4 by omega]
        rw [this]
      by_cases h0 : k = 0
      · have hl0 : l = [] := List.length_eq_zero_iff.1 (by omega)
        subst h0
        have hX : (l.take 0).map bendL = [] := by simp
        rw [hX] at hrow hfr hol
        have hle : Hid (legsOf l = [oneLeg]) := hide (by unfold legsOf; rw [if_pos hl0])
        have hll : l.length = 0 := by rw [hl0]; rfl
        clear hend hok hL
        simp only [hX, List.length_nil] at hrow hfr ⊢
        rw [hll]
        have d1 : decide (((0 : Nat) : Int) < ((0 : Nat) : Int)) = false := by decide
        go_wp2_with (first | (at_builtin; refine stopAt ?_))
        refine hide ?_
        refine wpList_row (y := oneLeg) Pl.cells_length wr (by rfl) _ _ 50 (by rfl) 57 i0 _ 12 Try.underlying50 hi0 y0 y1 y2 rfl (by decide) (.slice oad 0 ocap) [] (by rfl) hrow 1 (by rfl) (pl_one1 _) (by unfold maxLen; simp) (by simp) ?_ _ (by rfl)
        intro g c u h1 h2 h3 h4
        have X : Hid (RowOf u 57 4 Pl.cells (.slice (some ⟨g, 0, none⟩) 1 c) (legsOf l) ∧ (∀ q, (Value.slice (some ⟨g, 0, none⟩) 1 c).ownBlock = some q → w.heap.size ≤ q) ∧ Below w.heap.size w u) := hide ⟨by rw [hle.out]; exact h1, fun q hq => by
          have e : g = q := by simpa [Value.ownBlock] using hq
          subst e
          rcases h3 with h | h
          · exact hfr g h
          · exact Nat.le_trans hb.size h, hb.trans (h2.below hb.size (fun q hq => hfr q hq))⟩
        clear h1 h2 h3 h4 hrow hfr
        go_wp2
        go_ret
        exact ⟨⟨_, rfl, X.out.1, X.out.2.1⟩, X.out.2.2⟩
      · have hle : Hid (legsOf l = (l.take k).map bendL) := hide (by
          unfold legsOf
          rw [if_neg (fun e => by rw [e] at hk; simp at hk; omega), hend])
        have X : Hid (RowOf wr 57 4 Pl.cells (.slice oad k ocap) (legsOf l) ∧ (∀ q, (Value.slice oad k ocap).ownBlock = some q → w.heap.size ≤ q) ∧ Below w.heap.size w wr) := hide ⟨by rw [hle.out]; rw [hol] at hrow; exact hrow, by rw [hol] at hfr; exact hfr, hb⟩
        rw [hol]
        have hk0 : ((k : Int) == 0) = false := by simp; omega
        have hcond : (decide ((k : Int) < (l.length : Int)) = true ∧ decide ((k : Int) < 4) = false) ∨ decide ((k : Int) < (l.length : Int)) = false := by
          by_cases h : k < l.length
          · exact .inl ⟨by simp; omega, by simp; omega⟩
          · exact .inr (by simp; omega)
        clear hrow hfr hle hend hok hL hol
        rcases hcond with ⟨d1, d2⟩ | d1
        all_goals (
          go_wp2
          all_goals go_ret
          all_goals exact ⟨⟨_, rfl, X.out.1, X.out.2.1⟩, X.out.2.2⟩)
end Go.Proofs.Ytjkhbjgfoopomaa
/-
  Plain: one payment in a network, ahead of any tick: what its legs still wait for.
-/
namespace Go.Proofs.Ytjkhbjgfoopomaa
set_option linter.unusedVariables false
set_option linter.unusedSimpArgs false
theorem opened_after (a : Nat) (m : Msg) (E : List Ev) : openedOf a (hEvsOf m E) = openedOf a E := by
  unfold hEvsOf hNewT
  have h : ∀ e : Ev, e.kind ≠ 0 → openedOf a (E ++ [e]) = openedOf a E := fun e he => by
    rw [openedOf_snoc]
    unfold openedStep
    rw [if_neg he]
  split
  · simp
  · split
    · exact h _ (by simp)
    · split
      · exact h _ (by simp)
      · split
        · exact h _ (by simp)
        · simp
/-- a payment alone; its legs; the accounts -/
structure PrC (L : List Pl) (P : PN) : Prop where
  f9 : fnd P.A 9 = true
  only : ∀ i, fnd P.A i = true → i = 9
  legs : (payO P.A 9).legs = L
  op : ∀ b, 1 ≤ b → b ≤ 3 → ∀ a, a < 3 → (openedOf a (P.E b)).1 = 1000 ∧ (openedOf a (P.E b)).2.1 = true
  nf : (stA P.A 9).1 = 1 → (stA P.A 9).2.1 ≠ fullOf L.length
/-- how messages on the wire go on when one of them arrives -/
structure WTo (W W' outs : List Msg) (m : Msg) : Prop where
  old : ∀ y, y ∈ W → y = m ∨ y ∈ W'
  new : ∀ y, y ∈ outs → y ∈ W'
def arrOuts (P : PN) (m : Msg) : List Msg := if m.k ≤ 3 then [bankAns m.t m (P.E m.t)] else nOuts m P.A
/-- the state behind an arrival -/
structure After (P Q : PN) (m : Msg) : Prop where
  bank : m.k ≤ 3 → Q.E = upd P.E m.t (hEvsOf m (P.E m.t)) ∧ Q.A = P.A
  note : ¬ m.k ≤ 3 → Q.E = P.E ∧ Q.A = P.A ++ [msgAct m]
  wire : WTo P.wire Q.wire (arrOuts P m) m
theorem arrive_after {Q : PN} {m : Msg} {rest : List Msg} (h : Q.wire = m :: rest) : After Q (arriveTo { Q with wire := rest } m) m := by
  refine ⟨fun hk => ?_, fun hk => ?_, ⟨fun y hy => ?_, fun y hy => ?_⟩⟩
  · unfold arriveTo; rw [if_pos hk]; exact ⟨rfl, rfl⟩
  · unfold arriveTo; rw [if_neg hk]; exact ⟨rfl, rfl⟩
  · rw [h] at hy
    rcases List.mem_cons.1 hy with h' | h'
    · exact .inl h'
    · right
      unfold arriveTo
      split <;> exact List.mem_append_left _ h'
  · unfold arrOuts at hy
    unfold arriveTo
    split
    · rename_i hk; rw [if_pos hk] at hy; exact List.mem_append_right _ hy
    · rename_i hk; rw [if_neg hk] at hy; exact List.mem_append_right _ hy
theorem arrive_after_stay {Q : PN} {m : Msg} : After Q (arriveTo Q m) m := by
  refine ⟨fun hk => ?_, fun hk => ?_, ⟨fun y hy => ?_, fun y hy => ?_⟩⟩
  · unfold arriveTo; rw [if_pos hk]; exact ⟨rfl, rfl⟩
  · unfold arriveTo; rw [if_neg hk]; exact ⟨rfl, rfl⟩
  · right
    unfold arriveTo
    split <;> exact List.mem_append_left _ hy
  · unfold arrOuts at hy
    unfold arriveTo
    split
    · rename_i hk; rw [if_pos hk] at hy; exact List.mem_append_right _ hy
    · rename_i hk; rw [if_neg hk] at hy; exact List.mem_append_right _ hy
section
variable {L : List Pl} {P Q : PN} {m : Msg}
/-- what is common goes on -/
theorem PrC.step (C : PrC L P) (G : Good P) (hm : OnW P m) (hA : After P Q m) : PrC L Q := by
  obtain ⟨ck, ps, hd⟩ := G.dr
  by_cases hk : m.k ≤ 3
  · obtain ⟨hE, hAA⟩ := hA.bank hk
    refine ⟨by rw [hAA]; exact C.f9, by rw [hAA]; exact C.only, by rw [hAA]; exact C.legs, fun b h1 h2 a ha => ?_, by rw [hAA]; exact C.nf⟩
    rw [hE]
    unfold upd
    split
    · rename_i e
      rw [opened_after, ← e]
      exact C.op b h1 h2 a ha
    · exact C.op b h1 h2 a ha
  · obtain ⟨hE, hAA⟩ := hA.note hk
    have hn : (msgAct m).kind ≠ -1 := by show ((m.k : Int)) ≠ -1; omega
    have hp := fun i => pay_other (A := P.A) hn i
    have hi9 : m.i = 9 := C.only m.i hm.2.1
    have hkk := hm.1.kinds
    obtain ⟨s4, s5, s6⟩ := note_st hd hm.2.1 (m := m) ⟨by omega, hkk.2.1⟩
    rw [hi9] at s4 s5 s6
    refine ⟨by rw [hAA, (hp 9).1]; exact C.f9, fun i h => by rw [hAA, (hp i).1] at h; exact C.only i h, by rw [hAA, (hp 9).2]; exact C.legs, by rw [hE]; exact C.op, ?_⟩
    rw [hAA]
    have hk3 : m.k = 4 ∨ m.k = 5 ∨ m.k = 6 := by omega
    rcases hk3 with h | h | h
    · rw [s4 h]
      split
      · simp only
        intro e
        rw [C.legs] at e
        split at e
        · omega
        · assumption
      · rename_i h1
        exact fun e => absurd e h1
    · rw [s5 h]
      split
      · intro e; simp at e
      · rename_i h1
        exact fun e => absurd e h1
    · rw [s6 h]
      exact C.nf
/-- what the leg of a message looks like behind it, for each kind -/
theorem leg_kinds (C : PrC L P) (G : Good P) (hm : OnW P m) (hk : m.k ≤ 3) : ∃ x, L[m.l]? = some x ∧ x.b = m.t ∧ m.i = 9 ∧ 1 ≤ m.t ∧ m.t ≤ 3 ∧ m = askMsg (payO P.A 9) x m.l m.k ∧ hErrOf m (P.E m.t) = 0 := by
  obtain ⟨ck, ps, hd⟩ := G.dr
  obtain ⟨h1, h2, h3⟩ := G.inv.bankOk hd hm hk
  obtain ⟨ac, ls, hr⟩ := G.rl m.t h1 h2
  have h0 := h3 hr
  obtain ⟨x, hx, hb, he, _⟩ := G.inv.legStep hd hm hk h0
  have hi9 : m.i = 9 := C.only m.i hm.2.1
  rw [hi9, C.legs] at hx
  rw [hi9] at he
  exact ⟨x, hx, hb, hi9, h1, h2, he, h0⟩
theorem leg_of (C : PrC L P) (G : Good P) {l : Nat} {x : Pl} (hx : L[l]? = some x) : LegInv (stA P.A 9).1 (bitB (stA P.A 9).2.1 l) (bitB (stA P.A 9).2.2.1 l) (legOf 9 l (P.E x.b)).1 := G.inv.leg 9 l x C.f9 (by rw [C.legs]; exact hx)
/-- the legs' state behind a message to a bank -/
theorem ls_bank (hA : After P Q m) (hk : m.k ≤ 3) (b i l : Nat) : legOf i l (Q.E b) = if b = m.t ∧ i = m.i ∧ l = m.l then legOf m.i m.l (hEvsOf m (P.E m.t)) else legOf i l (P.E b) := by
  rw [(hA.bank hk).1]
  split
  · rename_i h
    obtain ⟨rfl, rfl, rfl⟩ := h
    rw [upd_self]
  · rename_i h
    exact upd_leg h
/-- what the notary says when it decides, and when it has -/
theorem says_all {A : List Dt} {m : Msg} (h1 : (stA A m.i).1 = 1) (h2 : (stA (A ++ [msgAct m]) m.i).1 ≠ 1) (hp : payO (A ++ [msgAct m]) m.i = payO A m.i) (h6 : m.k ≠ 6) {l : Nat} {x : Pl} (hx : (payO A m.i).legs[l]? = some x) : askMsg (payO A m.i) x l (askKind (stA (A ++ [msgAct m]) m.i).1) ∈ nOuts m A := by
  unfold nOuts nSay
  have e1 : (stOf (findOf m.i A).1 A).1 = 1 := h1
  have e3 : (stOf (findOf m.i A).1 (A ++ [msgAct m])).1 = (stA (A ++ [msgAct m]) m.i).1 := by
    show _ = (stOf (payO (A ++ [msgAct m]) m.i) (A ++ [msgAct m])).1
    rw [hp]
    rfl
  rw [if_neg h6, e1, e3, if_neg (fun c => h2 c.2), if_pos rfl]
  refine (asksM_mem _ _ _ _).2 ⟨l, x, ?_, hx, rfl⟩
  unfold withOf
  simp
end
/-- nothing is denied: all is paid -/
structure PrOk (L : List Pl) (P : PN) : Prop where
  c : PrC L P
  st : (stA P.A 9).1 = 1 ∨ (stA P.A 9).1 = 2
  nd : ∀ l x, L[l]? = some x → (legOf 9 l (P.E x.b)).1 ≠ 2
  ob1 : (stA P.A 9).1 = 1 → ∀ l x, L[l]? = some x → bitB (stA P.A 9).2.1 l = true ∨ ∃ y, y ∈ P.wire ∧ y.l = l ∧ (y.k = 1 ∨ y.k = 4)
  ob2 : (stA P.A 9).1 = 2 → ∀ l x, L[l]? = some x → (legOf 9 l (P.E x.b)).1 = 3 ∨ ∃ y, y ∈ P.wire ∧ y.l = l ∧ y.k = 2
theorem sumBy_zero (ks : List (Nat × Nat)) (g : Nat × Nat → Nat) (h : ∀ x, x ∈ ks → g x = 0) : sumBy ks g = 0 := by
  induction ks with
  | nil => rfl
  | cons x r ih =>
    unfold sumBy at *
    rw [List.map_cons, List.sum_cons, h x (by simp), ih (fun y hy => h y (by simp [hy]))]
theorem sumBy_bd (ks : List (Nat × Nat)) (g : Nat × Nat → Nat) (B : Nat) (h : ∀ x, x ∈ ks → g x ≤ B) : sumBy ks g ≤ ks.length * B := by
  induction ks with
  | nil => simp [sumBy]
  | cons x r ih =>
    have h1 := ih (fun y hy => h y (by simp [hy]))
    have h2 := h x (by simp)
    unfold sumBy at *
    rw [List.map_cons, List.sum_cons, List.length_cons, Nat.succ_mul]
    omega
/-- a bank's keys are legs of the one payment -/
theorem keys_few {L : List Pl} {P : PN} (C : PrC L P) (G : Good P) {b : Nat} (hb : 1 ≤ b ∧ b ≤ 3) : (∀ x, x ∈ keysOf (P.E b) → x.1 = 9 ∧ ∃ y, L[x.2]? = some y ∧ y.b = b) ∧ ∀ l, l < L.length → L.length ≤ 4 → (legOf 9 l (P.E b)).1 = 0 → (keysOf (P.E b)).length ≤ 3 := by
  obtain ⟨ac, ls, hr⟩ := G.rl b hb.1 hb.2
  have hkey : ∀ x, x ∈ keysOf (P.E b) → (legOf x.1 x.2 (P.E b)).1 ≠ 0 := fun x hx => by
    have h1 := (hr.keys.mem_iff).2 hx
    obtain ⟨z, hz, rfl⟩ := List.mem_map.1 h1
    have := hr.leg z hz
    unfold LegIs at this
    unfold keyL
    simp only
    omega
  have hin : ∀ x, x ∈ keysOf (P.E b) → x.1 = 9 ∧ ∃ y, L[x.2]? = some y ∧ y.b = b := fun x hx => by
    obtain ⟨hf, y, hy, hyb⟩ := G.inv.kept b x.1 x.2 hb.1 hb.2 (hkey x hx)
    have h9 := C.only _ hf
    rw [h9, C.legs] at hy
    exact ⟨h9, y, hy, hyb⟩
  refine ⟨hin, fun l hl h4 h0 => ?_⟩
  have hn : (keysOf (P.E b)).Pairwise (· ≠ ·) := (hr.keys.pairwise_iff (fun {a b} h => Ne.symm h)).1 (keys_nodup hr.sort)
  have h := nodup_le ((9, l) :: keysOf (P.E b)) ((List.range L.length).map fun k => (9, k)) (List.pairwise_cons.2 ⟨fun y hy e => ?_, hn⟩) (fun y hy => ?_)
  · simp only [List.length_cons, List.length_map, List.length_range] at h
    omega
  · subst e
    exact hkey _ hy h0
  · rcases List.mem_cons.1 hy with rfl | hy
    · exact List.mem_map.2 ⟨l, List.mem_range.2 hl, rfl⟩
    · obtain ⟨h9, z, hz, _⟩ := hin y hy
      refine List.mem_map.2 ⟨y.2, List.mem_range.2 (List.getElem?_eq_some_iff.1 hz).1, ?_⟩
      rw [← h9]
end Go.Proofs.Ytjkhbjgfoopomaa
/-
  Networks: rounds.
-/
namespace Go.Proofs.Ytjkhbjgfoopomaa
open Go.RowKit
set_option linter.unusedVariables false
set_option linter.unusedSimpArgs false
theorem tick_inv {P : PN} {ms : List Msg} {ck : Nat} {ps : List Xp} (hI : NInv P) (hT : TickSays P.A ms) (hd : DRel (kActs P.A) ck ps) : NInv (tickTo P ms) := by
  rcases hT.2 with ⟨h1, rfl⟩ | ⟨h1, qs, hP, rfl⟩
  · refine hI.less rfl (if_pos h1) (fun m hm => ?_)
    simpa [tickTo] using hm
  · have e : kActs P.A = P.A ++ [tickAct] := if_neg (by omega)
    rw [e] at hd
    exact hI.tick ⟨_, _, hd⟩ hP rfl e (fun y hy => List.mem_append.1 hy)
end Go.Proofs.Ytjkhbjgfoopomaa
