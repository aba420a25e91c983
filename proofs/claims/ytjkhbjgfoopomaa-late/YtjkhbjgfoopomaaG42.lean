import Derived.Test.YtjkhbjgfoopomaaG41
/-
  Networks: legs that may be.
-/
namespace Go.Proofs.Ytjkhbjgfoopomaa
open Go.RowKit
set_option linter.unusedVariables false
set_option linter.unusedSimpArgs false
def bendL (x : Pl) : Pl := ⟨1 + x.b % 3, x.p % 3, x.g % 3, if x.a = 0 then 1 else x.a⟩
def oneLeg : Pl := ⟨1, 0, 1, 1⟩
def legsOf (l : List Pl) : List Pl := if l = [] then [oneLeg] else (l.take 4).map bendL
theorem bend_ok {x : Pl} (h : x.ok) : (bendL x).ok ∧ 1 ≤ (bendL x).b ∧ (bendL x).b ≤ 3 ∧ (bendL x).p < 3 ∧ (bendL x).g < 3 ∧ 1 ≤ (bendL x).a := by
  obtain ⟨h1, h2, h3, h4⟩ := h
  unfold bendL Pl.ok
  simp only
  refine ⟨⟨by omega, by omega, by omega, ?_⟩, by omega, by omega, by omega, by omega, ?_⟩ <;> split <;> omega
theorem legsOf_ok {l : List Pl} (h : ∀ x, x ∈ l → x.ok) : (∀ x, x ∈ legsOf l → x.ok ∧ 1 ≤ x.b ∧ x.b ≤ 3 ∧ x.p < 3 ∧ x.g < 3 ∧ 1 ≤ x.a) ∧ 1 ≤ (legsOf l).length ∧ (legsOf l).length ≤ 4 := by
  unfold legsOf
  split
  · refine ⟨fun x hx => ?_, by simp, by simp⟩
    rw [List.mem_singleton] at hx
    subst hx
    simp [oneLeg, Pl.ok]
  · rename_i hn
    refine ⟨fun x hx => ?_, ?_, by simp; omega⟩
    · obtain ⟨y, hy, rfl⟩ := List.mem_map.1 hx
      exact bend_ok (h y (List.mem_of_mem_take hy))
    · cases l with
      | nil => exact absurd rfl hn
      | cons y r => simp
theorem pl_one1 (x : Pl) : ∀ u ∈ x.cells, u.oneCell' = true := by
  intro u hu
  simp only [Pl.cells, List.mem_cons, List.not_mem_nil, or_false] at hu
  rcases hu with rfl | rfl | rfl | rfl <;> rfl
theorem World.heap_size_alloc' (w : World) (o : Obj) : (w.alloc o).heap.size = w.heap.size + 1 := by simp
set_option maxRecDepth 100000 in
set_option maxHeartbeats 2000000 in
theorem legs_any (w : World) (la : Option Addr) (lc : Nat) (l : List Pl) (hok : ∀ x, x ∈ l → x.ok) (hL : LegsAt w la l) (hlen : l.length ≤ 1000000000000000) :
    Calls Try.prog 22 #[.slice la l.length lc] w fun e w' => (∃ lv, e = .returned lv ∧ RowOf w' 57 4 Pl.cells lv (legsOf l) ∧ ∀ g, lv.ownBlock = some g → w.heap.size ≤ g) ∧ Below w.heap.size w w' := by
  obtain ⟨i0, hi0, y0, y1, y2⟩ := info_parts plInfo
  replace hL := hide hL
  go_enter Try.func22, Try.ntmps22
  go_wp2_with fail
  go_loopw [3, 4] (fun o c u => ∃ k : Nat, k ≤ l.length ∧ k ≤ 4 ∧ c = .int .i64 (k : Int) ∧ RowOf u 57 4 Pl.cells o ((l.take k).map bendL) ∧ (∀ g, o.ownBlock = some g → w.heap.size ≤ g) ∧ Below w.heap.size w u) (fun _ c _ => 5 - (intOf c).toNat)
  case atStart =>
    refine ⟨0, Nat.zero_le _, by omega, rfl, ⟨by simp, .inr ⟨w.heap.size, 0, #[], rfl, Nat.zero_le _, heap_alloc_self _ _, Nat.le_refl _, by unfold maxLen; omega, rfl, rfl⟩⟩, fun g hg => ?_, (Below.refl _ _).alloc (Nat.le_refl _) _⟩
    have : w.heap.size = g := by simpa [Value.ownBlock] using hg
    omega
  case round =>
    obtain ⟨k, hk, hk4, rfl, hrow, hfr, hb⟩ := hrel
    obtain ⟨oad, ocap, rfl⟩ := hrow.slice
    have hol : ((l.take k).map bendL).length = k := by rw [List.length_map, List.length_take]; omega
    by_cases hlt : k < l.length ∧ k < 4
    · have d1 : decide ((k : Int) < (l.length : Int)) = true := by simp; omega
      have d2 : decide ((k : Int) < 4) = true := by simp; omega
      have hki : (k : Int) < (l.length : Int) := by omega
      obtain ⟨a, ea, hal, hac⟩ := hL.out k hlt.1
      subst ea
      have hcc : ∀ j v, l[k].cells[j]? = some v → wr.cell? ((a.add (k * 4)).add j) = some v := fun j v hj => (World.cell?_of_block (w := w) (by rw [addr_block, addr_block]; exact hb.block _ hal)).trans (hac j v hj)
      have hx := hok l[k] (List.getElem_mem hlt.1)
      have hsn : Hid ((l.take (k + 1)).map bendL = (l.take k).map bendL ++ [bendL l[k]]) := hide (by rw [List.take_succ_eq_append_getElem hlt.1, List.map_append]; rfl)
      generalize l[k] = E at *
      generalize (l.take k).map bendL = XS at *
      obtain ⟨xb, xp, xg, xa⟩ := E
      obtain ⟨q1, q2, q3, q4⟩ := hx
      simp only at q1 q2 q3 q4
      have r0 : wr.cell? (a.add (k * 4)) = some (.int .u8 (xb : Int)) := by have h := hcc 0 _ rfl; rwa [addr_add, Nat.add_zero] at h
      have r1 : wr.cell? ⟨(a.add (k * 4)).block, (a.add (k * 4)).off + 1, none⟩ = some (.int .u16 (xp : Int)) := hcc 1 _ rfl
      have r2 : wr.cell? ⟨(a.add (k * 4)).block, (a.add (k * 4)).off + 2, none⟩ = some (.int .u16 (xg : Int)) := hcc 2 _ rfl
      have r3 : wr.cell? ⟨(a.add (k * 4)).block, (a.add (k * 4)).off + 3, none⟩ = some (.int .u32 (xa : Int)) := hcc 3 _ rfl
      replace hol := hide hol
      clear hcc hac hok
      have hfin : Hid (∀ o u, RowOf u 57 4 Pl.cells o (XS ++ [bendL ⟨xb, xp, xg, xa⟩]) → Kept (fun q => (Value.slice oad XS.length ocap).ownBlock = some q) wr u → (∀ g, o.ownBlock = some g → (Value.slice oad XS.length ocap).ownBlock = some g ∨ wr.heap.size ≤ g) → RowOf u 57 4 Pl.cells o ((l.take (k + 1)).map bendL) ∧ (∀ g, o.ownBlock = some g → w.heap.size ≤ g) ∧ Below w.heap.size w u) := hide (fun o u h1 h2 h3 => ⟨by rw [hsn.out]; exact h1, fun g hg => by
        rcases h3 g hg with h | h
        · exact hfr g h
        · exact Nat.le_trans hb.size h, hb.trans (h2.below hb.size (fun q hq => hfr q hq))⟩)
      have hbx : ∀ (cs : Array Value), Below wr.heap.size wr (wr.alloc (.cells cs 57)) := fun cs => (Below.refl _ _).alloc (Nat.le_refl _) _
      by_cases hz : xa = 0
      · subst hz
        go_wp2_with (first | (at_builtin; refine stopAt ?_))
        refine hide ?_
        refine wpList_row (y := bendL ⟨xb, xp, xg, 0⟩) Pl.cells_length (wr.alloc (.cells #[.int .u8 (1 + (xb : Int) % 3), .int .u16 ((xp : Int) % 3), .int .u16 ((xg : Int) % 3), .int .u32 1] 57)) (by rfl) _ _ 50 (by rfl) 57 i0 _ 12 Try.underlying50 hi0 y0 y1 y2 rfl (by decide) (.slice oad XS.length ocap) XS (by rfl) (hrow.below (hbx _)) 1 (by rw [World.heap_size_alloc']; rfl) (pl_one1 _) (by have := hol.out; unfold maxLen; omega) (by have := hol.out; omega) ?_ _ (by simp [Pl.cells, bendL])
        intro g c u h1 h2 h3 h4
        have X := hide (hfin.out _ u h1 ((Kept.of_below (hbx _)).trans h2 (fun q hq => .inl hq)) (fun q hq => by
          have e : g = q := by simpa [Value.ownBlock] using hq
          subst e
          exact h3.imp_right (fun h => by have := (hbx #[.int .u8 (1 + (xb : Int) % 3), .int .u16 ((xp : Int) % 3), .int .u16 ((xg : Int) % 3), .int .u32 1]).size; omega)))
        clear h1 h2 h3 h4 hfin hrow hfr hbx r0 r1 r2 r3
        go_wp2
        exact ⟨⟨k + 1, hlt.1, hlt.2, by go_num, X.out⟩, by simp [intOf]; omega⟩
      · have hz' : ((xa : Int) == 0) = false := by simp; omega
        have hbn : bendL ⟨xb, xp, xg, xa⟩ = ⟨1 + xb % 3, xp % 3, xg % 3, xa⟩ := by unfold bendL; simp [hz]
        go_wp2_with (first | (at_builtin; refine stopAt ?_))
        refine hide ?_
        refine wpList_row (y := bendL ⟨xb, xp, xg, xa⟩) Pl.cells_length (wr.alloc (.cells #[.int .u8 (1 + (xb : Int) % 3), .int .u16 ((xp : Int) % 3), .int .u16 ((xg : Int) % 3), .int .u32 (xa : Int)] 57)) (by rfl) _ _ 50 (by rfl) 57 i0 _ 12 Try.underlying50 hi0 y0 y1 y2 rfl (by decide) (.slice oad XS.length ocap) XS (by rfl) (hrow.below (hbx _)) 1 (by rw [World.heap_size_alloc']; rfl) (pl_one1 _) (by have := hol.out; unfold maxLen; omega) (by have := hol.out; omega) ?_ _ (by rw [hbn]; simp [Pl.cells])
        intro g c u h1 h2 h3 h4
        have X := hide (hfin.out _ u h1 ((Kept.of_below (hbx _)).trans h2 (fun q hq => .inl hq)) (fun q hq => by
          have e : g = q := by simpa [Value.ownBlock] using hq
          subst e
          exact h3.imp_right (fun h => by have := (hbx #[.int .u8 (1 + (xb : Int) % 3), .int .u16 ((xp : Int) % 3), .int .u16 ((xg : Int) % 3), .int .u32 (xa : Int)]).size; omega)))
        clear h1 h2 h3 h4 hfin hrow hfr hbx r0 r1 r2 r3
        go_wp2
        exact ⟨⟨k + 1, hlt.1, hlt.2, by go_num, X.out⟩, by simp [intOf]; omega⟩
    · have hend : (l.take k).map bendL = (l.take 4).map bendL := by
        have : l.take k = l.take 4 := by
          by_cases h4 : k < 4
          · have : k = l.length := by omega
            subst this
            rw [List.take_length, List.take_of_length_le (by omega)]
          · rw [show k = 4 by omega]
        rw [this]
      by_cases h0 : k = 0
      · have hl0 : l = [] := List.length_eq_zero_iff.1 (by omega)
        subst h0
        have hX : (l.take 0).map bendL = [] := by simp
        rw [hX] at hrow hfr hol
        have hle : Hid (legsOf l = [oneLeg]) := hide (by unfold legsOf; rw [if_pos hl0])
        have hll : l.length = 0 := by rw [hl0]; rfl
        clear hend hok hL
        simp only [hX, List.length_nil] at hrow hfr ⊢
        rw [hll]
        have d1 : decide (((0 : Nat) : Int) < ((0 : Nat) : Int)) = false := by decide
        go_wp2_with (first | (at_builtin; refine stopAt ?_))
        refine hide ?_
        refine wpList_row (y := oneLeg) Pl.cells_length wr (by rfl) _ _ 50 (by rfl) 57 i0 _ 12 Try.underlying50 hi0 y0 y1 y2 rfl (by decide) (.slice oad 0 ocap) [] (by rfl) hrow 1 (by rfl) (pl_one1 _) (by unfold maxLen; simp) (by simp) ?_ _ (by rfl)
        intro g c u h1 h2 h3 h4
        have X : Hid (RowOf u 57 4 Pl.cells (.slice (some ⟨g, 0, none⟩) 1 c) (legsOf l) ∧ (∀ q, (Value.slice (some ⟨g, 0, none⟩) 1 c).ownBlock = some q → w.heap.size ≤ q) ∧ Below w.heap.size w u) := hide ⟨by rw [hle.out]; exact h1, fun q hq => by
          have e : g = q := by simpa [Value.ownBlock] using hq
          subst e
          rcases h3 with h | h
          · exact hfr g h
          · exact Nat.le_trans hb.size h, hb.trans (h2.below hb.size (fun q hq => hfr q hq))⟩
        clear h1 h2 h3 h4 hrow hfr
        go_wp2
        go_ret
        exact ⟨⟨_, rfl, X.out.1, X.out.2.1⟩, X.out.2.2⟩
      · have hle : Hid (legsOf l = (l.take k).map bendL) := hide (by
          unfold legsOf
          rw [if_neg (fun e => by rw [e] at hk; simp at hk; omega), hend])
        have X : Hid (RowOf wr 57 4 Pl.cells (.slice oad k ocap) (legsOf l) ∧ (∀ q, (Value.slice oad k ocap).ownBlock = some q → w.heap.size ≤ q) ∧ Below w.heap.size w wr) := hide ⟨by rw [hle.out]; rw [hol] at hrow; exact hrow, by rw [hol] at hfr; exact hfr, hb⟩
        rw [hol]
        have hk0 : ((k : Int) == 0) = false := by simp; omega
        have hcond : (decide ((k : Int) < (l.length : Int)) = true ∧ decide ((k : Int) < 4) = false) ∨ decide ((k : Int) < (l.length : Int)) = false := by
          by_cases h : k < l.length
          · exact .inl ⟨by simp; omega, by simp; omega⟩
          · exact .inr (by simp; omega)
        clear hrow hfr hle hend hok hL hol
        rcases hcond with ⟨d1, d2⟩ | d1
        all_goals (
          go_wp2
          all_goals go_ret
          all_goals exact ⟨⟨_, rfl, X.out.1, X.out.2.1⟩, X.out.2.2⟩)
end Go.Proofs.Ytjkhbjgfoopomaa
/-
  Networks: ends, moves.
-/
namespace Go.Proofs.Ytjkhbjgfoopomaa
open Go.RowKit
set_option linter.unusedVariables false
set_option linter.unusedSimpArgs false
theorem legOf_lt (i l : Nat) (E : List Ev) : (legOf i l E).1 < 5 := by
  have hfold : ∀ (evs : List Ev) (s : Nat × Msg × Bool), s.1 < 5 → (evs.foldl (legStep i l) s).1 < 5 := by
    intro evs
    induction evs with
    | nil => intro s h; exact h
    | cons e r ih =>
      intro s h
      refine ih _ ?_
      unfold legStep
      (repeat' split) <;> first | exact h | simp
  exact hfold _ _ (by simp)
/-- Leg, by what has changed the bank -/
theorem eLegR_any (id l : Nat) (hid : id < 4294967296) (hl : l < 256) (w : World) (B node : Nat) (ac : List Ac) (ls : List Lg) (va vl : Value) (E : List Ev) (hX : XB w B node ac ls va vl) (hr : Rel E ac ls) :
    Calls Try.prog 54 #[.pointer (some ⟨B, 0, none⟩), .int .u32 (id : Int), .int .u8 (l : Int)] w fun e w' => e = .returned (.tuple #[.int .u8 ((legOf id l E).1 : Int), .int .i64 ((if (legOf id l E).1 = 0 then 13 else 0 : Nat) : Int)]) ∧ Below w.heap.size w w' := by
  have hst : ∀ x, x ∈ ls → 1 ≤ x.st := fun x hx => by
    have := hr.leg x hx
    unfold LegIs at this
    omega
  refine (eLeg_any id l hid hl w B node ac ls va vl hX (fun x hx => (hr.lok x hx).1) hst (by have := hr.llen; omega)).mono ?_
  rintro e w' ⟨he, hb⟩
  refine ⟨?_, hb⟩
  rw [he]
  by_cases hj : findB id l ls < ls.length
  · have hT := hr.at id l hj
    unfold LegIs at hT
    rw [List.getElem?_eq_getElem hj]
    simp only
    rw [hT.1, if_neg (by omega)]
    rfl
  · have hT := hr.no id l (by omega)
    rw [List.getElem?_eq_none (by omega), hT]
    rfl
/-- the state of a payment's legs, one after the other, bank by bank -/
def stE (P : PN) (id n : Nat) : Nat := (legOf id (n % 4) (P.E (1 + n / 4))).1
def anyTo (f : Nat → Bool) : Nat → Bool
  | 0 => false
  | n + 1 => anyTo f n || f n
def doneTo (P : PN) (id n : Nat) : Bool := anyTo (fun k => decide (stE P id k = 3)) n
def notTo (P : PN) (id n : Nat) : Bool := anyTo (fun k => decide (stE P id k = 2) || decide (stE P id k = 4)) n
theorem anyTo_iff (f : Nat → Bool) (n : Nat) : anyTo f n = true ↔ ∃ k, k < n ∧ f k = true := by
  induction n with
  | zero => simp [anyTo]
  | succ n ih =>
    simp only [anyTo, Bool.or_eq_true, ih]
    constructor
    · rintro (⟨k, h1, h2⟩ | h)
      · exact ⟨k, by omega, h2⟩
      · exact ⟨n, by omega, h⟩
    · rintro ⟨k, h1, h2⟩
      by_cases h : k < n
      · exact .inl ⟨k, h, h2⟩
      · obtain rfl : k = n := by omega
        exact .inr h2
set_option maxRecDepth 100000 in
set_option maxHeartbeats 4000000 in
theorem ends_any (w : World) (own : Nat → Nat) (nb : Nat) (M : NM) (P : PN) (I : NetAt w own nb 3 M P) (id : Nat) (hid : id < 4294967296) :
    Calls Try.prog 30 #[.pointer (some ⟨nb, 0, none⟩), .int .u32 (id : Int)] w fun e w' => e = .returned (.tuple #[.bool (doneTo P id 12), .bool (notTo P id 12)]) ∧ Below w.heap.size w w' := by
  go_enter Try.func30, Try.ntmps30
  go_wp2_with fail
  go_loopw [6, 7, 8] (fun d n c u => ∃ j : Nat, 1 ≤ j ∧ j ≤ 4 ∧ c = .int .i64 (j : Int) ∧ d = .bool (doneTo P id ((j - 1) * 4)) ∧ n = .bool (notTo P id ((j - 1) * 4)) ∧ Below w.heap.size w u) (fun _ _ c _ => 5 - (intOf c).toNat)
  case atStart => exact ⟨1, by omega, by omega, rfl, rfl, rfl, Below.refl _ _⟩
  case round =>
    obtain ⟨j, hj1, hj, rfl, rfl, rfl, hb⟩ := hrel
    by_cases hj3 : j ≤ 3
    · have d3 : decide ((j : Int) ≤ 3) = true := by simp; omega
      have hin : Hid (Below w.heap.size w wr) := hide hb
      have hck := hide (fun (u : World) (hu : Below w.heap.size w u) => by
        have h := cell_at (I.below hu).blk j
        rw [bank_ptr (by omega) (by omega) (Nat.le_refl 3)] at h
        exact h)
      have hLg := hide (fun (u : World) (hu : Below w.heap.size w u) (l : Nat) (hl : l < 256) => eLegR_any id l hid hl u (M.bk j).b j _ _ _ _ (P.E j) ((I.below hu).bank j (by omega) (by omega)).x ((I.below hu).bank j (by omega) (by omega)).rel)
      have hnl := I.lt
      have hj4 : (j : Int) < 4 := by omega
      clear hb
      generalize (M.bk j).b = B at *
      generalize hD0 : doneTo P id ((j - 1) * 4) = D0 at *
      generalize hN0 : notTo P id ((j - 1) * 4) = N0 at *
      replace hD0 := hide hD0
      replace hN0 := hide hN0
      go_wp2_with fail
      go_loopw [6, 7, 9] (fun d n c u => ∃ k : Nat, k ≤ 4 ∧ c = .int .i64 (k : Int) ∧ d = .bool (doneTo P id ((j - 1) * 4 + k)) ∧ n = .bool (notTo P id ((j - 1) * 4 + k)) ∧ Below w.heap.size w u) (fun _ _ c _ => 5 - (intOf c).toNat)
      case atStart => exact ⟨0, by omega, rfl, by rw [← hD0.out]; rfl, by rw [← hN0.out]; rfl, hin.out⟩
      case round =>
        clear hin
        obtain ⟨k, hk, rfl, rfl, rfl, hb⟩ := hrel
        by_cases hk4 : k < 4
        · have d4 : decide ((k : Int) < 4) = true := by simp; omega
          have hm8 : (k : Int) % 256 = (k : Int) := by omega
          have hw8 : IntKind.u8.wrap (k : Int) = (k : Int) := by rw [IntKind.wrap_u8]; omega
          have hs : stE P id ((j - 1) * 4 + k) = (legOf id k (P.E j)).1 := by
            unfold stE
            rw [show ((j - 1) * 4 + k) % 4 = k by omega, show 1 + ((j - 1) * 4 + k) / 4 = j by omega]
          have hst5 := legOf_lt id k (P.E j)
          have hCall := hide (hLg.out wr hb k (by omega))
          have hcw := hck.out wr hb
          have hnw : nb < wr.heap.size := Nat.lt_of_lt_of_le hnl hb.size
          have hD : Hid (doneTo P id ((j - 1) * 4 + (k + 1)) = (doneTo P id ((j - 1) * 4 + k) || decide ((legOf id k (P.E j)).1 = 3))) := hide (by rw [← hs]; rfl)
          have hN : Hid (notTo P id ((j - 1) * 4 + (k + 1)) = (notTo P id ((j - 1) * 4 + k) || (decide ((legOf id k (P.E j)).1 = 2) || decide ((legOf id k (P.E j)).1 = 4)))) := hide (by rw [← hs]; rfl)
          clear hs
          generalize (legOf id k (P.E j)).1 = st at *
          generalize doneTo P id ((j - 1) * 4 + k) = D at *
          generalize notTo P id ((j - 1) * 4 + k) = N at *
          have hs5 : st = 0 ∨ st = 1 ∨ st = 2 ∨ st = 3 ∨ st = 4 := by omega
          clear hst5
          go_wp2_with fail
          refine hCall.out.mono ?_
          rintro e u2 ⟨rfl, hb2⟩
          have hb3 := hide (hb.trans (hb2.mono hb.size))
          clear hCall hb2 hcw hnw hb hLg hck
          rcases hs5 with rfl | rfl | rfl | rfl | rfl <;> cases D <;> cases N
          all_goals (
            go_wp2
            exact ⟨⟨k + 1, hk4, by go_num, by rw [hD.out]; rfl, by rw [hN.out]; rfl, hb3.out⟩, by simp [intOf]; omega⟩)
        · obtain rfl : k = 4 := by omega
          have d4 : decide (((4 : Nat) : Int) < 4) = false := by decide
          have X : Hid (doneTo P id ((j - 1) * 4 + 4) = doneTo P id ((j + 1 - 1) * 4) ∧ notTo P id ((j - 1) * 4 + 4) = notTo P id ((j + 1 - 1) * 4) ∧ Below w.heap.size w wr) := hide ⟨by rw [show (j + 1 - 1) * 4 = (j - 1) * 4 + 4 by omega], by rw [show (j + 1 - 1) * 4 = (j - 1) * 4 + 4 by omega], hb⟩
          clear hb hLg hck
          generalize doneTo P id ((j - 1) * 4 + 4) = D at *
          generalize notTo P id ((j - 1) * 4 + 4) = N at *
          go_wp2
          exact ⟨⟨j + 1, by omega, by omega, by go_num, by rw [X.out.1], by rw [X.out.2.1], X.out.2.2⟩, by simp [intOf]; omega⟩
    · obtain rfl : j = 4 := by omega
      have d3 : decide (((4 : Nat) : Int) ≤ 3) = false := by decide
      replace hb := hide hb
      generalize hD : doneTo P id ((4 - 1) * 4) = D at *
      generalize hN : notTo P id ((4 - 1) * 4) = N at *
      replace hD := hide hD
      replace hN := hide hN
      go_wp2
      go_ret2
      exact ⟨by rw [← hD.out, ← hN.out]; rfl, hb.out⟩
end Go.Proofs.Ytjkhbjgfoopomaa
