import Derived.Test.YtjkhbjgfoopomabGreatS40
import Derived.Test.YtjkhbjgfoopomabGreatS41
/-
  Networks: ends, moves.
-/
namespace Go.Proofs.YtjkhbjgfoopomabGreat
open Go.RowKit
set_option linter.unusedVariables false
set_option linter.unusedSimpArgs false
theorem legOf_lt (i l : Nat) (E : List Ev) : (legOf i l E).1 < 5 := by
  have hfold : ∀ (evs : List Ev) (s : Nat × Msg × Bool), s.1 < 5 → (evs.foldl (legStep i l) s).1 < 5 := by
    intro evs
    induction evs with
    | nil => intro s h; exact h
    | cons e r ih =>
      intro s h
      refine ih _ ?_
      unfold legStep
      (repeat' split) <;> first | exact h | simp
  exact hfold _ _ (by simp)
/-- Leg, by what has changed the bank -/
theorem eLegR_any (id l : Nat) (hid : id < 4294967296) (hl : l < 256) (w : World) (B node : Nat) (ac : List Ac) (ls : List Lg) (va vl : Value) (E : List Ev) (hX : XB w B node ac ls va vl) (hr : Rel E ac ls) :
    Calls Tryz.prog 47 #[.pointer (some ⟨B, 0, none⟩), .int .u32 (id : Int), .int .u8 (l : Int)] w fun e w' => e = .returned (.tuple #[.int .u8 ((legOf id l E).1 : Int), .int .i64 ((if (legOf id l E).1 = 0 then 13 else 0 : Nat) : Int)]) ∧ Below w.heap.size w w' := by
  have hst : ∀ x, x ∈ ls → 1 ≤ x.st := fun x hx => by
    have := hr.leg x hx
    unfold LegIs at this
    omega
  refine (eLeg_any id l hid hl w B node ac ls va vl hX (fun x hx => (hr.lok x hx).1) hst (by have := hr.llen; omega)).mono ?_
  rintro e w' ⟨he, hb⟩
  refine ⟨?_, hb⟩
  rw [he]
  by_cases hj : findB id l ls < ls.length
  · have hT := hr.at id l hj
    unfold LegIs at hT
    rw [List.getElem?_eq_getElem hj]
    simp only
    rw [hT.1, if_neg (by omega)]
    rfl
  · have hT := hr.no id l (by omega)
    rw [List.getElem?_eq_none (by omega), hT]
    rfl
/-- the state of a payment's legs, one after the other, bank by bank -/
def stE (P : PN) (id n : Nat) : Nat := (legOf id (n % 4) (P.E (1 + n / 4))).1
def anyTo (f : Nat → Bool) : Nat → Bool
  | 0 => false
  | n + 1 => anyTo f n || f n
def doneTo (P : PN) (id n : Nat) : Bool := anyTo (fun k => decide (stE P id k = 3)) n
def notTo (P : PN) (id n : Nat) : Bool := anyTo (fun k => decide (stE P id k = 2) || decide (stE P id k = 4)) n
theorem anyTo_iff (f : Nat → Bool) (n : Nat) : anyTo f n = true ↔ ∃ k, k < n ∧ f k = true := by
  induction n with
  | zero => simp [anyTo]
  | succ n ih =>
    simp only [anyTo, Bool.or_eq_true, ih]
    constructor
    · rintro (⟨k, h1, h2⟩ | h)
      · exact ⟨k, by omega, h2⟩
      · exact ⟨n, by omega, h⟩
    · rintro ⟨k, h1, h2⟩
      by_cases h : k < n
      · exact .inl ⟨k, h, h2⟩
      · obtain rfl : k = n := by omega
        exact .inr h2
set_option maxRecDepth 100000 in
set_option maxHeartbeats 4000000 in
theorem ends_any (w : World) (own : Nat → Nat) (nb : Nat) (M : NM) (P : PN) (I : NetAt w own nb 3 M P) (id : Nat) (hid : id < 4294967296) :
    Calls Tryz.prog 30 #[.pointer (some ⟨nb, 0, none⟩), .int .u32 (id : Int)] w fun e w' => e = .returned (.tuple #[.bool (doneTo P id 12), .bool (notTo P id 12)]) ∧ Below w.heap.size w w' := by
  go_enter Tryz.func30, Tryz.ntmps30
  go_wp2_with fail
  go_loopw [6, 7, 8] (fun d n c u => ∃ j : Nat, 1 ≤ j ∧ j ≤ 4 ∧ c = .int .i64 (j : Int) ∧ d = .bool (doneTo P id ((j - 1) * 4)) ∧ n = .bool (notTo P id ((j - 1) * 4)) ∧ Below w.heap.size w u) (fun _ _ c _ => 5 - (intOf c).toNat)
  case atStart => exact ⟨1, by omega, by omega, rfl, rfl, rfl, Below.refl _ _⟩
  case round =>
    obtain ⟨j, hj1, hj, rfl, rfl, rfl, hb⟩ := hrel
    by_cases hj3 : j ≤ 3
    · have d3 : decide ((j : Int) ≤ 3) = true := by simp; omega
      have hin : Hid (Below w.heap.size w wr) := hide hb
      have hck := hide (fun (u : World) (hu : Below w.heap.size w u) => by
        have h := cell_at (I.below hu).blk j
        rw [bank_ptr (by omega) (by omega) (Nat.le_refl 3)] at h
        exact h)
      have hLg := hide (fun (u : World) (hu : Below w.heap.size w u) (l : Nat) (hl : l < 256) => eLegR_any id l hid hl u (M.bk j).b j _ _ _ _ (P.E j) ((I.below hu).bank j (by omega) (by omega)).x ((I.below hu).bank j (by omega) (by omega)).rel)
      have hnl := I.lt
      have hj4 : (j : Int) < 4 := by omega
      clear hb
      generalize (M.bk j).b = B at *
      generalize hD0 : doneTo P id ((j - 1) * 4) = D0 at *
      generalize hN0 : notTo P id ((j - 1) * 4) = N0 at *
      replace hD0 := hide hD0
      replace hN0 := hide hN0
      go_wp2_with fail
      go_loopw [6, 7, 9] (fun d n c u => ∃ k : Nat, k ≤ 4 ∧ c = .int .i64 (k : Int) ∧ d = .bool (doneTo P id ((j - 1) * 4 + k)) ∧ n = .bool (notTo P id ((j - 1) * 4 + k)) ∧ Below w.heap.size w u) (fun _ _ c _ => 5 - (intOf c).toNat)
      case atStart => exact ⟨0, by omega, rfl, by rw [← hD0.out]; rfl, by rw [← hN0.out]; rfl, hin.out⟩
      case round =>
        clear hin
        obtain ⟨k, hk, rfl, rfl, rfl, hb⟩ := hrel
        by_cases hk4 : k < 4
        · have d4 : decide ((k : Int) < 4) = true := by simp; omega
          have hm8 : (k : Int) % 256 = (k : Int) := by omega
          have hw8 : IntKind.u8.wrap (k : Int) = (k : Int) := by rw [IntKind.wrap_u8]; omega
          have hs : stE P id ((j - 1) * 4 + k) = (legOf id k (P.E j)).1 := by
            unfold stE
            rw [show ((j - 1) * 4 + k) % 4 = k by omega, show 1 + ((j - 1) * 4 + k) / 4 = j by omega]
          have hst5 := legOf_lt id k (P.E j)
          have hCall := hide (hLg.out wr hb k (by omega))
          have hcw := hck.out wr hb
          have hnw : nb < wr.heap.size := Nat.lt_of_lt_of_le hnl hb.size
          have hD : Hid (doneTo P id ((j - 1) * 4 + (k + 1)) = (doneTo P id ((j - 1) * 4 + k) || decide ((legOf id k (P.E j)).1 = 3))) := hide (by rw [← hs]; rfl)
          have hN : Hid (notTo P id ((j - 1) * 4 + (k + 1)) = (notTo P id ((j - 1) * 4 + k) || (decide ((legOf id k (P.E j)).1 = 2) || decide ((legOf id k (P.E j)).1 = 4)))) := hide (by rw [← hs]; rfl)
          clear hs
          generalize (legOf id k (P.E j)).1 = st at *
          generalize doneTo P id ((j - 1) * 4 + k) = D at *
          generalize notTo P id ((j - 1) * 4 + k) = N at *
          have hs5 : st = 0 ∨ st = 1 ∨ st = 2 ∨ st = 3 ∨ st = 4 := by omega
          clear hst5
          go_wp2_with fail
          refine hCall.out.mono ?_
          rintro e u2 ⟨rfl, hb2⟩
          have hb3 := hide (hb.trans (hb2.mono hb.size))
          clear hCall hb2 hcw hnw hb hLg hck
          rcases hs5 with rfl | rfl | rfl | rfl | rfl <;> cases D <;> cases N
          all_goals (
            go_wp2
            exact ⟨⟨k + 1, hk4, by go_num, by rw [hD.out]; rfl, by rw [hN.out]; rfl, hb3.out⟩, by simp [intOf]; omega⟩)
        · obtain rfl : k = 4 := by omega
          have d4 : decide (((4 : Nat) : Int) < 4) = false := by decide
          have X : Hid (doneTo P id ((j - 1) * 4 + 4) = doneTo P id ((j + 1 - 1) * 4) ∧ notTo P id ((j - 1) * 4 + 4) = notTo P id ((j + 1 - 1) * 4) ∧ Below w.heap.size w wr) := hide ⟨by rw [show (j + 1 - 1) * 4 = (j - 1) * 4 + 4 by omega], by rw [show (j + 1 - 1) * 4 = (j - 1) * 4 + 4 by omega], hb⟩
          clear hb hLg hck
          generalize doneTo P id ((j - 1) * 4 + 4) = D at *
          generalize notTo P id ((j - 1) * 4 + 4) = N at *
          go_wp2
          exact ⟨⟨j + 1, by omega, by omega, by go_num, by rw [X.out.1], by rw [X.out.2.1], X.out.2.2⟩, by simp [intOf]; omega⟩
    · obtain rfl : j = 4 := by omega
      have d3 : decide (((4 : Nat) : Int) ≤ 3) = false := by decide
      replace hb := hide hb
      generalize hD : doneTo P id ((4 - 1) * 4) = D at *
      generalize hN : notTo P id ((4 - 1) * 4) = N at *
      replace hD := hide hD
      replace hN := hide hN
      go_wp2
      go_ret2
      exact ⟨by rw [← hD.out, ← hN.out]; rfl, hb.out⟩
end Go.Proofs.YtjkhbjgfoopomabGreat
/-
  Plain: one payment that an account cannot pay is let go; the balances in the end.
-/
namespace Go.Proofs.YtjkhbjgfoopomabGreat
set_option linter.unusedVariables false
set_option linter.unusedSimpArgs false
structure PrSh (L : List Pl) (P : PN) : Prop where
  c : PrC L P
  st : (stA P.A 9).1 = 1 ∨ (stA P.A 9).1 = 3
  l0 : ∀ x, L[0]? = some x → (legOf 9 0 (P.E x.b)).1 ≠ 1
  ob1 : (stA P.A 9).1 = 1 → ∃ y, y ∈ P.wire ∧ y.l = 0 ∧ (y.k = 1 ∨ y.k = 5)
  ob3 : (stA P.A 9).1 = 3 → ∀ l x, L[l]? = some x → (legOf 9 l (P.E x.b)).1 = 4 ∨ ∃ y, y ∈ P.wire ∧ y.l = l ∧ y.k = 3
section
variable {L : List Pl} {P Q : PN} {m : Msg}
theorem PrSh.none3 (J : PrSh L P) (G : Good P) : ∀ (l : Nat) (x : Pl), L[l]? = some x → (legOf 9 l (P.E x.b)).1 ≠ 3 := fun l x hx => by
  have hL := leg_of J.c G hx
  rcases J.st with e | e
  · have := (hL.1 e).1; omega
  · exact (hL.2.2 e).1
theorem PrSh.step (J : PrSh L P) (H : Payable L) (h1001 : ∀ (x : Pl), L[0]? = some x → 1000 < x.a) (G : Good P) (hm : m ∈ P.wire) (hA : After P Q m) : PrSh L Q := by
  have hw := G.inv.wire m hm
  have C := J.c
  have hC := C.step G hw hA
  obtain ⟨ck, ps, hd⟩ := G.dr
  have hkk := hw.1.kinds
  have hold : ∀ y, y ∈ P.wire → y.k ≠ m.k ∨ y.l ≠ m.l → y ∈ Q.wire := fun y hy h => by
    rcases hA.wire.old y hy with e | e
    · subst e; rcases h with h | h <;> exact absurd rfl h
    · exact e
  by_cases hk : m.k ≤ 3
  · obtain ⟨x0, hx0, hb0, hi9, h1, h2, hme, h0⟩ := leg_kinds C G hw hk
    obtain ⟨hE, hAA⟩ := hA.bank hk
    have hans : bankAns m.t m (P.E m.t) ∈ Q.wire := hA.wire.new _ (by unfold arrOuts; rw [if_pos hk]; simp)
    have hL0 := leg_of C G hx0
    rw [hb0] at hL0
    obtain ⟨a1, a2, a3⟩ := leg_after h0 ⟨hkk.1, hk⟩
    rw [hi9] at a1 a2 a3
    have hside := hw.2.2
    have hk13 : m.k = 1 ∨ (m.k = 3 ∧ (stA P.A 9).1 = 3) := by
      have : m.k = 1 ∨ m.k = 2 ∨ m.k = 3 := by omega
      obtain ⟨x, hx, hs⟩ := hside
      rcases hs with ⟨_, _, h2', h3'⟩ | ⟨h4, _⟩
      · rcases this with h | h | h
        · exact .inl h
        · have := h2' h
          rw [hi9] at this
          have := J.st
          omega
        · have := h3' h
          rw [hi9] at this
          exact .inr ⟨h, this⟩
      · omega
    have hls : (m.l = 0 → (legOf 9 m.l (hEvsOf m (P.E m.t))).1 ≠ 1) ∧ (m.k = 1 → m.l = 0 → (stA P.A 9).1 = 1 → (legOf 9 m.l (hEvsOf m (P.E m.t))).1 = 2) ∧ (m.k = 3 → (legOf 9 m.l (hEvsOf m (P.E m.t))).1 = 4) ∧ ((legOf 9 m.l (P.E m.t)).1 = 4 → (legOf 9 m.l (hEvsOf m (P.E m.t))).1 = 4) := by
      rcases hk13 with h | ⟨h, e3⟩
      · have hv := a1 h
        by_cases hz : (legOf 9 m.l (P.E m.t)).1 = 0
        · rw [if_pos hz] at hv
          by_cases hl0 : m.l = 0
          · have hcan : canB m (P.E m.t) = false := by
              obtain ⟨_, _, hp3, hg3⟩ := H.x m.l x0 hx0
              have hmp : m.p = x0.p ∧ m.a = x0.a := by
                rw [hme, h]
                unfold askMsg
                simp
              have b1 := bal_still C G H (x0.a + 4294967296) (fun l x hx _ => ?_) (J.none3 G) ⟨h1, h2⟩ hp3
              · have ha := h1001 x0 (by rw [← hl0]; exact hx0)
                unfold canB
                rw [hmp.1, hmp.2, b1.1]
                have : decide (heldOf x0.p (P.E m.t) + x0.a ≤ 1000) = false := by simp; omega
                rw [this]
                simp
              · have hok := (hd.stand C.f9).ok.2.2 x (by rw [C.legs]; exact List.mem_of_getElem? hx)
                have := hok.2.2.2
                omega
            rw [hcan] at hv
            rw [hv]
            exact ⟨fun _ => by simp, fun _ _ _ => rfl, fun e => by omega, fun e => by omega⟩
          · rw [hv]
            exact ⟨fun e => absurd e hl0, fun _ e => absurd e hl0, fun e => by omega, fun e => by omega⟩
        · rw [if_neg hz] at hv
          rw [hv]
          refine ⟨fun e => ?_, fun _ e e1 => ?_, fun e => by omega, fun e => e⟩
          · have := J.l0 x0 (by rw [← e]; exact hx0)
            rw [hb0, ← e] at this
            exact this
          · have h3 := J.l0 x0 (by rw [← e]; exact hx0)
            rw [hb0, ← e] at h3
            have := (hL0.1 e1).1
            omega
      · have hv := (a3 h).2
        rw [hv]
        exact ⟨fun _ => by simp, fun e => by omega, fun _ => rfl, fun _ => rfl⟩
    have hlegs : ∀ l x, L[l]? = some x → (legOf 9 l (Q.E x.b)).1 = if l = m.l then (legOf 9 m.l (hEvsOf m (P.E m.t))).1 else (legOf 9 l (P.E x.b)).1 := fun l x hx => by
      rw [ls_bank hA hk]
      by_cases e : l = m.l
      · subst e
        have : x = x0 := by rw [hx0] at hx; injection hx with hx; exact hx.symm
        subst this
        rw [if_pos ⟨hb0, hi9.symm, rfl⟩, if_pos rfl, hi9]
      · rw [if_neg (fun c => e c.2.2), if_neg e]
    have ek : (bankAns m.t m (P.E m.t)).k = kindFor (legOf 9 m.l (hEvsOf m (P.E m.t))).1 := by
      show kindFor (legOf m.i m.l (hEvsOf m (P.E m.t))).1 = _
      rw [hi9]
    have el : (bankAns m.t m (P.E m.t)).l = m.l := rfl
    refine ⟨hC, by rw [hAA]; exact J.st, fun x hx => ?_, fun e => ?_, fun e l x hx => ?_⟩
    · rw [hlegs 0 x hx]
      split
      · rename_i e; exact hls.1 e.symm
      · exact J.l0 x hx
    · rw [hAA] at e
      obtain ⟨y, hy, hyl, hyk⟩ := J.ob1 e
      have h1k : m.k = 1 := by
        rcases hk13 with h | ⟨_, h⟩
        · exact h
        · omega
      by_cases hym : m.l = 0
      · refine ⟨_, hans, by rw [el, hym], .inr ?_⟩
        rw [ek, hls.2.1 h1k hym e]
        rfl
      · exact ⟨y, hold y hy (.inr (by omega)), hyl, hyk⟩
    · rw [hAA] at e
      rw [hlegs l x hx]
      by_cases elm : l = m.l
      · rw [if_pos elm]
        subst elm
        have hxx : x = x0 := by rw [hx0] at hx; injection hx with hx; exact hx.symm
        subst hxx
        rcases hk13 with h | ⟨h, _⟩
        · rcases J.ob3 e m.l x hx with h3 | ⟨y, hy, hyl, hyk⟩
          · rw [hb0] at h3
            exact .inl (hls.2.2.2 h3)
          · exact .inr ⟨y, hold y hy (.inl (by omega)), hyl, hyk⟩
        · exact .inl (hls.2.2.1 h)
      · rw [if_neg elm]
        rcases J.ob3 e l x hx with h3 | ⟨y, hy, hyl, hyk⟩
        · exact .inl h3
        · exact .inr ⟨y, hold y hy (.inr (by omega)), hyl, hyk⟩
  · obtain ⟨hE, hAA⟩ := hA.note hk
    have hn : (msgAct m).kind ≠ -1 := by show ((m.k : Int)) ≠ -1; omega
    have hp := fun i => pay_other (A := P.A) hn i
    have hi9 : m.i = 9 := C.only m.i hw.2.1
    obtain ⟨s4, s5, s6⟩ := note_st hd hw.2.1 (m := m) ⟨by omega, hkk.2.1⟩
    have hsay := fun h1 h2 h6 l x hx => says_all (A := P.A) (m := m) h1 h2 (hp m.i).2 h6 (l := l) (x := x) hx
    rw [hi9] at s4 s5 s6 hsay
    obtain ⟨xm, hxm, hside⟩ := hw.2.2
    rw [hi9, C.legs] at hxm
    obtain ⟨a4, a6⟩ : (m.k = 4 → (legOf 9 m.l (P.E xm.b)).1 = 1 ∨ (legOf 9 m.l (P.E xm.b)).1 = 3 ∨ (legOf 9 m.l (P.E xm.b)).1 = 4) ∧ (m.k = 6 → (legOf 9 m.l (P.E xm.b)).1 = 3 ∨ (legOf 9 m.l (P.E xm.b)).1 = 4) := by
      rcases hside with ⟨h3, _⟩ | ⟨_, _, a4, _, a6⟩
      · omega
      · rw [hi9] at a4 a6; exact ⟨a4, a6⟩
    have hk3 : m.k = 4 ∨ m.k = 5 ∨ m.k = 6 := by omega
    have hS := hd.stand C.f9
    have hh16 := pow_16 hS.few hS.room
    have hl4 := hkk.2.2.1
    have hLm := leg_of C G hxm
    have hx00 : ∃ x00, L[0]? = some x00 := ⟨L[0]'(by have := H.n.1; omega), List.getElem?_eq_getElem _⟩
    obtain ⟨x00, hx00⟩ := hx00
    have hL00 := leg_of C G hx00
    -- a Prepared never makes it whole
    have hnf : m.k = 4 → (stA P.A 9).1 = 1 → withOf (stA P.A 9).2.1 m.l ≠ fullOf (payO P.A 9).legs.length := fun h4 e1 hfull => by
      have hb : bitB (withOf (stA P.A 9).2.1 m.l) 0 = true := by
        rw [hfull, C.legs]
        exact bit_full _ _ H.n.2 (by have := H.n.1; omega)
      rw [bit_with _ _ _ hh16 hl4 (by omega)] at hb
      by_cases hml : m.l = 0
      · have hxx : xm = x00 := by rw [hml, hx00] at hxm; injection hxm with hxm; exact hxm.symm
        subst hxx
        have h1 := J.l0 xm hx00
        have h2 := (hLm.1 e1).1
        have h3 := a4 h4
        rw [hml] at h2 h3
        omega
      · have hb0 : bitB (stA P.A 9).2.1 0 = true := by
          have : decide (0 = m.l) = false := by simp; omega
          rw [this] at hb
          simpa using hb
        exact J.l0 x00 hx00 ((hL00.1 e1).2.1 hb0)
    have h61 : m.k = 6 → (stA P.A 9).1 ≠ 1 := fun h e => by
      have := (hLm.1 e).1
      have := a6 h
      omega
    refine ⟨hC, ?_, by rw [hE]; exact J.l0, fun e => ?_, fun e l x hx => ?_⟩
    · rw [hAA]
      rcases hk3 with h | h | h
      · rw [s4 h]
        split
        · rename_i e1
          simp only
          rw [if_neg (hnf h e1)]
          exact .inl rfl
        · exact J.st
      · rw [s5 h]
        split
        · exact .inr rfl
        · exact J.st
      · rw [s6 h]; exact J.st
    · rw [hAA] at e
      have e1 : (stA P.A 9).1 = 1 := by
        rcases J.st with h1 | h1
        · exact h1
        · rcases hk3 with h | h | h
          · rw [s4 h, if_neg (by omega)] at e; omega
          · rw [s5 h, if_neg (by omega)] at e; omega
          · rw [s6 h] at e; exact e
      have h5 : m.k ≠ 5 := fun h => by rw [s5 h, if_pos e1] at e; simp at e
      obtain ⟨y, hy, hyl, hyk⟩ := J.ob1 e1
      exact ⟨y, hold y hy (.inl (by omega)), hyl, hyk⟩
    · rw [hAA] at e
      rw [hE]
      rcases J.st with e1 | e3
      · have h5 : m.k = 5 := by
          rcases hk3 with h | h | h
          · rw [s4 h, if_pos e1] at e
            simp only at e
            rw [if_neg (hnf h e1)] at e
            omega
          · exact h
          · exact absurd e1 (h61 h)
        have h := hsay e1 (by omega) (by omega) l x (by rw [C.legs]; exact hx)
        have hq := ask_parts (payO P.A 9) x l (askKind (stA (P.A ++ [msgAct m]) 9).1)
        refine .inr ⟨_, hA.wire.new _ (by unfold arrOuts; rw [if_neg hk]; exact h), hq.2.2.2.2, ?_⟩
        rw [hq.1, e]
        rfl
      · rcases J.ob3 e3 l x hx with h3 | ⟨y, hy, hyl, hyk⟩
        · exact .inl h3
        · exact .inr ⟨y, hold y hy (.inl (by omega)), hyl, hyk⟩
theorem PrSh.end_ (J : PrSh L P) (hw : P.wire = []) : (stA P.A 9).1 = 3 ∧ ∀ l x, L[l]? = some x → (legOf 9 l (P.E x.b)).1 = 4 := by
  have hno : ∀ y, y ∉ P.wire := fun y hy => by rw [hw] at hy; cases hy
  have h3 : (stA P.A 9).1 = 3 := by
    rcases J.st with e | e
    · obtain ⟨y, hy, _⟩ := J.ob1 e
      exact absurd hy (hno y)
    · exact e
  refine ⟨h3, fun l x hx => ?_⟩
  rcases J.ob3 h3 l x hx with h | ⟨y, hy, _⟩
  · exact h
  · exact absurd hy (hno y)
/-- which ends a payment has come to -/
theorem ends_of (C : PrC L P) (G : Good P) (H : Payable L) (s : Nat) (hs : ∀ l x, L[l]? = some x → (legOf 9 l (P.E x.b)).1 = s) :
    (doneTo P 9 12 = decide (s = 3)) ∧ (notTo P 9 12 = (decide (s = 2) || decide (s = 4))) := by
  have hx00 : L[0]? = some (L[0]'(by have := H.n.1; omega)) := List.getElem?_eq_getElem _
  have hb := H.x 0 _ hx00
  have h0 := hs 0 _ hx00
  have hst : ∀ k, k < 12 → stE P 9 k = 0 ∨ stE P 9 k = s := fun k hk => by
    by_cases hz : stE P 9 k = 0
    · exact .inl hz
    · right
      obtain ⟨hf, x, hx, hxb⟩ := G.inv.kept (1 + k / 4) 9 (k % 4) (by omega) (by omega) hz
      rw [C.legs] at hx
      have := hs (k % 4) x hx
      rw [hxb] at this
      exact this
  have hat : stE P 9 (((L[0]'(by have := H.n.1; omega)).b - 1) * 4) = s := by
    unfold stE
    rw [show (((L[0]'(by have := H.n.1; omega)).b - 1) * 4) % 4 = 0 by omega, show 1 + (((L[0]'(by have := H.n.1; omega)).b - 1) * 4) / 4 = (L[0]'(by have := H.n.1; omega)).b by omega]
    exact h0
  constructor
  · cases hd : decide (s = 3) with
    | true =>
      refine (anyTo_iff _ _).2 ⟨((L[0]'(by have := H.n.1; omega)).b - 1) * 4, by omega, ?_⟩
      rw [hat]
      exact hd
    | false =>
      cases hx : doneTo P 9 12 with
      | false => rfl
      | true =>
        obtain ⟨k, hk, h⟩ := (anyTo_iff _ _).1 hx
        have h' : stE P 9 k = 3 := by simpa using h
        have hd' : ¬ s = 3 := by simpa using hd
        rcases hst k hk with e | e <;> omega
  · cases hd : (decide (s = 2) || decide (s = 4)) with
    | true =>
      refine (anyTo_iff _ _).2 ⟨((L[0]'(by have := H.n.1; omega)).b - 1) * 4, by omega, ?_⟩
      simp only [hat]
      exact hd
    | false =>
      cases hx : notTo P 9 12 with
      | false => rfl
      | true =>
        obtain ⟨k, hk, h⟩ := (anyTo_iff _ _).1 hx
        have h' : stE P 9 k = 2 ∨ stE P 9 k = 4 := by simpa using h
        have hd' : ¬ s = 2 ∧ ¬ s = 4 := by simpa using hd
        rcases hst k hk with e | e <;> omega
end
/-- what the legs of a payment take from an account, and bring it -/
def outTo (L : List Pl) (b a : Nat) : Nat → Nat
  | 0 => 0
  | n + 1 => outTo L b a n + match L[n]? with
    | none => 0
    | some x => if x.b = b ∧ x.p = a then x.a else 0
def inTo (L : List Pl) (b a : Nat) : Nat → Nat
  | 0 => 0
  | n + 1 => inTo L b a n + match L[n]? with
    | none => 0
    | some x => if x.b = b ∧ x.g = a then x.a else 0
def keysN (L : List Pl) (b : Nat) : Nat → List (Nat × Nat)
  | 0 => []
  | n + 1 => keysN L b n ++ match L[n]? with
    | none => []
    | some x => if x.b = b then [(9, n)] else []
theorem keysN_mem (L : List Pl) (b : Nat) (y : Nat × Nat) : ∀ n, y ∈ keysN L b n ↔ y.1 = 9 ∧ y.2 < n ∧ ∃ x, L[y.2]? = some x ∧ x.b = b
  | 0 => by simp [keysN]
  | n + 1 => by
    simp only [keysN, List.mem_append, keysN_mem L b y n]
    constructor
    · rintro (⟨h1, h2, h3⟩ | h)
      · exact ⟨h1, by omega, h3⟩
      · cases hx : L[n]? with
        | none => rw [hx] at h; simp at h
        | some x =>
          rw [hx] at h
          simp only at h
          split at h
          · rename_i hb
            rw [List.mem_singleton] at h
            subst h
            exact ⟨rfl, by simp, x, hx, hb⟩
          · simp at h
    · rintro ⟨h1, h2, x, hx, hb⟩
      by_cases h : y.2 < n
      · exact .inl ⟨h1, h, x, hx, hb⟩
      · have e : y.2 = n := by omega
        right
        rw [e] at hx
        rw [hx]
        simp only [if_pos hb, List.mem_singleton]
        rw [← h1, ← e]
theorem keysN_nodup (L : List Pl) (b : Nat) : ∀ n, (keysN L b n).Pairwise (· ≠ ·)
  | 0 => List.Pairwise.nil
  | n + 1 => by
    simp only [keysN]
    refine List.pairwise_append.2 ⟨keysN_nodup L b n, ?_, fun x hx y hy e => ?_⟩
    · cases L[n]? with
      | none => simp
      | some x => simp only; split <;> simp
    · subst e
      have h1 := (keysN_mem L b x n).1 hx
      cases hq : L[n]? with
      | none => rw [hq] at hy; simp at hy
      | some z =>
        rw [hq] at hy
        simp only at hy
        split at hy
        · rw [List.mem_singleton] at hy
          subst hy
          omega
        · simp at hy
theorem sumBy_perm (g : Nat × Nat → Nat) : ∀ (ks S : List (Nat × Nat)), ks.Pairwise (· ≠ ·) → S.Pairwise (· ≠ ·) → (∀ x, x ∈ ks ↔ x ∈ S) → sumBy ks g = sumBy S g
  | [], S, _, _, h => by
    have : S = [] := List.eq_nil_iff_forall_not_mem.2 (fun x hx => by have := (h x).2 hx; simp at this)
    rw [this]
  | x :: r, S, hn, hS, h => by
    have hx := (h x).1 (by simp)
    have hp := List.perm_cons_erase hx
    have e1 : sumBy S g = g x + sumBy (S.erase x) g := by
      unfold sumBy
      rw [(hp.map g).sum_nat]
      simp
    have hn' := List.pairwise_cons.1 hn
    have hS' : (x :: S.erase x).Pairwise (· ≠ ·) := (hp.pairwise_iff (fun {a b} h => Ne.symm h)).1 hS
    have hS2 := List.pairwise_cons.1 hS'
    have e2 := sumBy_perm g r (S.erase x) hn'.2 hS2.2 (fun y => by
      constructor
      · intro hy
        exact (List.mem_erase_of_ne (hn'.1 y hy).symm).2 ((h y).1 (by simp [hy]))
      · intro hy
        have h1 := (h y).2 (List.mem_of_mem_erase hy)
        rcases List.mem_cons.1 h1 with e | e
        · exact absurd e.symm (hS2.1 y hy)
        · exact e)
    rw [e1, ← e2]
    simp [sumBy]
/-- all is carried out: the balances -/
theorem bal_end {L : List Pl} {P : PN} (C : PrC L P) (G : Good P) (hs : ∀ l x, L[l]? = some x → (legOf 9 l (P.E x.b)).1 = 3) {b : Nat} (hb : 1 ≤ b ∧ b ≤ 3) {a : Nat} (ha : a < 3) :
    balOf a (P.E b) = 1000 + inTo L b a L.length - outTo L b a L.length := by
  obtain ⟨ac, ls, hr⟩ := G.rl b hb.1 hb.2
  obtain ⟨hin, _⟩ := keys_few C G hb
  have hn : (keysOf (P.E b)).Pairwise (· ≠ ·) := (hr.keys.pairwise_iff (fun {a b} h => Ne.symm h)).1 (keys_nodup hr.sort)
  have hiff : ∀ x, x ∈ keysOf (P.E b) ↔ x ∈ keysN L b L.length := fun x => by
    rw [keysN_mem]
    constructor
    · intro hx
      obtain ⟨h9, y, hy, hyb⟩ := hin x hx
      exact ⟨h9, (List.getElem?_eq_some_iff.1 hy).1, y, hy, hyb⟩
    · rintro ⟨h9, hl, y, hy, hyb⟩
      have h3 := hs x.2 y hy
      rw [hyb] at h3
      have hj : findB 9 x.2 ls < ls.length := by
        rcases Nat.lt_or_ge (findB 9 x.2 ls) ls.length with h | h
        · exact h
        · rw [hr.no 9 x.2 h] at h3; simp at h3
      have hk := findB_lt 9 x.2 ls hj
      refine (hr.keys.mem_iff).1 (List.mem_map.2 ⟨_, List.getElem_mem hj, ?_⟩)
      unfold keyL
      rw [hk.1, hk.2, ← h9]
  have hterm : ∀ l x, L[l]? = some x → x.b = b → (legOf 9 l (P.E b)).2.2 = true ∧ (legOf 9 l (P.E b)).1 = 3 ∧ (legOf 9 l (P.E b)).2.1.p = x.p ∧ (legOf 9 l (P.E b)).2.1.g = x.g ∧ (legOf 9 l (P.E b)).2.1.a = x.a := fun l x hx hxb => by
    have h3 := hs l x hx
    rw [hxb] at h3
    have hj : findB 9 l ls < ls.length := by
      rcases Nat.lt_or_ge (findB 9 l ls) ls.length with h | h
      · exact h
      · rw [hr.no 9 l h] at h3; simp at h3
    have hI := hr.at 9 l hj
    unfold LegIs at hI
    have ht : (legOf 9 l (P.E b)).2.2 = true := by
      rcases hI.2.2.2 with h | h
      · exact h.1
      · have := hI.1; omega
    have hq := G.inv.terms b 9 l x hb.1 hb.2 ht (by rw [C.legs]; exact hx)
    rw [hq]
    refine ⟨ht, h3, ?_⟩
    unfold askMsg
    simp
  have ho := C.op b hb.1 hb.2 a ha
  have hout : ∀ n, n ≤ L.length → sumBy (keysN L b n) (fun x => amtPay 3 a (legOf x.1 x.2 (P.E b))) = outTo L b a n := by
    intro n
    induction n with
    | zero => intro _; rfl
    | succ n ih =>
      intro hnl
      have hx : L[n]? = some L[n] := List.getElem?_eq_getElem (by omega)
      simp only [keysN, outTo, hx]
      by_cases hxb : L[n].b = b
      · rw [if_pos hxb, sumBy_snoc, ih (by omega)]
        obtain ⟨t1, t2, t3, t4, t5⟩ := hterm n _ hx hxb
        unfold amtPay
        simp only [t1, t2, t3, t5]
        simp [hxb]
      · rw [if_neg hxb, List.append_nil, ih (by omega), if_neg (fun c => hxb c.1)]
        simp
  have hinn : ∀ n, n ≤ L.length → sumBy (keysN L b n) (fun x => amtGet 3 a (legOf x.1 x.2 (P.E b))) = inTo L b a n := by
    intro n
    induction n with
    | zero => intro _; rfl
    | succ n ih =>
      intro hnl
      have hx : L[n]? = some L[n] := List.getElem?_eq_getElem (by omega)
      simp only [keysN, inTo, hx]
      by_cases hxb : L[n].b = b
      · rw [if_pos hxb, sumBy_snoc, ih (by omega)]
        obtain ⟨t1, t2, t3, t4, t5⟩ := hterm n _ hx hxb
        unfold amtGet
        simp only [t1, t2, t4, t5]
        simp [hxb]
      · rw [if_neg hxb, List.append_nil, ih (by omega), if_neg (fun c => hxb c.1)]
        simp
  unfold balOf outOf inOf
  rw [sumBy_perm _ _ _ hn (keysN_nodup L b L.length) hiff, sumBy_perm _ _ _ hn (keysN_nodup L b L.length) hiff, hout _ (Nat.le_refl _), hinn _ (Nat.le_refl _), ho.1]
end Go.Proofs.YtjkhbjgfoopomabGreat
