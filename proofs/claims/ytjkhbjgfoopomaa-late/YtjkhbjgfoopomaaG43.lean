import Derived.Test.YtjkhbjgfoopomaaG40
import Derived.Test.YtjkhbjgfoopomaaG42
import Derived.Test.YtjkhbjgfoopomaaG39
/-
  Plain: one payment that an account cannot pay is let go; the balances in the end.
-/
namespace Go.Proofs.Ytjkhbjgfoopomaa
set_option linter.unusedVariables false
set_option linter.unusedSimpArgs false
structure PrSh (L : List Pl) (P : PN) : Prop where
  c : PrC L P
  st : (stA P.A 9).1 = 1 ∨ (stA P.A 9).1 = 3
  l0 : ∀ x, L[0]? = some x → (legOf 9 0 (P.E x.b)).1 ≠ 1
  ob1 : (stA P.A 9).1 = 1 → ∃ y, y ∈ P.wire ∧ y.l = 0 ∧ (y.k = 1 ∨ y.k = 5)
  ob3 : (stA P.A 9).1 = 3 → ∀ l x, L[l]? = some x → (legOf 9 l (P.E x.b)).1 = 4 ∨ ∃ y, y ∈ P.wire ∧ y.l = l ∧ y.k = 3
section
variable {L : List Pl} {P Q : PN} {m : Msg}
theorem PrSh.none3 (J : PrSh L P) (G : Good P) : ∀ (l : Nat) (x : Pl), L[l]? = some x → (legOf 9 l (P.E x.b)).1 ≠ 3 := fun l x hx => by
  have hL := leg_of J.c G hx
  rcases J.st with e | e
  · have := (hL.1 e).1; omega
  · exact (hL.2.2 e).1
theorem PrSh.step (J : PrSh L P) (H : Payable L) (h1001 : ∀ (x : Pl), L[0]? = some x → 1000 < x.a) (G : Good P) (hm : m ∈ P.wire) (hA : After P Q m) : PrSh L Q := by
  have hw := G.inv.wire m hm
  have C := J.c
  have hC := C.step G hw hA
  obtain ⟨ck, ps, hd⟩ := G.dr
  have hkk := hw.1.kinds
  have hold : ∀ y, y ∈ P.wire → y.k ≠ m.k ∨ y.l ≠ m.l → y ∈ Q.wire := fun y hy h => by
    rcases hA.wire.old y hy with e | e
    · subst e; rcases h with h | h <;> exact absurd rfl h
    · exact e
  by_cases hk : m.k ≤ 3
  · obtain ⟨x0, hx0, hb0, hi9, h1, h2, hme, h0⟩ := leg_kinds C G hw hk
    obtain ⟨hE, hAA⟩ := hA.bank hk
    have hans : bankAns m.t m (P.E m.t) ∈ Q.wire := hA.wire.new _ (by unfold arrOuts; rw [if_pos hk]; simp)
    have hL0 := leg_of C G hx0
    rw [hb0] at hL0
    obtain ⟨a1, a2, a3⟩ := leg_after h0 ⟨hkk.1, hk⟩
    rw [hi9] at a1 a2 a3
    have hside := hw.2.2
    have hk13 : m.k = 1 ∨ (m.k = 3 ∧ (stA P.A 9).1 = 3) := by
      have : m.k = 1 ∨ m.k = 2 ∨ m.k = 3 := by omega
      obtain ⟨x, hx, hs⟩ := hside
      rcases hs with ⟨_, _, h2', h3'⟩ | ⟨h4, _⟩
      · rcases this with h | h | h
        · exact .inl h
        · have := h2' h
          rw [hi9] at this
          have := J.st
          omega
        · have := h3' h
          rw [hi9] at this
          exact .inr ⟨h, this⟩
      · omega
    have hls : (m.l = 0 → (legOf 9 m.l (hEvsOf m (P.E m.t))).1 ≠ 1) ∧ (m.k = 1 → m.l = 0 → (stA P.A 9).1 = 1 → (legOf 9 m.l (hEvsOf m (P.E m.t))).1 = 2) ∧ (m.k = 3 → (legOf 9 m.l (hEvsOf m (P.E m.t))).1 = 4) ∧ ((legOf 9 m.l (P.E m.t)).1 = 4 → (legOf 9 m.l (hEvsOf m (P.E m.t))).1 = 4) := by
      rcases hk13 with h | ⟨h, e3⟩
      · have hv := a1 h
        by_cases hz : (legOf 9 m.l (P.E m.t)).1 = 0
        · rw [if_pos hz] at hv
          by_cases hl0 : m.l = 0
          · have hcan : canB m (P.E m.t) = false := by
              obtain ⟨_, _, hp3, hg3⟩ := H.x m.l x0 hx0
              have hmp : m.p = x0.p ∧ m.a = x0.a := by
                rw [hme, h]
                unfold askMsg
                simp
              have b1 := bal_still C G H (x0.a + 4294967296) (fun l x hx _ => ?_) (J.none3 G) ⟨h1, h2⟩ hp3
              · have ha := h1001 x0 (by rw [← hl0]; exact hx0)
                unfold canB
                rw [hmp.1, hmp.2, b1.1]
                have : decide (heldOf x0.p (P.E m.t) + x0.a ≤ 1000) = false := by simp; omega
                rw [this]
                simp
              · have hok := (hd.stand C.f9).ok.2.2 x (by rw [C.legs]; exact List.mem_of_getElem? hx)
                have := hok.2.2.2
                omega
            rw [hcan] at hv
            rw [hv]
            exact ⟨fun _ => by simp, fun _ _ _ => rfl, fun e => by omega, fun e => by omega⟩
          · rw [hv]
            exact ⟨fun e => absurd e hl0, fun _ e => absurd e hl0, fun e => by omega, fun e => by omega⟩
        · rw [if_neg hz] at hv
          rw [hv]
          refine ⟨fun e => ?_, fun _ e e1 => ?_, fun e => by omega, fun e => e⟩
          · have := J.l0 x0 (by rw [← e]; exact hx0)
            rw [hb0, ← e] at this
            exact this
          · have h3 := J.l0 x0 (by rw [← e]; exact hx0)
            rw [hb0, ← e] at h3
            have := (hL0.1 e1).1
            omega
      · have hv := (a3 h).2
        rw [hv]
        exact ⟨fun _ => by simp, fun e => by omega, fun _ => rfl, fun _ => rfl⟩
    have hlegs : ∀ l x, L[l]? = some x → (legOf 9 l (Q.E x.b)).1 = if l = m.l then (legOf 9 m.l (hEvsOf m (P.E m.t))).1 else (legOf 9 l (P.E x.b)).1 := fun l x hx => by
      rw [ls_bank hA hk]
      by_cases e : l = m.l
      · subst e
        have : x = x0 := by rw [hx0] at hx; injection hx with hx; exact hx.symm
        subst this
        rw [if_pos ⟨hb0, hi9.symm, rfl⟩, if_pos rfl, hi9]
      · rw [if_neg (fun c => e c.2.2), if_neg e]
    have ek : (bankAns m.t m (P.E m.t)).k = kindFor (legOf 9 m.l (hEvsOf m (P.E m.t))).1 := by
      show kindFor (legOf m.i m.l (hEvsOf m (P.E m.t))).1 = _
      rw [hi9]
    have el : (bankAns m.t m (P.E m.t)).l = m.l := rfl
    refine ⟨hC, by rw [hAA]; exact J.st, fun x hx => ?_, fun e => ?_, fun e l x hx => ?_⟩
    · rw [hlegs 0 x hx]
      split
      · rename_i e; exact hls.1 e.symm
      · exact J.l0 x hx
    · rw [hAA] at e
      obtain ⟨y, hy, hyl, hyk⟩ := J.ob1 e
      have h1k : m.k = 1 := by
        rcases hk13 with h | ⟨_, h⟩
        · exact h
        · omega
      by_cases hym : m.l = 0
      · refine ⟨_, hans, by rw [el, hym], .inr ?_⟩
        rw [ek, hls.2.1 h1k hym e]
        rfl
      · exact ⟨y, hold y hy (.inr (by omega)), hyl, hyk⟩
    · rw [hAA] at e
      rw [hlegs l x hx]
      by_cases elm : l = m.l
      · rw [if_pos elm]
        subst elm
        have hxx : x = x0 := by rw [hx0] at hx; injection hx with hx; exact hx.symm
        subst hxx
        rcases hk13 with h | ⟨h, _⟩
        · rcases J.ob3 e m.l x hx with h3 | ⟨y, hy, hyl, hyk⟩
          · rw [hb0] at h3
            exact .inl (hls.2.2.2 h3)
          · exact .inr ⟨y, hold y hy (.inl (by omega)), hyl, hyk⟩
        · exact .inl (hls.2.2.1 h)
      · rw [if_neg elm]
        rcases J.ob3 e l x hx with h3 | ⟨y, hy, hyl, hyk⟩
        · exact .inl h3
        · exact .inr ⟨y, hold y hy (.inr (by omega)), hyl, hyk⟩
  · obtain ⟨hE, hAA⟩ := hA.note hk
    have hn : (msgAct m).kind ≠ -1 := by show ((m.k : Int)) ≠ -1; omega
    have hp := fun i => pay_other (A := P.A) hn i
    have hi9 : m.i = 9 := C.only m.i hw.2.1
    obtain ⟨s4, s5, s6⟩ := note_st hd hw.2.1 (m := m) ⟨by omega, hkk.2.1⟩
    have hsay := fun h1 h2 h6 l x hx => says_all (A := P.A) (m := m) h1 h2 (hp m.i).2 h6 (l := l) (x := x) hx
    rw [hi9] at s4 s5 s6 hsay
    obtain ⟨xm, hxm, hside⟩ := hw.2.2
    rw [hi9, C.legs] at hxm
    obtain ⟨a4, a6⟩ : (m.k = 4 → (legOf 9 m.l (P.E xm.b)).1 = 1 ∨ (legOf 9 m.l (P.E xm.b)).1 = 3 ∨ (legOf 9 m.l (P.E xm.b)).1 = 4) ∧ (m.k = 6 → (legOf 9 m.l (P.E xm.b)).1 = 3 ∨ (legOf 9 m.l (P.E xm.b)).1 = 4) := by
      rcases hside with ⟨h3, _⟩ | ⟨_, _, a4, _, a6⟩
      · omega
      · rw [hi9] at a4 a6; exact ⟨a4, a6⟩
    have hk3 : m.k = 4 ∨ m.k = 5 ∨ m.k = 6 := by omega
    have hS := hd.stand C.f9
    have hh16 := pow_16 hS.few hS.room
    have hl4 := hkk.2.2.1
    have hLm := leg_of C G hxm
    have hx00 : ∃ x00, L[0]? = some x00 := ⟨L[0]'(by have := H.n.1; omega), List.getElem?_eq_getElem _⟩
    obtain ⟨x00, hx00⟩ := hx00
    have hL00 := leg_of C G hx00
    -- a Prepared never makes it whole
    have hnf : m.k = 4 → (stA P.A 9).1 = 1 → withOf (stA P.A 9).2.1 m.l ≠ fullOf (payO P.A 9).legs.length := fun h4 e1 hfull => by
      have hb : bitB (withOf (stA P.A 9).2.1 m.l) 0 = true := by
        rw [hfull, C.legs]
        exact bit_full _ _ H.n.2 (by have := H.n.1; omega)
      rw [bit_with _ _ _ hh16 hl4 (by omega)] at hb
      by_cases hml : m.l = 0
      · have hxx : xm = x00 := by rw [hml, hx00] at hxm; injection hxm with hxm; exact hxm.symm
        subst hxx
        have h1 := J.l0 xm hx00
        have h2 := (hLm.1 e1).1
        have h3 := a4 h4
        rw [hml] at h2 h3
        omega
      · have hb0 : bitB (stA P.A 9).2.1 0 = true := by
          have : decide (0 = m.l) = false := by simp; omega
          rw [this] at hb
          simpa using hb
        exact J.l0 x00 hx00 ((hL00.1 e1).2.1 hb0)
    have h61 : m.k = 6 → (stA P.A 9).1 ≠ 1 := fun h e => by
      have := (hLm.1 e).1
      have := a6 h
      omega
    refine ⟨hC, ?_, by rw [hE]; exact J.l0, fun e => ?_, fun e l x hx => ?_⟩
    · rw [hAA]
      rcases hk3 with h | h | h
      · rw [s4 h]
        split
        · rename_i e1
          simp only
          rw [if_neg (hnf h e1)]
          exact .inl rfl
        · exact J.st
      · rw [s5 h]
        split
        · exact .inr rfl
        · exact J.st
      · rw [s6 h]; exact J.st
    · rw [hAA] at e
      have e1 : (stA P.A 9).1 = 1 := by
        rcases J.st with h1 | h1
        · exact h1
        · rcases hk3 with h | h | h
          · rw [s4 h, if_neg (by omega)] at e; omega
          · rw [s5 h, if_neg (by omega)] at e; omega
          · rw [s6 h] at e; exact e
      have h5 : m.k ≠ 5 := fun h => by rw [s5 h, if_pos e1] at e; simp at e
      obtain ⟨y, hy, hyl, hyk⟩ := J.ob1 e1
      exact ⟨y, hold y hy (.inl (by omega)), hyl, hyk⟩
    · rw [hAA] at e
      rw [hE]
      rcases J.st with e1 | e3
      · have h5 : m.k = 5 := by
          rcases hk3 with h | h | h
          · rw [s4 h, if_pos e1] at e
            simp only at e
            rw [if_neg (hnf h e1)] at e
            omega
          · exact h
          · exact absurd e1 (h61 h)
        have h := hsay e1 (by omega) (by omega) l x (by rw [C.legs]; exact hx)
        have hq := ask_parts (payO P.A 9) x l (askKind (stA (P.A ++ [msgAct m]) 9).1)
        refine .inr ⟨_, hA.wire.new _ (by unfold arrOuts; rw [if_neg hk]; exact h), hq.2.2.2.2, ?_⟩
        rw [hq.1, e]
        rfl
      · rcases J.ob3 e3 l x hx with h3 | ⟨y, hy, hyl, hyk⟩
        · exact .inl h3
        · exact .inr ⟨y, hold y hy (.inl (by omega)), hyl, hyk⟩
end
end Go.Proofs.Ytjkhbjgfoopomaa
/-
  Networks: a node ticks.
-/
namespace Go.Proofs.Ytjkhbjgfoopomaa
open Go.RowKit
set_option linter.unusedVariables false
set_option linter.unusedSimpArgs false
/-- what the notary says when the clock goes on -/
def TickSays (A : List Dt) (ms : List Msg) : Prop :=
  ms.length ≤ 128 ∧ ((1000000 ≤ clockOf A ∧ ms = []) ∨ (clockOf A < 1000000 ∧ ∃ qs, Pays (A ++ [tickAct]) qs ∧ ms = saysM qs (A ++ [tickAct])))
theorem kOuts_says {A : List Dt} {ck : Nat} {ps : List Xp} (hD : DRel A ck ps) : ∃ ms, TickSays A ms ∧ ms.map encOf = kOuts ck ps := by
  have hck := hD.clk
  unfold kOuts
  by_cases h : 1000000 ≤ ck
  · rw [if_pos h]
    exact ⟨[], ⟨by simp, .inl ⟨by omega, rfl⟩⟩, rfl⟩
  · rw [if_neg h]
    have hT := hD.tick
    obtain ⟨qs, hP, hq, hs⟩ := hT.says
    have h1 := saysX_le _ (fun y hy => (hT.good y hy).fine)
    have h2 := hT.len
    have e : (saysM qs (A ++ [tickAct])).map encOf = saysX (ps.map (lateX (ck + 1))) := by rw [saysM_map]; exact hs
    refine ⟨saysM qs (A ++ [tickAct]), ⟨?_, .inr ⟨by omega, qs, hP, rfl⟩⟩, e⟩
    have := congrArg List.length e
    rw [List.length_map] at this
    omega
/-- the notary of a network ticks -/
theorem tickD_net (w : World) (own : Nat → Nat) (nb : Nat) (M : NM) (P : PN) (I : NetAt w own nb 3 M P) (hck : clockOf P.A < 18446744073709551616) :
    Calls Try.prog 33 #[.pointer (some ⟨M.db, 0, none⟩)] w fun e w' => ∃ lv own' M' ms, e = .returned (.tuple #[lv, .string (bs (kLog P.A)), .int .i64 (kErr P.A : Int)]) ∧ TickSays P.A ms ∧ NetAt w' own' nb 3 M' { P with A := kActs P.A } ∧ Frame w w' own own' ∧ RowOf w' 9 1 msgCell lv ms ∧ (∀ g, lv.ownBlock = some g → own' g = 0) := by
  have hD := I.deed.rel
  obtain ⟨ms, h1, h2⟩ := kOuts_says hD
  refine (eTickD_any w M.db M.ck M.ps M.xv I.deed.x I.deed.ap P.A hD (by rw [hD.clk]; exact hck)).mono ?_
  rintro e w' ⟨lv, ck', ps', v', rfl, hh, hr⟩
  have J := I.deedTo lv hh.to hr hh.fresh
  refine ⟨lv, _, _, ms, rfl, h1, J.1, J.2, row_msgs (ms := ms) (fun l => rfl) (by rw [h2]; exact hh.row), fun g hg => by simp only [if_neg (Nat.not_lt.2 (hh.fresh g hg).1), if_pos hg]⟩
theorem tickM_len (k : Nat) (ls : List Lg) : (tickM k ls).length ≤ ls.length := by
  unfold tickM
  rw [List.length_map]
  exact List.length_filter_le _ _
set_option maxRecDepth 100000 in
set_option maxHeartbeats 2000000 in
/-- a bank of a network ticks -/
theorem tick_bank (w : World) (own : Nat → Nat) (nb : Nat) (M : NM) (P : PN) (I : NetAt w own nb 3 M P) (k : Nat) (hk : 1 ≤ k ∧ k ≤ 3) (hlen : P.wire.length + 128 ≤ 8000000000000) :
    Calls Try.prog 57 #[.pointer (some ⟨nb, 0, none⟩), .int .i64 (k : Int)] w fun e w' => e = .returned (.bool true) ∧ ∃ own' M', NetAt w' own' nb 3 M' { P with wire := P.wire ++ tickM k (M.bk k).ls } ∧ Frame w w' own own' := by
  have B := I.bank k hk.1 hk.2
  have hR := B.rel
  have hT := hide (eTick_any w (M.bk k).b k ⟨hk.1, by omega⟩ (M.bk k).ac (M.bk k).ls (M.bk k).va (M.bk k).vl B.x hR.lok' (fun x hx => (hR.lok x hx).2) (by have := hR.llen; omega))
  have hcw := cell_at I.blk k
  rw [bank_ptr hk.1 hk.2 (Nat.le_refl 3)] at hcw
  have hnl := I.lt
  have hkI : (k : Int) < 4 := by omega
  have d0 : decide ((0 : Int) < (k : Int)) = true := by simp; omega
  have hk0 : 0 < k := by omega
  have hS : Hid (∀ u lv, Below w.heap.size w u → FreshL w (tickL k (M.bk k).ls) u lv → _) := hide (fun u lv hb hf => send_any u (fun i => if i < w.heap.size then own i else 0) nb M P (I.below0 hb) lv (tickM k (M.bk k).ls) (row_msgs (fun l => rfl) (by rw [tickM_map]; exact hf.1)) (by have := tickM_len k (M.bk k).ls; have := hR.llen; omega))
  have hFr : Hid (∀ u, Below w.heap.size w u → Frame w u own (fun i => if i < w.heap.size then own i else 0)) := hide (fun u hb => ⟨Kept.of_below hb, fun i hi => by simp [hi]⟩)
  generalize tickL k (M.bk k).ls = TL at *
  generalize tickM k (M.bk k).ls = MS at *
  generalize (M.bk k).b = bb at *
  clear B hR I hlen
  go_enter Try.func57, Try.ntmps57
  go_wp2_with fail
  refine hT.out.mono ?_
  rintro e u ⟨⟨lv, rfl, hf⟩, hb⟩
  have hS1 := hide (hS.out u lv hb hf)
  have hF1 := hide (hFr.out u hb)
  obtain ⟨ad, cap, hsl⟩ := hf.1.slice
  subst hsl
  clear hS hFr hT hcw hf
  go_wp2_with fail
  refine hS1.out.mono ?_
  rintro e u2 ⟨rfl, own2, M2, I2, F2, _⟩
  have X : Hid (∃ own' M', NetAt u2 own' nb 3 M' { P with wire := P.wire ++ MS } ∧ Frame w u2 own own') := hide ⟨own2, M2, I2, hF1.out.trans F2⟩
  clear hS1 hF1 I2 F2
  go_wp2
  go_ret
  exact ⟨rfl, X.out⟩
/-- the network behind a tick of the notary -/
def tickTo (P : PN) (ms : List Msg) : PN := { P with A := kActs P.A, wire := P.wire ++ ms, lg := upd P.lg 0 (P.lg 0 ++ kLog P.A) }
set_option maxRecDepth 100000 in
set_option maxHeartbeats 2000000 in
attribute [local go_sem] bs_append in
theorem tick_note (w : World) (own : Nat → Nat) (nb : Nat) (M : NM) (P : PN) (I : NetAt w own nb 3 M P) (hck : clockOf P.A ≤ 1000000) (hlen : P.wire.length + 128 ≤ 8000000000000) (hlg : (P.lg 0).length + 1 ≤ 1000000000000000000) :
    Calls Try.prog 57 #[.pointer (some ⟨nb, 0, none⟩), .int .i64 0] w fun e w' => e = .returned (.bool true) ∧ ∃ own' M' ms, TickSays P.A ms ∧ NetAt w' own' nb 3 M' (tickTo P ms) ∧ Frame w w' own own' := by
  have hC := hide (eClock_any w M.db M.ck M.ps M.xv I.deed.x)
  have hT := hide (tickD_net w own nb M P I (by omega))
  have hcd : w.cell? ⟨nb, 4, none⟩ = some (.pointer (some ⟨M.db, 0, none⟩)) := cell_at I.blk 4
  have hnl := I.lt
  have hclk := hide I.deed.rel.clk
  generalize M.db = db at *
  generalize M.ck = ck at *
  clear I
  go_enter Try.func57, Try.ntmps57
  go_wp2_with fail
  refine hC.out.mono ?_
  rintro e w1 ⟨rfl, hw1⟩
  obtain rfl : w = w1 := hw1.symm
  clear hC hw1
  go_wp2_with fail
  refine hT.out.mono ?_
  rintro e u ⟨lv, own1, M1, ms, rfl, hms, I1, F1, hrow, hlo⟩
  clear hT hcd
  obtain ⟨ad, cap, hsl⟩ := hrow.slice
  subst hsl
  have hml := hms.1
  have hcl : u.cell? ⟨nb, 5, none⟩ = some (.string (bs (P.lg 0))) := cell_at I1.blk 5
  have hfl := frozen_at I1.blk 5
  have hnl1 := I1.lt
  have hCt := I1.cellTo 5 (.string (bs (P.lg 0 ++ kLog P.A))) (P' := { P with A := kActs P.A, lg := upd P.lg 0 (P.lg 0 ++ kLog P.A) }) rfl rfl rfl rfl
  have hbd : Below (u.setCell ⟨nb, 5, none⟩ (.string (bs (P.lg 0 ++ kLog P.A)))).heap.size (u.setCell ⟨nb, 5, none⟩ (.string (bs (P.lg 0 ++ kLog P.A)))) (u.setCell ⟨nb, 5, none⟩ (.string (bs (P.lg 0 ++ kLog P.A)))).drew := (Below.refl _ _).drew
  have hr1 := hrow.kept (Kept.of_setCell u ⟨nb, 5, none⟩ (.string (bs (P.lg 0 ++ kLog P.A)))) (fun g hg e => by have e' : g = nb := e; have h := hlo g hg; rw [e', I1.nown] at h; omega)
  have hsd := hide (send_any _ own1 nb M1 _ (hCt.1.below hbd) (.slice ad ms.length cap) ms (hr1.below hbd) (by simp only; omega))
  have hsd0 := hide (send_any _ own1 nb M1 _ hCt.1 (.slice ad ms.length cap) ms hr1 (by simp only; omega))
  have hFr := hide ((F1.trans hCt.2).trans (Frame.of_below hbd))
  have hFr0 := hide (F1.trans hCt.2)
  have hkl : (kLog P.A).length ≤ 1 := by unfold kLog; split <;> simp
  have hsz : (9223372036854775807 < (bs (P.lg 0)).size + (bs (kLog P.A)).size) = False := by rw [bs_size, bs_size]; simp; omega
  have hcase : (ck < 1000000 ∧ kErr P.A = 0 ∧ kLog P.A = [84]) ∨ (¬ ck < 1000000 ∧ kErr P.A = 15 ∧ kLog P.A = [] ∧ ms = []) := by
    have hclk := hclk.out
    rcases hms.2 with ⟨h1, h2⟩ | ⟨h1, h2⟩
    · exact .inr ⟨by omega, if_pos h1, if_pos h1, h2⟩
    · exact .inl ⟨by omega, if_neg (by omega), if_neg (by omega)⟩
  have hE : Hid (∀ u2 own2 M2, NetAt u2 own2 nb 3 M2 { P with A := kActs P.A, lg := upd P.lg 0 (P.lg 0 ++ kLog P.A), wire := P.wire ++ ms } → NetAt u2 own2 nb 3 M2 (tickTo P ms)) := hide (fun u2 own2 M2 h => h)
  replace hms := hide hms
  go_wp2_with fail
  first
    | go_region
    | skip
  all_goals (
    clear hCt hcl hfl hrow hlo I1 F1 hbd hr1
    go_wp2_with fail
    first
      | refine hsd.out.mono ?_
      | refine hsd0.out.mono ?_
    rintro e w2 ⟨rfl, own2, M2, I2, F2, _⟩
    have X : Hid (∃ own' M' ms, TickSays P.A ms ∧ NetAt w2 own' nb 3 M' (tickTo P ms) ∧ Frame w w2 own own') := hide ⟨own2, M2, ms, hms.out, hE.out _ _ _ I2, by first | exact hFr.out.trans F2 | exact hFr0.out.trans F2⟩
    clear hsd hsd0 hFr hFr0 I2 F2 hE hms hclk hck hkl hsz hlg hlen hml
    generalize kErr P.A = er at *
    generalize kLog P.A = lg at *
    have hz : Hid (bs lg = bs lg) := hide rfl
    rcases hcase with ⟨hc1, rfl, hlg⟩ | ⟨hc1, rfl, hlg, rfl⟩
    · have d1 : decide ((1000000 : Int) ≤ (ck : Int)) = false := by simp; omega
      clear hc1 hlg hz
      generalize bs lg = Z at *
      go_wp2
      go_ret
      exact ⟨rfl, X.out⟩
    · have d1 : decide ((1000000 : Int) ≤ (ck : Int)) = true := by simp; omega
      have hZ : bs lg = ⟨#[]⟩ := by rw [hlg]; rfl
      clear hc1 hlg hz
      generalize bs lg = Z at *
      subst hZ
      go_wp2
      go_ret
      exact ⟨rfl, X.out⟩)
end Go.Proofs.Ytjkhbjgfoopomaa
