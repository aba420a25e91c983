import Derived.Test.YtjkhbjgfoopomaaG38
import Derived.Test.YtjkhbjgfoopomaaG35
/-
  Networks: all frames arrive.
-/
namespace Go.Proofs.Ytjkhbjgfoopomaa
open Go.RowKit
set_option linter.unusedVariables false
set_option linter.unusedSimpArgs false
/-- how many frames a message leads to, itself with them -/
def wtOf (m : Msg) : Nat := if m.k = 1 then 10 else if m.k = 4 ∨ m.k = 5 then 9 else if m.k = 6 then 1 else 2
def wtAll (l : List Msg) : Nat := (l.map wtOf).sum
theorem wtAll_append (a b : List Msg) : wtAll (a ++ b) = wtAll a + wtAll b := by simp [wtAll]
theorem wtAll_cons (m : Msg) (b : List Msg) : wtAll (m :: b) = wtOf m + wtAll b := by simp [wtAll]
theorem wt_ge (m : Msg) : 1 ≤ wtOf m ∧ wtOf m ≤ 10 := by unfold wtOf; (repeat' split) <;> omega
theorem wtAll_ge (l : List Msg) : l.length ≤ wtAll l ∧ wtAll l ≤ 10 * l.length := by
  induction l with
  | nil => simp [wtAll]
  | cons m r ih =>
    have := wt_ge m
    rw [wtAll_cons]
    simp only [List.length_cons]
    omega
theorem wtAll_le (l : List Msg) (b : Nat) (h : ∀ m, m ∈ l → wtOf m ≤ b) : wtAll l ≤ b * l.length := by
  induction l with
  | nil => simp [wtAll]
  | cons m r ih =>
    have h1 := h m (by simp)
    have h2 := ih (fun x hx => h x (by simp [hx]))
    rw [wtAll_cons, List.length_cons, Nat.mul_succ]
    omega
/-- all that holds of a network -/
structure Good (P : PN) : Prop where
  inv : NInv P
  dr : ∃ ck ps, DRel P.A ck ps
  rl : ∀ b, 1 ≤ b → b ≤ 3 → ∃ ac ls, Rel (P.E b) ac ls
theorem NetAt.good {w : World} {own : Nat → Nat} {nb : Nat} {M : NM} {P : PN} (I : NetAt w own nb 3 M P) (h : NInv P) : Good P :=
  ⟨h, ⟨_, _, I.deed.rel⟩, fun b h1 h2 => ⟨_, _, (I.bank b h1 h2).rel⟩⟩
/-- what a message leads to weighs less than it -/
theorem wt_arrive {P : PN} (G : Good P) {m : Msg} (hm : OnW P m) : wtAll (arriveTo P m).wire + 1 ≤ wtAll P.wire + wtOf m := by
  have hF := hm.1
  have hkk := hF.kinds
  obtain ⟨ck, ps, hd⟩ := G.dr
  unfold arriveTo
  by_cases hk : m.k ≤ 3
  · rw [if_pos hk]
    obtain ⟨h1, h2, h3⟩ := G.inv.bankOk hd hm hk
    obtain ⟨ac, ls, hr⟩ := G.rl m.t h1 h2
    have h0 := h3 hr
    simp only [wtAll_append, wtAll_cons]
    have hz : wtAll [] = 0 := rfl
    rw [hz]
    obtain ⟨a1, a2, a3⟩ := leg_after h0 ⟨hkk.1, hk⟩
    have hk3 : m.k = 1 ∨ m.k = 2 ∨ m.k = 3 := by omega
    have ek : (bankAns m.t m (P.E m.t)).k = kindFor (legOf m.i m.l (hEvsOf m (P.E m.t))).1 := rfl
    have hkf : ∀ s, kindFor s = 4 ∨ kindFor s = 5 ∨ kindFor s = 6 := fun s => by unfold kindFor; (repeat' split) <;> simp
    rcases hk3 with h | h | h
    · have hb : wtOf (bankAns m.t m (P.E m.t)) ≤ 9 := by
        unfold wtOf
        rw [ek]
        rcases hkf (legOf m.i m.l (hEvsOf m (P.E m.t))).1 with e | e | e <;> rw [e] <;> simp
      have : wtOf m = 10 := by unfold wtOf; rw [if_pos h]
      omega
    · have hb : wtOf (bankAns m.t m (P.E m.t)) = 1 := by
        unfold wtOf
        rw [ek, (a2 h).2]
        rfl
      have : wtOf m = 2 := by unfold wtOf; simp [h]
      omega
    · have hb : wtOf (bankAns m.t m (P.E m.t)) = 1 := by
        unfold wtOf
        rw [ek, (a3 h).2]
        rfl
      have : wtOf m = 2 := by unfold wtOf; simp [h]
      omega
  · rw [if_neg hk]
    simp only [wtAll_append]
    have hk6 : m.k = 4 ∨ m.k = 5 ∨ m.k = 6 := by omega
    by_cases h6 : m.k = 6
    · have hn : nOuts m P.A = [] := by unfold nOuts nSay; rw [if_pos h6]
      rw [hn]
      have hz : wtAll [] = 0 := rfl
      rw [hz]
      have := wt_ge m
      omega
    · have hw9 : wtOf m = 9 := by
        unfold wtOf
        rw [if_neg (by omega), if_pos (by omega)]
      have hS := hd.stand hm.2.1
      have hlo := hS.lo
      have hhi := hS.hi
      have hle := nOuts_len hd hm.2.1
      have h2 : ∀ y, y ∈ nOuts m P.A → wtOf y ≤ 2 := by
        intro y hy
        have hst := note_st hd hm.2.1 (m := m) ⟨by omega, by omega⟩
        unfold nOuts nSay at hy
        rw [if_neg h6] at hy
        have key : ∀ p x l st, st ≠ 1 → wtOf (askMsg p x l (askKind st)) ≤ 2 := fun p x l st h => by
          have := ask_parts p x l (askKind st)
          have hk := askKind_of st
          unfold wtOf
          rw [this.1]
          rw [if_neg (by omega), if_neg (by omega)]
          split <;> omega
        split at hy
        · simp at hy
        · rename_i hn
          split at hy
          · rename_i h1
            obtain ⟨l, x, _, _, rfl⟩ := (asksM_mem _ _ _ _).1 hy
            exact key _ _ _ _ (fun e => hn ⟨h1, e⟩)
          · rename_i h1
            cases hx : (findOf m.i P.A).1.legs[m.l]? with
            | none => rw [hx] at hy; simp at hy
            | some x =>
              rw [hx] at hy
              simp only [List.mem_singleton] at hy
              rw [hy]
              exact key _ _ _ _ h1
      have := wtAll_le _ 2 h2
      omega
/-- the logs are at most so much longer -/
def LgLe (P Q : PN) (n : Nat) : Prop := ∀ k, (Q.lg k).length ≤ (P.lg k).length + n
theorem lg_arrive {P : PN} {m : Msg} (hF : Fair m) : LgLe P (arriveTo P m) 100 := by
  intro k
  unfold arriveTo
  by_cases hk : m.k ≤ 3
  · rw [if_pos hk]
    simp only
    unfold upd
    split
    · rename_i h
      rw [h, List.length_append]
      have := bankLog_len hF (P.E m.t)
      omega
    · omega
  · rw [if_neg hk]
    simp only
    unfold upd
    split
    · rename_i h
      rw [h, List.length_append]
      have := actText_len hF (by omega) P.A
      omega
    · omega
/-- what a flush keeps -/
def Steady (J : PN → Prop) : Prop := ∀ Q m rest, Good Q → J Q → Q.wire = m :: rest → J (arriveTo { Q with wire := rest } m)
theorem OnW.of_wire {P Q : PN} {m : Msg} (h : OnW P m) (hE : Q.E = P.E) (hA : Q.A = P.A) : OnW Q m := by
  obtain ⟨E, A, wire, lg, sm⟩ := Q
  simp only at hE hA
  subst hE hA
  exact h
def Flushed (w : World) (own : Nat → Nat) (nb : Nat) (P : PN) (J : PN → Prop) (e : Ending) (w' : World) : Prop :=
  e = .returned (.bool true) ∧ ∃ own' M' P', NetAt w' own' nb 3 M' P' ∧ Frame w w' own own' ∧ NInv P' ∧ J P' ∧ P'.wire = [] ∧ LgLe P P' (1000 * P.wire.length)
set_option maxRecDepth 100000 in
set_option maxHeartbeats 2000000 in
theorem flush_any (J : PN → Prop) (hJ : Steady J) (w : World) (own : Nat → Nat) (nb : Nat) (M : NM) (P : PN) (I : NetAt w own nb 3 M P) (hI : NInv P) (hP : J P) (hlen : P.wire.length ≤ 100000000000) (hlg : ∀ k, (P.lg k).length ≤ 100000000000000000) :
    Calls Try.prog 28 #[.pointer (some ⟨nb, 0, none⟩)] w (Flushed w own nb P J) := by
  obtain ⟨wad, wcap, hwv⟩ := I.wrow.slice
  have hc9 : w.cell? ⟨nb, 9, none⟩ = some (.slice wad P.wire.length wcap) := by rw [cell_at I.blk 9, ← hwv]; rfl
  have hnl := I.lt
  obtain ⟨N, hN⟩ : ∃ N, N = P.wire.length := ⟨_, rfl⟩
  rw [← hN] at hc9
  have hN1 : N ≤ 100000000000 := by omega
  have W2 : wrap64 (10 * (N : Int) + 10) = 10 * (N : Int) + 10 := by unfold wrap64; omega
  have hst : Hid (∃ own' M' Q, NetAt w own' nb 3 M' Q ∧ Frame w w own own' ∧ NInv Q ∧ J Q ∧ wtAll Q.wire + 0 ≤ 10 * N ∧ LgLe P Q (100 * 0)) := hide ⟨own, M, P, I, Frame.refl _ _, hI, hP, by have := (wtAll_ge P.wire).2; omega, fun k => by omega⟩
  replace hJ := hide hJ
  replace hN := hide hN
  replace hlg := hide hlg
  clear I hI hP hwv
  go_enter Try.func28, Try.ntmps28
  go_wp2_with fail
  go_loopw [4] (fun c u => ∃ k : Nat, k ≤ 10 * N ∧ c = .int .i64 k ∧ ∃ own' M' Q, NetAt u own' nb 3 M' Q ∧ Frame w u own own' ∧ NInv Q ∧ J Q ∧ wtAll Q.wire + k ≤ 10 * N ∧ LgLe P Q (100 * k)) (fun c _ => 10 * N + 10 - (intOf c).toNat)
  case atStart => exact ⟨0, by omega, rfl, hst.out⟩
  case round =>
    clear hst hc9
    obtain ⟨k, hk, rfl, own1, M1, Q, I1, F1, hI1, hJ1, hwt, hle⟩ := hrel
    have hki : (k : Int) < 10 * (N : Int) + 10 := by omega
    have W3 : IntKind.i64.wrap ((k : Int) + 1) = ((k + 1 : Nat) : Int) := by rw [IntKind.wrap_i64]; omega
    obtain ⟨wad1, wcap1, hwv1⟩ := I1.wrow.slice
    have hc9 : wr.cell? ⟨nb, 9, none⟩ = some (.slice wad1 Q.wire.length wcap1) := by rw [cell_at I1.blk 9, ← hwv1]; rfl
    have hnl1 := I1.lt
    cases hq : Q.wire with
    | nil =>
      rw [hq] at hc9
      have X : Hid (Flushed w own nb P J (.returned (.bool true)) wr) := hide ⟨rfl, own1, M1, Q, I1, F1, hI1, hJ1, hq, fun j => by have := hle j; have := hN.out; omega⟩
      clear I1 F1 hI1 hJ1 hle hwv1
      simp only [List.length_nil] at hc9
      go_wp2
      go_ret
      exact X.out
    | cons m rest =>
      have hwl := wtAll_ge Q.wire
      have hm : OnW Q m := hI1.wire m (by rw [hq]; simp)
      have hi0 : 0 < Q.wire.length := by rw [hq]; simp
      have hLo := lose_any wr own1 nb M1 Q I1 0 hi0 (by omega)
      have e0 : Q.wire[0] = m := by simp [hq]
      have e1 : Q.wire.eraseIdx 0 = rest := by rw [hq]; rfl
      rw [e0, e1] at hLo
      have hwt' : wtOf m + wtAll rest + k ≤ 10 * N := by rw [hq, wtAll_cons] at hwt; omega
      have hrl : rest.length + 1 = Q.wire.length := by rw [hq]; simp
      obtain ⟨L, hL⟩ : ∃ L, L = Q.wire.length := ⟨_, rfl⟩
      rw [← hL] at hc9
      have hl0 : ((L : Int) == 0) = false := by simp; omega
      replace hq := hide hq
      replace hLo := hide hLo
      have hAr : Hid (∀ u own2 M2, NetAt u own2 nb 3 M2 { Q with wire := rest } → _) := hide (fun u own2 M2 I2 => arrive_any u own2 nb M2 { Q with wire := rest } I2 (hI1.less rfl rfl (fun y hy => by rw [hq.out]; simp [hy])) m (hm.of_wire rfl rfl) (by show rest.length + 4 ≤ _; omega) (fun j => by show (Q.lg j).length + 100 ≤ _; have := hle j; have := hlg.out j; omega))
      have hNx : Hid (∀ u own2 M2 own3 M3 u3, NetAt u own2 nb 3 M2 { Q with wire := rest } → NetAt u3 own3 nb 3 M3 (arriveTo { Q with wire := rest } m) → NInv (arriveTo { Q with wire := rest } m) ∧ J (arriveTo { Q with wire := rest } m) ∧ wtAll (arriveTo { Q with wire := rest } m).wire + (k + 1) ≤ 10 * N ∧ LgLe P (arriveTo { Q with wire := rest } m) (100 * (k + 1))) := hide (fun u own2 M2 own3 M3 u3 I2 I3 => by
        have hI2 : NInv { Q with wire := rest } := hI1.less rfl rfl (fun y hy => by rw [hq.out]; simp [hy])
        have hm2 : OnW { Q with wire := rest } m := hm.of_wire rfl rfl
        refine ⟨arrive_inv I2 hI2 hm2 I3, hJ.out Q m rest (I1.good hI1) hJ1 hq.out, ?_, fun j => ?_⟩
        · have h := wt_arrive (I2.good hI2) hm2
          have e : wtAll ({ Q with wire := rest } : PN).wire = wtAll rest := rfl
          omega
        · have h := lg_arrive (P := { Q with wire := rest }) hm.1 j
          have e : ({ Q with wire := rest } : PN).lg j = Q.lg j := rfl
          rw [e] at h
          have := hle j
          omega)
      replace F1 := hide F1
      replace hwl := hide hwl
      clear I1 hI1 hJ1 hle hwv1 hm e0 e1 hL hrl hi0
      go_wp2_with fail
      refine hLo.out.mono ?_
      rintro e u2 ⟨rfl, own2, M2, I2, F2, _⟩
      have hA2 := hide (hAr.out u2 own2 M2 I2)
      replace I2 := hide I2
      replace F2 := hide F2
      clear hLo hAr hc9
      go_wp2_with fail
      refine hA2.out.mono ?_
      rintro e u3 ⟨rfl, own3, M3, I3, F3⟩
      have X : Hid (∃ own' M' Q', NetAt u3 own' nb 3 M' Q' ∧ Frame w u3 own own' ∧ NInv Q' ∧ J Q' ∧ wtAll Q'.wire + (k + 1) ≤ 10 * N ∧ LgLe P Q' (100 * (k + 1))) := hide (by
        obtain ⟨a, b, c, d⟩ := hNx.out _ _ _ _ _ _ I2.out I3
        exact ⟨own3, M3, _, I3, (F1.out.trans F2.out).trans F3, a, b, c, d⟩)
      clear hA2 hNx I3 F3
      go_wp2
      exact ⟨⟨k + 1, by obtain ⟨_, _, _, _, _, _, _, h, _⟩ := X.out; omega, by go_num, X.out⟩, by simp [intOf]; omega⟩
end Go.Proofs.Ytjkhbjgfoopomaa
/-
  Plain: one payment in a network, ahead of any tick: what its legs still wait for.
-/
namespace Go.Proofs.Ytjkhbjgfoopomaa
set_option linter.unusedVariables false
set_option linter.unusedSimpArgs false
theorem opened_after (a : Nat) (m : Msg) (E : List Ev) : openedOf a (hEvsOf m E) = openedOf a E := by
  unfold hEvsOf hNewT
  have h : ∀ e : Ev, e.kind ≠ 0 → openedOf a (E ++ [e]) = openedOf a E := fun e he => by
    rw [openedOf_snoc]
    unfold openedStep
    rw [if_neg he]
  split
  · simp
  · split
    · exact h _ (by simp)
    · split
      · exact h _ (by simp)
      · split
        · exact h _ (by simp)
        · simp
/-- a payment alone; its legs; the accounts -/
structure PrC (L : List Pl) (P : PN) : Prop where
  f9 : fnd P.A 9 = true
  only : ∀ i, fnd P.A i = true → i = 9
  legs : (payO P.A 9).legs = L
  op : ∀ b, 1 ≤ b → b ≤ 3 → ∀ a, a < 3 → (openedOf a (P.E b)).1 = 1000 ∧ (openedOf a (P.E b)).2.1 = true
  nf : (stA P.A 9).1 = 1 → (stA P.A 9).2.1 ≠ fullOf L.length
/-- how messages on the wire go on when one of them arrives -/
structure WTo (W W' outs : List Msg) (m : Msg) : Prop where
  old : ∀ y, y ∈ W → y = m ∨ y ∈ W'
  new : ∀ y, y ∈ outs → y ∈ W'
def arrOuts (P : PN) (m : Msg) : List Msg := if m.k ≤ 3 then [bankAns m.t m (P.E m.t)] else nOuts m P.A
/-- the state behind an arrival -/
structure After (P Q : PN) (m : Msg) : Prop where
  bank : m.k ≤ 3 → Q.E = upd P.E m.t (hEvsOf m (P.E m.t)) ∧ Q.A = P.A
  note : ¬ m.k ≤ 3 → Q.E = P.E ∧ Q.A = P.A ++ [msgAct m]
  wire : WTo P.wire Q.wire (arrOuts P m) m
theorem arrive_after {Q : PN} {m : Msg} {rest : List Msg} (h : Q.wire = m :: rest) : After Q (arriveTo { Q with wire := rest } m) m := by
  refine ⟨fun hk => ?_, fun hk => ?_, ⟨fun y hy => ?_, fun y hy => ?_⟩⟩
  · unfold arriveTo; rw [if_pos hk]; exact ⟨rfl, rfl⟩
  · unfold arriveTo; rw [if_neg hk]; exact ⟨rfl, rfl⟩
  · rw [h] at hy
    rcases List.mem_cons.1 hy with h' | h'
    · exact .inl h'
    · right
      unfold arriveTo
      split <;> exact List.mem_append_left _ h'
  · unfold arrOuts at hy
    unfold arriveTo
    split
    · rename_i hk; rw [if_pos hk] at hy; exact List.mem_append_right _ hy
    · rename_i hk; rw [if_neg hk] at hy; exact List.mem_append_right _ hy
section
variable {L : List Pl} {P Q : PN} {m : Msg}
/-- what is common goes on -/
theorem PrC.step (C : PrC L P) (G : Good P) (hm : OnW P m) (hA : After P Q m) : PrC L Q := by
  obtain ⟨ck, ps, hd⟩ := G.dr
  by_cases hk : m.k ≤ 3
  · obtain ⟨hE, hAA⟩ := hA.bank hk
    refine ⟨by rw [hAA]; exact C.f9, by rw [hAA]; exact C.only, by rw [hAA]; exact C.legs, fun b h1 h2 a ha => ?_, by rw [hAA]; exact C.nf⟩
    rw [hE]
    unfold upd
    split
    · rename_i e
      rw [opened_after, ← e]
      exact C.op b h1 h2 a ha
    · exact C.op b h1 h2 a ha
  · obtain ⟨hE, hAA⟩ := hA.note hk
    have hn : (msgAct m).kind ≠ -1 := by show ((m.k : Int)) ≠ -1; omega
    have hp := fun i => pay_other (A := P.A) hn i
    have hi9 : m.i = 9 := C.only m.i hm.2.1
    have hkk := hm.1.kinds
    obtain ⟨s4, s5, s6⟩ := note_st hd hm.2.1 (m := m) ⟨by omega, hkk.2.1⟩
    rw [hi9] at s4 s5 s6
    refine ⟨by rw [hAA, (hp 9).1]; exact C.f9, fun i h => by rw [hAA, (hp i).1] at h; exact C.only i h, by rw [hAA, (hp 9).2]; exact C.legs, by rw [hE]; exact C.op, ?_⟩
    rw [hAA]
    have hk3 : m.k = 4 ∨ m.k = 5 ∨ m.k = 6 := by omega
    rcases hk3 with h | h | h
    · rw [s4 h]
      split
      · simp only
        intro e
        rw [C.legs] at e
        split at e
        · omega
        · assumption
      · rename_i h1
        exact fun e => absurd e h1
    · rw [s5 h]
      split
      · intro e; simp at e
      · rename_i h1
        exact fun e => absurd e h1
    · rw [s6 h]
      exact C.nf
/-- what the leg of a message looks like behind it, for each kind -/
theorem leg_kinds (C : PrC L P) (G : Good P) (hm : OnW P m) (hk : m.k ≤ 3) : ∃ x, L[m.l]? = some x ∧ x.b = m.t ∧ m.i = 9 ∧ 1 ≤ m.t ∧ m.t ≤ 3 ∧ m = askMsg (payO P.A 9) x m.l m.k ∧ hErrOf m (P.E m.t) = 0 := by
  obtain ⟨ck, ps, hd⟩ := G.dr
  obtain ⟨h1, h2, h3⟩ := G.inv.bankOk hd hm hk
  obtain ⟨ac, ls, hr⟩ := G.rl m.t h1 h2
  have h0 := h3 hr
  obtain ⟨x, hx, hb, he, _⟩ := G.inv.legStep hd hm hk h0
  have hi9 : m.i = 9 := C.only m.i hm.2.1
  rw [hi9, C.legs] at hx
  rw [hi9] at he
  exact ⟨x, hx, hb, hi9, h1, h2, he, h0⟩
theorem leg_of (C : PrC L P) (G : Good P) {l : Nat} {x : Pl} (hx : L[l]? = some x) : LegInv (stA P.A 9).1 (bitB (stA P.A 9).2.1 l) (bitB (stA P.A 9).2.2.1 l) (legOf 9 l (P.E x.b)).1 := G.inv.leg 9 l x C.f9 (by rw [C.legs]; exact hx)
/-- the legs' state behind a message to a bank -/
theorem ls_bank (hA : After P Q m) (hk : m.k ≤ 3) (b i l : Nat) : legOf i l (Q.E b) = if b = m.t ∧ i = m.i ∧ l = m.l then legOf m.i m.l (hEvsOf m (P.E m.t)) else legOf i l (P.E b) := by
  rw [(hA.bank hk).1]
  split
  · rename_i h
    obtain ⟨rfl, rfl, rfl⟩ := h
    rw [upd_self]
  · rename_i h
    exact upd_leg h
/-- what the notary says when it decides, and when it has -/
theorem says_all {A : List Dt} {m : Msg} (h1 : (stA A m.i).1 = 1) (h2 : (stA (A ++ [msgAct m]) m.i).1 ≠ 1) (hp : payO (A ++ [msgAct m]) m.i = payO A m.i) (h6 : m.k ≠ 6) {l : Nat} {x : Pl} (hx : (payO A m.i).legs[l]? = some x) : askMsg (payO A m.i) x l (askKind (stA (A ++ [msgAct m]) m.i).1) ∈ nOuts m A := by
  unfold nOuts nSay
  have e1 : (stOf (findOf m.i A).1 A).1 = 1 := h1
  have e3 : (stOf (findOf m.i A).1 (A ++ [msgAct m])).1 = (stA (A ++ [msgAct m]) m.i).1 := by
    show _ = (stOf (payO (A ++ [msgAct m]) m.i) (A ++ [msgAct m])).1
    rw [hp]
    rfl
  rw [if_neg h6, e1, e3, if_neg (fun c => h2 c.2), if_pos rfl]
  refine (asksM_mem _ _ _ _).2 ⟨l, x, ?_, hx, rfl⟩
  unfold withOf
  simp
end
/-- nothing is denied: all is paid -/
structure PrOk (L : List Pl) (P : PN) : Prop where
  c : PrC L P
  st : (stA P.A 9).1 = 1 ∨ (stA P.A 9).1 = 2
  nd : ∀ l x, L[l]? = some x → (legOf 9 l (P.E x.b)).1 ≠ 2
  ob1 : (stA P.A 9).1 = 1 → ∀ l x, L[l]? = some x → bitB (stA P.A 9).2.1 l = true ∨ ∃ y, y ∈ P.wire ∧ y.l = l ∧ (y.k = 1 ∨ y.k = 4)
  ob2 : (stA P.A 9).1 = 2 → ∀ l x, L[l]? = some x → (legOf 9 l (P.E x.b)).1 = 3 ∨ ∃ y, y ∈ P.wire ∧ y.l = l ∧ y.k = 2
theorem sumBy_zero (ks : List (Nat × Nat)) (g : Nat × Nat → Nat) (h : ∀ x, x ∈ ks → g x = 0) : sumBy ks g = 0 := by
  induction ks with
  | nil => rfl
  | cons x r ih =>
    unfold sumBy at *
    rw [List.map_cons, List.sum_cons, h x (by simp), ih (fun y hy => h y (by simp [hy]))]
theorem sumBy_bd (ks : List (Nat × Nat)) (g : Nat × Nat → Nat) (B : Nat) (h : ∀ x, x ∈ ks → g x ≤ B) : sumBy ks g ≤ ks.length * B := by
  induction ks with
  | nil => simp [sumBy]
  | cons x r ih =>
    have h1 := ih (fun y hy => h y (by simp [hy]))
    have h2 := h x (by simp)
    unfold sumBy at *
    rw [List.map_cons, List.sum_cons, List.length_cons, Nat.succ_mul]
    omega
/-- a bank's keys are legs of the one payment -/
theorem keys_few {L : List Pl} {P : PN} (C : PrC L P) (G : Good P) {b : Nat} (hb : 1 ≤ b ∧ b ≤ 3) : (∀ x, x ∈ keysOf (P.E b) → x.1 = 9 ∧ ∃ y, L[x.2]? = some y ∧ y.b = b) ∧ ∀ l, l < L.length → L.length ≤ 4 → (legOf 9 l (P.E b)).1 = 0 → (keysOf (P.E b)).length ≤ 3 := by
  obtain ⟨ac, ls, hr⟩ := G.rl b hb.1 hb.2
  have hkey : ∀ x, x ∈ keysOf (P.E b) → (legOf x.1 x.2 (P.E b)).1 ≠ 0 := fun x hx => by
    have h1 := (hr.keys.mem_iff).2 hx
    obtain ⟨z, hz, rfl⟩ := List.mem_map.1 h1
    have := hr.leg z hz
    unfold LegIs at this
    unfold keyL
    simp only
    omega
  have hin : ∀ x, x ∈ keysOf (P.E b) → x.1 = 9 ∧ ∃ y, L[x.2]? = some y ∧ y.b = b := fun x hx => by
    obtain ⟨hf, y, hy, hyb⟩ := G.inv.kept b x.1 x.2 hb.1 hb.2 (hkey x hx)
    have h9 := C.only _ hf
    rw [h9, C.legs] at hy
    exact ⟨h9, y, hy, hyb⟩
  refine ⟨hin, fun l hl h4 h0 => ?_⟩
  have hn : (keysOf (P.E b)).Pairwise (· ≠ ·) := (hr.keys.pairwise_iff (fun {a b} h => Ne.symm h)).1 (keys_nodup hr.sort)
  have h := nodup_le ((9, l) :: keysOf (P.E b)) ((List.range L.length).map fun k => (9, k)) (List.pairwise_cons.2 ⟨fun y hy e => ?_, hn⟩) (fun y hy => ?_)
  · simp only [List.length_cons, List.length_map, List.length_range] at h
    omega
  · subst e
    exact hkey _ hy h0
  · rcases List.mem_cons.1 hy with rfl | hy
    · exact List.mem_map.2 ⟨l, List.mem_range.2 hl, rfl⟩
    · obtain ⟨h9, z, hz, _⟩ := hin y hy
      refine List.mem_map.2 ⟨y.2, List.mem_range.2 (List.getElem?_eq_some_iff.1 hz).1, ?_⟩
      rw [← h9]
end Go.Proofs.Ytjkhbjgfoopomaa
