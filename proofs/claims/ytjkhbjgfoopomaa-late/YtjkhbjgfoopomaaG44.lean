import Derived.Test.YtjkhbjgfoopomaaG43
/-
  Networks: rounds.
-/
namespace Go.Proofs.Ytjkhbjgfoopomaa
open Go.RowKit
set_option linter.unusedVariables false
set_option linter.unusedSimpArgs false
/-- what goes on from tick to tick of a round, through its flush, and from round to round -/
structure Rolls (J : Nat → Nat → PN → Prop) : Prop where
  clock : ∀ i k Q, J i k Q → clockOf Q.A ≤ 1000000
  note : ∀ i Q ms, Good Q → J i 0 Q → TickSays Q.A ms → Good (tickTo Q ms) → J i 1 (tickTo Q ms)
  bank : ∀ i k Q ac ls, 1 ≤ k → k ≤ 3 → Good Q → Rel (Q.E k) ac ls → J i k Q → J i (k + 1) { Q with wire := Q.wire ++ tickM k ls }
  flush : ∀ i, Steady (J i 4)
  done : ∀ i Q, Good Q → J i 4 Q → Q.wire = [] → J (i + 1) 0 Q
/-- ahead of tick k of round i -/
def RSt (w0 : World) (own0 : Nat → Nat) (nb : Nat) (J : Nat → Nat → PN → Prop) (i k : Nat) (u : World) : Prop :=
  ∃ own M Q, NetAt u own nb 3 M Q ∧ Frame w0 u own0 own ∧ NInv Q ∧ J i k Q ∧ Q.wire.length ≤ 10000000000 + 128 * k ∧ (∀ j, (Q.lg j).length ≤ 10000000000000000 + 20000000000000 * i + k) ∧ (0 < i → k = 0 → Q.wire = [])
theorem tick_inv {P : PN} {ms : List Msg} {ck : Nat} {ps : List Xp} (hI : NInv P) (hT : TickSays P.A ms) (hd : DRel (kActs P.A) ck ps) : NInv (tickTo P ms) := by
  rcases hT.2 with ⟨h1, rfl⟩ | ⟨h1, qs, hP, rfl⟩
  · refine hI.less rfl (if_pos h1) (fun m hm => ?_)
    simpa [tickTo] using hm
  · have e : kActs P.A = P.A ++ [tickAct] := if_neg (by omega)
    rw [e] at hd
    exact hI.tick ⟨_, _, hd⟩ hP rfl e (fun y hy => List.mem_append.1 hy)
theorem tick_any {J : Nat → Nat → PN → Prop} (hJ : Rolls J) (w0 : World) (own0 : Nat → Nat) (nb i k : Nat) (hi : i ≤ 1000) (hk : k ≤ 3) (u : World) (h : RSt w0 own0 nb J i k u) :
    Calls Try.prog 57 #[.pointer (some ⟨nb, 0, none⟩), .int .i64 (k : Int)] u fun e w' => e = .returned (.bool true) ∧ RSt w0 own0 nb J i (k + 1) w' := by
  obtain ⟨own, M, Q, I, F, hI, hQ, hw, hl, _⟩ := h
  by_cases h0 : k = 0
  · subst h0
    refine (tick_note u own nb M Q I (hJ.clock _ _ _ hQ) (by omega) (by have := hl 0; omega)).mono ?_
    rintro e w' ⟨rfl, own', M', ms, hs, I', F'⟩
    have hN := tick_inv hI hs I'.deed.rel
    refine ⟨rfl, own', M', _, I', F.trans F', hN, hJ.note i Q ms (I.good hI) hQ hs (I'.good hN), ?_, fun j => ?_, fun _ h => by omega⟩
    · show (Q.wire ++ ms).length ≤ _
      rw [List.length_append]
      have := hs.1
      omega
    · show (upd Q.lg 0 (Q.lg 0 ++ kLog Q.A) j).length ≤ _
      have := hl j
      unfold upd
      split
      · rename_i e
        subst e
        rw [List.length_append]
        have : (kLog Q.A).length ≤ 1 := by unfold kLog; split <;> simp
        omega
      · omega
  · have hr := (I.bank k (by omega) hk).rel
    refine (tick_bank u own nb M Q I k ⟨by omega, hk⟩ (by omega)).mono ?_
    rintro e w' ⟨rfl, own', M', I', F'⟩
    have hN : NInv { Q with wire := Q.wire ++ tickM k (M.bk k).ls } := hI.tickB I.deed.rel ⟨by omega, hk⟩ hr rfl rfl (fun y hy => List.mem_append.1 hy)
    refine ⟨rfl, own', M', _, I', F.trans F', hN, hJ.bank i k Q _ _ (by omega) hk (I.good hI) hr hQ, ?_, fun j => ?_, fun _ h => by omega⟩
    · show (Q.wire ++ tickM k (M.bk k).ls).length ≤ _
      rw [List.length_append]
      have := tickM_len k (M.bk k).ls
      have := hr.llen
      omega
    · have := hl j
      show (Q.lg j).length ≤ _
      omega
theorem flush_round {J : Nat → Nat → PN → Prop} (hJ : Rolls J) (w0 : World) (own0 : Nat → Nat) (nb i : Nat) (hi : i ≤ 1000) (u : World) (h : RSt w0 own0 nb J i 4 u) :
    Calls Try.prog 28 #[.pointer (some ⟨nb, 0, none⟩)] u fun e w' => e = .returned (.bool true) ∧ RSt w0 own0 nb J (i + 1) 0 w' := by
  obtain ⟨own, M, Q, I, F, hI, hQ, hw, hl, _⟩ := h
  refine (flush_any (J i 4) (hJ.flush i) u own nb M Q I hI hQ (by omega) (fun j => by have := hl j; omega)).mono ?_
  rintro e w' ⟨rfl, own', M', Q', I', F', hI', hQ', hw', hl'⟩
  refine ⟨rfl, own', M', Q', I', F.trans F', hI', hJ.done i Q' (I'.good hI') hQ' hw', by rw [hw']; simp, fun j => ?_, fun _ _ => hw'⟩
  have := hl j
  have := hl' j
  omega
set_option maxRecDepth 100000 in
set_option maxHeartbeats 4000000 in
theorem rounds_any {J : Nat → Nat → PN → Prop} (hJ : Rolls J) (w0 : World) (own0 : Nat → Nat) (nb c : Nat) (hc : c ≤ 1000) (w : World) (h : RSt w0 own0 nb J 0 0 w) :
    Calls Try.prog 34 #[.pointer (some ⟨nb, 0, none⟩), .int .i64 (c : Int)] w fun e w' => e = .returned (.bool true) ∧ RSt w0 own0 nb J c 0 w' := by
  have hT := hide (fun i k u h1 h2 h3 => tick_any hJ w0 own0 nb i k h1 h2 u h3)
  have hF := hide (fun i u h1 h3 => flush_round hJ w0 own0 nb i h1 u h3)
  generalize hR : RSt w0 own0 nb J = R at *
  clear hR
  replace h := hide h
  go_enter Try.func34, Try.ntmps34
  go_wp2_with fail
  go_loopw [5] (fun x u => ∃ i : Nat, i ≤ c ∧ x = .int .i64 (i : Int) ∧ R i 0 u) (fun x _ => c + 1 - (intOf x).toNat)
  case atStart => exact ⟨0, by omega, rfl, h.out⟩
  case round =>
    clear h
    obtain ⟨i, hi, rfl, hr⟩ := hrel
    replace hr := hide hr
    by_cases hlt : i < c
    · have d1 : decide ((i : Int) < (c : Int)) = true := by simp; omega
      have W3 : IntKind.i64.wrap ((i : Int) + 1) = ((i + 1 : Nat) : Int) := by rw [IntKind.wrap_i64]; omega
      go_wp2_with fail
      go_loopw [6] (fun x u => ∃ k : Nat, k ≤ 4 ∧ x = .int .i64 (k : Int) ∧ R i k u) (fun x _ => 5 - (intOf x).toNat)
      case atStart => exact ⟨0, by omega, rfl, hr.out⟩
      case round =>
        clear hr
        obtain ⟨k, hk, rfl, hr⟩ := hrel
        by_cases hk3 : k ≤ 3
        · have hC := hide (hT.out i k wr (by omega) hk3 hr)
          clear hr
          go_wp2_with fail
          refine hC.out.mono ?_
          rintro e u ⟨rfl, hu⟩
          replace hu := hide hu
          clear hC
          go_wp2
          exact ⟨⟨k + 1, by omega, by go_num, hu.out⟩, by simp [intOf]; omega⟩
        · obtain rfl : k = 4 := by omega
          have hC := hide (hF.out i wr (by omega) hr)
          clear hr
          go_wp2_with fail
          refine hC.out.mono ?_
          rintro e u ⟨rfl, hu⟩
          replace hu := hide hu
          clear hC
          go_wp2
          exact ⟨⟨i + 1, by omega, by go_num, hu.out⟩, by simp [intOf]; omega⟩
    · obtain rfl : i = c := by omega
      go_wp2
      go_ret
      exact ⟨rfl, hr.out⟩
end Go.Proofs.Ytjkhbjgfoopomaa
/-
  Plain: a payment one of whose legs is never asked for.
-/
namespace Go.Proofs.Ytjkhbjgfoopomaa
set_option linter.unusedVariables false
set_option linter.unusedSimpArgs false
theorem nOuts_k {A : List Dt} {m y : Msg} (h : y ∈ nOuts m A) : y.k ≠ 1 := by
  have key : ∀ p x l st, st ≠ 1 → (askMsg p x l (askKind st)).k ≠ 1 := fun p x l st h => by
    have := ask_parts p x l (askKind st)
    have hk := askKind_of st
    rw [this.1]
    omega
  unfold nOuts nSay at h
  split at h
  · simp at h
  · split at h
    · simp at h
    · rename_i hn
      split at h
      · rename_i h1
        obtain ⟨l, x, _, _, rfl⟩ := (asksM_mem _ _ _ _).1 h
        exact key _ _ _ _ (fun e => hn ⟨h1, e⟩)
      · rename_i h1
        cases hx : (findOf m.i A).1.legs[m.l]? with
        | none => rw [hx] at h; simp at h
        | some x =>
          rw [hx] at h
          simp only [List.mem_singleton] at h
          rw [h]
          exact key _ _ _ _ h1
/-- how a payment stands whose leg ms is never asked for; its deadline; the clock -/
structure LtC (L : List Pl) (ms d c : Nat) (P : PN) : Prop where
  f9 : fnd P.A 9 = true
  only : ∀ i, fnd P.A i = true → i = 9
  legs : (payO P.A 9).legs = L
  dl : (payO P.A 9).dl = d
  clk : clockOf P.A = c
  st : (stA P.A 9).1 = 1 ∨ (stA P.A 9).1 = 3
  held : bitB (stA P.A 9).2.1 ms = false
  leg : ∀ x, L[ms]? = some x → (legOf 9 ms (P.E x.b)).1 = 0 ∨ (legOf 9 ms (P.E x.b)).1 = 4
  np : ∀ y, y ∈ P.wire → y.l = ms → y.k ≠ 1
/-- the leg has been let go, or a word of it is under way -/
def Ob (L : List Pl) (ms : Nat) (P : PN) : Prop := ∀ x, L[ms]? = some x → (legOf 9 ms (P.E x.b)).1 = 4 ∨ ∃ y, y ∈ P.wire ∧ y.l = ms ∧ y.k = 3
section
variable {L : List Pl} {ms d c : Nat} {P Q : PN} {m : Msg}
theorem LtC.kinds (C : LtC L ms d c P) (G : Good P) (hm : OnW P m) (hk : m.k ≤ 3) : ∃ x, L[m.l]? = some x ∧ x.b = m.t ∧ m.i = 9 ∧ hErrOf m (P.E m.t) = 0 ∧ 1 ≤ m.k ∧ m.k ≠ 2 := by
  obtain ⟨ck, ps, hd⟩ := G.dr
  obtain ⟨h1, h2, h3⟩ := G.inv.bankOk hd hm hk
  obtain ⟨ac, ls, hr⟩ := G.rl m.t h1 h2
  have h0 := h3 hr
  obtain ⟨x, hx, hb, he, _⟩ := G.inv.legStep hd hm hk h0
  have hi9 : m.i = 9 := C.only m.i hm.2.1
  refine ⟨x, by rw [← C.legs, ← hi9]; exact hx, hb, hi9, h0, hm.1.kinds.1, fun h2' => ?_⟩
  obtain ⟨_, _, x', _, ⟨_, _, h2, _⟩ | ⟨h4, _⟩⟩ := hm
  · have := h2 h2'
    rw [hi9] at this
    have := C.st
    omega
  · omega
theorem LtC.step (C : LtC L ms d c P) (hms : ms < L.length) (G : Good P) (hm : m ∈ P.wire) (hA : After P Q m) (hsub : ∀ y, y ∈ Q.wire → y ∈ P.wire ∨ y ∈ arrOuts P m) : LtC L ms d c Q := by
  have hO := G.inv.wire m hm
  obtain ⟨ck, ps, hd⟩ := G.dr
  have hi9 : m.i = 9 := C.only m.i hO.2.1
  have hS := hd.stand C.f9
  have hn4 : L.length ≤ 4 := by rw [← C.legs]; exact hS.few
  by_cases hk : m.k ≤ 3
  · obtain ⟨hE, hAA⟩ := hA.bank hk
    obtain ⟨x0, hx0, hb0, _, h0, hk1, hk2⟩ := C.kinds G hO hk
    refine ⟨by rw [hAA]; exact C.f9, by rw [hAA]; exact C.only, by rw [hAA]; exact C.legs, by rw [hAA]; exact C.dl, by rw [hAA]; exact C.clk, by rw [hAA]; exact C.st, by rw [hAA]; exact C.held, fun x hx => ?_, fun y hy hl => ?_⟩
    · rw [ls_bank hA hk]
      split
      · rename_i h
        have h1 : m.k ≠ 1 := C.np m hm h.2.2.symm
        have h3 : m.k = 3 := by omega
        right
        rw [((leg_after h0 ⟨hk1, hk⟩).2.2 h3).2]
      · exact C.leg x hx
    · rcases hsub y hy with h | h
      · exact C.np y h hl
      · unfold arrOuts at h
        rw [if_pos hk] at h
        simp only [List.mem_singleton] at h
        rw [h]
        show kindFor _ ≠ 1
        unfold kindFor
        (repeat' split) <;> omega
  · obtain ⟨hE, hAA⟩ := hA.note hk
    have hn : (msgAct m).kind ≠ -1 := by show ((m.k : Int)) ≠ -1; omega
    have hp := fun i => pay_other (A := P.A) hn i
    have hkk := hO.1.kinds
    obtain ⟨s4, s5, s6⟩ := note_st hd hO.2.1 (m := m) ⟨by omega, hkk.2.1⟩
    rw [hi9] at s4 s5 s6
    have hclk : clockOf (P.A ++ [msgAct m]) = clockOf P.A := by
      rw [clockOf_snoc]
      unfold clockStep
      exact if_neg (by show ¬ ((m.k : Int)) = 0; omega)
    have hh16 := pow_16 hS.few hS.room
    have hnp : ∀ y, y ∈ Q.wire → y.l = ms → y.k ≠ 1 := fun y hy hl => by
      rcases hsub y hy with h | h
      · exact C.np y h hl
      · unfold arrOuts at h
        rw [if_neg hk] at h
        exact nOuts_k h
    have main : ((stA (P.A ++ [msgAct m]) 9).1 = 1 ∨ (stA (P.A ++ [msgAct m]) 9).1 = 3) ∧ bitB (stA (P.A ++ [msgAct m]) 9).2.1 ms = false := by
      have hk3 : m.k = 4 ∨ m.k = 5 ∨ m.k = 6 := by omega
      rcases hk3 with h | h | h
      · rw [s4 h]
        split
        · rename_i h1
          have hne : ms ≠ m.l := fun e => by
            obtain ⟨_, _, x, hx, ⟨h3, _⟩ | ⟨_, hfx, a4, _, _⟩⟩ := hO
            · omega
            · have a := a4 h
              have hx' := hx
              rw [hi9] at a hx'
              have hL := G.inv.leg 9 m.l x C.f9 hx'
              rw [C.legs, ← e] at hx'
              have hl := C.leg x hx'
              rw [e] at hl
              have := (hL.1 h1).1
              omega
          have hbit : bitB (withOf (stA P.A 9).2.1 m.l) ms = false := by
            rw [bit_with _ _ _ hh16 hkk.2.2.1 (by omega), C.held]
            simp [hne]
          refine ⟨?_, hbit⟩
          simp only
          rw [if_neg]
          · exact .inl rfl
          · intro e
            rw [e, C.legs, bit_full _ _ hn4 hms] at hbit
            cases hbit
        · exact ⟨C.st, C.held⟩
      · rw [s5 h]
        split
        · exact ⟨.inr rfl, C.held⟩
        · exact ⟨C.st, C.held⟩
      · rw [s6 h]
        exact ⟨C.st, C.held⟩
    exact ⟨by rw [hAA, (hp 9).1]; exact C.f9, fun i h => by rw [hAA, (hp i).1] at h; exact C.only i h, by rw [hAA, (hp 9).2]; exact C.legs, by rw [hAA, (hp 9).2]; exact C.dl, by rw [hAA, hclk]; exact C.clk, by rw [hAA]; exact main.1, by rw [hAA]; exact main.2, by rw [hE]; exact C.leg, hnp⟩
theorem Ob.step (O : Ob L ms P) (C : LtC L ms d c P) (G : Good P) (hm : m ∈ P.wire) (hA : After P Q m) : Ob L ms Q := by
  intro x hx
  have hO := G.inv.wire m hm
  have hi9 : m.i = 9 := C.only m.i hO.2.1
  by_cases hk : m.k ≤ 3
  · obtain ⟨x0, hx0, hb0, _, h0, hk1, hk2⟩ := C.kinds G hO hk
    rw [ls_bank hA hk]
    split
    · rename_i h
      have h1 : m.k ≠ 1 := C.np m hm h.2.2.symm
      left
      rw [((leg_after h0 ⟨hk1, hk⟩).2.2 (by omega)).2]
    · rename_i h
      rcases O x hx with h4 | ⟨y, hy, hl, hy3⟩
      · exact .inl h4
      · right
        rcases hA.wire.old y hy with e | e
        · exfalso
          subst e
          refine h ⟨?_, hi9.symm, hl.symm⟩
          rw [hl, hx] at hx0
          injection hx0 with e
          rw [e]; exact hb0
        · exact ⟨y, e, hl, hy3⟩
  · rw [(hA.note hk).1]
    rcases O x hx with h4 | ⟨y, hy, hl, hy3⟩
    · exact .inl h4
    · right
      rcases hA.wire.old y hy with e | e
      · subst e; omega
      · exact ⟨y, e, hl, hy3⟩
theorem arrive_sub {m : Msg} {rest : List Msg} (h : Q.wire = m :: rest) : ∀ y, y ∈ (arriveTo { Q with wire := rest } m).wire → y ∈ Q.wire ∨ y ∈ arrOuts Q m := by
  intro y hy
  unfold arriveTo at hy
  unfold arrOuts
  split at hy
  · rename_i hk
    rw [if_pos hk]
    rcases List.mem_append.1 hy with e | e
    · left; rw [h]; exact List.mem_cons_of_mem _ e
    · exact .inr e
  · rename_i hk
    rw [if_neg hk]
    rcases List.mem_append.1 hy with e | e
    · left; rw [h]; exact List.mem_cons_of_mem _ e
    · exact .inr e
theorem LtC.steady (hms : ms < L.length) : Steady (LtC L ms d c) := fun Q m rest G C h => C.step hms G (by rw [h]; simp) (arrive_after h) (arrive_sub h)
theorem tick_st (i : Nat) : stA (P.A ++ [tickAct]) i = (if (stA P.A i).1 = 1 ∧ (payO P.A i).dl ≤ (stA P.A i).2.2.2 + 1 then 3 else (stA P.A i).1, (stA P.A i).2.1, (stA P.A i).2.2.1, (stA P.A i).2.2.2 + 1) := by
  rw [stA_other (by show ((0 : Int)) ≠ -1; omega)]
  unfold stStep
  exact if_pos (show tickAct.kind = 0 from rfl)
/-- the clock goes on; the wire bears no word to the leg -/
theorem LtC.tick (C : LtC L ms d c P) (hE : Q.E = P.E) (hA : Q.A = P.A ++ [tickAct]) (hw : ∀ y, y ∈ Q.wire → y.l = ms → y.k ≠ 1) : LtC L ms d (c + 1) Q ∧ ((stA P.A 9).1 = 1 → ((stA Q.A 9).1 = 3 ↔ d ≤ c + 1)) ∧ ((stA P.A 9).1 = 3 → (stA Q.A 9).1 = 3) := by
  have hn : tickAct.kind ≠ -1 := by show ((0 : Int)) ≠ -1; omega
  have hp := fun i => pay_other (A := P.A) hn i
  have h9 : stA Q.A 9 = (if (stA P.A 9).1 = 1 ∧ d ≤ c + 1 then 3 else (stA P.A 9).1, (stA P.A 9).2.1, (stA P.A 9).2.2.1, c + 1) := by
    have e : (stA P.A 9).2.2.2 = c := by rw [← C.clk]; exact stOf_clock _ _
    rw [hA, tick_st, C.dl, e]
  have hst := C.st
  refine ⟨⟨by rw [hA, (hp 9).1]; exact C.f9, fun i h => by rw [hA, (hp i).1] at h; exact C.only i h, by rw [hA, (hp 9).2]; exact C.legs, by rw [hA, (hp 9).2]; exact C.dl, ?_, ?_, by rw [h9]; exact C.held, by rw [hE]; exact C.leg, hw⟩, fun h1 => ?_, fun h3 => ?_⟩
  · rw [hA, clockOf_snoc, C.clk]
    rfl
  · rw [h9]
    simp only
    split
    · exact .inr rfl
    · exact hst
  · rw [h9]
    simp only
    rw [h1]
    by_cases hh : d ≤ c + 1
    · simp [hh]
    · simp [hh]
  · rw [h9]
    simp only
    rw [if_neg (by omega)]
    exact h3
theorem with_bit (b l : Nat) (hb : b < 16) (hl : l < 4) (h : bitB b l = false) : withOf b l ≠ b := by
  have : ∀ b : Fin 16, ∀ l : Fin 4, bitB b.val l.val = false → withOf b.val l.val ≠ b.val := by decide
  exact this ⟨b, hb⟩ ⟨l, hl⟩ h
/-- behind a tick the notary speaks of the leg, if it stands open -/
theorem says_leg (C : LtC L ms d c Q) (hms : ms < L.length) (hd : ∃ ck ps, DRel Q.A ck ps) {qs : List Pm} (hP : Pays Q.A qs) (hb : (stA Q.A 9).1 = 3 → bitB (stA Q.A 9).2.2.1 ms = false) : ∃ y, y ∈ saysM qs Q.A ∧ y.l = ms ∧ y.k = askKind (stA Q.A 9).1 := by
  obtain ⟨ck, ps, hd⟩ := hd
  have hS := hd.stand C.f9
  have hn4 : L.length ≤ 4 := by rw [← C.legs]; exact hS.few
  have hh16 := pow_16 hS.few hS.room
  obtain ⟨x, hx, hk, hid, hp⟩ := findOf_mem C.f9
  have hq : payO Q.A 9 ∈ qs := (hP.mem _).2 ⟨x, hx, hk, hp.symm⟩
  have hl : (payO Q.A 9).legs[ms]? = some (L[ms]'hms) := by rw [C.legs]; exact List.getElem?_eq_getElem _
  refine ⟨askMsg (payO Q.A 9) (L[ms]'hms) ms (askKind (stA Q.A 9).1), List.mem_flatMap.2 ⟨_, hq, ?_⟩, (ask_parts _ _ _ _).2.2.2.2, (ask_parts _ _ _ _).1⟩
  unfold remindM
  have e : stOf (payO Q.A 9) Q.A = stA Q.A 9 := rfl
  rw [e]
  rcases C.st with h | h
  · rw [if_pos h, h]
    exact (asksM_mem _ _ _ _).2 ⟨ms, _, with_bit _ _ hh16 (by omega) C.held, hl, rfl⟩
  · rw [if_neg (by omega)]
    exact (asksM_mem _ _ _ _).2 ⟨ms, _, with_bit _ _ hS.done (by omega) (hb h), hl, rfl⟩
end
end Go.Proofs.Ytjkhbjgfoopomaa
/-
  Plain: a payment one of whose legs is never asked for: the rounds behind its deadline.
-/
namespace Go.Proofs.Ytjkhbjgfoopomaa
set_option linter.unusedVariables false
set_option linter.unusedSimpArgs false
section
variable {L : List Pl} {ms d c : Nat} {P Q : PN} {m : Msg}
theorem st3_step (C : LtC L ms d c P) (h3 : (stA P.A 9).1 = 3) (G : Good P) (hm : m ∈ P.wire) (hA : After P Q m) : (stA Q.A 9).1 = 3 := by
  have hO := G.inv.wire m hm
  obtain ⟨ck, ps, hd⟩ := G.dr
  have hi9 : m.i = 9 := C.only m.i hO.2.1
  by_cases hk : m.k ≤ 3
  · rw [(hA.bank hk).2]; exact h3
  · rw [(hA.note hk).2]
    have hkk := hO.1.kinds
    obtain ⟨s4, s5, s6⟩ := note_st hd hO.2.1 (m := m) ⟨by omega, hkk.2.1⟩
    rw [hi9] at s4 s5 s6
    have hk3 : m.k = 4 ∨ m.k = 5 ∨ m.k = 6 := by omega
    rcases hk3 with h | h | h
    · rw [s4 h, if_neg (by omega)]; exact h3
    · rw [s5 h, if_neg (by omega)]; exact h3
    · rw [s6 h]; exact h3
/-- ahead of tick k of round i behind the deadline -/
def LtJ (L : List Pl) (ms d : Nat) (i k : Nat) (Q : PN) : Prop := ∃ c, LtC L ms d c Q ∧ (stA Q.A 9).1 = 3 ∧ c ≤ 1000000 ∧ (i ≤ 2 → c = d + i + min k 1) ∧ (0 < i + k → Ob L ms Q)
theorem LtC.more (C : LtC L ms d c P) (hE : Q.E = P.E) (hA : Q.A = P.A) (hw : ∀ y, y ∈ Q.wire → y ∈ P.wire ∨ y.k ≠ 1) : LtC L ms d c Q := by
  obtain ⟨E, A, wire, lg, sm⟩ := Q
  simp only at hE hA hw
  subst hE hA
  exact ⟨C.f9, C.only, C.legs, C.dl, C.clk, C.st, C.held, C.leg, fun y hy hl => (hw y hy).elim (fun h => C.np y h hl) id⟩
theorem Ob.more (O : Ob L ms P) (hE : Q.E = P.E) (hw : ∀ y, y ∈ P.wire → y ∈ Q.wire) : Ob L ms Q := by
  intro x hx
  rw [hE]
  rcases O x hx with h | ⟨y, hy, h⟩
  · exact .inl h
  · exact .inr ⟨y, hw y hy, h⟩
theorem late_rolls (hms : ms < L.length) (hd30 : d ≤ 30) : Rolls (LtJ L ms d) := by
  refine ⟨?_, ?_, ?_, ?_, ?_⟩
  · rintro i k Q ⟨c, C, _, hc, _⟩
    rw [C.clk]; exact hc
  · rintro i Q ms' G ⟨c, C, h3, hc, hi, hO⟩ hT G'
    rcases hT.2 with ⟨h1, rfl⟩ | ⟨h1, qs, hP, rfl⟩
    · have e : kActs Q.A = Q.A := if_pos h1
      rw [C.clk] at h1
      have hi2 : ¬ i ≤ 2 := fun h => by have := hi h; simp at this; omega
      refine ⟨c, C.more (Q := tickTo Q []) rfl e (fun y hy => .inl (by simpa [tickTo] using hy)), ?_, hc, fun h => absurd h hi2, fun _ => (hO (by omega)).more rfl (fun y hy => by simpa [tickTo] using hy)⟩
      show (stA (kActs Q.A) 9).1 = 3
      rw [e]; exact h3
    · have e : kActs Q.A = Q.A ++ [tickAct] := if_neg (by omega)
      rw [C.clk] at h1
      have hwk : ∀ y, y ∈ saysM qs (Q.A ++ [tickAct]) → y.k ≠ 1 := fun y hy => by
        obtain ⟨q, hq, hy'⟩ := List.mem_flatMap.1 hy
        obtain ⟨l, x, hx, he⟩ := remindM_mem q _ y hy'
        obtain ⟨hf, hp⟩ := hP.payO hq
        have hn : tickAct.kind ≠ -1 := by show ((0 : Int)) ≠ -1; omega
        rw [(pay_other hn _).1] at hf
        have h9 := C.only _ hf
        rw [he, (ask_parts _ _ _ _).1]
        have est : stOf q (Q.A ++ [tickAct]) = stA (Q.A ++ [tickAct]) 9 := by
          unfold stA
          rw [← h9, hp]
        rw [est, tick_st]
        simp only
        rw [h3, if_neg (by omega)]
        decide
      obtain ⟨C', _, h3'⟩ := C.tick (Q := tickTo Q (saysM qs (Q.A ++ [tickAct]))) rfl e (fun y hy hl => by
        rcases List.mem_append.1 hy with h | h
        · exact C.np y h hl
        · exact hwk y h)
      have h3q := h3' h3
      refine ⟨c + 1, C', h3q, by omega, fun h => by have := hi h; simp at this ⊢; omega, fun _ => fun x hx => ?_⟩
      by_cases hb : bitB (stA (tickTo Q (saysM qs (Q.A ++ [tickAct]))).A 9).2.2.1 ms = true
      · left
        have hL := G'.inv.leg 9 ms x C'.f9 (by rw [C'.legs]; exact hx)
        exact (hL.2.2 h3q).2 hb
      · right
        have eA : (tickTo Q (saysM qs (Q.A ++ [tickAct]))).A = Q.A ++ [tickAct] := e
        obtain ⟨y, hy, hl, hk⟩ := says_leg C' hms G'.dr (qs := qs) (by rw [eA]; exact hP) (fun _ => by simpa using hb)
        refine ⟨y, List.mem_append_right _ ?_, hl, ?_⟩
        · rw [eA] at hy; exact hy
        · rw [hk, h3q]; rfl
  · rintro i k Q ac ls h1 h3 G hr ⟨c, C, hst, hc, hi, hO⟩
    refine ⟨c, C.more rfl rfl (fun y hy => (List.mem_append.1 hy).imp_right (fun h => ?_)), hst, hc, fun h => by have := hi h; omega, fun _ => (hO (by omega)).more rfl (fun y hy => List.mem_append_left _ hy)⟩
    obtain ⟨z, _, rfl⟩ := List.mem_map.1 h
    show kindFor 1 ≠ 1
    decide
  · rintro i Q m rest G ⟨c, C, hst, hc, hi, hO⟩ h
    have hm : m ∈ Q.wire := by rw [h]; simp
    exact ⟨c, C.step hms G hm (arrive_after h) (arrive_sub h), st3_step C hst G hm (arrive_after h), hc, hi, fun h' => (hO h').step C G hm (arrive_after h)⟩
  · rintro i Q G ⟨c, C, hst, hc, hi, hO⟩ hw
    exact ⟨c, C, hst, hc, fun h => by have := hi (by omega); simp at this ⊢; omega, fun _ => hO (by omega)⟩
theorem late_ends (C : LtC L ms d c P) (hms : ms < L.length) (h3 : (stA P.A 9).1 = 3) (G : Good P) (O : Ob L ms P) (hw : P.wire = []) : doneTo P 9 12 = false ∧ notTo P 9 12 = true := by
  obtain ⟨ck, ps, hd⟩ := G.dr
  have hS := hd.stand C.f9
  have hn4 : L.length ≤ 4 := by rw [← C.legs]; exact hS.few
  have hl : (payO P.A 9).legs[ms]? = some (L[ms]'hms) := by rw [C.legs]; exact List.getElem?_eq_getElem _
  have hb := G.inv.b3 9 C.f9 ms _ hl
  constructor
  · cases hx : doneTo P 9 12 with
    | false => rfl
    | true =>
      exfalso
      obtain ⟨k, hk, h⟩ := (anyTo_iff _ _).1 hx
      have h' : stE P 9 k = 3 := by simpa using h
      have hz : stE P 9 k ≠ 0 := by omega
      obtain ⟨hf, x, hx, hxb⟩ := G.inv.kept (1 + k / 4) 9 (k % 4) (by omega) (by omega) hz
      have hL := G.inv.leg 9 (k % 4) x hf hx
      rw [hxb] at hL
      exact (hL.2.2 h3).1 h'
  · rcases O (L[ms]'hms) (List.getElem?_eq_getElem _) with h | ⟨y, hy, _⟩
    · refine (anyTo_iff _ _).2 ⟨((L[ms]'hms).b - 1) * 4 + ms, by omega, ?_⟩
      have e : stE P 9 (((L[ms]'hms).b - 1) * 4 + ms) = 4 := by
        unfold stE
        rw [show (((L[ms]'hms).b - 1) * 4 + ms) % 4 = ms by omega, show 1 + (((L[ms]'hms).b - 1) * 4 + ms) / 4 = (L[ms]'hms).b by omega]
        exact h
      simp [e]
    · rw [hw] at hy; cases hy
end
end Go.Proofs.Ytjkhbjgfoopomaa
