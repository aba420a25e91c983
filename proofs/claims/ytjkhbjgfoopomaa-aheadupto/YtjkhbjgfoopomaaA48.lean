import Derived.Test.YtjkhbjgfoopomaaA39
import Derived.Test.YtjkhbjgfoopomaaA37
import Derived.Test.YtjkhbjgfoopomaaA40
import Derived.Test.YtjkhbjgfoopomaaA46
import Derived.Test.YtjkhbjgfoopomaaRows
import Derived.Deep.Slices
/-
  Plain: what is owed to each leg is on the wire; how it ends.
-/
namespace Go.Proofs.Ytjkhbjgfoopomaa
set_option linter.unusedVariables false
set_option linter.unusedSimpArgs false
/-- a payment that is accepted is held by all its legs; one that is pending is not; only its legs are done -/
def Ful (P : PN) : Prop := ∀ i, fnd P.A i = true → ((stA P.A i).1 = 2 → (stA P.A i).2.1 = fullOf (payO P.A i).legs.length) ∧ ((stA P.A i).1 = 1 → (stA P.A i).2.1 ≠ fullOf (payO P.A i).legs.length) ∧ (stA P.A i).2.2.1 < 2 ^ (payO P.A i).legs.length
theorem with_room (n b l : Nat) (hn : n ≤ 4) (hb : b < 2 ^ n) (hl : l < n) : withOf b l < 2 ^ n := by
  have key : ∀ n : Fin 5, ∀ b : Fin 16, ∀ l : Fin 4, b.val < 2 ^ n.val → l.val < n.val → withOf b.val l.val < 2 ^ n.val := by decide
  have h16 : b < 16 := pow_16 hn hb
  exact key ⟨n, by omega⟩ ⟨b, h16⟩ ⟨l, by omega⟩ hb hl
/-- what each leg waits for is on the wire -/
def Owed (P : PN) : Prop := ∀ i l x, fnd P.A i = true → (payO P.A i).legs[l]? = some x →
  ((stA P.A i).1 = 1 → bitB (stA P.A i).2.1 l = true ∨ ∃ y, y ∈ P.wire ∧ y.i = i ∧ y.l = l ∧ (y.k = 1 ∨ y.k = 4 ∨ y.k = 5)) ∧
  ((stA P.A i).1 ≠ 1 → bitB (stA P.A i).2.2.1 l = true ∨ ∃ y, y ∈ P.wire ∧ y.i = i ∧ y.l = l ∧ (y.k = askKind (stA P.A i).1 ∨ y.k = 6))
section
variable {P Q : PN} {m : Msg}
theorem kind_for (s : Nat) : (s = 1 → kindFor s = 4) ∧ (s = 2 → kindFor s = 5) ∧ (s = 3 ∨ s = 4 → kindFor s = 6) := by
  refine ⟨fun e => by subst e; rfl, fun e => by subst e; rfl, fun e => by rcases e with rfl | rfl <;> rfl⟩
theorem note_kinds (G : Good P) (hO : OnW P m) (hk : ¬ m.k ≤ 3) : (m.k = 4 ∨ m.k = 5 ∨ m.k = 6) ∧ (m.k = 6 → (stA P.A m.i).1 ≠ 1) ∧ (m.k = 5 → (stA P.A m.i).1 ≠ 2) := by
  have hkk := hO.1.kinds
  obtain ⟨ht, h0⟩ := G.inv.noteOk hO (by omega)
  refine ⟨by omega, fun h6 e => ?_, fun h5 e => ?_⟩
  · unfold nErr at h0
    rw [if_neg (by omega)] at h0
    split at h0
    · omega
    · rw [if_pos (.inr ⟨h6, e⟩)] at h0; omega
  · unfold nErr at h0
    rw [if_neg (by omega)] at h0
    split at h0
    · omega
    · rw [if_pos (.inl ⟨h5, e⟩)] at h0; omega
/-- when a pending payment is decided, all its legs are told -/
theorem nOuts_all {l : Nat} {x : Pl} (hl : l < 4) (hx : (payO P.A m.i).legs[l]? = some x) (h6 : m.k ≠ 6) (h1 : (stA P.A m.i).1 = 1) (hn : (stA (P.A ++ [msgAct m]) m.i).1 ≠ 1) (hp : payO (P.A ++ [msgAct m]) m.i = payO P.A m.i) : askMsg (payO P.A m.i) x l (askKind (stA (P.A ++ [msgAct m]) m.i).1) ∈ nOuts m P.A := by
  have e2 : (stOf (findOf m.i P.A).1 P.A).1 = 1 := h1
  have e3 : (stOf (findOf m.i P.A).1 (P.A ++ [msgAct m])).1 = (stA (P.A ++ [msgAct m]) m.i).1 := by
    unfold stA
    rw [hp]
    rfl
  unfold nOuts nSay
  rw [if_neg h6, e3, e2, if_neg (fun h => hn h.2), if_pos rfl]
  rw [asksM_mem]
  refine ⟨l, x, ?_, hx, rfl⟩
  have : ∀ l : Fin 4, withOf 0 l.val ≠ 0 := by decide
  exact this ⟨l, hl⟩
theorem Ful.step (F : Ful P) (G : Good P) (hm : OnW P m) (hA : After P Q m) : Ful Q := by
  obtain ⟨ck, ps, hd⟩ := G.dr
  by_cases hk : m.k ≤ 3
  · intro i hf
    rw [(hA.bank hk).2] at hf ⊢
    exact F i hf
  · have hAA := (hA.note hk).2
    obtain ⟨hkk, h6, h5⟩ := note_kinds G hm hk
    have hn : (msgAct m).kind ≠ -1 := by show ((m.k : Int)) ≠ -1; omega
    have hp := fun i => pay_other (A := P.A) hn i
    intro i hf
    rw [hAA] at hf ⊢
    rw [(hp i).1] at hf
    rw [(hp i).2]
    by_cases e : i = m.i
    · subst e
      obtain ⟨s4, s5, s6⟩ := note_st hd hm.2.1 (m := m) ⟨by omega, by omega⟩
      have hF := F _ hf
      rcases hkk with h | h | h
      · rw [s4 h]
        split
        · rename_i h1
          simp only
          split
          · rename_i hfull
            exact ⟨fun _ => hfull, fun e => by omega, hF.2.2⟩
          · rename_i hfull
            exact ⟨fun e => by omega, fun _ => hfull, hF.2.2⟩
        · exact hF
      · rw [s5 h]
        split
        · exact ⟨fun e => by simp at e, fun e => by simp at e, hF.2.2⟩
        · exact hF
      · rw [s6 h]
        obtain ⟨_, _, x, hx, _⟩ := hm
        exact ⟨hF.1, hF.2.1, with_room _ _ _ (hd.stand hf).few hF.2.2 (leg_lt hx).1⟩
    · rw [note_other (by omega) (hd.stand hf).id e]
      exact F i hf
theorem Owed.step (O : Owed P) (G : Good P) (hmw : m ∈ P.wire) (hA : After P Q m) : Owed Q := by
  have hm := G.inv.wire m hmw
  obtain ⟨ck, ps, hd⟩ := G.dr
  have keep : ∀ y, y ∈ P.wire → y ≠ m → y ∈ Q.wire := fun y hy hn => (hA.wire.old y hy).resolve_left hn
  by_cases hk : m.k ≤ 3
  · have hAA := (hA.bank hk).2
    obtain ⟨h1, h2, h3⟩ := G.inv.bankOk hd hm hk
    obtain ⟨ac, ls, hr⟩ := G.rl m.t h1 h2
    have h0 := h3 hr
    have hk1 := hm.1.kinds.1
    obtain ⟨a1, a2, a3⟩ := leg_after h0 ⟨hk1, hk⟩
    have hnew : bankAns m.t m (P.E m.t) ∈ Q.wire := hA.wire.new _ (by unfold arrOuts; rw [if_pos hk]; simp)
    have ek : (bankAns m.t m (P.E m.t)).k = kindFor (legOf m.i m.l (hEvsOf m (P.E m.t))).1 := rfl
    intro i l x hf hx
    rw [hAA] at hf hx ⊢
    obtain ⟨o1, o2⟩ := O i l x hf hx
    refine ⟨fun hs => ?_, fun hs => ?_⟩
    · rcases o1 hs with hb | ⟨y, hy, hi, hl, hyk⟩
      · exact .inl hb
      · right
        by_cases e : y = m
        · subst e
          subst hi hl
          refine ⟨_, hnew, rfl, rfl, ?_⟩
          have hy1 : y.k = 1 := by omega
          obtain ⟨_, _, x0, hx0, hw⟩ := hm
          rw [hx] at hx0
          injection hx0 with hx0
          subst hx0
          have ht : y.t = x.b := by
            rcases hw with ⟨_, he, _⟩ | ⟨h4, _⟩
            · rw [he]; exact (ask_parts _ _ _ _).2.2.1
            · omega
          have hL := (G.inv.leg y.i y.l x hf hx).1 hs
          rw [← ht] at hL
          rw [ek, a1 hy1]
          split
          · split
            · exact .inr (.inl ((kind_for 1).1 rfl))
            · exact .inr (.inr ((kind_for 2).2.1 rfl))
          · rename_i hz
            rcases hL.1 with q | q | q
            · exact absurd q hz
            · exact .inr (.inl ((kind_for _).1 q))
            · exact .inr (.inr ((kind_for _).2.1 q))
        · exact ⟨y, keep y hy e, hi, hl, hyk⟩
    · rcases o2 hs with hb | ⟨y, hy, hi, hl, hyk⟩
      · exact .inl hb
      · right
        by_cases e : y = m
        · subst e
          subst hi hl
          refine ⟨_, hnew, rfl, rfl, .inr ?_⟩
          have hkk := askKind_of (stA P.A y.i).1
          have hy23 : y.k = 2 ∨ y.k = 3 := by omega
          rw [ek]
          rcases hy23 with q | q
          · rw [(a2 q).2]; exact (kind_for 3).2.2 (.inl rfl)
          · rw [(a3 q).2]; exact (kind_for 4).2.2 (.inr rfl)
        · exact ⟨y, keep y hy e, hi, hl, hyk⟩
  · have hAA := (hA.note hk).2
    obtain ⟨hkk, h6, h5⟩ := note_kinds G hm hk
    have hn : (msgAct m).kind ≠ -1 := by show ((m.k : Int)) ≠ -1; omega
    have hp := fun i => pay_other (A := P.A) hn i
    intro i l x hf hx
    rw [hAA] at hf hx ⊢
    rw [(hp i).1] at hf
    rw [(hp i).2] at hx
    obtain ⟨o1, o2⟩ := O i l x hf hx
    have hS := hd.stand hf
    have hl4 : l < 4 := by have := (leg_lt hx).1; have := hS.few; omega
    have hml : m.l < 4 := hm.1.kinds.2.2.1
    by_cases e : i = m.i
    · subst e
      obtain ⟨s4, s5, s6⟩ := note_st hd hm.2.1 (m := m) ⟨by omega, by omega⟩
      have h16 : (stA P.A m.i).2.1 < 16 := pow_16 hS.few hS.room
      have d16 := hS.done
      have told : (stA P.A m.i).1 = 1 → (stA (P.A ++ [msgAct m]) m.i).1 ≠ 1 → m.k ≠ 6 → ∃ y, y ∈ Q.wire ∧ y.i = m.i ∧ y.l = l ∧ (y.k = askKind (stA (P.A ++ [msgAct m]) m.i).1 ∨ y.k = 6) := fun q1 q2 q3 => by
        have hmem := nOuts_all hl4 hx q3 q1 q2 (hp m.i).2
        have hq := ask_parts (payO P.A m.i) x l (askKind (stA (P.A ++ [msgAct m]) m.i).1)
        exact ⟨_, hA.wire.new _ (by unfold arrOuts; rw [if_neg hk]; exact hmem), by rw [hq.2.2.2.1, hS.id], hq.2.2.2.2, .inl hq.1⟩
      by_cases hs1 : (stA P.A m.i).1 = 1
      · have hk6 : m.k ≠ 6 := fun h => h6 h hs1
        by_cases hn1 : (stA (P.A ++ [msgAct m]) m.i).1 = 1
        · refine ⟨fun _ => ?_, fun h => absurd hn1 h⟩
          have h4 : m.k = 4 := by
            rcases hkk with h | h | h
            · exact h
            · rw [s5 h, if_pos hs1] at hn1; simp at hn1
            · exact absurd h hk6
          have hheld : (stA (P.A ++ [msgAct m]) m.i).2.1 = withOf (stA P.A m.i).2.1 m.l := by rw [s4 h4, if_pos hs1]
          rw [hheld, bit_with _ _ _ h16 hml hl4]
          by_cases hll : l = m.l
          · left; simp [hll]
          · rcases o1 hs1 with hb | ⟨y, hy, hi, hyl, hyk⟩
            · left; rw [hb]; rfl
            · exact .inr ⟨y, keep y hy (fun e => hll (by rw [← hyl, e])), hi, hyl, hyk⟩
        · exact ⟨fun h => absurd h hn1, fun _ => .inr (told hs1 hn1 hk6)⟩
      · have hsame : (stA (P.A ++ [msgAct m]) m.i).1 = (stA P.A m.i).1 := by
          rcases hkk with h | h | h
          · rw [s4 h, if_neg hs1]
          · rw [s5 h, if_neg hs1]
          · rw [s6 h]
        refine ⟨fun h => absurd (hsame.symm.trans h) hs1, fun _ => ?_⟩
        rw [hsame]
        have hkk2 := askKind_of (stA P.A m.i).1
        rcases hkk with h | h | h
        · rw [show (stA (P.A ++ [msgAct m]) m.i).2.2.1 = (stA P.A m.i).2.2.1 by rw [s4 h, if_neg hs1]]
          rcases o2 hs1 with hb | ⟨y, hy, hi, hyl, hyk⟩
          · exact .inl hb
          · exact .inr ⟨y, keep y hy (fun e => by rw [e, h] at hyk; omega), hi, hyl, hyk⟩
        · rw [show (stA (P.A ++ [msgAct m]) m.i).2.2.1 = (stA P.A m.i).2.2.1 by rw [s5 h, if_neg hs1]]
          rcases o2 hs1 with hb | ⟨y, hy, hi, hyl, hyk⟩
          · exact .inl hb
          · exact .inr ⟨y, keep y hy (fun e => by rw [e, h] at hyk; omega), hi, hyl, hyk⟩
        · rw [show (stA (P.A ++ [msgAct m]) m.i).2.2.1 = withOf (stA P.A m.i).2.2.1 m.l by rw [s6 h], bit_with _ _ _ d16 hml hl4]
          by_cases hll : l = m.l
          · left; simp [hll]
          · rcases o2 hs1 with hb | ⟨y, hy, hi, hyl, hyk⟩
            · left; rw [hb]; rfl
            · exact .inr ⟨y, keep y hy (fun e => hll (by rw [← hyl, e])), hi, hyl, hyk⟩
    · rw [note_other (by omega) hS.id e]
      refine ⟨fun hs => ?_, fun hs => ?_⟩
      · rcases o1 hs with hb | ⟨y, hy, hi, hyl, hyk⟩
        · exact .inl hb
        · exact .inr ⟨y, keep y hy (fun e' => e (by rw [← hi, e'])), hi, hyl, hyk⟩
      · rcases o2 hs with hb | ⟨y, hy, hi, hyl, hyk⟩
        · exact .inl hb
        · exact .inr ⟨y, keep y hy (fun e' => e (by rw [← hi, e'])), hi, hyl, hyk⟩
/-- more on the wire does no harm -/
theorem Owed.more (O : Owed P) (hA : Q.A = P.A) (hw : ∀ y, y ∈ P.wire → y ∈ Q.wire) : Owed Q := by
  intro i l x hf hx
  rw [hA] at hf hx ⊢
  obtain ⟨o1, o2⟩ := O i l x hf hx
  exact ⟨fun h => (o1 h).imp_right (fun ⟨y, hy, r⟩ => ⟨y, hw y hy, r⟩), fun h => (o2 h).imp_right (fun ⟨y, hy, r⟩ => ⟨y, hw y hy, r⟩)⟩
end
end Go.Proofs.Ytjkhbjgfoopomaa
/-
  Plain: ticks and steps keep it; the end.
-/
namespace Go.Proofs.Ytjkhbjgfoopomaa
set_option linter.unusedVariables false
set_option linter.unusedSimpArgs false
section
variable {P Q : PN} {m : Msg}
/-- an arrival keeps the invariants -/
theorem arrive_pure (G : Good P) (hm : OnW P m) : NInv (arriveTo P m) := by
  obtain ⟨ck, ps, hd⟩ := G.dr
  unfold arriveTo
  by_cases hk : m.k ≤ 3
  · rw [if_pos hk]
    obtain ⟨h1, h2, h3⟩ := G.inv.bankOk hd hm hk
    obtain ⟨ac, ls, hr⟩ := G.rl m.t h1 h2
    exact G.inv.bank hd hm hk (h3 hr) rfl rfl (fun y hy => by simpa using hy)
  · rw [if_neg hk]
    obtain ⟨ht, h0⟩ := G.inv.noteOk hm (by omega)
    obtain ⟨c, qs, r1, _⟩ := ((AlikeD.refl hd).take hm.1 ht (by rw [tErr_nErr hm.1]; exact h0)).2.2.1
    exact G.inv.note hd hm (by omega) ⟨c, qs, r1⟩ rfl rfl (fun y hy => List.mem_append.1 hy)
theorem Good.less (G : Good P) (hE : Q.E = P.E) (hA : Q.A = P.A) (hw : ∀ y, y ∈ Q.wire → y ∈ P.wire) : Good Q :=
  ⟨G.inv.less hE hA hw, by rw [hA]; exact G.dr, by rw [hE]; exact G.rl⟩
theorem Sound.steady (fs : List Int) : Steady (Sound fs) := fun Q m rest G h hw => by
  have hm : OnW Q m := G.inv.wire m (by rw [hw]; simp)
  have G2 : Good { Q with wire := rest } := G.less rfl rfl (fun y hy => by rw [hw]; exact List.mem_cons_of_mem _ hy)
  have hm2 : OnW { Q with wire := rest } m := hm.of_wire rfl rfl
  have h2 : Sound fs { Q with wire := rest } := h.lose rfl rfl rfl rfl (fun y hy => by rw [hw]; exact List.mem_cons_of_mem _ hy)
  exact h2.arrive G2 hm2 (arrive_pure G2 hm2)
theorem Ful.steady : Steady Ful := fun Q m rest G h hw => h.step G (G.inv.wire m (by rw [hw]; simp)) (arrive_after hw)
theorem Owed.steady : Steady Owed := fun Q m rest G h hw => h.step G (by rw [hw]; simp) (arrive_after hw)
theorem tick_sta (i : Nat) : stA (P.A ++ [tickAct]) i = (if (stA P.A i).1 = 1 ∧ (payO P.A i).dl ≤ (stA P.A i).2.2.2 + 1 then 3 else (stA P.A i).1, (stA P.A i).2.1, (stA P.A i).2.2.1, (stA P.A i).2.2.2 + 1) := by
  rw [stA_other (by show ((0 : Int)) ≠ -1; omega)]
  unfold stStep
  exact if_pos (show tickAct.kind = 0 from rfl)
theorem Ful.tick (F : Ful P) (ms : List Msg) : Ful (tickTo P ms) := by
  by_cases hc : 1000000 ≤ clockOf P.A
  · have e : (tickTo P ms).A = P.A := if_pos hc
    intro i hf
    rw [e] at hf ⊢
    exact F i hf
  · have e : (tickTo P ms).A = P.A ++ [tickAct] := if_neg hc
    have hn : tickAct.kind ≠ -1 := by show ((0 : Int)) ≠ -1; omega
    intro i hf
    rw [e] at hf ⊢
    rw [(pay_other hn i).1] at hf
    rw [(pay_other hn i).2, tick_sta]
    have h := F i hf
    simp only
    split
    · exact ⟨fun e => by omega, fun e => by omega, h.2.2⟩
    · exact h
theorem Ful.same (F : Ful P) (hA : Q.A = P.A) : Ful Q := fun i hf => by rw [hA] at hf ⊢; exact F i hf
theorem bit_or (b l : Nat) (hb : b < 16) (hl : l < 4) : bitB b l = true ∨ withOf b l ≠ b := by
  have : ∀ b : Fin 16, ∀ l : Fin 4, bitB b.val l.val = true ∨ withOf b.val l.val ≠ b.val := by decide
  exact this ⟨b, hb⟩ ⟨l, hl⟩
/-- when the clock goes on, the notary tells all that is owed -/
theorem Owed.tick {ms : List Msg} (hT : TickSays P.A ms) (hc : clockOf P.A < 1000000) {ck : Nat} {ps : List Xp} (hd : DRel (kActs P.A) ck ps) : Owed (tickTo P ms) := by
  have e : kActs P.A = P.A ++ [tickAct] := if_neg (by omega)
  rcases hT.2 with ⟨h, _⟩ | ⟨_, qs, hP, rfl⟩
  · omega
  have eA : (tickTo P (saysM qs (P.A ++ [tickAct]))).A = P.A ++ [tickAct] := e
  intro i l x hf hx
  rw [eA] at hf hx ⊢
  rw [e] at hd
  have hS := hd.stand hf
  have hl4 : l < 4 := by have := (leg_lt hx).1; have := hS.few; omega
  have h16 : (stA (P.A ++ [tickAct]) i).2.1 < 16 := pow_16 hS.few hS.room
  have d16 := hS.done
  have hq : payO (P.A ++ [tickAct]) i ∈ qs := by
    obtain ⟨y, hy, hyk, hyi, hyp⟩ := findOf_mem hf
    rw [hP.mem]
    exact ⟨y, hy, hyk, hyp.symm⟩
  have hin : ∀ y, y ∈ remindM (payO (P.A ++ [tickAct]) i) (P.A ++ [tickAct]) → y ∈ (tickTo P (saysM qs (P.A ++ [tickAct]))).wire := fun y hy => List.mem_append_right _ (List.mem_flatMap.2 ⟨_, hq, hy⟩)
  have hst : stOf (payO (P.A ++ [tickAct]) i) (P.A ++ [tickAct]) = stA (P.A ++ [tickAct]) i := rfl
  refine ⟨fun hs => ?_, fun hs => ?_⟩
  · rcases bit_or _ l h16 hl4 with hb | hb
    · exact .inl hb
    · have hp := ask_parts (payO (P.A ++ [tickAct]) i) x l 1
      refine .inr ⟨askMsg (payO (P.A ++ [tickAct]) i) x l 1, hin _ ?_, by rw [hp.2.2.2.1, hS.id], hp.2.2.2.2, .inl hp.1⟩
      unfold remindM
      rw [hst, if_pos hs, asksM_mem]
      exact ⟨l, x, hb, hx, rfl⟩
  · rcases bit_or _ l d16 hl4 with hb | hb
    · exact .inl hb
    · have hp := ask_parts (payO (P.A ++ [tickAct]) i) x l (askKind (stA (P.A ++ [tickAct]) i).1)
      refine .inr ⟨askMsg (payO (P.A ++ [tickAct]) i) x l (askKind (stA (P.A ++ [tickAct]) i).1), hin _ ?_, by rw [hp.2.2.2.1, hS.id], hp.2.2.2.2, .inl hp.1⟩
      unfold remindM
      rw [hst, if_neg hs, asksM_mem]
      exact ⟨l, x, hb, hx, rfl⟩
theorem bits_full (n b : Nat) (hn : n ≤ 4) (hb : b < 2 ^ n) (h : ∀ l, l < n → bitB b l = true) : b = fullOf n := by
  have key : ∀ n : Fin 5, ∀ b : Fin 16, b.val < 2 ^ n.val → (∀ l : Fin 4, l.val < n.val → bitB b.val l.val = true) → b.val = fullOf n.val := by decide
  have h16 : b < 16 := pow_16 hn hb
  exact key ⟨n, by omega⟩ ⟨b, h16⟩ hb (fun l hl => h l.val hl)
/-- when nothing is on the wire, all is decided and done -/
theorem Owed.end_ (O : Owed P) (F : Ful P) (G : Good P) (hw : P.wire = []) {i : Nat} (hf : fnd P.A i = true) : (stA P.A i).1 ≠ 1 ∧ ∀ (l : Nat) (x : Pl), (payO P.A i).legs[l]? = some x → bitB (stA P.A i).2.2.1 l = true := by
  obtain ⟨ck, ps, hd⟩ := G.dr
  have hS := hd.stand hf
  have hno : ∀ {p : Msg → Prop}, ¬ ∃ y, y ∈ P.wire ∧ p y := fun ⟨y, hy, _⟩ => by rw [hw] at hy; cases hy
  have h1 : (stA P.A i).1 ≠ 1 := fun h1 => by
    refine (F i hf).2.1 h1 (bits_full _ _ hS.few hS.room (fun l hl => ?_))
    rcases (O i l _ hf (List.getElem?_eq_getElem hl)).1 h1 with hb | hb
    · exact hb
    · exact absurd hb hno
  refine ⟨h1, fun l x hx => ?_⟩
  rcases (O i l x hf hx).2 h1 with hb | hb
  · exact hb
  · exact absurd hb hno
/-- how each leg stands then -/
theorem Owed.leg (O : Owed P) (F : Ful P) (G : Good P) (hw : P.wire = []) {i l : Nat} {x : Pl} (hf : fnd P.A i = true) (hx : (payO P.A i).legs[l]? = some x) : ((stA P.A i).1 = 2 ∧ (legOf i l (P.E x.b)).1 = 3) ∨ ((stA P.A i).1 = 3 ∧ (legOf i l (P.E x.b)).1 = 4) := by
  obtain ⟨h1, hb⟩ := O.end_ F G hw hf
  obtain ⟨ck, ps, hd⟩ := G.dr
  have hS := hd.stand hf
  have hlo := hS.lo
  have hhi := hS.hi
  have hL := G.inv.leg i l x hf hx
  have hbit := hb l x hx
  have h23 : (stA P.A i).1 = 2 ∨ (stA P.A i).1 = 3 := by omega
  rcases h23 with h | h
  · exact .inl ⟨h, (hL.2.1 h).2 hbit⟩
  · exact .inr ⟨h, (hL.2.2 h).2 hbit⟩
/-- all its legs are done, and no more -/
theorem Owed.full (O : Owed P) (F : Ful P) (G : Good P) (hw : P.wire = []) {i : Nat} (hf : fnd P.A i = true) : (stA P.A i).2.2.1 = fullOf (payO P.A i).legs.length := by
  obtain ⟨ck, ps, hd⟩ := G.dr
  exact bits_full _ _ (hd.stand hf).few (F i hf).2.2 (fun l hl => (O.end_ F G hw hf).2 l _ (List.getElem?_eq_getElem hl))
/-- a payment more -/
theorem Ful.sub {fs : List Int} (F : Ful P) (hS : Sound fs P) {ck : Nat} {ps : List Xp} (hd : DRel P.A ck ps) (s : Stp) (hs : ∀ x, x ∈ s.legs → x.ok) : Ful (subTo P (stepPm P s)) := by
  rcases step_sub hS hd s hs with ⟨hf0, hi⟩ | ⟨hf0, hi⟩
  · have e1 : (subTo P (stepPm P s)).A = P.A ++ [⟨-1, core (stepPm P s), zeroMsg⟩] := if_pos hi
    have hfn := fun i => find_new (A := P.A) (core (stepPm P s)) i
    intro i hf
    rw [e1] at hf ⊢
    rw [(hfn i).1] at hf
    by_cases e : (core (stepPm P s)).id = i
    · subst e
      rw [(hfn _).2, if_pos rfl]
      have hnew := hd.new (core (stepPm P s)) (fun y hy e => by
        have hx : findX (core (stepPm P s)).id ps < ps.length := by
          rcases Nat.lt_or_ge (findX (core (stepPm P s)).id ps) ps.length with h | h
          · exact h
          · exact absurd e ((findX_none _ ps).1 h y hy)
        have h1 := (hd.find_in _ hx).1
        rw [show (findOf (core (stepPm P s)).id P.A).2.1 = fnd P.A (stepPm P s).id from rfl, hf0] at h1
        cases h1)
      have hst : stA (P.A ++ [⟨-1, core (stepPm P s), zeroMsg⟩]) (core (stepPm P s)).id = (1, 0, 0, (stOf (core (stepPm P s)) P.A).2.2.2) := by
        unfold stA
        rw [(hfn _).2, if_pos rfl, stOf_snoc]
        unfold stStep
        rw [if_neg (by show ¬ (-1 : Int) = 0; decide), if_pos rfl, if_pos rfl, hnew.1, hnew.2]
      rw [hst]
      have hlen := (legsOf_ok hs).2
      have hl : (core (stepPm P s)).legs.length = (legsOf s.legs).length := rfl
      have key : ∀ n : Fin 5, 1 ≤ n.val → 0 ≠ fullOf n.val ∧ 0 < 2 ^ n.val := by decide
      have hk := key ⟨(core (stepPm P s)).legs.length, by omega⟩ (by show 1 ≤ (core (stepPm P s)).legs.length; omega)
      exact ⟨fun e => by simp at e, fun _ => hk.1, hk.2⟩
    · have hf' : fnd P.A i = true := by simpa [e] using hf
      rw [(hfn i).2, if_neg e]
      have hst : stA (P.A ++ [⟨-1, core (stepPm P s), zeroMsg⟩]) i = stA P.A i := by
        unfold stA
        rw [(hfn i).2, if_neg e, stOf_snoc]
        unfold stStep
        rw [if_neg (by show ¬ (-1 : Int) = 0; decide), if_pos rfl, if_neg (by rw [(hd.stand hf').id]; exact e)]
      rw [hst]
      exact F i hf'
  · exact F.same (if_neg hi)
theorem Ful.take (F : Ful P) (G : Good P) (hm : OnW P m) : Ful (takeTo P m) := by
  have h := F.step G hm (arrive_after_stay (Q := P) (m := m))
  exact h.same (take_arrive P m).2.1
end
end Go.Proofs.Ytjkhbjgfoopomaa
/-
  Arguments that came in, opened: legs, numbers; what the bound gives.
-/
namespace Go.Proofs.Ytjkhbjgfoopomaa
open Go.ChangeShapes Go.WideShapes Go.ChangeAt Go.RowKit
set_option linter.unusedVariables false
set_option linter.unusedSimpArgs false
theorem bulk_one {H : Type} (d : DataW H) : 1 ≤ Rows.uptoBulk d := by
  cases d with
  | lit l => cases l <;> simp [Rows.uptoBulk]
  | nil => simp [Rows.uptoBulk]
  | ptr d => simp [Rows.uptoBulk]
  | slice elems spare => simp [Rows.uptoBulk]
  | agg parts => simp [Rows.uptoBulk]
  | iface t d => simp [Rows.uptoBulk]
  | map entries => simp [Rows.uptoBulk]
  | held h => simp [Rows.uptoBulk]
theorem bulk_len {H : Type} (l : List (DataW H)) : l.length ≤ Rows.uptoBulkAll l := by
  induction l with
  | nil => simp [Rows.uptoBulkAll]
  | cons x r ih => have := bulk_one x; simp only [Rows.uptoBulkAll, List.length_cons]; omega
theorem kcellsLeg : Try.prog.cellsOf 57 = 4 := by kernel_rfl
theorem kcellsNode : Try.prog.cellsOf 26 = 1 := by kernel_rfl
theorem kcellsAccount : Try.prog.cellsOf 29 = 1 := by kernel_rfl
theorem kcellsAmount : Try.prog.cellsOf 30 = 1 := by kernel_rfl
theorem kcellsInt : Try.prog.cellsOf 3 = 1 := by kernel_rfl
theorem ku8_of {x : Int} (h : (Lit.int .u8 x).wf = true) : ∃ n : Nat, x = n ∧ n < 256 := by
  simp [Lit.wf, IntKind.min, IntKind.max, IntKind.signed, IntKind.bits] at h
  exact ⟨x.toNat, by omega, by omega⟩
theorem ku16_of {x : Int} (h : (Lit.int .u16 x).wf = true) : ∃ n : Nat, x = n ∧ n < 65536 := by
  simp [Lit.wf, IntKind.min, IntKind.max, IntKind.signed, IntKind.bits] at h
  exact ⟨x.toNat, by omega, by omega⟩
theorem ku32_of {x : Int} (h : (Lit.int .u32 x).wf = true) : ∃ n : Nat, x = n ∧ n < 4294967296 := by
  simp [Lit.wf, IntKind.min, IntKind.max, IntKind.signed, IntKind.bits] at h
  exact ⟨x.toNat, by omega, by omega⟩
theorem ki64_of {x : Int} (h : (Lit.int .i64 x).wf = true) : i64ok x := by
  simp [Lit.wf, IntKind.min, IntKind.max, IntKind.signed, IntKind.bits] at h
  exact ⟨by omega, by omega⟩
theorem krow_first (a : Addr) (n : Nat) (h : 0 < n) : MemPlace.cell a.block a.off ∈ MemPlace.row a n := List.mem_map.2 ⟨0, List.mem_range.2 h, by simp⟩
section
variable {H : Type} {enc : TypeId × Value → H} {w : World} {base : Nat} {spare : Nat → Bool} {held : Bool}
set_option maxRecDepth 100000 in
theorem kopen_leg {n : Nat} {cs : List Value} {x : DataW H × List MemPlace} (h : DataW.trod enc Try.prog w base spare held n 57 cs = some x) : ∃ l : Pl, cs = l.cells ∧ l.ok := by
  obtain ⟨xs, n', _, hx, hcl, hlen, hg⟩ := DataW.trod_struct Try.underlying57 h
  rw [kcellsLeg] at hcl
  match cs, hcl with
  | [c0, c1, c2, c3], _ =>
  have g0 := hg 0 _ rfl
  have g1 := hg 1 _ rfl
  have g2 := hg 2 _ rfl
  have g3 := hg 3 _ rfl
  clear hg
  have hlen' : xs.length = 4 := hlen
  match xs, hlen' with
  | [y0, y1, y2, y3], _ =>
    simp [kcellsNode, kcellsAccount, kcellsAmount] at g0 g1 g2 g3
    obtain ⟨n0, e0, rfl, w0⟩ := DataW.trod_int Try.underlying26 g0
    obtain ⟨n1, e1, rfl, w1⟩ := DataW.trod_int Try.underlying29 g1
    obtain ⟨n2, e2, rfl, w2⟩ := DataW.trod_int Try.underlying29 g2
    obtain ⟨n3, e3, rfl, w3⟩ := DataW.trod_int Try.underlying30 g3
    simp only [List.cons.injEq, and_true] at e0 e1 e2 e3
    subst e0 e1 e2 e3
    obtain ⟨b, rfl, hb⟩ := ku8_of w0
    obtain ⟨p, rfl, hp⟩ := ku16_of w1
    obtain ⟨g, rfl, hg⟩ := ku16_of w2
    obtain ⟨a, rfl, ha⟩ := ku32_of w3
    exact ⟨⟨b, p, g, a⟩, rfl, hb, hp, hg, ha⟩
set_option maxRecDepth 100000 in
/-- legs that came in -/
theorem kopen_legs {n : Nat} {c : Value} {x : DataW H × List MemPlace} (h : DataW.trod enc Try.prog w 0 (fun _ => true) held n 50 [c] = some x) :
    ∃ (la : Option Addr) (lcap : Nat) (legs : List Pl), c = .slice la legs.length lcap ∧ (∀ l, l ∈ legs → l.ok) ∧ LegsAt w la legs ∧ legs.length ≤ Rows.uptoBulk x.1 := by
  have hlt : ∀ y ∈ x.2, y.block < w.heap.size := DataW.trod_lt n _ _ _ h
  rcases Go.Deep.open_slice Try.underlying50 h with ⟨e1, _⟩ | ⟨a, len, cap, m, n', D, Q, e1, _, hl, hm, hmm, hx, hel⟩
  · simp only [List.cons.injEq, and_true] at e1
    exact ⟨none, 0, [], e1, by simp, fun k hk => by simp at hk, by simp⟩
  · simp only [List.cons.injEq, and_true] at e1
    simp only [if_true] at hmm
    subst hmm
    rw [hx] at hlt ⊢
    rw [kcellsLeg] at hel hlt
    have hall : ∀ i, i < len → ∃ l : Pl, l.ok ∧ ∀ j v, l.cells[j]? = some v → w.cell? ((a.add (i * 4)).add j) = some v := by
      intro i hi
      obtain ⟨cs', h1, h2⟩ := hel i (by omega)
      obtain ⟨l, hl, hok⟩ := kopen_leg h2
      obtain ⟨_, hln, hc⟩ := World.cells?_some h1
      refine ⟨l, hok, fun j v hj => ?_⟩
      have hj4 : j < 4 := by
        have := (List.getElem?_eq_some_iff.1 hj).1
        rwa [Pl.cells_length] at this
      rw [hc j hj4, hl]
      exact hj
    have hab : 0 < len → a.block < w.heap.size := fun h0 => hlt (.cell a.block a.off) (List.mem_append_left _ (krow_first a (m * 4) (by omega)))
    obtain ⟨f, hf⟩ := Classical.axiomOfChoice (fun i : Fin len => hall i.1 i.2)
    refine ⟨some a, m, List.ofFn f, by rw [List.length_ofFn]; exact e1, fun l hl' => ?_, fun k hk => ?_, ?_⟩
    · obtain ⟨i, rfl⟩ := List.mem_ofFn.1 hl'
      exact (hf i).1
    · rw [List.length_ofFn] at hk
      refine ⟨a, rfl, hab (by omega), fun j v hj => ?_⟩
      rw [List.getElem_ofFn] at hj
      exact (hf ⟨k, hk⟩).2 j v hj
    · rw [List.length_ofFn]
      simp only [Rows.uptoBulk]
      have := bulk_len ((List.range len).map D)
      simp only [List.length_map, List.length_range] at this
      omega
set_option maxRecDepth 100000 in
/-- numbers that came in -/
theorem kopen_ints {n : Nat} {c : Value} {x : DataW H × List MemPlace} (h : DataW.trod enc Try.prog w 0 (fun _ => true) held n 51 [c] = some x) (hb : Rows.uptoBulk x.1 ≤ 1048576) : ∃ ts, IntsAt w c ts := by
  have hlt : ∀ y ∈ x.2, y.block < w.heap.size := DataW.trod_lt n _ _ _ h
  rcases Go.Deep.open_slice1 Try.underlying51 kcellsInt h with ⟨e1, _⟩ | ⟨a, len, cap, m, n', V, D, Q, e1, _, hl, hm, hmm, hx, hel⟩
  · simp only [List.cons.injEq, and_true] at e1
    exact ⟨[], ⟨⟨none, 0, e1, fun k hk => by simp at hk⟩, by simp, by simp⟩⟩
  · simp only [List.cons.injEq, and_true] at e1
    simp only [if_true] at hmm
    subst hmm
    rw [hx] at hlt hb
    have hall : ∀ i, i < len → ∃ z : Int, i64ok z ∧ w.cell? (a.add i) = some (.int .i64 z) := by
      intro i hi
      obtain ⟨h1, h2⟩ := hel i (by omega)
      obtain ⟨z, e0, _, w0⟩ := DataW.trod_int Try.underlying3 h2
      simp only [List.cons.injEq, and_true] at e0
      exact ⟨z, ki64_of w0, by rw [h1, e0]⟩
    have hab : 0 < len → a.block < w.heap.size := fun h0 => hlt (.cell a.block a.off) (List.mem_append_left _ (krow_first a m (by omega)))
    obtain ⟨f, hf⟩ := Classical.axiomOfChoice (fun i : Fin len => hall i.1 i.2)
    have hbl : len ≤ 1048576 := by
      simp only [Rows.uptoBulk] at hb
      have := bulk_len ((List.range len).map D)
      simp only [List.length_map, List.length_range] at this
      omega
    refine ⟨List.ofFn f, ⟨⟨some a, m, by rw [List.length_ofFn]; exact e1, fun k hk => ?_⟩, fun z hz => ?_, by rw [List.length_ofFn]; exact hbl⟩⟩
    · rw [List.length_ofFn] at hk
      refine ⟨a, rfl, hab (by omega), ?_⟩
      rw [List.getElem_ofFn]
      exact (hf ⟨k, hk⟩).2
    · obtain ⟨i, rfl⟩ := List.mem_ofFn.1 hz
      exact (hf i).1
end
end Go.Proofs.Ytjkhbjgfoopomaa
