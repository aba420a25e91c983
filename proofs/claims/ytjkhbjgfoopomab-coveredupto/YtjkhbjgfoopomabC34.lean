import Derived.Test.YtjkhbjgfoopomabC33
import Derived.Test.YtjkhbjgfoopomabC2
import Derived.Test.YtjkhbjgfoopomabC21
import Derived.Test.YtjkhbjgfoopomabC4
import Derived.Test.YtjkhbjgfoopomabC27
import Derived.Test.YtjkhbjgfoopomabC30
import Derived.Test.YtjkhbjgfoopomabC29
import Derived.Test.YtjkhbjgfoopomabC3
/-
  Plain: what holds of a network stays: the notary takes a message, ticks, takes a payment in; a bank ticks.
-/
namespace Go.Proofs.Ytjkhbjgfoopomab
set_option linter.unusedVariables false
set_option linter.unusedSimpArgs false
theorem nOuts_mem {A : List Dt} {m y : Msg} (hst : (stA A m.i).1 ≠ 1 → m.k ≠ 6 → (stA (A ++ [msgAct m]) m.i).1 = (stA A m.i).1) (hp : payO (A ++ [msgAct m]) m.i = payO A m.i) (h : y ∈ nOuts m A) :
    ∃ l x, (payO A m.i).legs[l]? = some x ∧ y = askMsg (payO A m.i) x l (askKind (stA (A ++ [msgAct m]) m.i).1) := by
  unfold nOuts nSay at h
  have e1 : (findOf m.i A).1 = payO A m.i := rfl
  have e2 : (stOf (findOf m.i A).1 A).1 = (stA A m.i).1 := rfl
  have e3 : (stOf (findOf m.i A).1 (A ++ [msgAct m])).1 = (stA (A ++ [msgAct m]) m.i).1 := by
    show _ = (stOf (payO (A ++ [msgAct m]) m.i) (A ++ [msgAct m])).1
    rw [hp]
    rfl
  rw [e2, e3, e1] at h
  split at h
  · simp at h
  · rename_i h6
    split at h
    · simp at h
    · split at h
      · obtain ⟨l, x, _, h2, h3⟩ := (asksM_mem _ _ _ _).1 h
        exact ⟨l, x, h2, h3⟩
      · rename_i h1
        cases hx : (payO A m.i).legs[m.l]? with
        | none => rw [hx] at h; simp at h
        | some x =>
          rw [hx] at h
          simp only [List.mem_singleton] at h
          exact ⟨m.l, x, hx, by rw [h, hst h1 h6]⟩
/-- the notary has taken a message in -/
theorem NInv.note {P Q : PN} (I : NInv P) {ck : Nat} {ps : List Xp} (hd : DRel P.A ck ps) {m : Msg} (hm : OnW P m) (hk : 4 ≤ m.k) (hd' : ∃ ck ps, DRel (P.A ++ [msgAct m]) ck ps)
    (hE : Q.E = P.E) (hA : Q.A = P.A ++ [msgAct m]) (hw : ∀ y, y ∈ Q.wire → y ∈ P.wire ∨ y ∈ nOuts m P.A) : NInv Q := by
  have hF := hm.1
  have hf := hm.2.1
  have hk6 := hF.kinds.2.1
  have hl4 := hF.kinds.2.2.1
  have hn : (msgAct m).kind ≠ -1 := by show ((m.k : Int)) ≠ -1; omega
  have hS := hd.stand hf
  obtain ⟨x0, hx0, hside⟩ := hm.2.2
  obtain ⟨hfx, a4, a5, a6⟩ : m.f = x0.b ∧ (m.k = 4 → (legOf m.i m.l (P.E x0.b)).1 = 1 ∨ (legOf m.i m.l (P.E x0.b)).1 = 3 ∨ (legOf m.i m.l (P.E x0.b)).1 = 4) ∧ (m.k = 5 → (legOf m.i m.l (P.E x0.b)).1 = 2 ∨ (legOf m.i m.l (P.E x0.b)).1 = 4) ∧ (m.k = 6 → (legOf m.i m.l (P.E x0.b)).1 = 3 ∨ (legOf m.i m.l (P.E x0.b)).1 = 4) := by
    rcases hside with ⟨h3, _⟩ | h
    · omega
    · exact h.2
  have hL0 := I.leg m.i m.l x0 hf hx0
  obtain ⟨s4, s5, s6⟩ := note_st hd hf ⟨hk, hk6⟩
  have hlo := hS.lo
  have hhi := hS.hi
  have hh16 := pow_16 hS.few hS.room
  have hd16 := hS.done
  have hfew := hS.few
  have hk3 : m.k = 4 ∨ m.k = 5 ∨ m.k = 6 := by omega
  have hst1 : (stA P.A m.i).1 ≠ 1 → m.k ≠ 6 → stA (P.A ++ [msgAct m]) m.i = stA P.A m.i := by
    intro h1 h6
    rcases hk3 with h | h | h
    · rw [s4 h, if_neg h1]
    · rw [s5 h, if_neg h1]
    · exact absurd h h6
  have h61 : m.k = 6 → (stA P.A m.i).1 ≠ 1 := fun h e => by
    have := (hL0.1 e).1
    have := a6 h
    omega
  refine I.acts hn hE hA ?_ ?_ ?_ hd'
  · intro i l x hfi hx
    by_cases hi : i = m.i
    · subst hi
      have hL := I.leg m.i l x hf hx
      have hll : l < 4 := by have := (leg_lt hx).1; omega
      by_cases h6 : m.k = 6
      · rw [s6 h6]
        simp only
        rw [bit_with _ _ _ hd16 hl4 hll]
        by_cases hlm : l = m.l
        · subst hlm
          have hxx : x = x0 := by rw [hx0] at hx; injection hx with hx; exact hx.symm
          subst hxx
          have hs := a6 h6
          refine ⟨fun e => absurd e (h61 h6), fun e => ⟨(hL.2.1 e).1, fun _ => ?_⟩, fun e => ⟨(hL.2.2 e).1, fun _ => ?_⟩⟩
          · have := (hL.2.1 e).1; omega
          · have := (hL.2.2 e).1; omega
        · have hx2 : (bitB (stA P.A m.i).2.2.1 l || decide (l = m.l)) = bitB (stA P.A m.i).2.2.1 l := by simp [hlm]
          rw [hx2]
          exact hL
      · by_cases h1 : (stA P.A m.i).1 = 1
        · have hdb : bitB (stA P.A m.i).2.2.1 l = false := (hL.1 h1).2.2
          have hs3 := (hL.1 h1).1
          rcases hk3 with h | h | h
          · rw [s4 h, if_pos h1]
            simp only
            have hs0 : (legOf m.i m.l (P.E x0.b)).1 = 1 := by
              have := (hL0.1 h1).1
              have := a4 h
              omega
            have hbit : bitB (withOf (stA P.A m.i).2.1 m.l) l = true → (legOf m.i l (P.E x.b)).1 = 1 := by
              rw [bit_with _ _ _ hh16 hl4 hll]
              intro hb
              by_cases hlm : l = m.l
              · subst hlm
                have hxx : x = x0 := by rw [hx0] at hx; injection hx with hx; exact hx.symm
                subst hxx
                exact hs0
              · have : bitB (stA P.A m.i).2.1 l = true := by simpa [hlm] using hb
                exact (hL.1 h1).2.1 this
            split
            · rename_i hfull
              have hb : bitB (withOf (stA P.A m.i).2.1 m.l) l = true := by
                rw [hfull]
                exact bit_full _ _ hfew (leg_lt hx).1
              exact ⟨fun e => by omega, fun _ => ⟨.inl (hbit hb), fun e => by rw [hdb] at e; cases e⟩, fun e => by omega⟩
            · exact ⟨fun _ => ⟨hs3, hbit, hdb⟩, fun e => by omega, fun e => by omega⟩
          · rw [s5 h, if_pos h1]
            simp only
            exact ⟨fun e => by omega, fun e => by omega, fun _ => ⟨by omega, fun e => by rw [hdb] at e; cases e⟩⟩
          · exact absurd h h6
        · rw [hst1 h1 h6]
          exact hL
    · rw [note_other hk (hd.stand hfi).id hi]
      exact I.leg i l x hfi hx
  · intro i hfi
    by_cases hi : i = m.i
    · subst hi
      by_cases h6 : m.k = 6
      · rw [s6 h6]; exact ⟨fun e => e, fun e => e⟩
      · by_cases h1 : (stA P.A m.i).1 = 1
        · exact ⟨fun e => by omega, fun e => by omega⟩
        · rw [hst1 h1 h6]; exact ⟨fun e => e, fun e => e⟩
    · rw [note_other hk (hd.stand hfi).id hi]
      exact ⟨fun e => e, fun e => e⟩
  · intro y hy
    rcases hw y hy with h | h
    · exact .inl h
    · obtain ⟨l, x, hx, he⟩ := nOuts_mem (fun h1 h6 => by rw [hst1 h1 h6]) (pay_other hn m.i).2 h
      exact .inr ⟨m.i, l, x, hf, hx, he⟩
theorem Pays.payO {A : List Dt} {qs : List Pm} (hP : Pays A qs) {q : Pm} (hq : q ∈ qs) : fnd A q.id = true ∧ payO A q.id = q := by
  obtain ⟨x, hx, hk, hp⟩ := (hP.mem q).1 hq
  have hf : fnd A q.id = true := find_true hx hk (by rw [hp])
  refine ⟨hf, ?_⟩
  obtain ⟨y, hy, hyk, hyi, hyp⟩ := findOf_mem hf
  have hm : y.pay ∈ qs := (hP.mem y.pay).2 ⟨y, hy, hyk, rfl⟩
  show (findOf q.id A).1 = q
  rw [hyp]
  exact uniq_id hP.sort hm hq hyi
/-- the clock goes on -/
theorem NInv.tick {P Q : PN} (I : NInv P) (hd' : ∃ ck ps, DRel (P.A ++ [tickAct]) ck ps) {qs : List Pm} (hP : Pays (P.A ++ [tickAct]) qs)
    (hE : Q.E = P.E) (hA : Q.A = P.A ++ [tickAct]) (hw : ∀ y, y ∈ Q.wire → y ∈ P.wire ∨ y ∈ saysM qs (P.A ++ [tickAct])) : NInv Q := by
  have hn : tickAct.kind ≠ -1 := by show ((0 : Int)) ≠ -1; omega
  have hst : ∀ i, stA (P.A ++ [tickAct]) i = (if (stA P.A i).1 = 1 ∧ (payO P.A i).dl ≤ (stA P.A i).2.2.2 + 1 then 3 else (stA P.A i).1, (stA P.A i).2.1, (stA P.A i).2.2.1, (stA P.A i).2.2.2 + 1) := fun i => by
    rw [stA_other hn]
    unfold stStep
    exact if_pos (show tickAct.kind = 0 from rfl)
  refine I.acts hn hE hA ?_ ?_ ?_ hd'
  · intro i l x hf hx
    have hL := I.leg i l x hf hx
    rw [hst i]
    simp only
    split
    · rename_i h
      have h1 := hL.1 h.1
      exact ⟨fun e => by omega, fun e => by omega, fun _ => ⟨by omega, fun e => by rw [h1.2.2] at e; cases e⟩⟩
    · exact hL
  · intro i hf
    rw [hst i]
    simp only
    constructor <;> intro e <;> rw [if_neg (by omega)] <;> exact e
  · intro y hy
    rcases hw y hy with h | h
    · exact .inl h
    · obtain ⟨q, hq, hy'⟩ := List.mem_flatMap.1 h
      obtain ⟨l, x, hx, he⟩ := remindM_mem q _ y hy'
      obtain ⟨hf, hp⟩ := hP.payO hq
      have hf' : fnd P.A q.id = true := by rw [← (pay_other hn q.id).1]; exact hf
      have hp' : payO P.A q.id = q := by rw [← (pay_other hn q.id).2]; exact hp
      refine .inr ⟨q.id, l, x, hf', by rw [hp']; exact hx, ?_⟩
      rw [hp', he]
      unfold stA
      rw [hp]
/-- a bank tells again what it holds -/
theorem NInv.tickB {P Q : PN} (I : NInv P) {ck : Nat} {ps : List Xp} (hd : DRel P.A ck ps) {b : Nat} (hb : 1 ≤ b ∧ b ≤ 3) {ac : List Ac} {ls : List Lg} (hr : Rel (P.E b) ac ls)
    (hE : Q.E = P.E) (hA : Q.A = P.A) (hw : ∀ y, y ∈ Q.wire → y ∈ P.wire ∨ y ∈ tickM b ls) : NInv Q := by
  obtain ⟨E, A, wire, lg, sm⟩ := Q
  simp only at hE hA hw
  subst hE hA
  refine ⟨I.b3, I.kept, I.terms, I.leg, fun m hm => ?_⟩
  rcases hw m hm with h | h
  · exact I.wire m h
  · obtain ⟨z, hz, rfl⟩ := List.mem_map.1 h
    obtain ⟨hz1, hz2⟩ := List.mem_filter.1 hz
    have hst : z.st = 1 := by simpa using hz2
    have hl := hr.leg z hz1
    unfold LegIs at hl
    have h1 : (legOf z.id z.l (P.E b)).1 = 1 := by rw [hl.1, hst]
    obtain ⟨hf, x, hx, hxb⟩ := I.kept b z.id z.l hb.1 hb.2 (by omega)
    have hS := hd.stand hf
    refine ⟨ans_fair ⟨hb.1, by omega⟩ (hd.lt hf) (by have := (leg_lt hx).1; have := hS.few; omega), hf, x, hx, .inr ⟨by show 4 ≤ kindFor 1; decide, hxb.symm, fun _ => .inl ?_, fun e => absurd e (by show ¬ kindFor 1 = 5; decide), fun e => absurd e (by show ¬ kindFor 1 = 6; decide)⟩⟩
    show (legOf z.id z.l (P.E x.b)).1 = 1
    rw [hxb]
    exact h1
theorem find_new {A : List Dt} (q : Pm) (i : Nat) : fnd (A ++ [⟨-1, q, zeroMsg⟩]) i = (decide (q.id = i) || fnd A i) ∧ payO (A ++ [⟨-1, q, zeroMsg⟩]) i = if q.id = i then q else payO A i := by
  unfold fnd payO
  rw [findOf_snoc]
  unfold findStep
  simp only [if_true]
  by_cases h : q.id = i
  · simp [h]
  · simp [h]
/-- a payment more -/
theorem NInv.submit {P Q : PN} (I : NInv P) {ck : Nat} {ps : List Xp} (hd : DRel P.A ck ps) {q : Pm} (hno : fnd P.A q.id = false) (h3 : ∀ (l : Nat) (x : Pl), q.legs[l]? = some x → 1 ≤ x.b ∧ x.b ≤ 3)
    (hd' : ∃ ck ps, DRel (P.A ++ [⟨-1, q, zeroMsg⟩]) ck ps) (hE : Q.E = P.E) (hA : Q.A = P.A ++ [⟨-1, q, zeroMsg⟩]) (hw : ∀ y, y ∈ Q.wire → y ∈ P.wire ∨ y ∈ asksM q 1 0) : NInv Q := by
  obtain ⟨E, A, wire, lg, sm⟩ := Q
  simp only at hE hA hw
  subst hE hA
  have hfn := fun i => find_new (A := P.A) q i
  have hne : ∀ i, fnd P.A i = true → q.id ≠ i := fun i h e => by rw [e] at hno; rw [hno] at h; cases h
  have hst : ∀ i, fnd P.A i = true → stA (P.A ++ [⟨-1, q, zeroMsg⟩]) i = stA P.A i := fun i h => by
    unfold stA
    rw [(hfn i).2, if_neg (hne i h)]
    simp only [stOf, List.foldl_append, List.foldl_cons, List.foldl_nil]
    unfold stStep
    rw [if_neg (by show ¬ (-1 : Int) = 0; decide), if_pos rfl, if_neg (by rw [(hd.stand h).id]; exact hne i h)]
  have hq : payO (P.A ++ [⟨-1, q, zeroMsg⟩]) q.id = q := by rw [(hfn q.id).2, if_pos rfl]
  have hf : ∀ i, fnd (P.A ++ [⟨-1, q, zeroMsg⟩]) i = true → i = q.id ∨ (fnd P.A i = true ∧ payO (P.A ++ [⟨-1, q, zeroMsg⟩]) i = payO P.A i) := fun i h => by
    rw [(hfn i).1] at h
    by_cases e : q.id = i
    · exact .inl e.symm
    · have h' : fnd P.A i = true := by simpa [e] using h
      exact .inr ⟨h', by rw [(hfn i).2, if_neg e]⟩
  have hnew : (stA (P.A ++ [⟨-1, q, zeroMsg⟩]) q.id).1 = 1 ∧ (stA (P.A ++ [⟨-1, q, zeroMsg⟩]) q.id).2.1 = 0 ∧ (stA (P.A ++ [⟨-1, q, zeroMsg⟩]) q.id).2.2.1 = 0 := by
    have h1 := hd.new q (fun y hy e => by
      have hx : findX q.id ps < ps.length := by
        rcases Nat.lt_or_ge (findX q.id ps) ps.length with h | h
        · exact h
        · exact absurd e ((findX_none q.id ps).1 h y hy)
      have := (hd.find_in q.id hx).1
      have hno' : (findOf q.id P.A).2.1 = false := hno
      rw [hno'] at this
      cases this)
    unfold stA
    rw [hq]
    simp only [stOf, List.foldl_append, List.foldl_cons, List.foldl_nil]
    unfold stStep
    rw [if_neg (by show ¬ (-1 : Int) = 0; decide), if_pos rfl]
    simp only [if_true]
    exact ⟨trivial, h1⟩
  refine ⟨?_, ?_, ?_, ?_, ?_⟩
  · intro i h l x hx
    simp only at h hx
    rcases hf i h with rfl | ⟨h', e⟩
    · rw [hq] at hx
      exact h3 l x hx
    · rw [e] at hx
      exact I.b3 i h' l x hx
  · intro b i l h1 h2 hn
    obtain ⟨h', x, hx, hb⟩ := I.kept b i l h1 h2 hn
    simp only
    rw [(hfn i).1, (hfn i).2, if_neg (hne i h'), h']
    exact ⟨by simp, x, hx, hb⟩
  · intro b i l x h1 h2 ha hx
    simp only at ha hx ⊢
    have h' := (I.kept b i l h1 h2 (legOf_asked i l _ ha)).1
    rw [(hfn i).2, if_neg (hne i h')] at hx ⊢
    exact I.terms b i l x h1 h2 ha hx
  · intro i l x h hx
    simp only at h hx ⊢
    rcases hf i h with rfl | ⟨h', e⟩
    · rw [hq] at hx
      rw [hnew.1, hnew.2.1, hnew.2.2]
      have hb := h3 l x hx
      have h0 : (legOf q.id l (P.E x.b)).1 = 0 := by
        rcases Nat.eq_zero_or_pos (legOf q.id l (P.E x.b)).1 with h | h
        · exact h
        · have := (I.kept x.b q.id l hb.1 hb.2 (by omega)).1
          rw [hno] at this
          cases this
      rw [h0]
      have hz : bitB 0 l = false := by simp [bitB]
      rw [hz]
      exact ⟨fun _ => ⟨.inl rfl, ⟨fun e => absurd e (by decide), rfl⟩⟩, fun e => by omega, fun e => by omega⟩
    · rw [e] at hx
      rw [hst i h']
      exact I.leg i l x h' hx
  · intro m hm
    rcases hw m hm with h | h
    · obtain ⟨hF, hf', x, hx, hs⟩ := I.wire m h
      refine ⟨hF, by simp only; rw [(hfn m.i).1, hf']; simp, x, by simp only; rw [(hfn m.i).2, if_neg (hne _ hf')]; exact hx, ?_⟩
      simp only
      rw [(hfn m.i).2, if_neg (hne _ hf'), hst _ hf']
      exact hs
    · obtain ⟨l, x, _, hx, rfl⟩ := (asksM_mem _ _ _ _).1 h
      obtain ⟨ck', ps', hd'⟩ := hd'
      have hf' : fnd (P.A ++ [⟨-1, q, zeroMsg⟩]) q.id = true := by rw [(hfn q.id).1]; simp
      have hS := hd'.stand hf'
      have hx' : (payO (P.A ++ [⟨-1, q, zeroMsg⟩]) q.id).legs[l]? = some x := by rw [hq]; exact hx
      have hF := ask_fair hS hx' 1
      rw [hq] at hF
      have hp := ask_parts q x l 1
      refine ⟨hF, by rw [hp.2.2.2.1]; exact hf', x, by rw [hp.2.2.2.1, hp.2.2.2.2]; exact hx', .inl ?_⟩
      rw [hp.2.2.2.1, hp.2.2.2.2, hp.1]
      simp only
      rw [hq]
      exact ⟨by omega, rfl, fun e => by omega, fun e => by omega⟩
end Go.Proofs.Ytjkhbjgfoopomab
/-
  The statements' keep: a list is written full of its mark, and three more stand beside it.
-/
namespace Go.Proofs.Ytjkhbjgfoopomab
open Go.RowKit
set_option linter.unusedVariables false
set_option linter.unusedSimpArgs false
theorem stopAt {p : Prop} (h : Hid p) : p := h
end Go.Proofs.Ytjkhbjgfoopomab
/-
  The program's escrow.Bank.Tick.
-/
namespace Go.Proofs.Ytjkhbjgfoopomab
open Go.RowKit
set_option linter.unusedVariables false
set_option linter.unusedSimpArgs false
/-- a fresh list of these texts -/
def FreshL (w : World) (outs : List (List UInt8)) (w' : World) (lv : Value) : Prop := RowOf w' 9 1 strCell lv outs ∧ ∀ g, lv.ownBlock = some g → w.heap.size ≤ g
set_option maxRecDepth 100000 in
set_option maxHeartbeats 1000000 in
theorem eTick_any (w : World) (B node : Nat) (hnode : 1 ≤ node ∧ node ≤ 7) (ac : List Ac) (ls : List Lg) (va vl : Value) (hX : XB w B node ac ls va vl) (hok : ∀ x, x ∈ ls → x.ok) (hl4 : ∀ x, x ∈ ls → x.l < 4) (hlen : ls.length ≤ 1000000) :
    Calls Try.prog 31 #[.pointer (some ⟨B, 0, none⟩)] w fun e w' => (∃ lv, e = .returned lv ∧ FreshL w (tickL node ls) w' lv) ∧ Below w.heap.size w w' := by
  have hT := hide (xTick_any w B node hnode ac ls va vl hX hok hl4 hlen)
  have hc : ∀ o, _ = _ := fun o => cell_at hX.blk o
  go_enter Try.func31, Try.ntmps31
  go_wp2_with fail
  refine hT.out.mono ?_
  rintro e w1 ⟨⟨lv, rfl, h1, h2⟩, hb⟩
  have H : Hid (FreshL w (tickL node ls) w1 lv) := hide ⟨h1, h2⟩
  clear h1 h2 hT hc
  go_wp2
  go_ret
  exact ⟨⟨lv, rfl, H.out⟩, hb⟩
end Go.Proofs.Ytjkhbjgfoopomab
/-
  What the statement Banks keeps in memory: an owner for each block.
-/
namespace Go.Proofs.Ytjkhbjgfoopomab
open Go.RowKit
set_option linter.unusedVariables false
set_option linter.unusedSimpArgs false

/-- a house: the blocks of its struct, of the program's bank, of the document's; how they stand -/
structure House where
  hb : Nat
  xb : Nat
  rb : Nat
  node : Nat
  evs : List Ev
  ac : List Ac
  ls : List Lg
  va : Value
  vl : Value
  v : Value
  lg : List (List UInt8 × Nat)
  vg : Value
/-- what a bank logs of an event -/
def textOf (e : Ev) : List UInt8 := if e.kind = 0 then openTextOf e.msg.p e.msg.a else frameOf e.msg
/-- a bank's log -/
def logOf (evs : List Ev) : List (List UInt8 × Nat) := evs.mapIdx fun j e => (textOf e, j)
def House.ok (h : House) : Prop := Rel h.evs h.ac h.ls ∧ 1 ≤ h.node ∧ h.node ≤ 7 ∧ h.lg = logOf h.evs
/-- the owners that are no bank's: the notaries -/
def offCls (c : Nat) : Prop := c = 5 ∨ (6 ≤ c ∧ 4 ≤ (c - 6) % 8)
/-- a world, and the blocks of it that stay as they are; whether logs are asked for; the notaries, and what holds of them, whatever is done elsewhere -/
structure Base where
  w : World
  F : Nat → Prop
  lt : ∀ k, F k → k < w.heap.size
  lg : Bool
  vd : Value
  Q : World → (Nat → Nat) → Prop
  loc : ∀ (u u' : World) (own own' : Nat → Nat) (S : Nat → Prop), Q u own → Kept S u u' → (∀ k, k < u.heap.size → S k → ¬ offCls (own k)) → (∀ k, k < u.heap.size → own' k = own k) → Q u' own'
structure BelF (w0 : Base) (w : World) : Prop where
  os : w.os = w0.w.os
  tape : w.tape = w0.w.tape
  output : w.output = w0.w.output
  size : w0.w.heap.size ≤ w.heap.size
  block : ∀ k, w0.F k → w.heap[k]? = w0.w.heap[k]?
theorem BelF.kept {w0 : Base} {w w' : World} {S : Nat → Prop} (h : BelF w0 w) (hk : Kept S w w') (hS : ∀ k, w0.F k → ¬ S k) : BelF w0 w' :=
  ⟨hk.os.trans h.os, hk.tape.trans h.tape, hk.output.trans h.output, Nat.le_trans h.size hk.size, fun k hF => (hk.block k (Nat.lt_of_lt_of_le (w0.lt k hF) h.size) (hS k hF)).trans (h.block k hF)⟩
section
variable {w0 : Base} {w w' : World} {Wb : Nat} {own own' : Nat → Nat} {hs : List House} {ll : List (Value × Nat)} {vb vl : Value} {S : Nat → Prop}
end
end Go.Proofs.Ytjkhbjgfoopomab
/-
  A step of a script; its frame; the program's Handle in package escrow.
-/
namespace Go.Proofs.Ytjkhbjgfoopomab
open Go.RowKit
set_option linter.unusedVariables false
set_option linter.unusedSimpArgs false
structure Opr where
  kind : Int
  at_ : Int
  n : Int
  s : List UInt8
  msg : Msg
  pid : Int
  dead : Int
  memo : List UInt8
  legs : Option Addr
  llen : Nat
  lcap : Nat
  acc : Nat
  amt : Nat
def i64ok (x : Int) : Prop := -9223372036854775808 ≤ x ∧ x ≤ 9223372036854775807
def Opr.ok (o : Opr) : Prop := i64ok o.kind ∧ i64ok o.at_ ∧ i64ok o.n ∧ o.s.length ≤ 140737488351232 ∧ o.msg.ok ∧ o.msg.m.length ≤ 140737488351232 ∧ o.acc < 65536 ∧ o.amt < 4294967296
def Opr.cells (o : Opr) : Array Value := #[.int .i64 o.kind, .int .i64 o.at_, .int .i64 o.n, .string (bs o.s), .int .u8 (o.msg.k : Int), .int .u8 (o.msg.f : Int), .int .u8 (o.msg.t : Int), .int .u32 (o.msg.i : Int), .int .u8 (o.msg.l : Int), .int .u16 (o.msg.p : Int), .int .u16 (o.msg.g : Int), .int .u32 (o.msg.a : Int), .string (bs o.msg.m),
  .int .u32 o.pid, .int .u64 o.dead, .string (bs o.memo), .slice o.legs o.llen o.lcap, .int .u16 (o.acc : Int), .int .u32 (o.amt : Int)]
def Opr.v (o : Opr) : Value := .agg o.cells
/-- the frame of a step -/
def Opr.frame (o : Opr) : List UInt8 := if o.s = [] then encOf o.msg else o.s

set_option maxRecDepth 100000 in
set_option maxHeartbeats 1000000 in
theorem eHandle_any (s : ByteArray) (hs : s.size ≤ 140737488351232) (w : World) (B node : Nat) (hnode : 1 ≤ node ∧ node ≤ 7) (evs : List Ev) (ac : List Ac) (ls : List Lg) (va vl : Value) (hr : Rel evs ac ls) (hX : XB w B node ac ls va vl) (hap : Apart B va vl) :
    Calls Try.prog 56 #[.pointer (some ⟨B, 0, none⟩), .string s] w (XDone w B node evs s.data.toList va vl) := by
  have hT := hide (xHandle_any s hs w B node hnode evs ac ls va vl hr hX hap)
  have hc : ∀ o, _ = _ := fun o => cell_at hX.blk o
  go_enter Try.func56, Try.ntmps56
  go_wp2_with fail
  refine hT.out.mono ?_
  rintro e w1 ⟨lv, ac', ls', va', vl', rfl, h1, h2⟩
  have H : Hid (XDone w B node evs s.data.toList va vl (.returned (.tuple #[lv, .string (bs (rLog node s.data.toList evs)), .int .i64 (rErr node s.data.toList evs : Int)])) w1) := hide ⟨lv, ac', ls', va', vl', rfl, h1, h2⟩
  clear h1 h2 hT hc
  go_wp2
  go_ret3
  exact H.out
end Go.Proofs.Ytjkhbjgfoopomab
