import Derived.Test.YtjkhbjgfoopomaaR31
/-
  Plain: what holds of a network, whatever comes to pass.
-/
namespace Go.Proofs.Ytjkhbjgfoopomaa
set_option linter.unusedVariables false
set_option linter.unusedSimpArgs false
/-- a network: what has changed each bank, and the notary; the messages on the wire; the logs; what was opened -/
structure PN where
  E : Nat → List Ev
  A : List Dt
  wire : List Msg
  lg : Nat → List UInt8
  sm : Nat → Nat
/-- is a payment kept; it; how it stands -/
def fnd (A : List Dt) (i : Nat) : Bool := (findOf i A).2.1
def payO (A : List Dt) (i : Nat) : Pm := (findOf i A).1
def stA (A : List Dt) (i : Nat) : Nat × Nat × Nat × Nat := stOf (payO A i) A
theorem core_parts {p q : Pm} (h : core p = core q) : p.id = q.id ∧ p.dl = q.dl ∧ p.memo = q.memo ∧ p.legs = q.legs := by
  unfold core at h
  injection h with h1 h2 h3 h4 _ _
  exact ⟨h1, h2, h3, h4⟩
theorem DRel.at {A : List Dt} {ck : Nat} {ps : List Xp} (h : DRel A ck ps) {i : Nat} (hf : fnd A i = true) : ∃ y, y ∈ ps ∧ core (payO A i) = core y.pm ∧ y.pm.id = i ∧ Stands A y := by
  by_cases hx : findX i ps < ps.length
  · have h1 := (h.find_in i hx).2
    have hy := List.getElem_mem hx
    refine ⟨ps[findX i ps], hy, h1, ?_, h.good _ hy⟩
    obtain ⟨x, _, _, hid, hp⟩ := findOf_mem hf
    rw [← (core_parts h1).1]
    show (findOf i A).1.id = i
    rw [hp, hid]
  · have h1 := h.find_no i (by omega)
    unfold fnd at hf
    rw [h1] at hf
    cases hf
structure Stood (A : List Dt) (i : Nat) : Prop where
  right : wrongOf (payO A i) = 0
  id : (payO A i).id = i
  ok : (payO A i).ok
  lo : 1 ≤ (stA A i).1
  hi : (stA A i).1 ≤ 3
  room : (stA A i).2.1 < 2 ^ (payO A i).legs.length
  done : (stA A i).2.2.1 < 16
  few : (payO A i).legs.length ≤ 4
  some : 1 ≤ (payO A i).legs.length
theorem DRel.stand {A : List Dt} {ck : Nat} {ps : List Xp} (h : DRel A ck ps) {i : Nat} (hf : fnd A i = true) : Stood A i := by
  obtain ⟨y, hy, hc, hid, hs⟩ := h.at hf
  have hp := core_parts hc
  have e : stA A i = stOf y.pm A := st_core hc A
  have hok := hs.fine.ok.1
  have hw : wrongOf (payO A i) = 0 := by rw [wrong_core hc]; exact hs.right
  refine ⟨hw, by rw [hp.1, hid], ⟨by rw [hp.1]; exact hok.1, by rw [hp.2.1]; exact hok.2.1, by rw [hp.2.2.2]; exact hok.2.2⟩, by rw [e, ← hs.st]; exact hs.fine.st.1, by rw [e, ← hs.st]; exact hs.fine.st.2, by rw [e, ← hs.held, hp.2.2.2]; exact hs.room, by rw [e, ← hs.done]; exact hs.fine.done, wrongOf_few hw, ?_⟩
  unfold wrongOf at hw
  split at hw
  · omega
  · omega
theorem DRel.lt {A : List Dt} {ck : Nat} {ps : List Xp} (h : DRel A ck ps) {i : Nat} (hf : fnd A i = true) : i < 4294967296 := by
  have := (h.stand hf).ok.1
  rwa [(h.stand hf).id] at this
theorem leg_lt {p : Pm} {l : Nat} {x : Pl} (h : p.legs[l]? = some x) : l < p.legs.length ∧ x ∈ p.legs := ⟨(List.getElem?_eq_some_iff.1 h).1, List.mem_of_getElem? h⟩
theorem ask_parts (p : Pm) (x : Pl) (l k : Nat) : (askMsg p x l k).k = k ∧ (askMsg p x l k).f = 0 ∧ (askMsg p x l k).t = x.b ∧ (askMsg p x l k).i = p.id ∧ (askMsg p x l k).l = l := by
  unfold askMsg
  split
  · rename_i h; exact ⟨h.symm, rfl, rfl, rfl, rfl⟩
  · exact ⟨rfl, rfl, rfl, rfl, rfl⟩
theorem ask_fair {A : List Dt} {i : Nat} (h : Stood A i) {l : Nat} {x : Pl} (hx : (payO A i).legs[l]? = some x) (st : Nat) : Fair (askMsg (payO A i) x l (askKind st)) := by
  have hl := leg_lt hx
  have h4 := h.few
  refine ⟨?_, ask_fine h.right hl.2 (by omega)⟩
  have hxo := h.ok.2.2 x hl.2
  unfold askMsg
  split
  · exact ⟨by show (1 : Nat) < 256; omega, by show (0 : Nat) < 256; omega, hxo.1, h.ok.1, by show l < 256; omega, hxo.2.1, hxo.2.2.1, hxo.2.2.2⟩
  · exact ⟨by show askKind st < 256; unfold askKind; (repeat' split) <;> omega, by show (0 : Nat) < 256; omega, hxo.1, h.ok.1, by show l < 256; omega, by show (0 : Nat) < 65536; omega, by show (0 : Nat) < 65536; omega, by show (0 : Nat) < 4294967296; omega⟩
/-- a leg at its bank (s), against the notary's state, and its bits there -/
def LegInv (st : Nat) (hb db : Bool) (s : Nat) : Prop :=
  (st = 1 → (s = 0 ∨ s = 1 ∨ s = 2) ∧ (hb = true → s = 1) ∧ db = false) ∧ (st = 2 → (s = 1 ∨ s = 3) ∧ (db = true → s = 3)) ∧ (st = 3 → s ≠ 3 ∧ (db = true → s = 4))
/-- a message on the wire: to a bank, or to the notary -/
def OnW (P : PN) (m : Msg) : Prop :=
  Fair m ∧ fnd P.A m.i = true ∧ ∃ x, (payO P.A m.i).legs[m.l]? = some x ∧
    ((m.k ≤ 3 ∧ m = askMsg (payO P.A m.i) x m.l m.k ∧ (m.k = 2 → (stA P.A m.i).1 = 2) ∧ (m.k = 3 → (stA P.A m.i).1 = 3)) ∨
     (4 ≤ m.k ∧ m.f = x.b ∧ (m.k = 4 → (legOf m.i m.l (P.E x.b)).1 = 1 ∨ (legOf m.i m.l (P.E x.b)).1 = 3 ∨ (legOf m.i m.l (P.E x.b)).1 = 4) ∧ (m.k = 5 → (legOf m.i m.l (P.E x.b)).1 = 2 ∨ (legOf m.i m.l (P.E x.b)).1 = 4) ∧ (m.k = 6 → (legOf m.i m.l (P.E x.b)).1 = 3 ∨ (legOf m.i m.l (P.E x.b)).1 = 4)))
structure NInv (P : PN) : Prop where
  b3 : ∀ i, fnd P.A i = true → ∀ (l : Nat) (x : Pl), (payO P.A i).legs[l]? = some x → 1 ≤ x.b ∧ x.b ≤ 3
  kept : ∀ b i l, 1 ≤ b → b ≤ 3 → (legOf i l (P.E b)).1 ≠ 0 → fnd P.A i = true ∧ ∃ x, (payO P.A i).legs[l]? = some x ∧ x.b = b
  terms : ∀ b i l x, 1 ≤ b → b ≤ 3 → (legOf i l (P.E b)).2.2 = true → (payO P.A i).legs[l]? = some x → (legOf i l (P.E b)).2.1 = askMsg (payO P.A i) x l 1
  leg : ∀ i l x, fnd P.A i = true → (payO P.A i).legs[l]? = some x → LegInv (stA P.A i).1 (bitB (stA P.A i).2.1 l) (bitB (stA P.A i).2.2.1 l) (legOf i l (P.E x.b)).1
  wire : ∀ m, m ∈ P.wire → OnW P m
/-- fewer on the wire; logs and sums don't matter -/
theorem NInv.less {P Q : PN} (I : NInv P) (hE : Q.E = P.E) (hA : Q.A = P.A) (hw : ∀ m, m ∈ Q.wire → m ∈ P.wire) : NInv Q := by
  obtain ⟨E, A, wire, lg, sm⟩ := Q
  simp only at hE hA hw
  subst hE hA
  exact ⟨I.b3, I.kept, I.terms, I.leg, fun m hm => I.wire m (hw m hm)⟩
theorem nodup_le {α : Type} [BEq α] [LawfulBEq α] : ∀ (K S : List α), K.Pairwise (· ≠ ·) → (∀ x, x ∈ K → x ∈ S) → K.length ≤ S.length
  | [], S, _, _ => Nat.zero_le _
  | x :: K, S, hn, hs => by
    have hx := hs x (by simp)
    have h1 := nodup_le K (S.erase x) (List.pairwise_cons.1 hn).2 (fun y hy => (List.mem_erase_of_ne ((List.pairwise_cons.1 hn).1 y hy).symm).2 (hs y (by simp [hy])))
    rw [List.length_erase_of_mem hx] at h1
    have : 0 < S.length := List.length_pos_of_mem hx
    simp only [List.length_cons]
    omega
theorem keys_nodup {ls : List Lg} (h : ls.Pairwise fun x y => aheadB x y = true) : (ls.map keyL).Pairwise (· ≠ ·) := by
  rw [List.pairwise_map]
  refine h.imp ?_
  intro x y hxy e
  unfold keyL at e
  injection e with e1 e2
  unfold aheadB at hxy
  simp [e1, e2] at hxy
/-- there is room for a leg that is asked for -/
theorem NInv.room {P : PN} (I : NInv P) {ck : Nat} {ps : List Xp} (hd : DRel P.A ck ps) {b : Nat} (hb : 1 ≤ b ∧ b ≤ 3) {ac : List Ac} {ls : List Lg} (hr : Rel (P.E b) ac ls) {i l : Nat} {x : Pl} (hf : fnd P.A i = true) (hx : (payO P.A i).legs[l]? = some x) (h0 : (legOf i l (P.E b)).1 = 0) : (keysOf (P.E b)).length < 128 := by
  have hlen : ∀ qs : List Xp, (qs.flatMap fun y => [(y.pm.id, 0), (y.pm.id, 1), (y.pm.id, 2), (y.pm.id, 3)]).length = 4 * qs.length := by
    intro qs
    induction qs with
    | nil => rfl
    | cons y r ih => rw [List.flatMap_cons, List.length_append, ih]; simp; omega
  have hin : ∀ j k, fnd P.A j = true → k < 4 → (j, k) ∈ ps.flatMap fun y => [(y.pm.id, 0), (y.pm.id, 1), (y.pm.id, 2), (y.pm.id, 3)] := by
    intro j k hj hk
    obtain ⟨y, hy, _, hid, _⟩ := hd.at hj
    refine List.mem_flatMap.2 ⟨y, hy, ?_⟩
    rw [hid]
    have : k = 0 ∨ k = 1 ∨ k = 2 ∨ k = 3 := by omega
    rcases this with rfl | rfl | rfl | rfl <;> simp
  have hst : ∀ y, y ∈ ls → (legOf y.id y.l (P.E b)).1 ≠ 0 := fun y hy => by
    have := hr.leg y hy
    unfold LegIs at this
    omega
  have h := nodup_le ((i, l) :: ls.map keyL) (ps.flatMap fun y => [(y.pm.id, 0), (y.pm.id, 1), (y.pm.id, 2), (y.pm.id, 3)]) (List.pairwise_cons.2 ⟨?_, keys_nodup hr.sort⟩) ?_
  · rw [hlen] at h
    have h1 := hd.len
    rw [hr.kept]
    simp only [List.length_cons, List.length_map] at h
    omega
  · intro y hy e
    obtain ⟨z, hz, rfl⟩ := List.mem_map.1 hy
    unfold keyL at e
    injection e with e1 e2
    subst e1 e2
    exact hst z hz h0
  · intro y hy
    rcases List.mem_cons.1 hy with rfl | hy
    · have := (hd.stand hf).few
      exact hin i l hf (by have := (leg_lt hx).1; omega)
    · obtain ⟨z, hz, rfl⟩ := List.mem_map.1 hy
      obtain ⟨h1, x', h2, _⟩ := I.kept b z.id z.l hb.1 hb.2 (hst z hz)
      have := (hd.stand h1).few
      exact hin z.id z.l h1 (by have := (leg_lt h2).1; omega)
theorem other_self (m : Msg) : otherB m m = false := by simp [otherB]
/-- a message to a bank that is on the wire: it is taken -/
theorem NInv.bankOk {P : PN} (I : NInv P) {ck : Nat} {ps : List Xp} (hd : DRel P.A ck ps) {m : Msg} (hm : OnW P m) (hk : m.k ≤ 3) : 1 ≤ m.t ∧ m.t ≤ 3 ∧ ∀ {ac : List Ac} {ls : List Lg}, Rel (P.E m.t) ac ls → hErrOf m (P.E m.t) = 0 := by
  obtain ⟨hF, hf, x, hx, ⟨_, he, h2, h3⟩ | ⟨h4, _⟩⟩ := hm
  · have hp := ask_parts (payO P.A m.i) x m.l m.k
    have ht : m.t = x.b := by rw [he]; exact hp.2.2.1
    have hb := I.b3 m.i hf m.l x hx
    rw [← ht] at hb
    refine ⟨hb.1, hb.2, fun {ac ls} hr => ?_⟩
    have hL := I.leg m.i m.l x hf hx
    rw [← ht] at hL
    unfold hErrOf hErrT
    rw [if_neg, if_neg, if_neg]
    · rintro ⟨_, h0, h128⟩
      have := I.room hd hb hr hf hx h0
      omega
    · rintro (⟨h, h1, h3'⟩ | ⟨h, h3'⟩)
      · have := (hL.2.1 (h2 h)).1
        omega
      · exact (hL.2.2 (h3 h)).1 h3'
    · rintro ⟨h1, ha, ho⟩
      have := I.terms m.t m.i m.l x hb.1 hb.2 ha hx
      rw [this, ← h1, ← he, other_self] at ho
      cases ho
  · omega
end Go.Proofs.Ytjkhbjgfoopomaa
/-
  Plain: what holds of a network stays: a bank takes a message, the notary takes one.
-/
namespace Go.Proofs.Ytjkhbjgfoopomaa
set_option linter.unusedVariables false
set_option linter.unusedSimpArgs false
/-- how a bank's leg goes on: the leg of the message (s: before, s': behind) -/
theorem NInv.legStep {P : PN} (I : NInv P) {ck : Nat} {ps : List Xp} (hd : DRel P.A ck ps) {m : Msg} (hm : OnW P m) (hk : m.k ≤ 3) (h0 : hErrOf m (P.E m.t) = 0) :
    ∃ x, (payO P.A m.i).legs[m.l]? = some x ∧ x.b = m.t ∧ m = askMsg (payO P.A m.i) x m.l m.k ∧
      ((legOf m.i m.l (hEvsOf m (P.E m.t))).1 = 1 ∨ (legOf m.i m.l (hEvsOf m (P.E m.t))).1 = 2 ∨ (legOf m.i m.l (hEvsOf m (P.E m.t))).1 = 3 ∨ (legOf m.i m.l (hEvsOf m (P.E m.t))).1 = 4) ∧
      LegInv (stA P.A m.i).1 (bitB (stA P.A m.i).2.1 m.l) (bitB (stA P.A m.i).2.2.1 m.l) (legOf m.i m.l (hEvsOf m (P.E m.t))).1 ∧
      ((legOf m.i m.l (hEvsOf m (P.E m.t))).2.2 = true → (legOf m.i m.l (hEvsOf m (P.E m.t))).2.1 = askMsg (payO P.A m.i) x m.l 1) ∧
      ((legOf m.i m.l (P.E m.t)).1 = 1 ∨ (legOf m.i m.l (P.E m.t)).1 = 3 ∨ (legOf m.i m.l (P.E m.t)).1 = 4 → (legOf m.i m.l (hEvsOf m (P.E m.t))).1 = 1 ∨ (legOf m.i m.l (hEvsOf m (P.E m.t))).1 = 3 ∨ (legOf m.i m.l (hEvsOf m (P.E m.t))).1 = 4) ∧
      ((legOf m.i m.l (P.E m.t)).1 = 2 ∨ (legOf m.i m.l (P.E m.t)).1 = 4 → (legOf m.i m.l (hEvsOf m (P.E m.t))).1 = 2 ∨ (legOf m.i m.l (hEvsOf m (P.E m.t))).1 = 4) ∧
      ((legOf m.i m.l (P.E m.t)).1 = 3 ∨ (legOf m.i m.l (P.E m.t)).1 = 4 → (legOf m.i m.l (hEvsOf m (P.E m.t))).1 = 3 ∨ (legOf m.i m.l (hEvsOf m (P.E m.t))).1 = 4) := by
  obtain ⟨hF, hf, x, hx, ⟨_, he, h2, h3⟩ | ⟨h4, _⟩⟩ := hm
  · have hp := ask_parts (payO P.A m.i) x m.l m.k
    have ht : m.t = x.b := by rw [he]; exact hp.2.2.1
    have hb := I.b3 m.i hf m.l x hx
    rw [← ht] at hb
    have hL := I.leg m.i m.l x hf hx
    rw [← ht] at hL
    have hT := fun h => I.terms m.t m.i m.l x hb.1 hb.2 h hx
    have hkk := hF.kinds
    have hS := hd.stand hf
    obtain ⟨a1, a2, a3⟩ := leg_after h0 ⟨hkk.1, hk⟩
    have hst := hS.lo
    have hst' := hS.hi
    refine ⟨x, hx, ht.symm, he, ?_⟩
    have hk3 : m.k = 1 ∨ m.k = 2 ∨ m.k = 3 := by have := hkk.1; omega
    rcases hk3 with h | h | h
    · have hv := a1 h
      by_cases hz : (legOf m.i m.l (P.E m.t)).1 = 0
      · rw [if_pos hz] at hv
        rw [hv]
        have hs12 : (if canB m (P.E m.t) then 1 else 2) = 1 ∨ (if canB m (P.E m.t) then 1 else 2) = 2 := by cases canB m (P.E m.t) <;> simp
        have hL' : LegInv (stA P.A m.i).1 (bitB (stA P.A m.i).2.1 m.l) (bitB (stA P.A m.i).2.2.1 m.l) (if canB m (P.E m.t) then 1 else 2) := by
          rw [hz] at hL
          refine ⟨fun e => ⟨by omega, fun hb => ?_, (hL.1 e).2.2⟩, fun e => ?_, fun e => ⟨by omega, fun hb => ?_⟩⟩
          · have := (hL.1 e).2.1 hb; omega
          · have := (hL.2.1 e).1; omega
          · have := (hL.2.2 e).2 hb; omega
        refine ⟨by rcases hs12 with h | h <;> simp only [h] <;> simp, hL', fun _ => by rw [← h]; exact he, fun hh => by omega, fun hh => by omega, fun hh => by omega⟩
      · rw [if_neg hz] at hv
        rw [hv]
        have hlt : (legOf m.i m.l (P.E m.t)).1 = 1 ∨ (legOf m.i m.l (P.E m.t)).1 = 2 ∨ (legOf m.i m.l (P.E m.t)).1 = 3 ∨ (legOf m.i m.l (P.E m.t)).1 = 4 := by
          have hfold : ∀ (evs : List Ev) (s : Nat × Msg × Bool), s.1 < 5 → (evs.foldl (Go.Proofs.Ytjkhbjgfoopomaa.legStep m.i m.l) s).1 < 5 := by
            intro evs
            induction evs with
            | nil => intro s h; exact h
            | cons e r ih =>
              intro s h
              refine ih _ ?_
              unfold Go.Proofs.Ytjkhbjgfoopomaa.legStep
              (repeat' split) <;> first | exact h | simp
          have : (legOf m.i m.l (P.E m.t)).1 < 5 := hfold _ _ (by simp)
          omega
        exact ⟨hlt, hL, hT, fun h => h, fun h => h, fun h => h⟩
    · obtain ⟨hs, hv⟩ := a2 h
      rw [hv]
      have e2 := h2 h
      refine ⟨.inr (.inr (.inl rfl)), ⟨fun e => by omega, fun e => ⟨.inr rfl, fun _ => rfl⟩, fun e => by omega⟩, hT, fun _ => .inr (.inl rfl), fun hh => by omega, fun _ => .inl rfl⟩
    · obtain ⟨hs, hv⟩ := a3 h
      rw [hv]
      have e3 := h3 h
      refine ⟨.inr (.inr (.inr rfl)), ⟨fun e => by omega, fun e => by omega, fun e => ⟨by show (4 : Nat) ≠ 3; decide, fun _ => rfl⟩⟩, hT, fun _ => .inr (.inr rfl), fun _ => .inr rfl, fun _ => .inr rfl⟩
  · omega
theorem upd_leg {E : Nat → List Ev} {m : Msg} {b i l : Nat} (h : ¬ (b = m.t ∧ i = m.i ∧ l = m.l)) : legOf i l (upd E m.t (hEvsOf m (E m.t)) b) = legOf i l (E b) := by
  by_cases hb : b = m.t
  · subst hb
    rw [upd_self]
    refine leg_other ?_
    by_cases hi : i = m.i
    · exact .inr (fun hl => h ⟨rfl, hi, hl⟩)
    · exact .inl hi
  · rw [upd_ne _ _ hb]
/-- a bank has taken a message in -/
theorem NInv.bank {P Q : PN} (I : NInv P) {ck : Nat} {ps : List Xp} (hd : DRel P.A ck ps) {m : Msg} (hm : OnW P m) (hk : m.k ≤ 3) (h0 : hErrOf m (P.E m.t) = 0)
    (hE : Q.E = upd P.E m.t (hEvsOf m (P.E m.t))) (hA : Q.A = P.A) (hw : ∀ y, y ∈ Q.wire → y ∈ P.wire ∨ y = bankAns m.t m (P.E m.t)) : NInv Q := by
  obtain ⟨x0, hx0, hb0, hme, hs, hL0, hT0, g1, g2, g3⟩ := I.legStep hd hm hk h0
  obtain ⟨E, A, wire, lg, sm⟩ := Q
  simp only at hE hA hw
  subst hE hA
  have hf0 := hm.2.1
  have hb3 := I.b3 m.i hf0 m.l x0 hx0
  rw [hb0] at hb3
  have hself : legOf m.i m.l (upd P.E m.t (hEvsOf m (P.E m.t)) m.t) = legOf m.i m.l (hEvsOf m (P.E m.t)) := by rw [upd_self]
  refine ⟨I.b3, ?_, ?_, ?_, ?_⟩
  · intro b i l hb1 hb2 hn
    by_cases h : b = m.t ∧ i = m.i ∧ l = m.l
    · obtain ⟨rfl, rfl, rfl⟩ := h
      exact ⟨hf0, x0, hx0, hb0⟩
    · exact I.kept b i l hb1 hb2 (by rw [← upd_leg h]; exact hn)
  · intro b i l x hb1 hb2 ha hx
    by_cases h : b = m.t ∧ i = m.i ∧ l = m.l
    · obtain ⟨rfl, rfl, rfl⟩ := h
      simp only at ha hx ⊢
      rw [hself] at ha ⊢
      have : x = x0 := by rw [hx0] at hx; injection hx with hx; exact hx.symm
      subst this
      exact hT0 ha
    · simp only at ha hx ⊢
      rw [upd_leg h] at ha ⊢
      exact I.terms b i l x hb1 hb2 ha hx
  · intro i l x hf hx
    simp only at hf hx ⊢
    by_cases h : x.b = m.t ∧ i = m.i ∧ l = m.l
    · obtain ⟨hxb, rfl, rfl⟩ := h
      rw [hxb, hself]
      exact hL0
    · rw [upd_leg h]
      exact I.leg i l x hf hx
  · intro y hy
    have keep : ∀ y, OnW P y → OnW ⟨upd P.E m.t (hEvsOf m (P.E m.t)), P.A, wire, lg, sm⟩ y := by
      rintro y ⟨hF, hf, x, hx, h⟩
      refine ⟨hF, hf, x, hx, h.imp_right ?_⟩
      rintro ⟨h4, hfx, a4, a5, a6⟩
      simp only
      by_cases h : x.b = m.t ∧ y.i = m.i ∧ y.l = m.l
      · obtain ⟨hxb, hi, hl⟩ := h
        rw [hxb, hi, hl] at a4 a5 a6 ⊢
        rw [hself]
        exact ⟨h4, by rw [hfx, hxb], fun e => g1 (a4 e), fun e => g2 (a5 e), fun e => g3 (a6 e)⟩
      · rw [upd_leg h]
        exact ⟨h4, hfx, a4, a5, a6⟩
    rcases hw y hy with h | rfl
    · exact keep y (I.wire y h)
    · have hS := hd.stand hf0
      have hl4 : m.l < 4 := by have := (leg_lt hx0).1; have := hS.few; omega
      refine ⟨ans_fair ⟨hb3.1, by omega⟩ (hd.lt hf0) hl4, hf0, x0, hx0, .inr ?_⟩
      have e1 : (bankAns m.t m (P.E m.t)).i = m.i := rfl
      have e2 : (bankAns m.t m (P.E m.t)).l = m.l := rfl
      have e3 : (bankAns m.t m (P.E m.t)).k = kindFor (legOf m.i m.l (hEvsOf m (P.E m.t))).1 := rfl
      have e4 : (bankAns m.t m (P.E m.t)).f = m.t := rfl
      simp only [e1, e2, e3, e4]
      rw [hb0, hself]
      generalize (legOf m.i m.l (hEvsOf m (P.E m.t))).1 = s at *
      unfold kindFor
      rcases hs with rfl | rfl | rfl | rfl <;> simp
theorem bit_with (b l n : Nat) (hb : b < 16) (hl : l < 4) (hn : n < 4) : bitB (withOf b l) n = (bitB b n || decide (n = l)) := by
  have : ∀ b : Fin 16, ∀ l : Fin 4, ∀ n : Fin 4, bitB (withOf b.val l.val) n.val = (bitB b.val n.val || decide (n.val = l.val)) := by decide
  exact this ⟨b, hb⟩ ⟨l, hl⟩ ⟨n, hn⟩
theorem bit_full (k n : Nat) (hk : k ≤ 4) (hn : n < k) : bitB (fullOf k) n = true := by
  have : ∀ k : Fin 5, ∀ n : Fin 4, n.val < k.val → bitB (fullOf k.val) n.val = true := by decide
  exact this ⟨k, by omega⟩ ⟨n, by omega⟩ hn
theorem pow_16 {n b : Nat} (hn : n ≤ 4) (hb : b < 2 ^ n) : b < 16 := by
  have : (2 : Nat) ^ n ≤ 2 ^ 4 := Nat.pow_le_pow_right (by omega) hn
  omega
/-- an act that is no payment: which payments are kept stays -/
theorem pay_other {A : List Dt} {y : Dt} (hy : y.kind ≠ -1) (i : Nat) : fnd (A ++ [y]) i = fnd A i ∧ payO (A ++ [y]) i = payO A i := by
  unfold fnd payO
  rw [find_other hy]
  exact ⟨rfl, rfl⟩
theorem stA_other {A : List Dt} {y : Dt} (hy : y.kind ≠ -1) (i : Nat) : stA (A ++ [y]) i = stStep (payO A i) (stA A i) y := by
  unfold stA
  rw [(pay_other hy i).2]
  simp [stOf, List.foldl_append]
/-- the notary takes a message that is on the wire -/
theorem NInv.noteOk {P : PN} (I : NInv P) {m : Msg} (hm : OnW P m) (hk : 4 ≤ m.k) : m.t = 0 ∧ nErr m P.A = 0 := by
  obtain ⟨hF, hf, x, hx, ⟨h3, _⟩ | ⟨_, hfx, a4, a5, a6⟩⟩ := hm
  · omega
  · have ht := (hF.kinds.2.2.2.2.1 hk).1
    refine ⟨ht, ?_⟩
    have hL := I.leg m.i m.l x hf hx
    have hf' : (findOf m.i P.A).2.1 = true := hf
    have hh : hasLegB (findOf m.i P.A).1 m.l m.f = true := by
      unfold hasLegB
      have hx' : (findOf m.i P.A).1.legs[m.l]? = some x := hx
      rw [hx']
      simp [hfx]
    unfold nErr
    rw [if_neg (by omega), hf', hh]
    simp only [Bool.and_self, Bool.true_eq_false, if_false]
    rw [if_neg]
    rintro (⟨h5, h2⟩ | ⟨h6, h1⟩)
    · have := (hL.2.1 h2).1
      have := a5 h5
      omega
    · have := (hL.1 h1).1
      have := a6 h6
      omega
/-- the state of the message's payment behind it -/
theorem note_st {A : List Dt} {ck : Nat} {ps : List Xp} (hd : DRel A ck ps) {m : Msg} (hf : fnd A m.i = true) (hk : 4 ≤ m.k ∧ m.k ≤ 6) :
    (m.k = 4 → stA (A ++ [msgAct m]) m.i = if (stA A m.i).1 = 1 then (if withOf (stA A m.i).2.1 m.l = fullOf (payO A m.i).legs.length then 2 else 1, withOf (stA A m.i).2.1 m.l, (stA A m.i).2.2.1, (stA A m.i).2.2.2) else stA A m.i) ∧
    (m.k = 5 → stA (A ++ [msgAct m]) m.i = if (stA A m.i).1 = 1 then (3, (stA A m.i).2) else stA A m.i) ∧
    (m.k = 6 → stA (A ++ [msgAct m]) m.i = ((stA A m.i).1, (stA A m.i).2.1, withOf (stA A m.i).2.2.1 m.l, (stA A m.i).2.2.2)) := by
  have hn : (msgAct m).kind ≠ -1 := by show ((m.k : Int)) ≠ -1; omega
  rw [stA_other hn]
  have hid : m.i = (payO A m.i).id := (hd.stand hf).id.symm
  have e : ∀ k : Nat, m.k = k → msgAct m = ⟨(k : Int), noPm, m⟩ := fun k h => by unfold msgAct; rw [h]
  refine ⟨fun h => ?_, fun h => ?_, fun h => ?_⟩
  · rw [e 4 h]; exact step4 _ _ m hid
  · rw [e 5 h]; exact step5 _ _ m hid
  · rw [e 6 h]; exact step6 _ _ m hid
theorem note_other {A : List Dt} {m : Msg} {i : Nat} (hk : 4 ≤ m.k) (hid : (payO A i).id = i) (h : i ≠ m.i) : stA (A ++ [msgAct m]) i = stA A i := by
  have hn : (msgAct m).kind ≠ -1 := by show ((m.k : Int)) ≠ -1; omega
  rw [stA_other hn]
  unfold stStep
  rw [if_neg (by show ¬ ((m.k : Int)) = 0; omega), if_neg hn, if_pos (by show m.i ≠ (payO A i).id; rw [hid]; exact fun e => h e.symm)]
/-- what a state may turn to -/
theorem NInv.acts {P Q : PN} (I : NInv P) {y : Dt} (hy : y.kind ≠ -1) (hE : Q.E = P.E) (hA : Q.A = P.A ++ [y])
    (hleg : ∀ i l x, fnd P.A i = true → (payO P.A i).legs[l]? = some x → LegInv (stA (P.A ++ [y]) i).1 (bitB (stA (P.A ++ [y]) i).2.1 l) (bitB (stA (P.A ++ [y]) i).2.2.1 l) (legOf i l (P.E x.b)).1)
    (hst : ∀ i, fnd P.A i = true → ((stA P.A i).1 = 2 → (stA (P.A ++ [y]) i).1 = 2) ∧ ((stA P.A i).1 = 3 → (stA (P.A ++ [y]) i).1 = 3))
    (hw : ∀ m, m ∈ Q.wire → m ∈ P.wire ∨ ∃ i l x, fnd P.A i = true ∧ (payO P.A i).legs[l]? = some x ∧ m = askMsg (payO P.A i) x l (askKind (stA (P.A ++ [y]) i).1)) (hd : ∃ ck ps, DRel (P.A ++ [y]) ck ps) : NInv Q := by
  obtain ⟨E, A, wire, lg, sm⟩ := Q
  simp only at hE hA hw
  subst hE hA
  have hp := fun i => pay_other (A := P.A) hy i
  refine ⟨?_, ?_, ?_, ?_, ?_⟩
  · intro i hf
    simp only at hf ⊢
    rw [(hp i).1] at hf
    rw [(hp i).2]
    exact I.b3 i hf
  · intro b i l h1 h2 hn
    simp only at hn ⊢
    rw [(hp i).1, (hp i).2]
    exact I.kept b i l h1 h2 hn
  · intro b i l x h1 h2 ha hx
    simp only at ha hx ⊢
    rw [(hp i).2] at hx ⊢
    exact I.terms b i l x h1 h2 ha hx
  · intro i l x hf hx
    simp only at hf hx ⊢
    rw [(hp i).1] at hf
    rw [(hp i).2] at hx
    exact hleg i l x hf hx
  · intro m hm
    rcases hw m hm with h | ⟨i, l, x, hf, hx, rfl⟩
    · obtain ⟨hF, hf, x, hx, h⟩ := I.wire m h
      have hs := hst m.i hf
      refine ⟨hF, by simp only; rw [(hp m.i).1]; exact hf, x, by simp only; rw [(hp m.i).2]; exact hx, ?_⟩
      simp only
      rw [(hp m.i).2]
      rcases h with ⟨a, b, c, d⟩ | h
      · exact .inl ⟨a, b, fun e => hs.1 (c e), fun e => hs.2 (d e)⟩
      · exact .inr h
    · obtain ⟨ck, ps, hd⟩ := hd
      have hf' : fnd (P.A ++ [y]) i = true := by rw [(hp i).1]; exact hf
      have hS := hd.stand hf'
      have hx' : (payO (P.A ++ [y]) i).legs[l]? = some x := by rw [(hp i).2]; exact hx
      have hF := ask_fair hS hx' (stA (P.A ++ [y]) i).1
      rw [(hp i).2] at hF
      have hq := ask_parts (payO P.A i) x l (askKind (stA (P.A ++ [y]) i).1)
      have hid : (payO P.A i).id = i := by rw [← (hp i).2]; exact hS.id
      have ei : (askMsg (payO P.A i) x l (askKind (stA (P.A ++ [y]) i).1)).i = i := by rw [hq.2.2.2.1, hid]
      have el := hq.2.2.2.2
      have ek := hq.1
      refine ⟨hF, by rw [ei]; exact hf', x, by rw [ei, el]; exact hx', .inl ?_⟩
      rw [ei, el, ek]
      simp only
      rw [(hp i).2]
      have hkk := askKind_of (stA (P.A ++ [y]) i).1
      have hlo := hS.lo
      have hhi := hS.hi
      exact ⟨by omega, rfl, fun e => by omega, fun e => by omega⟩
end Go.Proofs.Ytjkhbjgfoopomaa
