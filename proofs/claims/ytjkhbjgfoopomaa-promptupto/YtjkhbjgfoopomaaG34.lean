import Derived.Test.YtjkhbjgfoopomaaG33
/-
  Plain: what holds of a network, whatever comes to pass.
-/
namespace Go.Proofs.Ytjkhbjgfoopomaa
set_option linter.unusedVariables false
set_option linter.unusedSimpArgs false
/-- a network: what has changed each bank, and the notary; the messages on the wire; the logs; what was opened -/
structure PN where
  E : Nat → List Ev
  A : List Dt
  wire : List Msg
  lg : Nat → List UInt8
  sm : Nat → Nat
/-- is a payment kept; it; how it stands -/
def fnd (A : List Dt) (i : Nat) : Bool := (findOf i A).2.1
def payO (A : List Dt) (i : Nat) : Pm := (findOf i A).1
def stA (A : List Dt) (i : Nat) : Nat × Nat × Nat × Nat := stOf (payO A i) A
theorem core_parts {p q : Pm} (h : core p = core q) : p.id = q.id ∧ p.dl = q.dl ∧ p.memo = q.memo ∧ p.legs = q.legs := by
  unfold core at h
  injection h with h1 h2 h3 h4 _ _
  exact ⟨h1, h2, h3, h4⟩
theorem DRel.at {A : List Dt} {ck : Nat} {ps : List Xp} (h : DRel A ck ps) {i : Nat} (hf : fnd A i = true) : ∃ y, y ∈ ps ∧ core (payO A i) = core y.pm ∧ y.pm.id = i ∧ Stands A y := by
  by_cases hx : findX i ps < ps.length
  · have h1 := (h.find_in i hx).2
    have hy := List.getElem_mem hx
    refine ⟨ps[findX i ps], hy, h1, ?_, h.good _ hy⟩
    obtain ⟨x, _, _, hid, hp⟩ := findOf_mem hf
    rw [← (core_parts h1).1]
    show (findOf i A).1.id = i
    rw [hp, hid]
  · have h1 := h.find_no i (by omega)
    unfold fnd at hf
    rw [h1] at hf
    cases hf
structure Stood (A : List Dt) (i : Nat) : Prop where
  right : wrongOf (payO A i) = 0
  id : (payO A i).id = i
  ok : (payO A i).ok
  lo : 1 ≤ (stA A i).1
  hi : (stA A i).1 ≤ 3
  room : (stA A i).2.1 < 2 ^ (payO A i).legs.length
  done : (stA A i).2.2.1 < 16
  few : (payO A i).legs.length ≤ 4
  some : 1 ≤ (payO A i).legs.length
theorem DRel.stand {A : List Dt} {ck : Nat} {ps : List Xp} (h : DRel A ck ps) {i : Nat} (hf : fnd A i = true) : Stood A i := by
  obtain ⟨y, hy, hc, hid, hs⟩ := h.at hf
  have hp := core_parts hc
  have e : stA A i = stOf y.pm A := st_core hc A
  have hok := hs.fine.ok.1
  have hw : wrongOf (payO A i) = 0 := by rw [wrong_core hc]; exact hs.right
  refine ⟨hw, by rw [hp.1, hid], ⟨by rw [hp.1]; exact hok.1, by rw [hp.2.1]; exact hok.2.1, by rw [hp.2.2.2]; exact hok.2.2⟩, by rw [e, ← hs.st]; exact hs.fine.st.1, by rw [e, ← hs.st]; exact hs.fine.st.2, by rw [e, ← hs.held, hp.2.2.2]; exact hs.room, by rw [e, ← hs.done]; exact hs.fine.done, wrongOf_few hw, ?_⟩
  unfold wrongOf at hw
  split at hw
  · omega
  · omega
theorem DRel.lt {A : List Dt} {ck : Nat} {ps : List Xp} (h : DRel A ck ps) {i : Nat} (hf : fnd A i = true) : i < 4294967296 := by
  have := (h.stand hf).ok.1
  rwa [(h.stand hf).id] at this
theorem leg_lt {p : Pm} {l : Nat} {x : Pl} (h : p.legs[l]? = some x) : l < p.legs.length ∧ x ∈ p.legs := ⟨(List.getElem?_eq_some_iff.1 h).1, List.mem_of_getElem? h⟩
theorem ask_parts (p : Pm) (x : Pl) (l k : Nat) : (askMsg p x l k).k = k ∧ (askMsg p x l k).f = 0 ∧ (askMsg p x l k).t = x.b ∧ (askMsg p x l k).i = p.id ∧ (askMsg p x l k).l = l := by
  unfold askMsg
  split
  · rename_i h; exact ⟨h.symm, rfl, rfl, rfl, rfl⟩
  · exact ⟨rfl, rfl, rfl, rfl, rfl⟩
theorem ask_fair {A : List Dt} {i : Nat} (h : Stood A i) {l : Nat} {x : Pl} (hx : (payO A i).legs[l]? = some x) (st : Nat) : Fair (askMsg (payO A i) x l (askKind st)) := by
  have hl := leg_lt hx
  have h4 := h.few
  refine ⟨?_, ask_fine h.right hl.2 (by omega)⟩
  have hxo := h.ok.2.2 x hl.2
  unfold askMsg
  split
  · exact ⟨by show (1 : Nat) < 256; omega, by show (0 : Nat) < 256; omega, hxo.1, h.ok.1, by show l < 256; omega, hxo.2.1, hxo.2.2.1, hxo.2.2.2⟩
  · exact ⟨by show askKind st < 256; unfold askKind; (repeat' split) <;> omega, by show (0 : Nat) < 256; omega, hxo.1, h.ok.1, by show l < 256; omega, by show (0 : Nat) < 65536; omega, by show (0 : Nat) < 65536; omega, by show (0 : Nat) < 4294967296; omega⟩
/-- a leg at its bank (s), against the notary's state, and its bits there -/
def LegInv (st : Nat) (hb db : Bool) (s : Nat) : Prop :=
  (st = 1 → (s = 0 ∨ s = 1 ∨ s = 2) ∧ (hb = true → s = 1) ∧ db = false) ∧ (st = 2 → (s = 1 ∨ s = 3) ∧ (db = true → s = 3)) ∧ (st = 3 → s ≠ 3 ∧ (db = true → s = 4))
/-- a message on the wire: to a bank, or to the notary -/
def OnW (P : PN) (m : Msg) : Prop :=
  Fair m ∧ fnd P.A m.i = true ∧ ∃ x, (payO P.A m.i).legs[m.l]? = some x ∧
    ((m.k ≤ 3 ∧ m = askMsg (payO P.A m.i) x m.l m.k ∧ (m.k = 2 → (stA P.A m.i).1 = 2) ∧ (m.k = 3 → (stA P.A m.i).1 = 3)) ∨
     (4 ≤ m.k ∧ m.f = x.b ∧ (m.k = 4 → (legOf m.i m.l (P.E x.b)).1 = 1 ∨ (legOf m.i m.l (P.E x.b)).1 = 3 ∨ (legOf m.i m.l (P.E x.b)).1 = 4) ∧ (m.k = 5 → (legOf m.i m.l (P.E x.b)).1 = 2 ∨ (legOf m.i m.l (P.E x.b)).1 = 4) ∧ (m.k = 6 → (legOf m.i m.l (P.E x.b)).1 = 3 ∨ (legOf m.i m.l (P.E x.b)).1 = 4)))
structure NInv (P : PN) : Prop where
  b3 : ∀ i, fnd P.A i = true → ∀ (l : Nat) (x : Pl), (payO P.A i).legs[l]? = some x → 1 ≤ x.b ∧ x.b ≤ 3
  kept : ∀ b i l, 1 ≤ b → b ≤ 3 → (legOf i l (P.E b)).1 ≠ 0 → fnd P.A i = true ∧ ∃ x, (payO P.A i).legs[l]? = some x ∧ x.b = b
  terms : ∀ b i l x, 1 ≤ b → b ≤ 3 → (legOf i l (P.E b)).2.2 = true → (payO P.A i).legs[l]? = some x → (legOf i l (P.E b)).2.1 = askMsg (payO P.A i) x l 1
  leg : ∀ i l x, fnd P.A i = true → (payO P.A i).legs[l]? = some x → LegInv (stA P.A i).1 (bitB (stA P.A i).2.1 l) (bitB (stA P.A i).2.2.1 l) (legOf i l (P.E x.b)).1
  wire : ∀ m, m ∈ P.wire → OnW P m
/-- fewer on the wire; logs and sums don't matter -/
theorem NInv.less {P Q : PN} (I : NInv P) (hE : Q.E = P.E) (hA : Q.A = P.A) (hw : ∀ m, m ∈ Q.wire → m ∈ P.wire) : NInv Q := by
  obtain ⟨E, A, wire, lg, sm⟩ := Q
  simp only at hE hA hw
  subst hE hA
  exact ⟨I.b3, I.kept, I.terms, I.leg, fun m hm => I.wire m (hw m hm)⟩
theorem nodup_le {α : Type} [BEq α] [LawfulBEq α] : ∀ (K S : List α), K.Pairwise (· ≠ ·) → (∀ x, x ∈ K → x ∈ S) → K.length ≤ S.length
  | [], S, _, _ => Nat.zero_le _
  | x :: K, S, hn, hs => by
    have hx := hs x (by simp)
    have h1 := nodup_le K (S.erase x) (List.pairwise_cons.1 hn).2 (fun y hy => (List.mem_erase_of_ne ((List.pairwise_cons.1 hn).1 y hy).symm).2 (hs y (by simp [hy])))
    rw [List.length_erase_of_mem hx] at h1
    have : 0 < S.length := List.length_pos_of_mem hx
    simp only [List.length_cons]
    omega
theorem keys_nodup {ls : List Lg} (h : ls.Pairwise fun x y => aheadB x y = true) : (ls.map keyL).Pairwise (· ≠ ·) := by
  rw [List.pairwise_map]
  refine h.imp ?_
  intro x y hxy e
  unfold keyL at e
  injection e with e1 e2
  unfold aheadB at hxy
  simp [e1, e2] at hxy
/-- there is room for a leg that is asked for -/
theorem NInv.room {P : PN} (I : NInv P) {ck : Nat} {ps : List Xp} (hd : DRel P.A ck ps) {b : Nat} (hb : 1 ≤ b ∧ b ≤ 3) {ac : List Ac} {ls : List Lg} (hr : Rel (P.E b) ac ls) {i l : Nat} {x : Pl} (hf : fnd P.A i = true) (hx : (payO P.A i).legs[l]? = some x) (h0 : (legOf i l (P.E b)).1 = 0) : (keysOf (P.E b)).length < 128 := by
  have hlen : ∀ qs : List Xp, (qs.flatMap fun y => [(y.pm.id, 0), (y.pm.id, 1), (y.pm.id, 2), (y.pm.id, 3)]).length = 4 * qs.length := by
    intro qs
    induction qs with
    | nil => rfl
    | cons y r ih => rw [List.flatMap_cons, List.length_append, ih]; simp; omega
  have hin : ∀ j k, fnd P.A j = true → k < 4 → (j, k) ∈ ps.flatMap fun y => [(y.pm.id, 0), (y.pm.id, 1), (y.pm.id, 2), (y.pm.id, 3)] := by
    intro j k hj hk
    obtain ⟨y, hy, _, hid, _⟩ := hd.at hj
    refine List.mem_flatMap.2 ⟨y, hy, ?_⟩
    rw [hid]
    have : k = 0 ∨ k = 1 ∨ k = 2 ∨ k = 3 := by omega
    rcases this with rfl | rfl | rfl | rfl <;> simp
  have hst : ∀ y, y ∈ ls → (legOf y.id y.l (P.E b)).1 ≠ 0 := fun y hy => by
    have := hr.leg y hy
    unfold LegIs at this
    omega
  have h := nodup_le ((i, l) :: ls.map keyL) (ps.flatMap fun y => [(y.pm.id, 0), (y.pm.id, 1), (y.pm.id, 2), (y.pm.id, 3)]) (List.pairwise_cons.2 ⟨?_, keys_nodup hr.sort⟩) ?_
  · rw [hlen] at h
    have h1 := hd.len
    rw [hr.kept]
    simp only [List.length_cons, List.length_map] at h
    omega
  · intro y hy e
    obtain ⟨z, hz, rfl⟩ := List.mem_map.1 hy
    unfold keyL at e
    injection e with e1 e2
    subst e1 e2
    exact hst z hz h0
  · intro y hy
    rcases List.mem_cons.1 hy with rfl | hy
    · have := (hd.stand hf).few
      exact hin i l hf (by have := (leg_lt hx).1; omega)
    · obtain ⟨z, hz, rfl⟩ := List.mem_map.1 hy
      obtain ⟨h1, x', h2, _⟩ := I.kept b z.id z.l hb.1 hb.2 (hst z hz)
      have := (hd.stand h1).few
      exact hin z.id z.l h1 (by have := (leg_lt h2).1; omega)
theorem other_self (m : Msg) : otherB m m = false := by simp [otherB]
/-- a message to a bank that is on the wire: it is taken -/
theorem NInv.bankOk {P : PN} (I : NInv P) {ck : Nat} {ps : List Xp} (hd : DRel P.A ck ps) {m : Msg} (hm : OnW P m) (hk : m.k ≤ 3) : 1 ≤ m.t ∧ m.t ≤ 3 ∧ ∀ {ac : List Ac} {ls : List Lg}, Rel (P.E m.t) ac ls → hErrOf m (P.E m.t) = 0 := by
  obtain ⟨hF, hf, x, hx, ⟨_, he, h2, h3⟩ | ⟨h4, _⟩⟩ := hm
  · have hp := ask_parts (payO P.A m.i) x m.l m.k
    have ht : m.t = x.b := by rw [he]; exact hp.2.2.1
    have hb := I.b3 m.i hf m.l x hx
    rw [← ht] at hb
    refine ⟨hb.1, hb.2, fun {ac ls} hr => ?_⟩
    have hL := I.leg m.i m.l x hf hx
    rw [← ht] at hL
    unfold hErrOf hErrT
    rw [if_neg, if_neg, if_neg]
    · rintro ⟨_, h0, h128⟩
      have := I.room hd hb hr hf hx h0
      omega
    · rintro (⟨h, h1, h3'⟩ | ⟨h, h3'⟩)
      · have := (hL.2.1 (h2 h)).1
        omega
      · exact (hL.2.2 (h3 h)).1 h3'
    · rintro ⟨h1, ha, ho⟩
      have := I.terms m.t m.i m.l x hb.1 hb.2 ha hx
      rw [this, ← h1, ← he, other_self] at ho
      cases ho
  · omega
end Go.Proofs.Ytjkhbjgfoopomaa
