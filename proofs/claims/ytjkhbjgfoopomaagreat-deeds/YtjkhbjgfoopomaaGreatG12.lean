import Derived.Test.YtjkhbjgfoopomaaGreatG9
import Derived.Test.YtjkhbjgfoopomaaGreatG6
import Derived.Test.YtjkhbjgfoopomaaGreatG11
/-
  Plain: a bank of the program's against what the document reckons of all that has changed it.
-/
namespace Go.Proofs.YtjkhbjgfoopomaaGreat
set_option linter.unusedVariables false
set_option linter.unusedSimpArgs false

/-! how a list of events grows by one -/
theorem firstB_old (evs : List Ev) (e : Ev) (k : Nat) (hk : k < evs.length) : firstB (evs ++ [e]) k = firstB evs k := by
  unfold firstB
  rw [List.getElem?_append_left hk, List.take_append_of_le_length (Nat.le_of_lt hk)]
theorem keysTo_old (evs : List Ev) (e : Ev) (k : Nat) (hk : k ≤ evs.length) : keysTo (evs ++ [e]) k = keysTo evs k := by
  induction k with
  | zero => rfl
  | succ k ih =>
    simp only [keysTo]
    rw [List.getElem?_append_left hk, ih (by omega), firstB_old evs e k hk]
theorem leg_keep (id l : Nat) (evs : List Ev) : ∀ s : Nat × Msg × Bool, s.1 ≠ 0 → (evs.foldl (legStep id l) s).1 ≠ 0 := by
  induction evs with
  | nil => intro s h; exact h
  | cons e r ih =>
    intro s h
    refine ih _ ?_
    unfold legStep
    (repeat' split) <;> first | exact h | simp
theorem leg_none (id l : Nat) (evs : List Ev) : ∀ s : Nat × Msg × Bool, (evs.foldl (legStep id l) s).1 = 0 → evs.all (fun x => !ofLeg id l x) = true := by
  induction evs with
  | nil => intro s h; rfl
  | cons e r ih =>
    intro s h
    rw [List.foldl_cons] at h
    rw [List.all_cons, ih _ h, Bool.and_true]
    by_cases hy : ofLeg id l e = true
    · exfalso
      refine leg_keep id l r (legStep id l s e) ?_ h
      simp only [ofLeg, Bool.and_eq_true, decide_eq_true_eq] at hy
      unfold legStep
      rw [if_neg hy.1, if_neg (by simp [hy.2.1]), if_neg (by simp [hy.2.2])]
      (repeat' split) <;> simp
    · simpa using hy
theorem keysOf_new (evs : List Ev) (e : Ev) (h : e.kind ≠ 0) (hl : (legOf e.msg.i e.msg.l evs).1 = 0) : keysOf (evs ++ [e]) = keysOf evs ++ [(e.msg.i, e.msg.l)] := by
  have hn := leg_none _ _ evs _ hl
  unfold keysOf
  rw [List.length_append, List.length_singleton, keysTo_yes (by simp), keysTo_old _ _ _ (Nat.le_refl _)]
  · simp
  · rw [firstB_at (by simp)]
    simp only [List.getElem_append_right (Nat.le_refl _), Nat.sub_self, List.getElem_cons_zero, List.take_append_of_le_length (Nat.le_refl _), List.take_length]
    rw [hn]
    simp [h]
theorem legOf_other (id l : Nat) (evs : List Ev) (e : Ev) (h : e.kind = 0 ∨ e.msg.i ≠ id ∨ e.msg.l ≠ l) : legOf id l (evs ++ [e]) = legOf id l evs := by
  rw [legOf_snoc]
  unfold legStep
  by_cases h0 : e.kind = 0
  · rw [if_pos h0]
  · rw [if_neg h0]
    by_cases h1 : e.msg.i = id
    · rw [if_neg (by simp [h1]), if_pos (by rcases h with h | h | h; exact absurd h h0; exact absurd h1 h; exact h)]
    · rw [if_pos h1]

/-! sums over the program's legs -/
def paidL (a : Nat) (x : Lg) : Nat := if x.st = 3 ∧ x.p = a then x.a else 0
def gotL (a : Nat) (x : Lg) : Nat := if x.st = 3 ∧ x.g = a then x.a else 0
def sumL (f : Lg → Nat) (ls : List Lg) : Nat := (ls.map f).sum
def costL (x : Lg) : Nat := if x.st = 1 ∨ x.st = 2 then 1 else 2
theorem sumL_ins (f : Lg → Nat) (x : Lg) (k : Nat) (ls : List Lg) : sumL f (insAt x k ls) = sumL f ls + f x := by
  unfold sumL insAt
  conv => rhs; rw [← List.take_append_drop k ls]
  simp only [List.map_append, List.map_cons, List.sum_append, List.sum_cons]
  omega
theorem sumL_ge (f : Lg → Nat) : ∀ (ls : List Lg) (j : Nat) (hj : j < ls.length), f ls[j] ≤ sumL f ls
  | [], j, hj => by simp at hj
  | x :: r, 0, _ => by simp [sumL]
  | x :: r, j + 1, hj => by
    have := sumL_ge f r j (by simpa using hj)
    simp only [sumL, List.map_cons, List.sum_cons, List.getElem_cons_succ] at *
    omega
theorem sumL_zero (f : Lg → Nat) (ls : List Lg) (h : ∀ x, x ∈ ls → f x = 0) : sumL f ls = 0 := by
  induction ls with
  | nil => rfl
  | cons x r ih =>
    simp only [sumL, List.map_cons, List.sum_cons] at *
    rw [h x (by simp), ih (fun y hy => h y (by simp [hy]))]
theorem mem_ins {x y : Lg} {k : Nat} {ls : List Lg} : y ∈ insAt x k ls ↔ y = x ∨ y ∈ ls := by
  unfold insAt
  constructor
  · intro h
    rw [List.mem_append, List.mem_cons] at h
    rcases h with h | h | h
    · exact .inr (List.mem_of_mem_take h)
    · exact .inl h
    · exact .inr (List.mem_of_mem_drop h)
  · intro h
    rw [List.mem_append, List.mem_cons]
    rcases h with h | h
    · exact .inr (.inl h)
    · rw [← List.take_append_drop k ls, List.mem_append] at h
      rcases h with h | h
      · exact .inl h
      · exact .inr (.inr h)

/-! where a leg lies -/
theorem findB_lt (id l : Nat) : ∀ (ls : List Lg) (h : findB id l ls < ls.length), ls[findB id l ls].id = id ∧ ls[findB id l ls].l = l
  | [], h => by simp at h
  | x :: r, h => by
    by_cases hx : x.id = id ∧ x.l = l
    · have e : findB id l (x :: r) = 0 := by simp [findB, hx]
      simp only [e, List.getElem_cons_zero]
      exact hx
    · have e : findB id l (x :: r) = findB id l r + 1 := by
        unfold findB
        rw [List.takeWhile_cons, if_pos (by simp only [Bool.not_eq_true', Bool.and_eq_false_iff, decide_eq_false_iff_not]; omega), List.length_cons]
      simp only [e, List.getElem_cons_succ]
      exact findB_lt id l r (by rw [e] at h; simpa using h)
theorem findB_ge (id l : Nat) : ∀ (ls : List Lg) (h : ls.length ≤ findB id l ls), ∀ x, x ∈ ls → x.id = id → x.l ≠ l
  | [], h => by intro x hx; simp at hx
  | y :: r, h => by
    by_cases hy : y.id = id ∧ y.l = l
    · have e : findB id l (y :: r) = 0 := by simp [findB, hy]
      rw [e] at h
      simp at h
    · have e : findB id l (y :: r) = findB id l r + 1 := by
        unfold findB
        rw [List.takeWhile_cons, if_pos (by simp only [Bool.not_eq_true', Bool.and_eq_false_iff, decide_eq_false_iff_not]; omega), List.length_cons]
      rw [e] at h
      intro x hx h1 h2
      rcases List.mem_cons.1 hx with hx | hx
      · subst hx; exact hy ⟨h1, h2⟩
      · exact findB_ge id l r (by simpa using h) x hx h1 h2

def keyL (x : Lg) : Nat × Nat := (x.id, x.l)
/-- the leg x is as the document has it -/
def LegIs (x : Lg) (T : Nat × Msg × Bool) : Prop := T.1 = x.st ∧ 1 ≤ x.st ∧ x.st ≤ 4 ∧ (T.2.2 = true ∧ T.2.1.p = x.p ∧ T.2.1.g = x.g ∧ T.2.1.a = x.a ∧ T.2.1.m = x.m ∧ x.a ≠ 0 ∨ T.2.2 = false ∧ x.st = 4 ∧ x.p = 0 ∧ x.g = 0 ∧ x.a = 0 ∧ x.m = [])
/-- a bank of the program's, and the document's -/
structure Rel (evs : List Ev) (ac : List Ac) (ls : List Lg) : Prop where
  eok : ∀ e, e ∈ evs → e.ok
  aok : ∀ x, x ∈ ac → x.ok
  lok : ∀ x, x ∈ ls → x.ok ∧ x.l < 4
  num : ∀ a, (openedOf a evs).2.2 = ac.length
  has : ∀ a, (openedOf a evs).2.1 = hasB a ac
  none : ∀ a, hasB a ac = false → (openedOf a evs).1 = 0
  nod : ac.Pairwise fun x y => x.n ≠ y.n
  alen : ac.length ≤ 16
  keys : (ls.map keyL).Perm (keysOf evs)
  sort : ls.Pairwise fun x y => aheadB x y = true
  llen : ls.length ≤ 128
  leg : ∀ x, x ∈ ls → LegIs x (legOf x.id x.l evs)
  out : ∀ id l, (∀ x, x ∈ ls → x.id = id → x.l ≠ l) → legOf id l evs = (0, noMsg, false)
  opn : ∀ x, x ∈ ls → (x.st = 1 ∨ x.st = 3) → hasB x.p ac = true ∧ hasB x.g ac = true
  bal : ∀ a, balL a ac + sumL (paidL a) ls = (openedOf a evs).1 + sumL (gotL a) ls
  hb : ∀ a, heldL a ls ≤ balL a ac
  bd : ∀ a, balL a ac + dueL a ls ≤ 4294967295
  elen : evs.length ≤ ac.length + sumL costL ls
theorem Rel.zero : Rel [] [] [] := by
  refine ⟨by simp, by simp, by simp, fun a => rfl, fun a => rfl, fun a h => rfl, by simp, by simp, ?_, by simp, by simp, by simp, fun id l h => rfl, by simp, fun a => rfl, fun a => Nat.le_refl _, fun a => by simp [balL, dueL], by simp⟩
  exact List.Perm.refl _
theorem Rel.kept {evs : List Ev} {ac : List Ac} {ls : List Lg} (h : Rel evs ac ls) : (keysOf evs).length = ls.length := by
  rw [← h.keys.length_eq, List.length_map]
theorem bal_none (a : Nat) (ac : List Ac) : ∀ s, hasB a ac = false → ac.foldl (balStep a) s = s := by
  induction ac with
  | nil => intro s h; rfl
  | cons x r ih =>
    intro s h
    simp only [hasB, List.any_cons, Bool.or_eq_false_iff, decide_eq_false_iff_not] at h
    rw [List.foldl_cons, ih _ (by simpa [hasB] using h.2)]
    simp [balStep, h.1]
theorem Rel.gone {evs : List Ev} {ac : List Ac} {ls : List Lg} (h : Rel evs ac ls) (a : Nat) (hn : hasB a ac = false) : sumL (paidL a) ls = 0 ∧ sumL (gotL a) ls = 0 ∧ heldL a ls = 0 ∧ dueL a ls = 0 := by
  have key : ∀ x, x ∈ ls → (x.st = 1 ∨ x.st = 3) → x.p ≠ a ∧ x.g ≠ a := by
    intro x hx hs
    obtain ⟨h1, h2⟩ := h.opn x hx hs
    constructor <;> intro e <;> subst e
    · rw [hn] at h1; cases h1
    · rw [hn] at h2; cases h2
  refine ⟨sumL_zero _ _ ?_, sumL_zero _ _ ?_, sumL_zero _ _ ?_, sumL_zero _ _ ?_⟩
  all_goals
    intro x hx
    have := key x hx
    simp only [paidL, gotL, payL, getL]
    split
    · rename_i hc; exact absurd hc.2 (by first | exact (this (.inr hc.1)).1 | exact (this (.inr hc.1)).2 | exact (this (.inl hc.1)).1 | exact (this (.inl hc.1)).2)
    · rfl
theorem ahead_trans {x y z : Lg} (h1 : aheadB x y = true) (h2 : aheadB y z = true) : aheadB x z = true := by
  simp only [aheadB, decide_eq_true_eq] at *
  omega
/-- a new leg in its place -/
theorem sort_ins (x : Lg) (ls : List Lg) (k : Nat) (hk : k ≤ ls.length) (hs : ls.Pairwise fun x y => aheadB x y = true) (hne : ∀ y, y ∈ ls → ¬ (y.id = x.id ∧ y.l = x.l))
    (h1 : ∀ q (hq : q < ls.length), k ≤ q → aheadB x ls[q] = true) (h2 : ∀ j (hj : j < ls.length), k = j + 1 → aheadB x ls[j] = false) : (insAt x k ls).Pairwise fun x y => aheadB x y = true := by
  have hs' := hs
  rw [← List.take_append_drop k ls, List.pairwise_append] at hs'
  obtain ⟨s1, s2, s3⟩ := hs'
  have hd : ∀ y, y ∈ ls.drop k → aheadB x y = true := by
    intro y hy
    obtain ⟨q, hq, rfl⟩ := List.getElem_of_mem hy
    rw [List.getElem_drop]
    exact h1 _ _ (Nat.le_add_right _ _)
  have ht : ∀ y, y ∈ ls.take k → aheadB y x = true := by
    intro y hy
    cases k with
    | zero => simp at hy
    | succ j =>
      have hj : j < ls.length := hk
      have hlast : aheadB ls[j] x = true := by
        have e := h2 j hj rfl
        have e2 := hne ls[j] (List.getElem_mem hj)
        simp only [aheadB, decide_eq_false_iff_not, decide_eq_true_eq] at *
        omega
      rw [List.take_succ_eq_append_getElem hj] at hy s1
      rcases List.mem_append.1 hy with hy | hy
      · rw [List.pairwise_append] at s1
        exact ahead_trans (s1.2.2 y hy ls[j] (by simp)) hlast
      · rw [List.mem_singleton] at hy
        subst hy
        exact hlast
  unfold insAt
  rw [List.pairwise_append, List.pairwise_cons]
  refine ⟨s1, ⟨hd, s2⟩, ?_⟩
  intro y hy z hz
  rcases List.mem_cons.1 hz with hz | hz
  · subst hz; exact ht y hy
  · exact s3 y hy z hz
/-- one leg more -/
theorem Rel.new {evs : List Ev} {ac : List Ac} {ls : List Lg} (h : Rel evs ac ls) (e : Ev) (x : Lg) (k : Nat) (he : e.ok) (hk0 : e.kind ≠ 0) (hx : x.ok ∧ x.l < 4) (hid : e.msg.i = x.id) (hl : e.msg.l = x.l) (hk : k ≤ ls.length) (hlen : ls.length < 128)
    (hno : ∀ y, y ∈ ls → y.id = x.id → y.l ≠ x.l) (h1 : ∀ q (hq : q < ls.length), k ≤ q → aheadB x ls[q] = true) (h2 : ∀ j (hj : j < ls.length), k = j + 1 → aheadB x ls[j] = false)
    (hleg : LegIs x (legStep x.id x.l (0, noMsg, false) e)) (hst : x.st ≠ 3) (hcan : x.st = 1 → canX x.p x.g x.a ac ls = true) : Rel (evs ++ [e]) ac (insAt x k ls) := by
  have h0 := h.out x.id x.l hno
  have hop : ∀ a, openedOf a (evs ++ [e]) = openedOf a evs := fun a => by rw [openedOf_snoc]; simp [openedStep, hk0]
  have hz : ∀ y, y ∈ ls → legOf y.id y.l (evs ++ [e]) = legOf y.id y.l evs := fun y hy => legOf_other _ _ _ _ (by
    by_cases e1 : y.id = x.id
    · exact .inr (.inr (by rw [hl]; exact fun e2 => hno y hy e1 e2.symm))
    · exact .inr (.inl (by rw [hid]; exact fun e2 => e1 e2.symm)))
  have p3 : ∀ a, paidL a x = 0 := fun a => by simp [paidL, hst]
  have g3 : ∀ a, gotL a x = 0 := fun a => by simp [gotL, hst]
  have c1 : 1 ≤ costL x := by unfold costL; split <;> omega
  have eh : ∀ a, heldL a (insAt x k ls) = heldL a ls + payL a x := fun a => sumL_ins (payL a) x k ls
  have ed : ∀ a, dueL a (insAt x k ls) = dueL a ls + getL a x := fun a => sumL_ins (getL a) x k ls
  refine ⟨?_, h.aok, ?_, ?_, ?_, ?_, h.nod, h.alen, ?_, ?_, ?_, ?_, ?_, ?_, ?_, ?_, ?_, ?_⟩
  · intro y hy
    rcases List.mem_append.1 hy with hy | hy
    · exact h.eok y hy
    · rw [List.mem_singleton] at hy; subst hy; exact he
  · intro y hy
    rcases mem_ins.1 hy with hy | hy
    · subst hy; exact hx
    · exact h.lok y hy
  · intro a; rw [hop]; exact h.num a
  · intro a; rw [hop]; exact h.has a
  · intro a; rw [hop]; exact h.none a
  · rw [keysOf_new evs e hk0 (by rw [hid, hl, h0]), hid, hl]
    have hp : ((insAt x k ls).map keyL).Perm (keyL x :: ls.map keyL) := by
      unfold insAt
      rw [List.map_append, List.map_cons]
      refine List.perm_middle.trans ?_
      rw [← List.map_append, List.take_append_drop]
    exact hp.trans ((h.keys.cons _).trans (List.perm_append_singleton _ _).symm)
  · exact sort_ins x ls k hk h.sort (fun y hy hc => hno y hy hc.1 hc.2) h1 h2
  · rw [insAt_length]; omega
  · intro y hy
    rcases mem_ins.1 hy with hy | hy
    · subst hy
      rw [legOf_snoc, h0]
      exact hleg
    · rw [hz y hy]
      exact h.leg y hy
  · intro id l hy
    have hne := hy x (mem_ins.2 (.inl rfl))
    rw [legOf_other _ _ _ _ (by
      by_cases e1 : x.id = id
      · exact .inr (.inr (by rw [hl]; exact hne e1))
      · exact .inr (.inl (by rw [hid]; exact e1)))]
    exact h.out id l fun y h' => hy y (mem_ins.2 (.inr h'))
  · intro y hy hs
    rcases mem_ins.1 hy with hy | hy
    · subst hy
      have hs1 : y.st = 1 := by rcases hs with hs | hs; exact hs; exact absurd hs hst
      have := hcan hs1
      simp only [canX, Bool.and_eq_true] at this
      exact ⟨this.1, this.2.1⟩
    · exact h.opn y hy hs
  · intro a
    rw [hop, sumL_ins, sumL_ins, p3, g3]
    exact h.bal a
  · intro a
    rw [eh]
    have := h.hb a
    unfold payL
    split
    · rename_i hc
      obtain ⟨c1, c2⟩ := hc
      have := hcan c1
      simp only [canX, Bool.and_eq_true, decide_eq_true_eq, c2] at this
      exact this.2.2.1
    · exact this
  · intro a
    rw [ed]
    have := h.bd a
    unfold getL
    split
    · rename_i hc
      obtain ⟨c1, c2⟩ := hc
      have := hcan c1
      simp only [canX, Bool.and_eq_true, decide_eq_true_eq, c2] at this
      omega
    · exact this
  · have := h.elen
    rw [sumL_ins, List.length_append, List.length_singleton]
    omega
theorem bal_mem (ac : List Ac) (hn : ac.Pairwise fun x y => x.n ≠ y.n) (x : Ac) (hx : x ∈ ac) : ∀ s, ac.foldl (balStep x.n) s = x.b := by
  induction ac with
  | nil => simp at hx
  | cons y r ih =>
    intro s
    rw [List.foldl_cons]
    rcases List.mem_cons.1 hx with h | h
    · subst h
      have : hasB x.n r = false := by
        simp only [hasB, List.any_eq_false, decide_eq_true_eq]
        intro z hz e
        exact (List.pairwise_cons.1 hn).1 z hz e.symm
      rw [bal_none _ _ _ this]
      simp [balStep]
    · exact ih (List.pairwise_cons.1 hn).2 h _

/-! what the two answer, side by side -/
theorem Rel.at {evs : List Ev} {ac : List Ac} {ls : List Lg} (h : Rel evs ac ls) (i l : Nat) (hj : findB i l ls < ls.length) : LegIs ls[findB i l ls] (legOf i l evs) := by
  have h1 := findB_lt i l ls hj
  have h2 := h.leg _ (List.getElem_mem hj)
  rw [h1.1, h1.2] at h2
  exact h2
theorem Rel.no {evs : List Ev} {ac : List Ac} {ls : List Lg} (h : Rel evs ac ls) (i l : Nat) (hj : ls.length ≤ findB i l ls) : legOf i l evs = (0, noMsg, false) := h.out i l (findB_ge i l ls hj)
end Go.Proofs.YtjkhbjgfoopomaaGreat
/-
  The program's Bank.Handle, for every text, held against the document's.
-/
namespace Go.Proofs.YtjkhbjgfoopomaaGreat
open Go.RowKit
set_option linter.unusedVariables false
set_option linter.unusedSimpArgs false

theorem fault_lt (x : Msg) : faultOf x < 100 := by
  unfold faultOf termsOf
  (repeat' split) <;> omega
theorem decErr_lt (l : List UInt8) : decErr l < 100 := by
  unfold decErr
  split
  · omega
  · split
    · omega
    · exact fault_lt _
theorem Rel.one {evs : List Ev} {ac : List Ac} {ls : List Lg} (h : Rel evs ac ls) (x : Ac) (hx : x ∈ ac) : balL x.n ac = x.b := bal_mem ac h.nod x hx 0
theorem Rel.outs {evs : List Ev} {ac : List Ac} {ls : List Lg} (h : Rel evs ac ls) (j : Nat) (hj : j < ls.length) (h1 : ls[j].st = 1) : (∀ x, x ∈ ac → x.n = ls[j].p → ls[j].a ≤ x.b) ∧ ∀ x, x ∈ ac → x.n = ls[j].g → x.b + ls[j].a < 4294967296 := by
  constructor
  · intro x hx hp
    have h2 := h.one x hx
    have h3 := h.hb x.n
    have h4 := sumL_ge (payL ls[j].p) ls j hj
    rw [hp] at h2 h3
    have h5 : payL ls[j].p ls[j] = ls[j].a := by simp [payL, h1]
    have h6 : heldL ls[j].p ls = sumL (payL ls[j].p) ls := rfl
    omega
  · intro x hx hp
    have h2 := h.one x hx
    have h3 := h.bd x.n
    have h4 := sumL_ge (getL ls[j].g) ls j hj
    rw [hp] at h2 h3
    have h5 : getL ls[j].g ls[j] = ls[j].a := by simp [getL, h1]
    have h6 : dueL ls[j].g ls = sumL (getL ls[j].g) ls := rfl
    omega
end Go.Proofs.YtjkhbjgfoopomaaGreat
