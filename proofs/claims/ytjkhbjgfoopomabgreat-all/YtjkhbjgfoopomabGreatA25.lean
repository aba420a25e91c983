import Derived.Test.YtjkhbjgfoopomabGreatA22
namespace Go.Proofs.YtjkhbjgfoopomabGreat
set_option linter.unusedVariables false
set_option linter.unusedSimpArgs false
theorem firstB_old (evs : List Ev) (e : Ev) (k : Nat) (hk : k < evs.length) : firstB (evs ++ [e]) k = firstB evs k := by
 unfold firstB
 rw [List.getElem?_append_left hk, List.take_append_of_le_length (Nat.le_of_lt hk)]
theorem keysTo_old (evs : List Ev) (e : Ev) (k : Nat) (hk : k ≤ evs.length) : keysTo (evs ++ [e]) k = keysTo evs k := by
 induction k with
 | zero => rfl
 | succ k ih =>
  simp only [keysTo];rw [List.getElem?_append_left hk, ih (by omega), firstB_old evs e k hk]
theorem leg_keep (id l : Nat) (evs : List Ev) : ∀ s : Nat × Msg × Bool, s.1 ≠ 0 → (evs.foldl (legStep id l) s).1 ≠ 0 := by
 induction evs with
 | nil => intro s h; exact h
 | cons e r ih =>
  intro s h;refine ih _ ?_;unfold legStep
  (repeat' split) <;> first | exact h | simp
theorem leg_none (id l : Nat) (evs : List Ev) : ∀ s : Nat × Msg × Bool, (evs.foldl (legStep id l) s).1 = 0 → evs.all (fun x => !ofLeg id l x) = true := by
 induction evs with
 | nil => intro s h; rfl
 | cons e r ih =>
  intro s h;rw [List.foldl_cons] at h;rw [List.all_cons, ih _ h, Bool.and_true];by_cases hy : ofLeg id l e = true
  ·exfalso;refine leg_keep id l r (legStep id l s e) ?_ h;simp only [ofLeg, Bool.and_eq_true, decide_eq_true_eq] at hy;unfold legStep;rw [if_neg hy.1, if_neg (by simp [hy.2.1]), if_neg (by simp [hy.2.2])]
   (repeat' split) <;> simp
  ·simpa using hy
theorem leg_some (id l : Nat) (evs : List Ev) : ∀ s : Nat × Msg × Bool, evs.all (fun x => !ofLeg id l x) = true → evs.foldl (legStep id l) s = s := by
 induction evs with
 | nil => intro s h; rfl
 | cons e r ih =>
  intro s h;rw [List.all_cons, Bool.and_eq_true] at h;rw [List.foldl_cons, ih _ h.2];have h1 := h.1;simp only [ofLeg, Bool.not_eq_true', Bool.and_eq_false_iff, decide_eq_false_iff_not, Decidable.not_not] at h1;unfold legStep;rcases h1 with h1 | h1 | h1
  ·rw [if_pos h1]
  ·by_cases h0 : e.kind = 0
   ·rw [if_pos h0]
   ·rw [if_neg h0, if_pos h1]
  ·by_cases h0 : e.kind = 0
   ·rw [if_pos h0]
   ·rw [if_neg h0];by_cases h2 : e.msg.i = id
    ·rw [if_neg (by simp [h2]), if_pos h1]
    ·rw [if_pos h2]
theorem keysOf_open (evs : List Ev) (e : Ev) (h : e.kind = 0) : keysOf (evs ++ [e]) = keysOf evs := by
 unfold keysOf
 rw [List.length_append, List.length_singleton, keysTo_no (by simp), keysTo_old _ _ _ (Nat.le_refl _)]
 rw [firstB_at (by simp)]
 simp [h]
theorem keysOf_new (evs : List Ev) (e : Ev) (h : e.kind ≠ 0) (hl : (legOf e.msg.i e.msg.l evs).1 = 0) : keysOf (evs ++ [e]) = keysOf evs ++ [(e.msg.i, e.msg.l)] := by
 have hn := leg_none _ _ evs _ hl
 unfold keysOf
 rw [List.length_append, List.length_singleton, keysTo_yes (by simp), keysTo_old _ _ _ (Nat.le_refl _)]
 ·simp
 ·rw [firstB_at (by simp)];simp only [List.getElem_append_right (Nat.le_refl _), Nat.sub_self, List.getElem_cons_zero, List.take_append_of_le_length (Nat.le_refl _), List.take_length];rw [hn];simp [h]
theorem keysOf_old (evs : List Ev) (e : Ev) (hl : (legOf e.msg.i e.msg.l evs).1 ≠ 0) : keysOf (evs ++ [e]) = keysOf evs := by
 unfold keysOf
 rw [List.length_append, List.length_singleton, keysTo_no (by simp), keysTo_old _ _ _ (Nat.le_refl _)]
 rw [firstB_at (by simp)]
 simp only [List.getElem_append_right (Nat.le_refl _), Nat.sub_self, List.getElem_cons_zero, List.take_append_of_le_length (Nat.le_refl _), List.take_length]
 rw [Bool.and_eq_false_iff]
 right
 cases hz : evs.all fun x => !ofLeg e.msg.i e.msg.l x with
 | false => rfl
 | true =>
  exfalso;apply hl;unfold legOf;rw [leg_some _ _ evs _ hz]
theorem legOf_other (id l : Nat) (evs : List Ev) (e : Ev) (h : e.kind = 0 ∨ e.msg.i ≠ id ∨ e.msg.l ≠ l) : legOf id l (evs ++ [e]) = legOf id l evs := by
 rw [legOf_snoc]
 unfold legStep
 by_cases h0 : e.kind = 0
 ·rw [if_pos h0]
 ·rw [if_neg h0];by_cases h1 : e.msg.i = id
  ·rw [if_neg (by simp [h1]), if_pos (by rcases h with h | h | h; exact absurd h h0; exact absurd h1 h; exact h)]
  ·rw [if_pos h1]
def paidL (a : Nat) (x : Lg) : Nat := if x.st = 3 ∧ x.p = a then x.a else 0
def gotL (a : Nat) (x : Lg) : Nat := if x.st = 3 ∧ x.g = a then x.a else 0
def sumL (f : Lg → Nat) (ls : List Lg) : Nat := (ls.map f).sum
def costL (x : Lg) : Nat := if x.st = 1 ∨ x.st = 2 then 1 else 2
theorem sumL_ins (f : Lg → Nat) (x : Lg) (k : Nat) (ls : List Lg) : sumL f (insAt x k ls) = sumL f ls + f x := by
 unfold sumL insAt
 conv => rhs; rw [← List.take_append_drop k ls]
 simp only [List.map_append, List.map_cons, List.sum_append, List.sum_cons]
 omega
theorem sumL_set (f : Lg → Nat) (y : Lg) : ∀ (ls : List Lg) (j : Nat) (hj : j < ls.length), sumL f (ls.set j y) + f ls[j] = sumL f ls + f y
 | [], j, hj => by simp at hj
 | x :: r, 0, _ => by simp [sumL]; omega
 | x :: r, j + 1, hj => by
  have := sumL_set f y r j (by simpa using hj);simp only [sumL, List.set_cons_succ, List.map_cons, List.sum_cons, List.getElem_cons_succ] at *;omega
theorem sumL_ge (f : Lg → Nat) : ∀ (ls : List Lg) (j : Nat) (hj : j < ls.length), f ls[j] ≤ sumL f ls
 | [], j, hj => by simp at hj
 | x :: r, 0, _ => by simp [sumL]
 | x :: r, j + 1, hj => by
  have := sumL_ge f r j (by simpa using hj);simp only [sumL, List.map_cons, List.sum_cons, List.getElem_cons_succ] at *;omega
theorem sumL_zero (f : Lg → Nat) (ls : List Lg) (h : ∀ x, x ∈ ls → f x = 0) : sumL f ls = 0 := by
 induction ls with
 | nil => rfl
 | cons x r ih =>
  simp only [sumL, List.map_cons, List.sum_cons] at *;rw [h x (by simp), ih (fun y hy => h y (by simp [hy]))]
theorem sumL_le (f : Lg → Nat) (b : Nat) (ls : List Lg) (h : ∀ x, f x ≤ b) : sumL f ls ≤ ls.length * b := by
 induction ls with
 | nil => simp [sumL]
 | cons x r ih =>
  have := h x;simp only [sumL, List.map_cons, List.sum_cons, List.length_cons, Nat.add_mul, Nat.one_mul] at *;omega
theorem mem_ins {x y : Lg} {k : Nat} {ls : List Lg} : y ∈ insAt x k ls ↔ y = x ∨ y ∈ ls := by
 unfold insAt
 constructor
 ·intro h;rw [List.mem_append, List.mem_cons] at h;rcases h with h | h | h
  ·exact .inr (List.mem_of_mem_take h)
  ·exact .inl h
  ·exact .inr (List.mem_of_mem_drop h)
 ·intro h;rw [List.mem_append, List.mem_cons];rcases h with h | h
  ·exact .inr (.inl h)
  ·rw [← List.take_append_drop k ls, List.mem_append] at h;rcases h with h | h
   ·exact .inl h
   ·exact .inr (.inr h)
theorem findB_lt (id l : Nat) : ∀ (ls : List Lg) (h : findB id l ls < ls.length), ls[findB id l ls].id = id ∧ ls[findB id l ls].l = l
 | [], h => by simp at h
 | x :: r, h => by
  by_cases hx : x.id = id ∧ x.l = l
  ·have e : findB id l (x :: r) = 0 := by simp [findB, hx]
   simp only [e, List.getElem_cons_zero];exact hx
  ·have e : findB id l (x :: r) = findB id l r + 1 := by
    unfold findB;rw [List.takeWhile_cons, if_pos (by simp only [Bool.not_eq_true', Bool.and_eq_false_iff, decide_eq_false_iff_not]; omega), List.length_cons]
   simp only [e, List.getElem_cons_succ];exact findB_lt id l r (by rw [e] at h; simpa using h)
theorem findB_ge (id l : Nat) : ∀ (ls : List Lg) (h : ls.length ≤ findB id l ls), ∀ x, x ∈ ls → x.id = id → x.l ≠ l
 | [], h => by intro x hx; simp at hx
 | y :: r, h => by
  by_cases hy : y.id = id ∧ y.l = l
  ·have e : findB id l (y :: r) = 0 := by simp [findB, hy]
   rw [e] at h;simp at h
  ·have e : findB id l (y :: r) = findB id l r + 1 := by
    unfold findB;rw [List.takeWhile_cons, if_pos (by simp only [Bool.not_eq_true', Bool.and_eq_false_iff, decide_eq_false_iff_not]; omega), List.length_cons]
   rw [e] at h;intro x hx h1 h2;rcases List.mem_cons.1 hx with hx | hx
   ·subst hx; exact hy ⟨h1, h2⟩
   ·exact findB_ge id l r (by simpa using h) x hx h1 h2
def keyL (x : Lg) : Nat × Nat := (x.id, x.l)
def LegIs (x : Lg) (T : Nat × Msg × Bool) : Prop := T.1 = x.st ∧ 1 ≤ x.st ∧ x.st ≤ 4 ∧ (T.2.2 = true ∧ T.2.1.p = x.p ∧ T.2.1.g = x.g ∧ T.2.1.a = x.a ∧ T.2.1.m = x.m ∧ x.a ≠ 0 ∨ T.2.2 = false ∧ x.st = 4 ∧ x.p = 0 ∧ x.g = 0 ∧ x.a = 0 ∧ x.m = [])
structure Rel (evs : List Ev) (ac : List Ac) (ls : List Lg) : Prop where
 eok : ∀ e, e ∈ evs → e.ok
 aok : ∀ x, x ∈ ac → x.ok
 lok : ∀ x, x ∈ ls → x.ok ∧ x.l < 4
 num : ∀ a, (openedOf a evs).2.2 = ac.length
 has : ∀ a, (openedOf a evs).2.1 = hasB a ac
 none : ∀ a, hasB a ac = false → (openedOf a evs).1 = 0
 nod : ac.Pairwise fun x y => x.n ≠ y.n
 alen : ac.length ≤ 16
 keys : (ls.map keyL).Perm (keysOf evs)
 sort : ls.Pairwise fun x y => aheadB x y = true
 llen : ls.length ≤ 128
 leg : ∀ x, x ∈ ls → LegIs x (legOf x.id x.l evs)
 out : ∀ id l, (∀ x, x ∈ ls → x.id = id → x.l ≠ l) → legOf id l evs = (0, noMsg, false)
 opn : ∀ x, x ∈ ls → (x.st = 1 ∨ x.st = 3) → hasB x.p ac = true ∧ hasB x.g ac = true
 bal : ∀ a, balL a ac + sumL (paidL a) ls = (openedOf a evs).1 + sumL (gotL a) ls
 hb : ∀ a, heldL a ls ≤ balL a ac
 bd : ∀ a, balL a ac + dueL a ls ≤ 4294967295
 elen : evs.length ≤ ac.length + sumL costL ls
theorem Rel.zero : Rel [] [] [] := by
 refine ⟨by simp, by simp, by simp, fun a => rfl, fun a => rfl, fun a h => rfl, by simp, by simp, ?_, by simp, by simp, by simp, fun id l h => rfl, by simp, fun a => rfl, fun a => Nat.le_refl _, fun a => by simp [balL, dueL], by simp⟩
 exact List.Perm.refl _
theorem Rel.short {evs : List Ev} {ac : List Ac} {ls : List Lg} (h : Rel evs ac ls) : evs.length ≤ 272 := by
 have h1 := h.elen
 have h2 := sumL_le costL 2 ls (fun x => by unfold costL; split <;> omega)
 have h3 := h.alen
 have h4 := h.llen
 omega
theorem Rel.kept {evs : List Ev} {ac : List Ac} {ls : List Lg} (h : Rel evs ac ls) : (keysOf evs).length = ls.length := by
 rw [← h.keys.length_eq, List.length_map]
theorem sum_perm {ks : List (Nat × Nat)} {ls : List Lg} (hp : (ls.map keyL).Perm ks) (g : Nat × Nat → Nat) (f : Lg → Nat) (h : ∀ x, x ∈ ls → g (keyL x) = f x) : sumBy ks g = sumL f ls := by
 have h1 : (ks.map g).Perm ((ls.map keyL).map g) := (hp.map g).symm
 have h2 : (ls.map keyL).map g = ls.map f := by
  rw [List.map_map];exact List.map_congr_left fun x hx => h x hx
 unfold sumBy sumL
 rw [h1.sum_nat, h2]
theorem Rel.sums {evs : List Ev} {ac : List Ac} {ls : List Lg} (h : Rel evs ac ls) (a : Nat) :
  outOf a evs (keysOf evs) = sumL (paidL a) ls ∧ inOf a evs (keysOf evs) = sumL (gotL a) ls ∧ staysOf a evs (keysOf evs) = heldL a ls ∧ comesOf a evs (keysOf evs) = dueL a ls := by
 refine ⟨sum_perm h.keys _ _ ?_, sum_perm h.keys _ _ ?_, sum_perm h.keys _ _ ?_, sum_perm h.keys _ _ ?_⟩
 all_goals
  intro x hx;obtain ⟨h1, _, _, h4⟩ := h.leg x hx;simp only [keyL];generalize legOf x.id x.l evs = T at *;rcases h4 with ⟨g1, g2, g3, g4, _⟩ | ⟨g1, g2, _⟩
  ·simp only [amtPay, amtGet, paidL, gotL, payL, getL, g1, h1, g2, g3, g4, true_and]
  ·simp only [amtPay, amtGet, paidL, gotL, payL, getL, g1, g2];simp
theorem Rel.ge {evs : List Ev} {ac : List Ac} {ls : List Lg} (h : Rel evs ac ls) (a : Nat) : outOf a evs (keysOf evs) ≤ (openedOf a evs).1 + inOf a evs (keysOf evs) := by
 obtain ⟨h1, h2, h3, h4⟩ := h.sums a
 have := h.bal a
 omega
theorem Rel.money {evs : List Ev} {ac : List Ac} {ls : List Lg} (h : Rel evs ac ls) (a : Nat) : balOf a evs = balL a ac ∧ heldOf a evs = heldL a ls ∧ dueOf a evs = dueL a ls := by
 obtain ⟨h1, h2, h3, h4⟩ := h.sums a
 have := h.bal a
 refine ⟨?_, h3, h4⟩
 unfold balOf
 omega
theorem Rel.can {evs : List Ev} {ac : List Ac} {ls : List Lg} (h : Rel evs ac ls) (x : Msg) : canB x evs = canX x.p x.g x.a ac ls := by
 unfold canB canX
 obtain ⟨h1, h2, h3⟩ := h.money x.p
 obtain ⟨g1, g2, g3⟩ := h.money x.g
 rw [h.has, h.has, h1, h2, g1, g3]
theorem bal_none (a : Nat) (ac : List Ac) : ∀ s, hasB a ac = false → ac.foldl (balStep a) s = s := by
 induction ac with
 | nil => intro s h; rfl
 | cons x r ih =>
  intro s h;simp only [hasB, List.any_cons, Bool.or_eq_false_iff, decide_eq_false_iff_not] at h;rw [List.foldl_cons, ih _ (by simpa [hasB] using h.2)];simp [balStep, h.1]
theorem Rel.gone {evs : List Ev} {ac : List Ac} {ls : List Lg} (h : Rel evs ac ls) (a : Nat) (hn : hasB a ac = false) : sumL (paidL a) ls = 0 ∧ sumL (gotL a) ls = 0 ∧ heldL a ls = 0 ∧ dueL a ls = 0 := by
 have key : ∀ x, x ∈ ls → (x.st = 1 ∨ x.st = 3) → x.p ≠ a ∧ x.g ≠ a := by
  intro x hx hs;obtain ⟨h1, h2⟩ := h.opn x hx hs;constructor <;> intro e <;> subst e
  ·rw [hn] at h1; cases h1
  ·rw [hn] at h2; cases h2
 refine ⟨sumL_zero _ _ ?_, sumL_zero _ _ ?_, sumL_zero _ _ ?_, sumL_zero _ _ ?_⟩
 all_goals
  intro x hx;have := key x hx;simp only [paidL, gotL, payL, getL];split
  ·rename_i hc; exact absurd hc.2 (by first | exact (this (.inr hc.1)).1 | exact (this (.inr hc.1)).2 | exact (this (.inl hc.1)).1 | exact (this (.inl hc.1)).2)
  ·rfl
theorem hasB_snoc (a : Nat) (ac : List Ac) (x : Ac) : hasB a (ac ++ [x]) = (hasB a ac || decide (x.n = a)) := by simp [hasB, List.any_append]
theorem Rel.open {evs : List Ev} {ac : List Ac} {ls : List Lg} (h : Rel evs ac ls) (a b : Nat) (ha : a < 65536) (hb : b < 4294967296) (hn : hasB a ac = false) (h16 : ac.length < 16) : Rel (evs ++ [openEv a b]) (ac ++ [⟨a, b⟩]) ls := by
 obtain ⟨g1, g2, g3, g4⟩ := h.gone a hn
 have hop : ∀ a', openedOf a' (evs ++ [openEv a b]) = if a = a' then (b, true, (openedOf a' evs).2.2 + 1) else ((openedOf a' evs).1, (openedOf a' evs).2.1, (openedOf a' evs).2.2 + 1) := fun a' => by rw [openedOf_snoc]; unfold openedStep openEv; rw [if_pos rfl]
 have hlg : ∀ id l, legOf id l (evs ++ [openEv a b]) = legOf id l evs := fun id l => legOf_other id l evs _ (.inl rfl)
 have hbl : ∀ a', balL a' (ac ++ [⟨a, b⟩]) = if a = a' then b else balL a' ac := fun a' => by rw [balL_snoc]; simp [balStep]
 have hb0 : balL a ac = 0 := bal_none a ac 0 hn
 refine ⟨?_, ?_, h.lok, ?_, ?_, ?_, ?_, ?_, ?_, h.sort, h.llen, ?_, ?_, ?_, ?_, ?_, ?_, ?_⟩
 ·intro e he;rcases List.mem_append.1 he with he | he
  ·exact h.eok e he
  ·rw [List.mem_singleton] at he;subst he;refine ⟨by simp [openEv], ?_⟩;simp only [Msg.ok, openEv];omega
 ·intro x hx;rcases List.mem_append.1 hx with hx | hx
  ·exact h.aok x hx
  ·rw [List.mem_singleton] at hx;subst hx;exact ⟨ha, hb⟩
 ·intro a';rw [hop, List.length_append, ← h.num a'];split <;> rfl
 ·intro a';rw [hop, hasB_snoc];by_cases e : a = a'
  ·simp [e]
  ·simp only [e, if_false, decide_false, Bool.or_false];exact h.has a'
 ·intro a' hf;rw [hasB_snoc, Bool.or_eq_false_iff, decide_eq_false_iff_not] at hf;rw [hop, if_neg hf.2];exact h.none a' hf.1
 ·rw [List.pairwise_append];refine ⟨h.nod, by simp, ?_⟩;intro x hx y hy e;rw [List.mem_singleton] at hy;subst hy
  have : hasB a ac = true := by
   unfold hasB;rw [List.any_eq_true];exact ⟨x, hx, by simpa using e⟩
  rw [hn] at this;cases this
 ·simp; omega
 ·rw [keysOf_open _ _ rfl];exact h.keys
 ·intro x hx;rw [hlg];exact h.leg x hx
 ·intro id l hx;rw [hlg];exact h.out id l hx
 ·intro x hx hs;rw [hasB_snoc, hasB_snoc, (h.opn x hx hs).1, (h.opn x hx hs).2];simp
 ·intro a';rw [hop, hbl];by_cases e : a = a'
  ·subst e;simp only [if_true];omega
  ·simp only [e, if_false];exact h.bal a'
 ·intro a';rw [hbl];by_cases e : a = a'
  ·subst e;simp only [if_true];omega
  ·simp only [e, if_false];exact h.hb a'
 ·intro a';rw [hbl];by_cases e : a = a'
  ·subst e;simp only [if_true];omega
  ·simp only [e, if_false];exact h.bd a'
 ·have := h.elen;simp only [List.length_append, List.length_singleton];omega
theorem ahead_trans {x y z : Lg} (h1 : aheadB x y = true) (h2 : aheadB y z = true) : aheadB x z = true := by
 simp only [aheadB, decide_eq_true_eq] at *
 omega
theorem sort_ins (x : Lg) (ls : List Lg) (k : Nat) (hk : k ≤ ls.length) (hs : ls.Pairwise fun x y => aheadB x y = true) (hne : ∀ y, y ∈ ls → ¬ (y.id = x.id ∧ y.l = x.l))
  (h1 : ∀ q (hq : q < ls.length), k ≤ q → aheadB x ls[q] = true) (h2 : ∀ j (hj : j < ls.length), k = j + 1 → aheadB x ls[j] = false) : (insAt x k ls).Pairwise fun x y => aheadB x y = true := by
 have hs' := hs
 rw [← List.take_append_drop k ls, List.pairwise_append] at hs'
 obtain ⟨s1, s2, s3⟩ := hs'
 have hd : ∀ y, y ∈ ls.drop k → aheadB x y = true := by
  intro y hy;obtain ⟨q, hq, rfl⟩ := List.getElem_of_mem hy;rw [List.getElem_drop];exact h1 _ _ (Nat.le_add_right _ _)
 have ht : ∀ y, y ∈ ls.take k → aheadB y x = true := by
  intro y hy;cases k with
  | zero => simp at hy
  | succ j =>
   have hj : j < ls.length := hk
   have hlast : aheadB ls[j] x = true := by
    have e := h2 j hj rfl;have e2 := hne ls[j] (List.getElem_mem hj);simp only [aheadB, decide_eq_false_iff_not, decide_eq_true_eq] at *;omega
   rw [List.take_succ_eq_append_getElem hj] at hy s1;rcases List.mem_append.1 hy with hy | hy
   ·rw [List.pairwise_append] at s1;exact ahead_trans (s1.2.2 y hy ls[j] (by simp)) hlast
   ·rw [List.mem_singleton] at hy;subst hy;exact hlast
 unfold insAt
 rw [List.pairwise_append, List.pairwise_cons]
 refine ⟨s1, ⟨hd, s2⟩, ?_⟩
 intro y hy z hz
 rcases List.mem_cons.1 hz with hz | hz
 ·subst hz; exact ht y hy
 ·exact s3 y hy z hz
theorem Rel.new {evs : List Ev} {ac : List Ac} {ls : List Lg} (h : Rel evs ac ls) (e : Ev) (x : Lg) (k : Nat) (he : e.ok) (hk0 : e.kind ≠ 0) (hx : x.ok ∧ x.l < 4) (hid : e.msg.i = x.id) (hl : e.msg.l = x.l) (hk : k ≤ ls.length) (hlen : ls.length < 128)
  (hno : ∀ y, y ∈ ls → y.id = x.id → y.l ≠ x.l) (h1 : ∀ q (hq : q < ls.length), k ≤ q → aheadB x ls[q] = true) (h2 : ∀ j (hj : j < ls.length), k = j + 1 → aheadB x ls[j] = false)
  (hleg : LegIs x (legStep x.id x.l (0, noMsg, false) e)) (hst : x.st ≠ 3) (hcan : x.st = 1 → canX x.p x.g x.a ac ls = true) : Rel (evs ++ [e]) ac (insAt x k ls) := by
 have h0 := h.out x.id x.l hno
 have hop : ∀ a, openedOf a (evs ++ [e]) = openedOf a evs := fun a => by rw [openedOf_snoc]; simp [openedStep, hk0]
 have hz : ∀ y, y ∈ ls → legOf y.id y.l (evs ++ [e]) = legOf y.id y.l evs := fun y hy => legOf_other _ _ _ _ (by
  by_cases e1 : y.id = x.id
  ·exact .inr (.inr (by rw [hl]; exact fun e2 => hno y hy e1 e2.symm))
  ·exact .inr (.inl (by rw [hid]; exact fun e2 => e1 e2.symm)))
 have p3 : ∀ a, paidL a x = 0 := fun a => by simp [paidL, hst]
 have g3 : ∀ a, gotL a x = 0 := fun a => by simp [gotL, hst]
 have c1 : 1 ≤ costL x := by unfold costL; split <;> omega
 have eh : ∀ a, heldL a (insAt x k ls) = heldL a ls + payL a x := fun a => sumL_ins (payL a) x k ls
 have ed : ∀ a, dueL a (insAt x k ls) = dueL a ls + getL a x := fun a => sumL_ins (getL a) x k ls
 refine ⟨?_, h.aok, ?_, ?_, ?_, ?_, h.nod, h.alen, ?_, ?_, ?_, ?_, ?_, ?_, ?_, ?_, ?_, ?_⟩
 ·intro y hy;rcases List.mem_append.1 hy with hy | hy
  ·exact h.eok y hy
  ·rw [List.mem_singleton] at hy; subst hy; exact he
 ·intro y hy;rcases mem_ins.1 hy with hy | hy
  ·subst hy; exact hx
  ·exact h.lok y hy
 ·intro a; rw [hop]; exact h.num a
 ·intro a; rw [hop]; exact h.has a
 ·intro a; rw [hop]; exact h.none a
 ·rw [keysOf_new evs e hk0 (by rw [hid, hl, h0]), hid, hl]
  have hp : ((insAt x k ls).map keyL).Perm (keyL x :: ls.map keyL) := by
   unfold insAt;rw [List.map_append, List.map_cons];refine List.perm_middle.trans ?_;rw [← List.map_append, List.take_append_drop]
  exact hp.trans ((h.keys.cons _).trans (List.perm_append_singleton _ _).symm)
 ·exact sort_ins x ls k hk h.sort (fun y hy hc => hno y hy hc.1 hc.2) h1 h2
 ·rw [insAt_length]; omega
 ·intro y hy;rcases mem_ins.1 hy with hy | hy
  ·subst hy;rw [legOf_snoc, h0];exact hleg
  ·rw [hz y hy];exact h.leg y hy
 ·intro id l hy;have hne := hy x (mem_ins.2 (.inl rfl))
  rw [legOf_other _ _ _ _ (by
   by_cases e1 : x.id = id
   ·exact .inr (.inr (by rw [hl]; exact hne e1))
   ·exact .inr (.inl (by rw [hid]; exact e1)))]
  exact h.out id l fun y h' => hy y (mem_ins.2 (.inr h'))
 ·intro y hy hs;rcases mem_ins.1 hy with hy | hy
  ·subst hy;have hs1 : y.st = 1 := by rcases hs with hs | hs; exact hs; exact absurd hs hst
   have := hcan hs1;simp only [canX, Bool.and_eq_true] at this;exact ⟨this.1, this.2.1⟩
  ·exact h.opn y hy hs
 ·intro a;rw [hop, sumL_ins, sumL_ins, p3, g3];exact h.bal a
 ·intro a;rw [eh];have := h.hb a;unfold payL;split
  ·rename_i hc;obtain ⟨c1, c2⟩ := hc;have := hcan c1;simp only [canX, Bool.and_eq_true, decide_eq_true_eq, c2] at this;exact this.2.2.1
  ·exact this
 ·intro a;rw [ed];have := h.bd a;unfold getL;split
  ·rename_i hc;obtain ⟨c1, c2⟩ := hc;have := hcan c1;simp only [canX, Bool.and_eq_true, decide_eq_true_eq, c2] at this;omega
  ·exact this
 ·have := h.elen;rw [sumL_ins, List.length_append, List.length_singleton];omega
theorem bal_moved_gen (p g am a : Nat) : ∀ (ac : List Ac) (s : Nat), ac.Pairwise (fun x y => x.n ≠ y.n) → (∀ x, x ∈ ac → x.n = p → am ≤ x.b) → (movedL p g am ac).foldl (balStep a) s + (if a = p ∧ hasB a ac = true then am else 0) = ac.foldl (balStep a) s + (if a = g ∧ hasB a ac = true then am else 0)
 | [], s, _, _ => by simp [movedL, hasB]
 | x :: r, s, hn, ho => by
  have ho2 := ho x (by simp);simp only [movedL, List.map_cons, List.foldl_cons];by_cases hx : x.n = a
  ·have hno : hasB a r = false := by
    simp only [hasB, List.any_eq_false, decide_eq_true_eq];intro y hy e;exact (List.pairwise_cons.1 hn).1 y hy (by rw [hx, e])
   have hno2 : hasB a (r.map (move1 p g am)) = false := by
    simp only [hasB, List.any_eq_false, decide_eq_true_eq, List.mem_map] at *;rintro y ⟨z, hz, rfl⟩;exact hno z hz
   have hy : hasB a (x :: r) = true := by simp [hasB, hx]
   rw [bal_none _ _ _ hno2, bal_none _ _ _ hno, hy];simp only [balStep, move1, hx, if_true, and_true];by_cases e1 : a = p
   ·have := ho2 (hx.trans e1);by_cases e2 : a = g
    ·simp only [if_pos e1, if_pos e2];omega
    ·simp only [if_pos e1, if_neg e2];omega
   ·by_cases e2 : a = g
    ·simp only [if_neg e1, if_pos e2];omega
    ·simp only [if_neg e1, if_neg e2]
  ·have e1 : hasB a (x :: r) = hasB a r := by simp [hasB, hx]
   have e2 : balStep a s (move1 p g am x) = s := by simp [balStep, move1, hx]
   have e3 : balStep a s x = s := by simp [balStep, hx]
   rw [e1, e2, e3];exact bal_moved_gen p g am a r s (List.pairwise_cons.1 hn).2 fun y hy => ho y (by simp [hy])
theorem has_moved (p g am a : Nat) (ac : List Ac) : hasB a (movedL p g am ac) = hasB a ac := by
 unfold hasB movedL
 rw [List.any_map]
 rfl
theorem bal_mem (ac : List Ac) (hn : ac.Pairwise fun x y => x.n ≠ y.n) (x : Ac) (hx : x ∈ ac) : ∀ s, ac.foldl (balStep x.n) s = x.b := by
 induction ac with
 | nil => simp at hx
 | cons y r ih =>
  intro s;rw [List.foldl_cons];rcases List.mem_cons.1 hx with h | h
  ·subst h
   have : hasB x.n r = false := by
    simp only [hasB, List.any_eq_false, decide_eq_true_eq];intro z hz e;exact (List.pairwise_cons.1 hn).1 z hz e.symm
   rw [bal_none _ _ _ this];simp [balStep]
  ·exact ih (List.pairwise_cons.1 hn).2 h _
theorem keys_set (ls : List Lg) (j : Nat) (hj : j < ls.length) (x : Lg) (hx : keyL x = keyL ls[j]) : (ls.set j x).map keyL = ls.map keyL := by
 rw [List.map_set, hx]
 rw [show keyL ls[j] = (ls.map keyL)[j]'(by simpa using hj) by simp]
 exact List.set_getElem_self _
theorem Rel.nodup {evs : List Ev} {ac : List Ac} {ls : List Lg} (h : Rel evs ac ls) : ∀ (i j : Nat) (hi : i < ls.length) (hj : j < ls.length), i ≠ j → ¬ (ls[i].id = ls[j].id ∧ ls[i].l = ls[j].l) := by
 intro i j hi hj hne hc
 have hp := List.pairwise_iff_getElem.1 h.sort
 rcases Nat.lt_or_gt_of_ne hne with h' | h'
 ·have := hp i j hi hj h';simp only [aheadB, decide_eq_true_eq] at this;omega
 ·have := hp j i hj hi h';simp only [aheadB, decide_eq_true_eq] at this;omega
theorem sort_set (ls : List Lg) (j : Nat) (hj : j < ls.length) (x : Lg) (hx : keyL x = keyL ls[j]) (hs : ls.Pairwise fun x y => aheadB x y = true) : (ls.set j x).Pairwise fun x y => aheadB x y = true := by
 have e : ∀ l : List Lg, l.Pairwise (fun x y => aheadB x y = true) ↔ (l.map keyL).Pairwise (fun x y => x.1 < y.1 ∨ (x.1 = y.1 ∧ x.2 < y.2)) := by
  intro l;rw [List.pairwise_map];simp [aheadB, keyL]
 rw [e, keys_set ls j hj x hx, ← e]
 exact hs
theorem Rel.turn {evs : List Ev} {ac ac' : List Ac} {ls : List Lg} (h : Rel evs ac ls) (e : Ev) (j : Nat) (hj : j < ls.length) (st : Nat) (he : e.ok) (hk0 : e.kind ≠ 0) (hid : e.msg.i = ls[j].id) (hl : e.msg.l = ls[j].l)
  (hleg : LegIs { ls[j] with st := st } (legStep ls[j].id ls[j].l (legOf ls[j].id ls[j].l evs) e)) (ho : ls[j].st = 1 ∨ ls[j].st = 2) (hst : st = 4 ∧ ac' = ac ∨ st = 3 ∧ ls[j].st = 1 ∧ ac' = movedL ls[j].p ls[j].g ls[j].a ac) : Rel (evs ++ [e]) ac' (ls.set j { ls[j] with st := st }) := by
 have hop : ∀ a, openedOf a (evs ++ [e]) = openedOf a evs := fun a => by rw [openedOf_snoc]; simp [openedStep, hk0]
 have hm := List.getElem_mem hj
 have hL := h.leg ls[j] hm
 have hok := h.lok ls[j] hm
 have nd := h.nodup
 have nz : (legOf ls[j].id ls[j].l evs).1 ≠ 0 := by rw [hL.1]; have := hL.2.1; omega
 have S : ∀ f : Lg → Nat, sumL f (ls.set j { ls[j] with st := st }) + f ls[j] = sumL f ls + f { ls[j] with st := st } := fun f => sumL_set f _ ls j hj
 have eh : ∀ a l, heldL a l = sumL (payL a) l := fun _ _ => rfl
 have ed : ∀ a l, dueL a l = sumL (getL a) l := fun _ _ => rfl
 have hall : ∀ y, y ∈ ls.set j { ls[j] with st := st } → y = { ls[j] with st := st } ∨ (y ∈ ls ∧ ¬ (y.id = ls[j].id ∧ y.l = ls[j].l)) := by
  intro y hy;obtain ⟨q, hq, rfl⟩ := List.getElem_of_mem hy;rw [List.length_set] at hq;rw [List.getElem_set];split
  ·exact .inl rfl
  ·rename_i hne;exact .inr ⟨List.getElem_mem hq, nd q j hq hj (fun x => hne x.symm)⟩
 have hpay : ls[j].st = 1 → ls[j].a ≤ heldL ls[j].p ls := fun h1 => by
  have := sumL_ge (payL ls[j].p) ls j hj;rw [eh];simpa [payL, h1] using this
 have hget : ls[j].st = 1 → ls[j].a ≤ dueL ls[j].g ls := fun h1 => by
  have := sumL_ge (getL ls[j].g) ls j hj;rw [ed];simpa [getL, h1] using this
 have hhas : ∀ a, hasB a ac' = hasB a ac := fun a => by
  rcases hst with ⟨_, e⟩ | ⟨_, _, e⟩
  ·rw [e]
  ·rw [e, has_moved]
 have hlen' : ac'.length = ac.length := by
  rcases hst with ⟨_, e⟩ | ⟨_, _, e⟩
  ·rw [e]
  ·rw [e]; simp [movedL]
 have hone : ∀ x, x ∈ ac → balL x.n ac = x.b := fun x hx => bal_mem ac h.nod x hx 0
 have hmv : st = 3 → ls[j].st = 1 → ac' = movedL ls[j].p ls[j].g ls[j].a ac → ∀ a, balL a ac' + (if a = ls[j].p then ls[j].a else 0) = balL a ac + (if a = ls[j].g then ls[j].a else 0) := by
  intro _ h1 e a;have ho := h.opn ls[j] hm (.inl h1)
  have := bal_moved_gen ls[j].p ls[j].g ls[j].a a ac 0 h.nod (fun x hx hxp => by
   have h2 := hpay h1;have h3 := h.hb ls[j].p;have h4 := hone x hx;rw [hxp] at h4
   omega)
  unfold balL;rw [e];have c1 : (a = ls[j].p ∧ hasB a ac = true) ↔ a = ls[j].p := ⟨fun x => x.1, fun x => ⟨x, by rw [x]; exact ho.1⟩⟩;have c2 : (a = ls[j].g ∧ hasB a ac = true) ↔ a = ls[j].g := ⟨fun x => x.1, fun x => ⟨x, by rw [x]; exact ho.2⟩⟩;simp only [c1, c2] at this;exact this
 refine ⟨?_, ?_, ?_, ?_, ?_, ?_, ?_, ?_, ?_, ?_, ?_, ?_, ?_, ?_, ?_, ?_, ?_, ?_⟩
 ·intro y hy;rcases List.mem_append.1 hy with hy | hy
  ·exact h.eok y hy
  ·rw [List.mem_singleton] at hy; subst hy; exact he
 ·intro y hy;rcases hst with ⟨_, e⟩ | ⟨h3, h1, e⟩
  ·rw [e] at hy; exact h.aok y hy
  ·have h5 := hmv h3 h1 e y.n;rw [e] at hy;have hy0 := hy;unfold movedL at hy;obtain ⟨z, hz, hzy⟩ := List.mem_map.1 hy
   have hn' : (movedL ls[j].p ls[j].g ls[j].a ac).Pairwise fun x y => x.n ≠ y.n := by
    unfold movedL;rw [List.pairwise_map];exact h.nod
   have h6 : balL y.n ac' = y.b := by rw [e]; exact bal_mem _ hn' y hy0 0
   have h7 : z.n = y.n := by rw [← hzy]; rfl
   have h8 := (h.aok z hz).1;refine ⟨by omega, ?_⟩;have h9 := h.bd y.n;have h10 := hget h1;by_cases e2 : y.n = ls[j].g
   ·rw [if_pos e2] at h5;rw [← e2] at h10;omega
   ·rw [if_neg e2] at h5;omega
 ·intro y hy;rcases hall y hy with hy | hy
  ·subst hy;refine ⟨?_, hok.2⟩;obtain ⟨⟨o1, o2, o3, o4⟩, _⟩ := hok;exact ⟨o1, o2, by show st < 256; omega, o4⟩
  ·exact h.lok y hy.1
 ·intro a; rw [hop, hlen']; exact h.num a
 ·intro a; rw [hop, hhas]; exact h.has a
 ·intro a; rw [hop, hhas]; exact h.none a
 ·rcases hst with ⟨_, e⟩ | ⟨_, _, e⟩
  ·rw [e]; exact h.nod
  ·rw [e];unfold movedL;rw [List.pairwise_map];exact h.nod
 ·rw [hlen']; exact h.alen
 ·rw [keysOf_old evs e (by rw [hid, hl]; exact nz), keys_set ls j hj { ls[j] with st := st } rfl];exact h.keys
 ·exact sort_set ls j hj _ rfl h.sort
 ·rw [List.length_set]; exact h.llen
 ·intro y hy;rcases hall y hy with hy | hy
  ·subst hy;rw [legOf_snoc];exact hleg
  ·rw [legOf_other _ _ _ _ (by
    by_cases e1 : y.id = ls[j].id
    ·exact .inr (.inr (by rw [hl]; exact fun e2 => hy.2 ⟨e1, e2.symm⟩))
    ·exact .inr (.inl (by rw [hid]; exact fun e2 => e1 e2.symm)))]
   exact h.leg y hy.1
 ·intro id l hy;have hne := hy { ls[j] with st := st } (List.mem_iff_getElem.2 ⟨j, by simpa using hj, by simp⟩)
  rw [legOf_other _ _ _ _ (by
   by_cases e1 : ls[j].id = id
   ·exact .inr (.inr (by rw [hl]; exact hne e1))
   ·exact .inr (.inl (by rw [hid]; exact e1)))]
  refine h.out id l fun y h' h1 h2 => ?_;obtain ⟨q, hq, rfl⟩ := List.getElem_of_mem h';by_cases hqj : q = j
  ·subst hqj; exact hne h1 h2
  ·exact hy ls[q] (List.mem_iff_getElem.2 ⟨q, by simpa using hq, by rw [List.getElem_set_ne (fun x => hqj x.symm)]⟩) h1 h2
 ·intro y hy hs;rw [hhas, hhas];rcases hall y hy with hy | hy
  ·subst hy;rcases hst with ⟨e, _⟩ | ⟨_, h1, _⟩
   ·subst e; simp at hs
   ·exact h.opn ls[j] hm (.inl h1)
  ·exact h.opn y hy.1 hs
 ·intro a;rw [hop];have h1 := S (paidL a);have h2 := S (gotL a);have h3 := h.bal a;rcases hst with ⟨e, e'⟩ | ⟨e, hs1, e'⟩
  ·subst e; rw [e'];have q1 : paidL a ls[j] = 0 := by unfold paidL; rw [if_neg (by omega)]
   have q2 : gotL a ls[j] = 0 := by unfold gotL; rw [if_neg (by omega)]
   have q3 : paidL a { ls[j] with st := 4 } = 0 := by simp [paidL]
   have q4 : gotL a { ls[j] with st := 4 } = 0 := by simp [gotL]
   omega
  ·have h4 := hmv e hs1 e' a;subst e;have q1 : paidL a ls[j] = 0 := by unfold paidL; rw [if_neg (by omega)]
   have q2 : gotL a ls[j] = 0 := by unfold gotL; rw [if_neg (by omega)]
   have q3 : paidL a { ls[j] with st := 3 } = if a = ls[j].p then ls[j].a else 0 := by
    unfold paidL;by_cases x : a = ls[j].p
    ·rw [if_pos ⟨rfl, x.symm⟩, if_pos x]
    ·rw [if_neg (fun y => x y.2.symm), if_neg x]
   have q4 : gotL a { ls[j] with st := 3 } = if a = ls[j].g then ls[j].a else 0 := by
    unfold gotL;by_cases x : a = ls[j].g
    ·rw [if_pos ⟨rfl, x.symm⟩, if_pos x]
    ·rw [if_neg (fun y => x y.2.symm), if_neg x]
   rw [q3] at h1;rw [q4] at h2;omega
 ·intro a;have h1 := S (payL a);rw [← eh, ← eh] at h1;have h3 := h.hb a;rcases hst with ⟨e, e'⟩ | ⟨e, hs1, e'⟩
  ·subst e; rw [e'];have q3 : payL a { ls[j] with st := 4 } = 0 := by simp [payL]
   omega
  ·have h4 := hmv e hs1 e' a;subst e
   have q1 : payL a ls[j] = if a = ls[j].p then ls[j].a else 0 := by
    unfold payL;by_cases x : a = ls[j].p
    ·rw [if_pos ⟨hs1, x.symm⟩, if_pos x]
    ·rw [if_neg (fun y => x y.2.symm), if_neg x]
   have q3 : payL a { ls[j] with st := 3 } = 0 := by simp [payL]
   rw [q1] at h1;omega
 ·intro a;have h1 := S (getL a);rw [← ed, ← ed] at h1;have h3 := h.bd a;rcases hst with ⟨e, e'⟩ | ⟨e, hs1, e'⟩
  ·subst e; rw [e'];have q3 : getL a { ls[j] with st := 4 } = 0 := by simp [getL]
   omega
  ·have h4 := hmv e hs1 e' a;subst e
   have q1 : getL a ls[j] = if a = ls[j].g then ls[j].a else 0 := by
    unfold getL;by_cases x : a = ls[j].g
    ·rw [if_pos ⟨hs1, x.symm⟩, if_pos x]
    ·rw [if_neg (fun y => x y.2.symm), if_neg x]
   have q3 : getL a { ls[j] with st := 3 } = 0 := by simp [getL]
   rw [q1] at h1;omega
 ·have h1 := S costL;have h2 := h.elen;have q1 : costL ls[j] = 1 := by unfold costL; rw [if_pos ho]
  have q2 : costL { ls[j] with st := st } = 2 := by
   unfold costL;rcases hst with ⟨e, _⟩ | ⟨e, _⟩ <;> subst e <;> simp
  rw [hlen', List.length_append, List.length_singleton];omega
theorem Rel.openE {evs : List Ev} {ac : List Ac} {ls : List Lg} (h : Rel evs ac ls) (a : Nat) : openErr a evs = openX a ac := by
 unfold openErr openX
 rw [h.has, h.num]
theorem Rel.opens {evs : List Ev} {ac : List Ac} {ls : List Lg} (h : Rel evs ac ls) (a b : Nat) (ha : a < 65536) (hb : b < 4294967296) : Rel (openEvs a b evs) (openAc a b ac) ls := by
 unfold openEvs openAc
 rw [h.openE]
 split
 ·rename_i h0;unfold openX at h0;split at h0
  ·omega
  ·rename_i hn;split at h0
   ·omega
   ·exact h.open a b ha hb (by simpa using hn) (by omega)
 ·exact h
theorem Rel.at {evs : List Ev} {ac : List Ac} {ls : List Lg} (h : Rel evs ac ls) (i l : Nat) (hj : findB i l ls < ls.length) : LegIs ls[findB i l ls] (legOf i l evs) := by
 have h1 := findB_lt i l ls hj
 have h2 := h.leg _ (List.getElem_mem hj)
 rw [h1.1, h1.2] at h2
 exact h2
theorem Rel.no {evs : List Ev} {ac : List Ac} {ls : List Lg} (h : Rel evs ac ls) (i l : Nat) (hj : ls.length ≤ findB i l ls) : legOf i l evs = (0, noMsg, false) := h.out i l (findB_ge i l ls hj)
end Go.Proofs.YtjkhbjgfoopomabGreat
namespace Go.Proofs.YtjkhbjgfoopomabGreat
open Go.RowKit
set_option linter.unusedVariables false
set_option linter.unusedSimpArgs false
theorem event_leg (evs : List Ev) (e : Ev) (he : e ∈ evs) (h0 : e.kind ≠ 0) : (legOf e.msg.i e.msg.l evs).1 ≠ 0 := by
 intro h
 have h1 := leg_none _ _ evs _ h
 have h2 := List.all_eq_true.1 h1 e he
 simp [ofLeg, h0] at h2
theorem keysTo_event (evs : List Ev) (n : Nat) (k : Nat × Nat) (h : k ∈ keysTo evs n) : ∃ e, e ∈ evs ∧ e.kind ≠ 0 ∧ keyE e = k := by
 induction n with
 | zero => simp [keysTo] at h
 | succ n ih =>
  simp only [keysTo] at h;split at h
  ·exact ih h
  ·rename_i e he
   have hn : n < evs.length := by
    rcases Nat.lt_or_ge n evs.length with x | x
    ·exact x
    ·rw [List.getElem?_eq_none x] at he; cases he
   split at h
   ·rename_i hf;rcases List.mem_append.1 h with h | h
    ·exact ih h
    ·rw [List.mem_singleton] at h;refine ⟨e, List.mem_of_getElem? he, ?_, h.symm⟩;unfold firstB at hf;rw [he] at hf;simp only [Bool.and_eq_true, decide_eq_true_eq] at hf;exact hf.1
   ·exact ih h
def heldK (ls : List Lg) : List (Nat × Nat) := (ls.filter fun x => decide (x.st = 1)).map keyL
theorem Rel.inLs {evs : List Ev} {ac : List Ac} {ls : List Lg} (h : Rel evs ac ls) (e : Ev) (he : e ∈ evs) (h0 : e.kind ≠ 0) : ∃ x, x ∈ ls ∧ x.id = e.msg.i ∧ x.l = e.msg.l := by
 apply Classical.byContradiction
 intro hn
 apply event_leg evs e he h0
 rw [h.out e.msg.i e.msg.l (fun x hx h1 h2 => hn ⟨x, hx, h1, h2⟩)]
theorem Rel.helds {evs : List Ev} {ac : List Ac} {ls : List Lg} (h : Rel evs ac ls) : Helds evs (heldK ls) := by
 refine ⟨?_, ?_, ?_⟩
 ·unfold heldK;rw [List.pairwise_map];have h1 : (ls.filter fun x => decide (x.st = 1)).Pairwise fun x y => aheadB x y = true := h.sort.filter _;refine List.Pairwise.imp_of_mem ?_ h1;intro x y hx hy hxy;have l1 := (h.lok x (List.mem_filter.1 hx).1).2;have l2 := (h.lok y (List.mem_filter.1 hy).1).2;simp only [aheadB, decide_eq_true_eq] at hxy;simp only [rankK, keyL];omega
 ·intro k;constructor
  ·intro hk;obtain ⟨x, hx, rfl⟩ := List.mem_map.1 hk;have hx2 := List.mem_filter.1 hx;have hs : x.st = 1 := by simpa using hx2.2
   obtain ⟨e, he, h0, hk⟩ := keysTo_event evs _ _ (h.keys.mem_iff.1 (List.mem_map.2 ⟨x, hx2.1, rfl⟩));exact ⟨e, he, h0, hk, by rw [← hs]; exact (h.leg x hx2.1).1⟩
  ·rintro ⟨e, he, h0, rfl, h1⟩;obtain ⟨x, hx, hi, hl⟩ := h.inLs e he h0;refine List.mem_map.2 ⟨x, List.mem_filter.2 ⟨hx, ?_⟩, by simp only [keyL, keyE, hi, hl]⟩;have h2 := (h.leg x hx).1;rw [hi, hl] at h2;simp only [keyE] at h1;rw [← h2, h1];rfl
 ·intro e he h0;obtain ⟨x, hx, hi, hl⟩ := h.inLs e he h0;have := (h.lok x hx).2;omega
theorem heldK_length (ls : List Lg) : (heldK ls).length ≤ ls.length := by
 unfold heldK
 rw [List.length_map]
 exact List.length_filter_le _ _
theorem tick_same (node : Nat) (ls : List Lg) : tickT node (heldK ls) = tickL node ls := by
 unfold tickT heldK tickL
 rw [List.map_map]
 rfl
end Go.Proofs.YtjkhbjgfoopomabGreat
