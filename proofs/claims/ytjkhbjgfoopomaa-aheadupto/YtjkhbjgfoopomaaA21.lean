import Derived.Test.YtjkhbjgfoopomaaA20
import Derived.Test.YtjkhbjgfoopomaaA2
import Derived.Test.YtjkhbjgfoopomaaA1
import Derived.Test.YtjkhbjgfoopomaaA4
import Derived.BigQuiet
import Derived.Test.YtjkhbjgfoopomaaA17
/-
  Plain: the relation between the two notaries behind a new payment, and behind a message.
-/
namespace Go.Proofs.Ytjkhbjgfoopomaa
open Go.RowKit
set_option linter.unusedVariables false
set_option linter.unusedSimpArgs false
theorem wrong_memo {p : Pm} (hw : wrongOf p = 0) : p.memo.length ≤ 64 := by
  unfold wrongOf at hw
  split at hw
  · omega
  · split at hw
    · split at hw
      · rename_i hm; exact memoB_len hm
      · omega
    · omega
theorem mapCore {qs : List Pm} {ps : List Xp} (h : qs.map core = ps.map (fun y => core y.pm)) : qs.length = ps.length ∧ ∀ i (hi : i < qs.length) (hj : i < ps.length), qs[i].id = ps[i].pm.id := by
  have hl := congrArg List.length h
  simp only [List.length_map] at hl
  refine ⟨hl, fun i hi hj => ?_⟩
  have h1 : (qs.map core)[i]? = (ps.map (fun y => core y.pm))[i]? := by rw [h]
  rw [List.getElem?_map, List.getElem?_map, List.getElem?_eq_getElem hi, List.getElem?_eq_getElem hj] at h1
  simp only [Option.map_some, Option.some.injEq] at h1
  exact core_id h1
theorem DRel.sort {acts : List Dt} {ck : Nat} {ps : List Xp} (h : DRel acts ck ps) : ∀ i j (hi : i < ps.length) (hj : j < ps.length), i < j → ps[i].pm.id < ps[j].pm.id := by
  obtain ⟨qs, hP, hm⟩ := h.pays
  obtain ⟨hl, hid⟩ := mapCore hm
  intro i j hi hj hij
  rw [← hid i (by omega) hi, ← hid j (by omega) hj]
  exact List.pairwise_iff_getElem.1 hP.sort i j (by omega) (by omega) hij
/-- a new payment -/
theorem DRel.add {acts : List Dt} {ck : Nat} {ps : List Xp} (h : DRel acts ck ps) {p q1 q2 : Pm} (hp : p.ok) (hw : wrongOf p = 0) (hno : ∀ y, y ∈ ps → y.pm.id ≠ p.id) (h32 : ps.length < 32) {k : Nat} (hk : k ≤ ps.length)
    (hk1 : ∀ q (hq : q < ps.length), k ≤ q → p.id < ps[q].pm.id) (hk2 : ∀ j (hj : j < ps.length), k = j + 1 → ¬ p.id < ps[j].pm.id) (h1 : core q1 = core p) (h2 : core q2 = core p) : DRel (acts ++ [⟨-1, q1, zeroMsg⟩]) ck (insX ⟨q2, 1, 0, 0⟩ k ps) := by
  have hin : ∀ x, x ∈ acts ++ [(⟨-1, q1, zeroMsg⟩ : Dt)] → x ∈ acts ∨ x = ⟨-1, q1, zeroMsg⟩ := fun x hx => by simpa using hx
  have hi1 : q1.id = p.id := core_id h1
  have hi2 : q2.id = p.id := core_id h2
  have hok1 : q1.ok := by
    have e : (core q1).ok := by rw [h1]; exact hp
    exact e
  have hok2 : q2.ok := by
    have e : (core q2).ok := by rw [h2]; exact hp
    exact e
  have hw1 : wrongOf q1 = 0 := (wrong_core h1).trans hw
  have hw2 : wrongOf q2 = 0 := (wrong_core h2).trans hw
  have hlow : ∀ j (hj : j < ps.length), j < k → ps[j].pm.id < p.id := by
    intro j hj hjk
    have hs := h.sort
    have hne := hno _ (List.getElem_mem hj)
    have hk' : k - 1 < ps.length := by omega
    have h3 := hk2 (k - 1) hk' (by omega)
    rcases Nat.lt_or_ge j (k - 1) with x | x
    · have := hs j (k - 1) hj hk' x; omega
    · obtain rfl : j = k - 1 := by omega
      omega
  refine ⟨?_, ?_, ?_, ?_, ?_, ?_, ?_, ?_, ?_⟩
  · rw [clockOf_snoc, h.clk]; rfl
  · intro x hx
    rcases hin x hx with hx | rfl
    · exact h.ok x hx
    · exact ⟨by show (-1 : Int) ≤ -1; omega, by show (-1 : Int) ≤ 6; omega, hok1, by simp [Msg.ok, zeroMsg]⟩
  · intro x hx
    rcases hin x hx with hx | rfl
    · exact h.few x hx
    · intro h4; exact absurd h4 (by simp)
  · intro x hx
    rcases hin x hx with hx | rfl
    · exact h.pay x hx
    · exact ⟨wrongOf_few hw1, by have := wrong_memo hw1; show q1.memo.length ≤ 1000; omega⟩
  · intro y hy
    rcases (insX_iff _ _ _ _).1 hy with rfl | hy
    · have hu := h.new p hno
      have e : stOf q2 (acts ++ [⟨-1, q1, zeroMsg⟩]) = (1, (stOf p acts).2.1, (stOf p acts).2.2.1, (stOf p acts).2.2.2) := by
        rw [stOf_snoc, st_core h2]
        simp [stStep, hi1, hi2]
      exact ⟨⟨newX_ok hok2, ⟨Nat.le_refl _, by show (1 : Nat) ≤ 3; omega⟩, wrong_memo hw2, wrongOf_few hw2, by show (0 : Nat) < 16; omega, by show (0 : Nat) < 16; omega⟩, hw2, by rw [e], by rw [e]; exact hu.1.symm, by rw [e]; exact hu.2.symm, Nat.pow_pos (by omega)⟩
    · have g := h.good y hy
      have hne := hno y hy
      have e : stOf y.pm (acts ++ [⟨-1, q1, zeroMsg⟩]) = stOf y.pm acts := by
        rw [stOf_snoc]
        have : ¬ q1.id = y.pm.id := fun e => hne (by omega)
        simp [stStep, this]
      exact ⟨g.fine, g.right, by rw [e]; exact g.st, by rw [e]; exact g.held, by rw [e]; exact g.done, g.room⟩
  · obtain ⟨qs, hP, hm⟩ := h.pays
    obtain ⟨hl, hid⟩ := mapCore hm
    refine ⟨qs.take k ++ q1 :: qs.drop k, ⟨?_, ?_⟩, ?_⟩
    · have hlo : ∀ a, a ∈ qs.take k → a.id < q1.id := by
        intro a ha
        obtain ⟨i, hi, rfl⟩ := List.getElem_of_mem ha
        have hi' : i < qs.length ∧ i < k := by simp at hi; omega
        rw [List.getElem_take, hid i hi'.1 (by omega), hi1]
        exact hlow i (by omega) hi'.2
      have hhi : ∀ a, a ∈ qs.drop k → q1.id < a.id := by
        intro a ha
        obtain ⟨i, hi, rfl⟩ := List.getElem_of_mem ha
        have hi' : k + i < qs.length := by simp at hi; omega
        rw [List.getElem_drop, hid (k + i) hi' (by omega), hi1]
        exact hk1 (k + i) (by omega) (by omega)
      rw [List.pairwise_append, List.pairwise_cons]
      refine ⟨hP.sort.sublist (List.take_sublist _ _), ⟨hhi, hP.sort.sublist (List.drop_sublist _ _)⟩, ?_⟩
      intro a ha b hb
      rcases List.mem_cons.1 hb with rfl | hb
      · exact hlo a ha
      · have := hlo a ha; have := hhi b hb; omega
    · intro r
      have hr : r ∈ qs.take k ++ q1 :: qs.drop k ↔ r = q1 ∨ r ∈ qs := by
        have h3 : r ∈ qs ↔ r ∈ qs.take k ∨ r ∈ qs.drop k := by rw [← List.mem_append, List.take_append_drop]
        rw [List.mem_append, List.mem_cons, h3]
        constructor
        · rintro (h | h | h)
          · exact .inr (.inl h)
          · exact .inl h
          · exact .inr (.inr h)
        · rintro (h | h | h)
          · exact .inr (.inl h)
          · exact .inl h
          · exact .inr (.inr h)
      rw [hr, hP.mem]
      constructor
      · rintro (rfl | ⟨x, hx, h3, h4⟩)
        · exact ⟨⟨-1, r, zeroMsg⟩, by simp, rfl, rfl⟩
        · exact ⟨x, List.mem_append_left _ hx, h3, h4⟩
      · rintro ⟨x, hx, h3, h4⟩
        rcases hin x hx with hx | rfl
        · exact .inr ⟨x, hx, h3, h4⟩
        · exact .inl h4.symm
    · simp only [insX, List.map_append, List.map_cons, List.map_take, List.map_drop, hm, h1, h2]
  · intro id
    rw [findOf_snoc, insX_length, ← h.cnt id]
    simp only [findStep, if_true]
    split <;> rfl
  · rw [insX_length]; omega
  · intro r hr
    have hr0 := hr _ (insX_mem ⟨q2, 1, 0, 0⟩ k ps)
    have := h.new r (fun y hy => hr y ((insX_iff _ _ _ _).2 (.inr hy)))
    rw [stOf_snoc]
    simp only [stStep]
    exact this
/-- what a message does, and what the document says of it -/
theorem hear_err {acts : List Dt} {y : Xp} (g : Stands acts y) {k l : Nat} (hk : k = 4 ∨ k = 5 ∨ k = 6) : (hearX y k l).2.2 = if (k = 5 ∧ (stOf y.pm acts).1 = 2) ∨ (k = 6 ∧ (stOf y.pm acts).1 = 1) then 14 else 0 := by
  have hs := g.fine.st
  rw [← g.st]
  rcases hk with rfl | rfl | rfl
  · simp [hearX]
  · by_cases h2 : y.st = 2
    · simp [hearX, refX, h2]
    · by_cases h3 : y.st = 3 <;> simp [hearX, refX, h2, h3]
  · by_cases h2 : y.st = 1 <;> simp [hearX, doneX, h2]
theorem step4 (p : Pm) (s : Nat × Nat × Nat × Nat) (x : Msg) (hi : x.i = p.id) : stStep p s ⟨4, noPm, x⟩ = if s.1 = 1 then (if withOf s.2.1 x.l = fullOf p.legs.length then 2 else 1, withOf s.2.1 x.l, s.2.2.1, s.2.2.2) else s := by
  simp [stStep, hi]
theorem step5 (p : Pm) (s : Nat × Nat × Nat × Nat) (x : Msg) (hi : x.i = p.id) : stStep p s ⟨5, noPm, x⟩ = if s.1 = 1 then (3, s.2.1, s.2.2.1, s.2.2.2) else s := by
  simp [stStep, hi]
theorem step6 (p : Pm) (s : Nat × Nat × Nat × Nat) (x : Msg) (hi : x.i = p.id) : stStep p s ⟨6, noPm, x⟩ = (s.1, s.2.1, withOf s.2.2.1 x.l, s.2.2.2) := by
  simp [stStep, hi]
theorem hear_st {acts : List Dt} {y : Xp} (g : Stands acts y) {x : Msg} (hk : x.k = 4 ∨ x.k = 5 ∨ x.k = 6) (hi : x.i = y.pm.id) (hl : x.l < y.pm.legs.length) (he : (hearX y x.k x.l).2.2 = 0) : Stands (acts ++ [⟨(x.k : Int), noPm, x⟩]) (hearX y x.k x.l).1 := by
  have h4 := wrongOf_few g.right
  obtain ⟨hf, hpm⟩ := hearX_fine g.fine x.k (l := x.l) (by omega)
  have hs := g.fine.st
  have gs := g.st
  have gh := g.held
  have gd := g.done
  have hroom := with_pow y.held x.l _ h4 g.room hl
  have hall := full_all (withOf y.held x.l) _ h4 hroom
  have main : ∀ z : Xp, (hearX y x.k x.l).1 = z → z.st = (stStep y.pm (stOf y.pm acts) ⟨(x.k : Int), noPm, x⟩).1 → z.held = (stStep y.pm (stOf y.pm acts) ⟨(x.k : Int), noPm, x⟩).2.1 → z.done = (stStep y.pm (stOf y.pm acts) ⟨(x.k : Int), noPm, x⟩).2.2.1 → z.held < 2 ^ y.pm.legs.length → Stands (acts ++ [⟨(x.k : Int), noPm, x⟩]) z := by
    intro z hz h1 h2 h3 h5
    rw [hz] at hf hpm
    exact ⟨hf, by rw [hpm]; exact g.right, by rw [hpm, stOf_snoc]; exact h1, by rw [hpm, stOf_snoc]; exact h2, by rw [hpm, stOf_snoc]; exact h3, by rw [hpm]; exact h5⟩
  refine main _ rfl ?_ ?_ ?_ ?_
  all_goals (
    clear main hf hpm
    have hroom0 := g.room
    clear g
    generalize stOf y.pm acts = S at *
    obtain ⟨s1, s2, s3, s4⟩ := S
    simp only at gs gh gd
    rcases hk with hk | hk | hk <;> rw [hk] at he ⊢)
  all_goals (first
    | rw [show ((4 : Nat) : Int) = 4 from rfl, step4 _ _ _ hi]
    | rw [show ((5 : Nat) : Int) = 5 from rfl, step5 _ _ _ hi]
    | rw [show ((6 : Nat) : Int) = 6 from rfl, step6 _ _ _ hi]
    | skip)
  all_goals (
    obtain ⟨pm, st, held, done⟩ := y
    simp only at gs gh gd hs hroom hall hroom0 hl hi
    subst gs gh gd)
  all_goals (
    by_cases h1 : st = 1
    · subst h1
      by_cases h2 : withOf held x.l = fullOf pm.legs.length
      · simp_all [hearX, prepX, refX, doneX]
      · simp_all [hearX, prepX, refX, doneX]
    · by_cases h2 : st = 2
      · simp_all [hearX, prepX, refX, doneX]
      · obtain rfl : st = 3 := by omega
        simp_all [hearX, prepX, refX, doneX])
end Go.Proofs.Ytjkhbjgfoopomaa
/-
  Plain: the relation between the two notaries behind a message; what is sent.
-/
namespace Go.Proofs.Ytjkhbjgfoopomaa
open Go.RowKit
set_option linter.unusedVariables false
set_option linter.unusedSimpArgs false
theorem DRel.take {acts : List Dt} {ck : Nat} {ps : List Xp} (h : DRel acts ck ps) {x : Msg} (hx : x.ok) (hk : x.k = 4 ∨ x.k = 5 ∨ x.k = 6) (hl4 : x.l < 4) (hj : findX x.i ps < ps.length) (hhl : hasLegB ps[findX x.i ps].pm x.l x.f = true) (he : (hearX ps[findX x.i ps] x.k x.l).2.2 = 0) : DRel (acts ++ [⟨(x.k : Int), noPm, x⟩]) ck (ps.set (findX x.i ps) (hearX ps[findX x.i ps] x.k x.l).1) := by
  have hn : (⟨(x.k : Int), noPm, x⟩ : Dt).kind ≠ -1 := by show (x.k : Int) ≠ -1; omega
  have hn0 : ¬ (x.k : Int) = 0 := by omega
  have hn1 : ¬ (x.k : Int) = -1 := by omega
  have hin : ∀ z, z ∈ acts ++ [(⟨(x.k : Int), noPm, x⟩ : Dt)] → z ∈ acts ∨ z = ⟨(x.k : Int), noPm, x⟩ := fun x hx => by simpa using hx
  have hat := findX_at x.i ps hj
  have g0 := h.good _ (List.getElem_mem hj)
  obtain ⟨hl, _⟩ := hasLegB_at hhl
  obtain ⟨hzf, hzp⟩ := hearX_fine g0.fine x.k hl4
  refine ⟨?_, ?_, ?_, ?_, ?_, ?_, ?_, ?_, ?_⟩
  · rw [clockOf_snoc, h.clk]; simp only [clockStep, if_neg hn0]
  · intro z hz
    rcases hin z hz with hz | rfl
    · exact h.ok z hz
    · exact ⟨by show (-1 : Int) ≤ (x.k : Int); omega, by show (x.k : Int) ≤ 6; omega, ⟨by show (0 : Nat) < 4294967296; omega, by show (0 : Nat) < 18446744073709551616; omega, fun l hl => by simp [noPm] at hl⟩, hx⟩
  · intro z hz
    rcases hin z hz with hz | rfl
    · exact h.few z hz
    · intro _; exact hl4
  · intro z hz
    rcases hin z hz with hz | rfl
    · exact h.pay z hz
    · exact ⟨by show (0 : Nat) ≤ 4; omega, by show (0 : Nat) ≤ 1000; omega⟩
  · intro y hy
    obtain ⟨i, hi, rfl⟩ := List.getElem_of_mem hy
    have hi' : i < ps.length := by simpa using hi
    rw [List.getElem_set]
    split
    · exact hear_st g0 hk hat.symm hl he
    · rename_i hne
      have g := h.good _ (List.getElem_mem hi')
      have hid : ¬ x.i = ps[i].pm.id := by
        rw [← hat]
        have hs := h.sort
        rcases Nat.lt_or_gt_of_ne hne with c | c
        · have := hs _ _ hj hi' c; omega
        · have := hs _ _ hi' hj c; omega
      have e : stOf ps[i].pm (acts ++ [⟨(x.k : Int), noPm, x⟩]) = stOf ps[i].pm acts := by
        rw [stOf_snoc]
        simp only [stStep, if_neg hn0, if_neg hn1, ne_eq, hid, not_false_eq_true, if_true]
      exact ⟨g.fine, g.right, by rw [e]; exact g.st, by rw [e]; exact g.held, by rw [e]; exact g.done, g.room⟩
  · obtain ⟨qs, hP, hm⟩ := h.pays
    refine ⟨qs, hP.other hn, ?_⟩
    rw [hm, List.map_set, hzp]
    apply List.ext_getElem?
    intro i
    rw [List.getElem?_set]
    split
    · rename_i e; subst e; simp [hj]
    · rfl
  · intro id
    rw [find_other hn, h.cnt, List.length_set]
  · rw [List.length_set]; exact h.len
  · intro p hp
    have hp0 : ∀ y, y ∈ ps → y.pm.id ≠ p.id := by
      intro y hy
      obtain ⟨i, hi, rfl⟩ := List.getElem_of_mem hy
      by_cases e : i = findX x.i ps
      · have := hp _ (List.mem_set hj _)
        rw [hzp] at this
        simp only [e]; exact this
      · have := hp ((ps.set (findX x.i ps) (hearX ps[findX x.i ps] x.k x.l).1)[i]'(by simpa using hi)) (List.getElem_mem _)
        rw [List.getElem_set_ne (fun c => e c.symm)] at this
        exact this
    have hid : ¬ x.i = p.id := by rw [← hat]; exact hp0 _ (List.getElem_mem hj)
    rw [stOf_snoc]
    have := h.new p hp0
    simp only [stStep, if_neg hn0, if_neg hn1, ne_eq, hid, not_false_eq_true, if_true]
    exact this
theorem hear_outs {acts : List Dt} {y : Xp} (g : Stands acts y) {x : Msg} {q : Pm} (hq : core q = core y.pm) (hk : x.k = 4 ∨ x.k = 5 ∨ x.k = 6) (hi : x.i = y.pm.id) (hl : x.l < y.pm.legs.length) (he : (hearX y x.k x.l).2.2 = 0) : (hearX y x.k x.l).2.1 = tSay q x (stOf q acts).1 (stOf q (acts ++ [⟨(x.k : Int), noPm, x⟩])).1 := by
  have hst := hear_st g hk hi hl he
  have h4 := wrongOf_few g.right
  obtain ⟨hf, hpm⟩ := hearX_fine g.fine x.k (l := x.l) (by omega)
  have hs := g.fine.st
  have hlq : x.l < q.legs.length := by rw [legs_core hq]; exact hl
  have e1 : (stOf q acts).1 = y.st := by rw [st_core hq, g.st]
  have e2 : (stOf q (acts ++ [⟨(x.k : Int), noPm, x⟩])).1 = (hearX y x.k x.l).1.st := by rw [st_core hq, hst.st, hpm]
  rw [e1, e2]
  have s0 : ∀ st, sayL y.pm st 15 = asksOf q (askKind st) 0 := fun st => by rw [asks_core hq]; exact say_asks g.right st 0 (by omega)
  have s1 : ∀ st, sayL y.pm st (2 ^ x.l) = [askOf q q.legs[x.l] x.l (askKind st)] := fun st => by
    rw [say_one g.right st x.l hl]
    have h1 : askOf (core y.pm) y.pm.legs[x.l] x.l (askKind st) = askOf (core q) q.legs[x.l] x.l (askKind st) := by
      rw [hq]
      simp only [legs_core hq]
    have h2 : askOf y.pm y.pm.legs[x.l] x.l (askKind st) = askOf q q.legs[x.l] x.l (askKind st) := h1
    rw [h2]
  unfold tSay
  rw [List.getElem?_eq_getElem hlq]
  clear hst hpm hf e1 e2 hq
  rcases hk with hk | hk | hk <;> rw [hk] at he ⊢
  · by_cases h1 : y.st = 1
    · by_cases h2 : allTo (withOf y.held x.l) y.pm.legs.length = true
      · simp [hearX, prepX, h1, h2, s0]
      · simp [hearX, prepX, h1, h2]
    · simp [hearX, prepX, h1, s1]
  · by_cases h1 : y.st = 1
    · simp [hearX, refX, h1, s0]
    · by_cases h2 : y.st = 2
      · simp [hearX, refX, h2] at he
      · have h3 : y.st = 3 := by omega
        simp [hearX, refX, h3, s1]
  · simp [hearX]
end Go.Proofs.Ytjkhbjgfoopomaa
/-
  The document's notary: Submit, Handle, Tick, each as a whole.
-/
namespace Go.Proofs.Ytjkhbjgfoopomaa
open Go.RowKit
set_option linter.unusedVariables false
set_option linter.unusedSimpArgs false
/-- is the payment taken in anew? -/
def subIs (p : Pm) (acts : List Dt) : Prop := wrongOf p = 0 ∧ (findOf p.id acts).2.1 = false ∧ clockOf acts < p.dl ∧ (findOf p.id acts).2.2 < 32
instance (p : Pm) (acts : List Dt) : Decidable (subIs p acts) := inferInstanceAs (Decidable (_ ∧ _ ∧ _ ∧ _))
def subActs (p q : Pm) (acts : List Dt) : List Dt := if subIs p acts then acts ++ [⟨-1, q, zeroMsg⟩] else acts
def subOuts (p : Pm) (acts : List Dt) : List (List UInt8) :=
  if subIs p acts then asksOf p 1 0 else if wrongOf p = 0 ∧ (findOf p.id acts).2.1 = true ∧ sameOf p (findOf p.id acts).1 = true then remindsOf (findOf p.id acts).1 acts else []
theorem subIs_err {p : Pm} {acts : List Dt} (h : subIs p acts) : subErr p acts = 0 := by
  obtain ⟨h1, h2, h3, h4⟩ := h
  unfold subErr
  rw [if_pos h1, h2, if_neg (by simp), if_neg (by omega), if_neg (by omega)]
/-- P11 -/
def kErr (acts : List Dt) : Nat := if 1000000 ≤ clockOf acts then 15 else 0
def kActs (acts : List Dt) : List Dt := if 1000000 ≤ clockOf acts then acts else acts ++ [tickAct]
def kOuts (ck : Nat) (ps : List Xp) : List (List UInt8) := if 1000000 ≤ ck then [] else saysX (ps.map (lateX (ck + 1)))
end Go.Proofs.Ytjkhbjgfoopomaa
/-
  The statements' small functions: pick, mark, heard, logged, bare, sameList.
-/
namespace Go.Proofs.Ytjkhbjgfoopomaa
open Go.RowKit
set_option linter.unusedVariables false
set_option linter.unusedSimpArgs false
attribute [local go_sem] bs_size bs_append conv1

def pickN (c : Int) (n : Nat) : Nat := (if c < 0 then (-(c + 1)).toNat else c.toNat) % n
end Go.Proofs.Ytjkhbjgfoopomaa
/-
  Plain: what a notary logs.
-/
namespace Go.Proofs.Ytjkhbjgfoopomaa
open Go.RowKit
set_option linter.unusedVariables false
set_option linter.unusedSimpArgs false
/-- does a payment stand as it did? -/
def unturned (q : Pm) (a b : List Dt) : Prop := (stOf q a).1 = (stOf q b).1 ∧ (stOf q a).2.1 = (stOf q b).2.1 ∧ (stOf q a).2.2.1 = (stOf q b).2.2.1
instance (q : Pm) (a b : List Dt) : Decidable (unturned q a b) := inferInstanceAs (Decidable (_ ∧ _ ∧ _))
/-- what is logged of an act -/
def actText (pre : List Dt) (x : Dt) : List UInt8 :=
  if x.kind = 0 then [84] else if x.kind = -1 then subTextOf x.pay else if unturned (findOf x.msg.i pre).1 pre (pre ++ [x]) then [] else frameOf x.msg
def subLog (p : Pm) (acts : List Dt) : List UInt8 := if subIs p acts then subTextOf p else []
def tLog (l : List UInt8) (acts : List Dt) : List UInt8 := if tErr l acts = 0 then actText acts ⟨((decMsg l).k : Int), noPm, decMsg l⟩ else []
def kLog (acts : List Dt) : List UInt8 := if 1000000 ≤ clockOf acts then [] else [84]
end Go.Proofs.Ytjkhbjgfoopomaa
