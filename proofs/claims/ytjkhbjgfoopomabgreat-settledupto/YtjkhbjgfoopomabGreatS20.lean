import Derived.Test.YtjkhbjgfoopomabGreatS8
import Derived.Test.YtjkhbjgfoopomabGreatS16
import Derived.Test.YtjkhbjgfoopomabGreatS19
/-
  The document's notary: Handle, of a leg that is there.
-/
namespace Go.Proofs.YtjkhbjgfoopomabGreat
open Go.RowKit
set_option linter.unusedVariables false
set_option linter.unusedSimpArgs false
theorem hasLegB_at {p : Pm} {l f : Nat} (h : hasLegB p l f = true) : ∃ hl : l < p.legs.length, p.legs[l].b = f := by
  unfold hasLegB at h
  split at h
  · simp at h
  · rename_i y hy
    obtain ⟨hl, e⟩ := List.getElem?_eq_some_iff.1 hy
    exact ⟨hl, by rw [e]; simpa using h⟩
end Go.Proofs.YtjkhbjgfoopomabGreat
/-
  The document's notary: Tick.
-/
namespace Go.Proofs.YtjkhbjgfoopomabGreat
open Go.RowKit
set_option linter.unusedVariables false
set_option linter.unusedSimpArgs false
/-- a payment that was taken in and has number nx or a higher one -/
def goodD (nx : Nat) (x : Dt) : Prop := x.kind = -1 ∧ nx ≤ x.pay.id
/-- the payments that are kept, in their order -/
structure Pays (acts : List Dt) (ps : List Pm) : Prop where
  sort : ps.Pairwise fun a b => a.id < b.id
  mem : ∀ p, p ∈ ps ↔ ∃ x, x ∈ acts ∧ x.kind = -1 ∧ x.pay = p
def nextP (ps : List Pm) : Nat → Nat
  | 0 => 0
  | n + 1 => match ps[n]? with
    | none => 0
    | some p => p.id + 1
theorem Pays.below {acts : List Dt} {ps : List Pm} (h : Pays acts ps) (n : Nat) (hn : n ≤ ps.length) (q : Nat) (hq : q < ps.length) : nextP ps n ≤ ps[q].id ↔ n ≤ q := by
  have hp := List.pairwise_iff_getElem.1 h.sort
  cases n with
  | zero => simp [nextP]
  | succ n =>
    have hn' : n < ps.length := hn
    simp only [nextP, List.getElem?_eq_getElem hn']
    constructor
    · intro h1
      rcases Nat.lt_or_ge n q with x | x
      · omega
      · rcases Nat.lt_or_ge q n with y | y
        · have := hp q n hq hn' y
          omega
        · obtain rfl : q = n := by omega
          omega
    · intro h1
      have := hp n q hn' hq h1
      omega
theorem Pays.toAct {acts : List Dt} {ps : List Pm} (h : Pays acts ps) (n : Nat) (hn : n < ps.length) : ∃ j, ∃ hj : j < acts.length, goodD (nextP ps n) acts[j] ∧ acts[j].pay = ps[n] := by
  obtain ⟨x, hx, h0, hk⟩ := (h.mem ps[n]).1 (List.getElem_mem hn)
  obtain ⟨j, hj, rfl⟩ := List.getElem_of_mem hx
  refine ⟨j, hj, ⟨h0, ?_⟩, hk⟩
  rw [hk]; exact (h.below n (by omega) n hn).2 (Nat.le_refl _)
theorem Pays.done {acts : List Dt} {ps : List Pm} (h : Pays acts ps) (n : Nat) (hn : n ≤ ps.length) (hno : ∀ j (hj : j < acts.length), ¬ goodD (nextP ps n) acts[j]) : n = ps.length := by
  rcases Nat.lt_or_ge n ps.length with x | x
  · obtain ⟨j, hj, hg, _⟩ := h.toAct n x
    exact absurd hg (hno j hj)
  · omega
/-- the least so far -/
def LeastTo (acts : List Dt) (nx k : Nat) (best at_ : Int) : Prop :=
  (best = -1 ∧ at_ = -1 ∧ ∀ j (hj : j < acts.length), j < k → ¬ goodD nx acts[j]) ∨
  ∃ j, ∃ hj : j < acts.length, j < k ∧ at_ = (j : Int) ∧ best = (acts[j].pay.id : Int) ∧ goodD nx acts[j] ∧ ∀ i (hi : i < acts.length), i < k → goodD nx acts[i] → acts[j].pay.id ≤ acts[i].pay.id
theorem LeastTo.stay {acts : List Dt} {nx k : Nat} {b a : Int} (h : LeastTo acts nx k b a) (hk : k < acts.length) (hn : ¬ goodD nx acts[k] ∨ (0 ≤ b ∧ b ≤ (acts[k].pay.id : Int))) : LeastTo acts nx (k + 1) b a := by
  rcases h with ⟨h1, h2, h3⟩ | ⟨j, hj, h1, h2, h3, h4, h5⟩
  · left
    refine ⟨h1, h2, fun j hj hj2 => ?_⟩
    rcases Nat.lt_or_ge j k with x | x
    · exact h3 j hj x
    · obtain rfl : j = k := by omega
      rcases hn with hn | hn
      · exact hn
      · omega
  · right
    refine ⟨j, hj, by omega, h2, h3, h4, fun i hi hi2 hg => ?_⟩
    rcases Nat.lt_or_ge i k with x | x
    · exact h5 i hi x hg
    · obtain rfl : i = k := by omega
      rcases hn with hn | hn
      · exact absurd hg hn
      · omega
theorem LeastTo.take {acts : List Dt} {nx k : Nat} {b a : Int} (h : LeastTo acts nx k b a) (hk : k < acts.length) (hg : goodD nx acts[k]) (hb : b < 0 ∨ (acts[k].pay.id : Int) < b) : LeastTo acts nx (k + 1) (acts[k].pay.id : Int) (k : Int) := by
  right
  refine ⟨k, hk, by omega, rfl, rfl, hg, fun i hi hi2 hgi => ?_⟩
  rcases Nat.lt_or_ge i k with x | x
  · rcases h with ⟨h1, h2, h3⟩ | ⟨j, hj, h1, h2, h3, h4, h5⟩
    · exact absurd hgi (h3 i hi x)
    · have := h5 i hi x hgi
      omega
  · obtain rfl : i = k := by omega
    exact Nat.le_refl _
def tickAct : Dt := ⟨0, noPm, zeroMsg⟩
/-- what Tick says -/
def saysOf (ps : List Pm) (acts : List Dt) : List (List UInt8) := ps.flatMap fun p => remindsOf p acts
end Go.Proofs.YtjkhbjgfoopomabGreat
/-
  Plain: the relation between what has changed the document's notary and the program's payments.
-/
namespace Go.Proofs.YtjkhbjgfoopomabGreat
open Go.RowKit
set_option linter.unusedVariables false
set_option linter.unusedSimpArgs false
/-- a payment, wherever its legs lie -/
def core (p : Pm) : Pm := ⟨p.id, p.dl, p.memo, p.legs, none, 0⟩
theorem core_st (p : Pm) (acts : List Dt) : stOf (core p) acts = stOf p acts := rfl
theorem core_id {p q : Pm} (h : core p = core q) : p.id = q.id := by
  have := congrArg Pm.id h; exact this
theorem core_asks (p : Pm) (k but : Nat) : asksOf (core p) k but = asksOf p k but := by
  obtain ⟨i, d, m, l, la, lc⟩ := p
  exact asksOf_at i d d m l none la 0 lc k but
theorem core_rem (p : Pm) (acts : List Dt) : remindsOf (core p) acts = remindsOf p acts := by
  unfold remindsOf
  rw [core_st, core_asks, core_asks]
theorem st_core {p q : Pm} (h : core p = core q) (acts : List Dt) : stOf p acts = stOf q acts := by rw [← core_st p, h, core_st]
theorem asks_core {p q : Pm} (h : core p = core q) (k but : Nat) : asksOf p k but = asksOf q k but := by rw [← core_asks p, h, core_asks]
theorem rem_core {p q : Pm} (h : core p = core q) (acts : List Dt) : remindsOf p acts = remindsOf q acts := by rw [← core_rem p, h, core_rem]
theorem legs_core {p q : Pm} (h : core p = core q) : p.legs = q.legs := by
  have := congrArg Pm.legs h; exact this
theorem wrong_core {p q : Pm} (h : core p = core q) : wrongOf p = wrongOf q := by
  have : wrongOf (core p) = wrongOf (core q) := by rw [h]
  exact this
theorem same_core {p q r : Pm} (h : core p = core q) : sameOf r p = sameOf r q := by
  have : sameOf r (core p) = sameOf r (core q) := by rw [h]
  exact this
theorem lsSame_comm : ∀ (a b : List Pl), lsSame a b = lsSame b a
  | [], [] => rfl
  | [], _ :: _ => rfl
  | _ :: _, [] => rfl
  | x :: r, y :: s => by
    have h1 : plSame x y = plSame y x := by
      obtain ⟨a, b, c, d⟩ := x
      obtain ⟨a', b', c', d'⟩ := y
      simp only [plSame, Bool.beq_comm (a := a), Bool.beq_comm (a := b), Bool.beq_comm (a := c), Bool.beq_comm (a := d)]
    simp only [lsSame, h1, lsSame_comm r s]
theorem sameOf_comm (p q : Pm) : sameOf p q = sameOf q p := by
  unfold sameOf
  rw [lsSame_comm p.legs, Bool.beq_comm (a := p.id), Bool.beq_comm (a := p.dl), Bool.beq_comm (a := p.memo), Bool.beq_comm (a := p.legs.length)]
theorem bit_less (b n : Nat) (hb : b < 16) (hn : n < 4) : bitB (15 - b) n = !bitB b n := by
  have : ∀ b : Fin 16, ∀ n : Fin 4, bitB (15 - b.val) n.val = !bitB b.val n.val := by decide
  exact this ⟨b, hb⟩ ⟨n, hn⟩
theorem bit_one (l n : Nat) (hl : l < 4) (hn : n < 4) : bitB (2 ^ l) n = decide (n = l) := by
  have : ∀ l : Fin 4, ∀ n : Fin 4, bitB (2 ^ l.val) n.val = decide (n.val = l.val) := by decide
  exact this ⟨l, hl⟩ ⟨n, hn⟩
theorem with_same (b n : Nat) : withOf b n = b ↔ bitB b n = true := by
  unfold withOf bitB
  split
  · rename_i h; simp [h]
  · rename_i h
    have : 0 < 2 ^ n := Nat.pow_pos (by omega)
    simp [h]
theorem full_all (b n : Nat) (hn : n ≤ 4) (hb : b < 2 ^ n) : allTo b n = decide (b = fullOf n) := by
  have h0 : ∀ b : Fin 1, allTo b.val 0 = decide (b.val = fullOf 0) := by decide
  have h1 : ∀ b : Fin 2, allTo b.val 1 = decide (b.val = fullOf 1) := by decide
  have h2 : ∀ b : Fin 4, allTo b.val 2 = decide (b.val = fullOf 2) := by decide
  have h3 : ∀ b : Fin 8, allTo b.val 3 = decide (b.val = fullOf 3) := by decide
  have h4 : ∀ b : Fin 16, allTo b.val 4 = decide (b.val = fullOf 4) := by decide
  match n, hn with
  | 0, _ => exact h0 ⟨b, hb⟩
  | 1, _ => exact h1 ⟨b, hb⟩
  | 2, _ => exact h2 ⟨b, hb⟩
  | 3, _ => exact h3 ⟨b, hb⟩
  | 4, _ => exact h4 ⟨b, hb⟩
theorem with_pow (b l n : Nat) (hn : n ≤ 4) (hb : b < 2 ^ n) (hl : l < n) : withOf b l < 2 ^ n := by
  have h1 : ∀ b : Fin 2, ∀ l : Fin 1, withOf b.val l.val < 2 ^ 1 := by decide
  have h2 : ∀ b : Fin 4, ∀ l : Fin 2, withOf b.val l.val < 2 ^ 2 := by decide
  have h3 : ∀ b : Fin 8, ∀ l : Fin 3, withOf b.val l.val < 2 ^ 3 := by decide
  have h4 : ∀ b : Fin 16, ∀ l : Fin 4, withOf b.val l.val < 2 ^ 4 := by decide
  match n, hn with
  | 0, _ => omega
  | 1, _ => exact h1 ⟨b, hb⟩ ⟨l, hl⟩
  | 2, _ => exact h2 ⟨b, hb⟩ ⟨l, hl⟩
  | 3, _ => exact h3 ⟨b, hb⟩ ⟨l, hl⟩
  | 4, _ => exact h4 ⟨b, hb⟩ ⟨l, hl⟩
theorem legsErr_mem : ∀ (l : List Pl), legsErr l = 0 → ∀ x, x ∈ l → plErr x = 0
  | [], _, x, hx => by cases hx
  | y :: r, h, x, hx => by
    simp only [legsErr] at h
    split at h
    · rename_i h0
      rcases List.mem_cons.1 hx with rfl | hx
      · exact h0
      · exact legsErr_mem r h x hx
    · rename_i h0; exact absurd h h0
/-- what a payment asks for is no faulty message -/
theorem ask_fine {p : Pm} (hw : wrongOf p = 0) {x : Pl} (hx : x ∈ p.legs) {n st : Nat} (hn : n < 4) : faultOf (askMsg p x n (askKind st)) = 0 := by
  have h4 := wrongOf_few hw
  unfold wrongOf at hw
  split at hw
  · omega
  · split at hw
    · rename_i h0
      split at hw
      · rename_i hm
        have hp := legsErr_mem _ h0 x hx
        unfold plErr at hp
        split at hp
        · omega
        · split at hp
          · omega
          · rename_i hb ha
            have hk : askKind st = 1 ∨ askKind st = 2 ∨ askKind st = 3 := by unfold askKind; (repeat' split) <;> simp
            rcases hk with hk | hk | hk <;> rw [hk] <;> simp [askMsg, faultOf, kindB, wayB, bankB, bareB, termsOf] <;> first | rw [if_neg (by omega), if_neg (by omega), if_neg (by omega), if_pos hm] | rw [if_neg (by omega), if_neg (by omega)]
      · omega
    · omega
theorem say_asks_to {p : Pm} (hw : wrongOf p = 0) (st but : Nat) (hb : but < 16) : ∀ n, n ≤ 4 → sayTo p st (15 - but) n = asksTo p (askKind st) but n
  | 0, _ => rfl
  | n + 1, h => by
    simp only [sayTo, asksTo, say_asks_to hw st but hb n (by omega), bit_less but n hb (by omega)]
    congr 1
    by_cases h1 : bitB but n = true
    · simp [h1, (with_same but n).2 h1]
    · have h2 : ¬ withOf but n = but := fun e => h1 ((with_same but n).1 e)
      simp only [Bool.not_eq_true] at h1
      rw [if_neg h2, h1]
      simp only [Bool.not_false, if_true]
      cases hl : p.legs[n]? with
      | none => rfl
      | some x =>
        obtain ⟨hn, rfl⟩ := List.getElem?_eq_some_iff.1 hl
        simp only [sayFr, askOf, encOf, ask_fine hw (List.getElem_mem hn) (n := n) (st := st) (by omega), if_true]
theorem say_asks {p : Pm} (hw : wrongOf p = 0) (st but : Nat) (hb : but < 16) : sayL p st (15 - but) = asksOf p (askKind st) but :=
  say_asks_to hw st but hb _ (wrongOf_few hw)
theorem say_one_to (p : Pm) (st l : Nat) (hl : l < 4) : ∀ n, n ≤ 4 → sayTo p st (2 ^ l) n = if l < n then (match p.legs[l]? with | none => [] | some x => [sayFr p x l st]) else []
  | 0, _ => by simp [sayTo]
  | n + 1, h => by
    simp only [sayTo, say_one_to p st l hl n (by omega), bit_one l n hl (by omega)]
    by_cases h1 : n = l
    · subst h1; simp; cases p.legs[n]? <;> rfl
    · simp only [h1, decide_false, Bool.false_eq_true, if_false, List.append_nil]
      by_cases h2 : l < n
      · rw [if_pos h2, if_pos (by omega)]
      · rw [if_neg h2, if_neg (by omega)]
theorem say_one {p : Pm} (hw : wrongOf p = 0) (st l : Nat) (hl : l < p.legs.length) : sayL p st (2 ^ l) = [askOf p p.legs[l] l (askKind st)] := by
  have h4 := wrongOf_few hw
  unfold sayL
  rw [say_one_to p st l (by omega) _ h4, if_pos hl, List.getElem?_eq_getElem hl]
  simp only [sayFr, askOf, encOf, ask_fine hw (List.getElem_mem hl) (n := l) (st := st) (by omega), if_true]
end Go.Proofs.YtjkhbjgfoopomabGreat
/-
  Plain: the relation between the two notaries, and how it goes on.
-/
namespace Go.Proofs.YtjkhbjgfoopomabGreat
open Go.RowKit
set_option linter.unusedVariables false
set_option linter.unusedSimpArgs false
theorem revInd {α : Type} {P : List α → Prop} (h0 : P []) (hs : ∀ l x, P l → P (l ++ [x])) (l : List α) : P l := by
  rw [← List.reverse_reverse l]
  induction l.reverse with
  | nil => exact h0
  | cons x r ih => rw [List.reverse_cons]; exact hs _ _ ih
theorem find_true {id : Nat} : ∀ {acts : List Dt} {x : Dt}, x ∈ acts → x.kind = -1 → x.pay.id = id → (findOf id acts).2.1 = true := by
  intro acts
  induction acts using revInd with
  | h0 => intro x hx; cases hx
  | hs r y ih =>
    intro x hx hk hi
    rw [findOf_snoc]
    rcases List.mem_append.1 hx with h | h
    · have := ih h hk hi
      unfold findStep
      split
      · split <;> simp [this]
      · exact this
    · obtain rfl : x = y := by simpa using h
      simp [findStep, hk, hi]
theorem stOf_clock (p : Pm) (acts : List Dt) : (stOf p acts).2.2.2 = clockOf acts := by
  induction acts using revInd with
  | h0 => rfl
  | hs r y ih =>
    rw [stOf_snoc, clockOf_snoc]
    unfold stStep clockStep
    split
    · simp [ih]
    · (repeat' split) <;> simp_all
theorem findX_none (id : Nat) (ps : List Xp) : ps.length ≤ findX id ps ↔ ∀ y, y ∈ ps → y.pm.id ≠ id := by
  constructor
  · intro h y hy
    obtain ⟨i, hi, rfl⟩ := List.getElem_of_mem hy
    exact findX_no id ps i hi (by omega)
  · intro h
    rcases Nat.lt_or_ge (findX id ps) ps.length with x | x
    · exact absurd (findX_at id ps x) (h _ (List.getElem_mem x))
    · exact x
/-- how a payment stands -/
structure Stands (acts : List Dt) (y : Xp) : Prop where
  fine : y.fine
  right : wrongOf y.pm = 0
  st : y.st = (stOf y.pm acts).1
  held : y.held = (stOf y.pm acts).2.1
  done : y.done = (stOf y.pm acts).2.2.1
  room : y.held < 2 ^ y.pm.legs.length
structure DRel (acts : List Dt) (ck : Nat) (ps : List Xp) : Prop where
  clk : ck = clockOf acts
  ok : ∀ x, x ∈ acts → x.ok
  few : ∀ x, x ∈ acts → few4 x
  pay : ∀ x, x ∈ acts → PayOk x
  good : ∀ y, y ∈ ps → Stands acts y
  pays : ∃ qs, Pays acts qs ∧ qs.map core = ps.map (fun y => core y.pm)
  cnt : ∀ id, (findOf id acts).2.2 = ps.length
  len : ps.length ≤ 32
  new : ∀ p : Pm, (∀ y, y ∈ ps → y.pm.id ≠ p.id) → (stOf p acts).2.1 = 0 ∧ (stOf p acts).2.2.1 = 0
theorem DRel.start : DRel [] 0 [] :=
  ⟨rfl, fun x h => by simp at h, fun x h => by simp at h, fun x h => by simp at h, fun x h => by simp at h, ⟨[], ⟨List.Pairwise.nil, fun p => by simp⟩, rfl⟩, fun id => rfl, by simp, fun p h => ⟨rfl, rfl⟩⟩
theorem uniq_id {qs : List Pm} (h : qs.Pairwise fun a b => a.id < b.id) {a b : Pm} (ha : a ∈ qs) (hb : b ∈ qs) (e : a.id = b.id) : a = b := by
  obtain ⟨i, hi, rfl⟩ := List.getElem_of_mem ha
  obtain ⟨j, hj, rfl⟩ := List.getElem_of_mem hb
  have hp := List.pairwise_iff_getElem.1 h
  rcases Nat.lt_trichotomy i j with h1 | h1 | h1
  · have := hp i j hi hj h1; omega
  · subst h1; rfl
  · have := hp j i hj hi h1; omega
theorem DRel.find_in {acts : List Dt} {ck : Nat} {ps : List Xp} (h : DRel acts ck ps) (id : Nat) (hf : findX id ps < ps.length) : (findOf id acts).2.1 = true ∧ core (findOf id acts).1 = core ps[findX id ps].pm := by
  obtain ⟨qs, hP, hm⟩ := h.pays
  have hat := findX_at id ps hf
  have h1 : core ps[findX id ps].pm ∈ qs.map core := by rw [hm]; exact List.mem_map.2 ⟨_, List.getElem_mem hf, rfl⟩
  obtain ⟨q, hq, hc⟩ := List.mem_map.1 h1
  obtain ⟨x, hx, hk, hxq⟩ := (hP.mem q).1 hq
  have hqi : q.id = id := (core_id hc).trans hat
  have ht : (findOf id acts).2.1 = true := find_true hx hk (by rw [hxq]; exact hqi)
  refine ⟨ht, ?_⟩
  obtain ⟨x', hx', hk', hi', hp'⟩ := findOf_mem ht
  have : x'.pay = q := uniq_id hP.sort ((hP.mem _).2 ⟨x', hx', hk', rfl⟩) hq (by rw [hi', hqi])
  rw [hp', this]; exact hc
theorem DRel.find_no {acts : List Dt} {ck : Nat} {ps : List Xp} (h : DRel acts ck ps) (id : Nat) (hf : ps.length ≤ findX id ps) : (findOf id acts).2.1 = false := by
  cases ht : (findOf id acts).2.1 with
  | false => rfl
  | true =>
    obtain ⟨qs, hP, hm⟩ := h.pays
    obtain ⟨x', hx', hk', hi', hp'⟩ := findOf_mem ht
    have h1 : core x'.pay ∈ ps.map (fun y => core y.pm) := by rw [← hm]; exact List.mem_map.2 ⟨_, (hP.mem _).2 ⟨x', hx', hk', rfl⟩, rfl⟩
    obtain ⟨y, hy, hc⟩ := List.mem_map.1 h1
    exact absurd ((core_id hc).trans hi') ((findX_none id ps).1 hf y hy)
theorem Stands.rem {acts : List Dt} {y : Xp} (h : Stands acts y) : remX y = remindsOf y.pm acts := by
  unfold remX remindsOf
  rw [← h.st, ← h.held, ← h.done]
  have hf := h.fine
  by_cases h1 : y.st = 1
  · rw [if_pos h1, if_pos h1, say_asks h.right _ _ hf.held, h1]; rfl
  · rw [if_neg h1, if_neg h1, say_asks h.right _ _ hf.done]
theorem DRel.says {acts : List Dt} {ck : Nat} {ps : List Xp} (h : DRel acts ck ps) : ∃ qs, Pays acts qs ∧ qs.length ≤ 32 ∧ saysOf qs acts = saysX ps := by
  obtain ⟨qs, hP, hm⟩ := h.pays
  refine ⟨qs, hP, ?_, ?_⟩
  · have := congrArg List.length hm
    simp only [List.length_map] at this
    have := h.len; omega
  · have e1 : saysOf qs acts = (qs.map core).flatMap (fun p => remindsOf p acts) := by
      simp only [saysOf, List.flatMap_map, core_rem]
    rw [e1, hm]
    simp only [saysX, List.flatMap_map, core_rem]
    have hg := h.good
    clear h hP hm e1
    induction ps with
    | nil => rfl
    | cons y r ih =>
      simp only [List.flatMap_cons]
      rw [ih (fun z hz => hg z (List.mem_cons_of_mem _ hz)), (hg y (List.mem_cons_self ..)).rem]
theorem Pays.other {acts : List Dt} {qs : List Pm} (h : Pays acts qs) {x : Dt} (hx : x.kind ≠ -1) : Pays (acts ++ [x]) qs :=
  ⟨h.sort, fun p => by
    rw [h.mem p]
    constructor
    · rintro ⟨y, hy, h1, h2⟩; exact ⟨y, List.mem_append_left _ hy, h1, h2⟩
    · rintro ⟨y, hy, h1, h2⟩
      rcases List.mem_append.1 hy with h3 | h3
      · exact ⟨y, h3, h1, h2⟩
      · obtain rfl : y = x := by simpa using h3
        exact absurd h1 hx⟩
theorem find_other {id : Nat} {acts : List Dt} {x : Dt} (hx : x.kind ≠ -1) : findOf id (acts ++ [x]) = findOf id acts := by
  rw [findOf_snoc]; simp [findStep, hx]
/-- a tick -/
theorem DRel.tick {acts : List Dt} {ck : Nat} {ps : List Xp} (h : DRel acts ck ps) : DRel (acts ++ [tickAct]) (ck + 1) (ps.map (lateX (ck + 1))) := by
  have hn : tickAct.kind ≠ -1 := by decide
  have hin : ∀ x, x ∈ acts ++ [tickAct] → x ∈ acts ∨ x = tickAct := fun x hx => by simpa using hx
  refine ⟨?_, ?_, ?_, ?_, ?_, ?_, ?_, ?_, ?_⟩
  · rw [clockOf_snoc, h.clk]; rfl
  · intro x hx
    rcases hin x hx with hx | rfl
    · exact h.ok x hx
    · refine ⟨by decide, by decide, ⟨by decide, by decide, fun l hl => by simp [tickAct, noPm] at hl⟩, by simp [Msg.ok, tickAct, zeroMsg]⟩
  · intro x hx
    rcases hin x hx with hx | rfl
    · exact h.few x hx
    · intro h4; exact absurd h4 (by decide)
  · intro x hx
    rcases hin x hx with hx | rfl
    · exact h.pay x hx
    · exact ⟨by decide, by decide⟩
  · intro y hy
    obtain ⟨z, hz, rfl⟩ := List.mem_map.1 hy
    have g := h.good z hz
    have hc := stOf_clock z.pm acts
    have hck := h.clk
    have e : stOf z.pm (acts ++ [tickAct]) = (if (stOf z.pm acts).1 = 1 ∧ z.pm.dl ≤ ck + 1 then 3 else (stOf z.pm acts).1, (stOf z.pm acts).2.1, (stOf z.pm acts).2.2.1, (stOf z.pm acts).2.2.2 + 1) := by
      rw [stOf_snoc, hck, ← hc]; rfl
    refine ⟨lateX_fine _ g.fine, by rw [lateX_pm]; exact g.right, ?_, ?_, ?_, ?_⟩
    · rw [lateX_pm, e, ← g.st]; unfold lateX; split <;> rfl
    · rw [lateX_pm, e]; unfold lateX; split <;> exact g.held
    · rw [lateX_pm, e]; unfold lateX; split <;> exact g.done
    · rw [lateX_pm]; unfold lateX; split <;> exact g.room
  · obtain ⟨qs, hP, hm⟩ := h.pays
    refine ⟨qs, hP.other hn, ?_⟩
    rw [hm, List.map_map]
    apply List.map_congr_left
    intro y _
    simp [lateX_pm]
  · intro id
    rw [find_other hn, h.cnt, List.length_map]
  · rw [List.length_map]; exact h.len
  · intro p hp
    have := h.new p (fun y hy => by
      have := hp _ (List.mem_map.2 ⟨y, hy, rfl⟩)
      rwa [lateX_pm] at this)
    rw [stOf_snoc]
    exact this
end Go.Proofs.YtjkhbjgfoopomabGreat
