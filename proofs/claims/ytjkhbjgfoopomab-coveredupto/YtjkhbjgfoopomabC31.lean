import Derived.Test.YtjkhbjgfoopomabC23
import Derived.Test.YtjkhbjgfoopomabC30
import Derived.Test.YtjkhbjgfoopomabC29
import Derived.Test.YtjkhbjgfoopomabC4
import Derived.Test.YtjkhbjgfoopomabC27
/-
  Plain: what nodes say, message by message.
-/
namespace Go.Proofs.Ytjkhbjgfoopomab
set_option linter.unusedVariables false
set_option linter.unusedSimpArgs false
def upd {α : Type} (f : Nat → α) (k : Nat) (x : α) : Nat → α := fun j => if j = k then x else f j
theorem upd_self {α : Type} (f : Nat → α) (k : Nat) (x : α) : upd f k x k = x := by simp [upd]
theorem upd_ne {α : Type} (f : Nat → α) {k j : Nat} (x : α) (h : j ≠ k) : upd f k x j = f j := by simp [upd, h]
theorem upd_same {α : Type} (f : Nat → α) (k : Nat) : upd f k (f k) = f := by
  funext j
  unfold upd
  split
  · rename_i h; rw [h]
  · rfl
/-- a message that a frame may say -/
def Fair (m : Msg) : Prop := m.ok ∧ faultOf m = 0
theorem Fair.enc {m : Msg} (h : Fair m) : decErr (encOf m) = 0 ∧ decMsg (encOf m) = m ∧ (encOf m).length ≤ 100 ∧ encOf m = frameOf m := by
  have e : encOf m = frameOf m := by unfold encOf; rw [if_pos h.2]
  have h64 := fault_zero_memo h.2
  have hd := dec_frame h.1 h.2 h64
  rw [e]
  exact ⟨hd.1, hd.2.1, by rw [hd.2.2.1]; omega, rfl⟩
theorem Fair.kinds {m : Msg} (h : Fair m) : 1 ≤ m.k ∧ m.k ≤ 6 ∧ m.l < 4 ∧ (m.k ≤ 3 → m.f = 0 ∧ 1 ≤ m.t ∧ m.t ≤ 7) ∧ (4 ≤ m.k → m.t = 0 ∧ 1 ≤ m.f ∧ m.f ≤ 7) ∧ (m.k ≠ 1 → m.p = 0 ∧ m.g = 0 ∧ m.a = 0 ∧ m.m = []) ∧ (m.k = 1 → m.a ≠ 0) := by
  have h0 := h.2
  unfold faultOf at h0
  by_cases hk : kindB m = true
  · rw [hk] at h0
    by_cases hw : wayB m = true
    · rw [hw] at h0
      by_cases hl : 4 ≤ m.l
      · simp [hl] at h0
      · simp only [Bool.not_true, Bool.false_eq_true, if_false, if_neg hl] at h0
        simp only [kindB, Bool.and_eq_true, decide_eq_true_eq] at hk
        unfold wayB bankB at hw
        refine ⟨hk.1, hk.2, by omega, fun h3 => ?_, fun h4 => ?_, fun h1 => ?_, fun h1 => ?_⟩
        · rw [if_pos h3] at hw
          simp only [Bool.and_eq_true, decide_eq_true_eq] at hw
          exact hw
        · rw [if_neg (by omega)] at hw
          simp only [Bool.and_eq_true, decide_eq_true_eq] at hw
          exact hw
        · rw [if_neg h1] at h0
          by_cases hb : bareB m = true
          · simp only [bareB, Bool.and_eq_true, decide_eq_true_eq, List.isEmpty_iff] at hb
            exact ⟨hb.1.1.1, hb.1.1.2, hb.1.2, hb.2⟩
          · rw [if_neg hb] at h0; omega
        · rw [if_pos h1] at h0
          unfold termsOf at h0
          split at h0
          · omega
          · assumption
    · have : wayB m = false := by simpa using hw
      rw [this] at h0
      simp at h0
  · have : kindB m = false := by simpa using hk
    rw [this] at h0
    simp at h0
theorem rErr_enc {m : Msg} (hm : Fair m) {k : Nat} (ht : m.t = k) (E : List Ev) : rErr k (encOf m) E = hErrOf m E := by
  have h := hm.enc
  unfold rErr
  rw [h.1, h.2.1]
  simp [ht]
theorem rEvs_enc {m : Msg} (hm : Fair m) {k : Nat} (ht : m.t = k) {E : List Ev} (h0 : hErrOf m E = 0) : rEvs k (encOf m) E = hEvsOf m E := by
  unfold rEvs
  rw [rErr_enc hm ht, if_pos h0, hm.enc.2.1]
/-- a bank's answer -/
def bankAns (k : Nat) (m : Msg) (E : List Ev) : Msg := ansMsg k m.i m.l (legOf m.i m.l (hEvsOf m E)).1
theorem rOuts_enc {m : Msg} (hm : Fair m) {k : Nat} (ht : m.t = k) {E : List Ev} (h0 : hErrOf m E = 0) : rOuts k (encOf m) E = [encOf (bankAns k m E)] := by
  unfold rOuts
  rw [rErr_enc hm ht, if_pos h0, hm.enc.2.1]
  rfl
/-- what a bank logs -/
def bankLog (m : Msg) (E : List Ev) : List UInt8 := if (hEvsOf m E).length = E.length then [] else encOf m
theorem rLog_enc {m : Msg} (hm : Fair m) {k : Nat} (ht : m.t = k) {E : List Ev} (h0 : hErrOf m E = 0) : rLog k (encOf m) E = bankLog m E := by
  unfold rLog bankLog
  rw [rEvs_enc hm ht h0, hm.enc.2.1, hm.enc.2.2.2]
/-- the messages to all legs whose bit is not among some -/
def askMs (p : Pm) (k but : Nat) : Nat → List Msg
  | 0 => []
  | n + 1 => askMs p k but n ++ (if withOf but n = but then [] else match p.legs[n]? with
    | none => []
    | some x => [askMsg p x n k])
def asksM (p : Pm) (k but : Nat) : List Msg := askMs p k but p.legs.length
theorem askMs_map (p : Pm) (k but : Nat) : ∀ n, (askMs p k but n).map encOf = asksTo p k but n
  | 0 => rfl
  | n + 1 => by
    simp only [askMs, asksTo, List.map_append, askMs_map p k but n]
    congr 1
    split
    · rfl
    · cases p.legs[n]? <;> rfl
theorem asksM_map (p : Pm) (k but : Nat) : (asksM p k but).map encOf = asksOf p k but := askMs_map p k but _
theorem askMs_mem (p : Pm) (k but : Nat) (m : Msg) : ∀ n, m ∈ askMs p k but n ↔ ∃ l x, l < n ∧ withOf but l ≠ but ∧ p.legs[l]? = some x ∧ m = askMsg p x l k
  | 0 => by simp [askMs]
  | n + 1 => by
    simp only [askMs, List.mem_append, askMs_mem p k but m n]
    constructor
    · rintro (⟨l, x, h1, h2, h3, h4⟩ | h)
      · exact ⟨l, x, by omega, h2, h3, h4⟩
      · split at h
        · simp at h
        · rename_i hw
          cases hx : p.legs[n]? with
          | none => rw [hx] at h; simp at h
          | some x =>
            rw [hx] at h
            simp only [List.mem_singleton] at h
            exact ⟨n, x, by omega, hw, hx, h⟩
    · rintro ⟨l, x, h1, h2, h3, h4⟩
      by_cases hl : l < n
      · exact .inl ⟨l, x, hl, h2, h3, h4⟩
      · obtain rfl : l = n := by omega
        right
        rw [if_neg h2, h3]
        simp [h4]
theorem asksM_mem (p : Pm) (k but : Nat) (m : Msg) : m ∈ asksM p k but ↔ ∃ l x, withOf but l ≠ but ∧ p.legs[l]? = some x ∧ m = askMsg p x l k := by
  unfold asksM
  rw [askMs_mem]
  constructor
  · rintro ⟨l, x, _, h⟩
    exact ⟨l, x, h⟩
  · rintro ⟨l, x, h1, h2, h3⟩
    exact ⟨l, x, (List.getElem?_eq_some_iff.1 h2).1, h1, h2, h3⟩
theorem askMs_le (p : Pm) (k but : Nat) : ∀ n, (askMs p k but n).length ≤ n := fun n => by
  have h := asksTo_le p k but n
  rw [← askMs_map] at h
  simpa using h
/-- the notary: the error of a message -/
def nErr (m : Msg) (A : List Dt) : Nat :=
  if m.t ≠ 0 then 4 else if ((findOf m.i A).2.1 && hasLegB (findOf m.i A).1 m.l m.f) = false then 13
  else if (m.k = 5 ∧ (stOf (findOf m.i A).1 A).1 = 2) ∨ (m.k = 6 ∧ (stOf (findOf m.i A).1 A).1 = 1) then 14 else 0
def msgAct (m : Msg) : Dt := ⟨(m.k : Int), noPm, m⟩
def nSay (p : Pm) (m : Msg) (st now : Nat) : List Msg :=
  if m.k = 6 then [] else if st = 1 ∧ now = 1 then [] else if st = 1 then asksM p (askKind now) 0 else match p.legs[m.l]? with
    | none => []
    | some y => [askMsg p y m.l (askKind st)]
theorem nSay_map (p : Pm) (m : Msg) (st now : Nat) : (nSay p m st now).map encOf = tSay p m st now := by
  unfold nSay tSay
  split
  · rfl
  · split
    · rfl
    · split
      · exact asksM_map _ _ _
      · cases p.legs[m.l]? <;> rfl
/-- what it sends -/
def nOuts (m : Msg) (A : List Dt) : List Msg := nSay (findOf m.i A).1 m (stOf (findOf m.i A).1 A).1 (stOf (findOf m.i A).1 (A ++ [msgAct m])).1
theorem tErr_enc {m : Msg} (hm : Fair m) (A : List Dt) : tErr (encOf m) A = nErr m A := by
  have h := hm.enc
  unfold tErr nErr
  rw [h.1, h.2.1]
  simp
theorem tActs_enc {m : Msg} (hm : Fair m) {A : List Dt} (h0 : nErr m A = 0) : tActs (encOf m) A = A ++ [msgAct m] := by
  unfold tActs
  rw [tErr_enc hm, if_pos h0, hm.enc.2.1]
  rfl
theorem tOuts_enc {m : Msg} (hm : Fair m) {A : List Dt} (h0 : nErr m A = 0) : tOuts (encOf m) A = (nOuts m A).map encOf := by
  unfold tOuts
  rw [tActs_enc hm h0, tErr_enc hm, if_pos h0, hm.enc.2.1]
  exact (nSay_map _ _ _ _).symm
theorem tLog_enc {m : Msg} (hm : Fair m) {A : List Dt} (h0 : nErr m A = 0) : tLog (encOf m) A = actText A (msgAct m) := by
  unfold tLog
  rw [tErr_enc hm, if_pos h0, hm.enc.2.1]
  rfl
/-- what is said again of a payment; of all -/
def remindM (p : Pm) (A : List Dt) : List Msg := if (stOf p A).1 = 1 then asksM p 1 (stOf p A).2.1 else asksM p (askKind (stOf p A).1) (stOf p A).2.2.1
theorem remindM_map (p : Pm) (A : List Dt) : (remindM p A).map encOf = remindsOf p A := by
  unfold remindM remindsOf
  split <;> exact asksM_map _ _ _
def saysM (qs : List Pm) (A : List Dt) : List Msg := qs.flatMap fun p => remindM p A
theorem saysM_map (qs : List Pm) (A : List Dt) : (saysM qs A).map encOf = saysOf qs A := by
  unfold saysM saysOf
  induction qs with
  | nil => rfl
  | cons p r ih => simp only [List.flatMap_cons, List.map_append, ih, remindM_map]
theorem askKind_of (st : Nat) : askKind st = 1 ∧ st = 1 ∨ askKind st = 2 ∧ st = 2 ∨ askKind st = 3 ∧ st ≠ 1 ∧ st ≠ 2 := by
  unfold askKind
  split
  · exact .inl ⟨rfl, by assumption⟩
  · split
    · exact .inr (.inl ⟨rfl, by assumption⟩)
    · exact .inr (.inr ⟨rfl, by assumption, by assumption⟩)
theorem remindM_mem (p : Pm) (A : List Dt) (m : Msg) (h : m ∈ remindM p A) : ∃ l x, p.legs[l]? = some x ∧ m = askMsg p x l (askKind (stOf p A).1) := by
  unfold remindM at h
  split at h
  · rename_i h1
    obtain ⟨l, x, _, h2, h3⟩ := (asksM_mem _ _ _ _).1 h
    exact ⟨l, x, h2, by rw [h3, h1]; rfl⟩
  · obtain ⟨l, x, _, h2, h3⟩ := (asksM_mem _ _ _ _).1 h
    exact ⟨l, x, h2, h3⟩
/-- what a bank's tick says -/
def tickM (k : Nat) (ls : List Lg) : List Msg := (ls.filter fun x => decide (x.st = 1)).map fun x => ansMsg k x.id x.l 1
theorem tickM_map (k : Nat) (ls : List Lg) : (tickM k ls).map encOf = tickL k ls := by
  unfold tickM tickL
  rw [List.map_map]
  rfl
theorem ans_fair {k i l st : Nat} (hk : 1 ≤ k ∧ k ≤ 7) (hi : i < 4294967296) (hl : l < 4) : Fair (ansMsg k i l st) := by
  have hkk : kindFor st = 4 ∨ kindFor st = 5 ∨ kindFor st = 6 := by unfold kindFor; (repeat' split) <;> simp
  have e : faultOf (ansMsg k i l st) = 0 := by
    unfold faultOf kindB wayB bankB bareB ansMsg
    rcases hkk with h | h | h <;> simp [h, hk.1, hk.2] <;> omega
  exact ⟨⟨kindFor_lt st, by show k < 256; omega, by show (0 : Nat) < 256; omega, hi, by show l < 256; omega, by show (0 : Nat) < 65536; omega, by show (0 : Nat) < 65536; omega, by show (0 : Nat) < 4294967296; omega⟩, e⟩
/-- behind a message that a bank has taken in -/
theorem leg_other {m : Msg} {E : List Ev} {i l : Nat} (h : i ≠ m.i ∨ l ≠ m.l) : legOf i l (hEvsOf m E) = legOf i l E := by
  unfold hEvsOf hNewT
  have hx : ∀ e : Ev, e.msg = m → legOf i l (E ++ [e]) = legOf i l E := fun e he => legOf_other i l E e (by
    rw [he]
    rcases h with h | h
    · exact .inr (.inl (fun c => h c.symm))
    · exact .inr (.inr (fun c => h c.symm)))
  split
  · simp
  · split
    · exact hx _ rfl
    · split
      · exact hx _ rfl
      · split
        · exact hx _ rfl
        · simp
/-- how the leg of a message stands behind it -/
theorem leg_after {m : Msg} {E : List Ev} (h0 : hErrOf m E = 0) (hk : 1 ≤ m.k ∧ m.k ≤ 3) :
    (m.k = 1 → legOf m.i m.l (hEvsOf m E) = if (legOf m.i m.l E).1 = 0 then (if canB m E then 1 else 2, m, true) else legOf m.i m.l E) ∧
    (m.k = 2 → ((legOf m.i m.l E).1 = 1 ∨ (legOf m.i m.l E).1 = 3) ∧ legOf m.i m.l (hEvsOf m E) = (3, (legOf m.i m.l E).2)) ∧
    (m.k = 3 → (legOf m.i m.l E).1 ≠ 3 ∧ legOf m.i m.l (hEvsOf m E) = (4, (legOf m.i m.l E).2)) := by
  have hT : hErrT m (legOf m.i m.l E) (keysOf E).length = 0 := h0
  unfold hEvsOf hNewT
  rw [hT]
  simp only [ne_eq, not_true, if_false]
  refine ⟨fun h => ?_, fun h => ?_, fun h => ?_⟩
  · by_cases hz : (legOf m.i m.l E).1 = 0
    · rw [if_pos ⟨h, hz⟩, if_pos hz, legOf_snoc]
      unfold legStep
      cases canB m E <;> simp
    · rw [if_neg (fun c => hz c.2), if_neg hz, if_neg (by omega), if_neg (by omega), List.append_nil]
  · have hs : (legOf m.i m.l E).1 = 1 ∨ (legOf m.i m.l E).1 = 3 := by
      unfold hErrT at hT
      split at hT
      · omega
      · split at hT
        · omega
        · rename_i hn
          by_cases h1 : (legOf m.i m.l E).1 = 1
          · exact .inl h1
          · by_cases h3 : (legOf m.i m.l E).1 = 3
            · exact .inr h3
            · exact absurd (.inl ⟨h, h1, h3⟩) hn
    refine ⟨hs, ?_⟩
    rw [if_neg (by omega)]
    rcases hs with h1 | h3
    · rw [if_pos ⟨h, h1⟩, legOf_snoc]
      unfold legStep
      simp
    · rw [if_neg (by omega), if_neg (by omega), List.append_nil, ← h3]
  · have hs : (legOf m.i m.l E).1 ≠ 3 := by
      intro h3
      unfold hErrT at hT
      split at hT
      · omega
      · split at hT
        · omega
        · rename_i hn
          exact hn (.inr ⟨h, h3⟩)
    refine ⟨hs, ?_⟩
    rw [if_neg (by omega), if_neg (by omega)]
    by_cases h4 : (legOf m.i m.l E).1 = 4
    · rw [if_neg (fun c => c.2 h4), List.append_nil, ← h4]
    · rw [if_pos ⟨h, h4⟩, legOf_snoc]
      unfold legStep
      simp
end Go.Proofs.Ytjkhbjgfoopomab
/-
  Plain: what a bank is restored from.
-/
namespace Go.Proofs.Ytjkhbjgfoopomab
set_option linter.unusedVariables false
set_option linter.unusedSimpArgs false
/-- what is logged of an event -/
def evText (e : Ev) : List UInt8 := if e.kind = 0 then openTextOf e.msg.p e.msg.a else frameOf e.msg
/-- what Open, or Handle of a frame, has added to what was there -/
def EvIs (node : Nat) (pre : List Ev) (e : Ev) : Prop :=
  (∃ a b, a < 65536 ∧ b < 4294967296 ∧ e = openEv a b ∧ openErr a pre = 0) ∨
  (e.kind ≠ 0 ∧ Fair e.msg ∧ e.msg.t = node ∧ hErrOf e.msg pre = 0 ∧ hEvsOf e.msg pre = pre ++ [e])
/-- each event is of a call -/
def BHist (node : Nat) (E : List Ev) : Prop := ∀ pre e suf, E = pre ++ e :: suf → EvIs node pre e
theorem BHist.nil (node : Nat) : BHist node [] := fun pre e suf h => by simp at h
theorem BHist.snoc {node : Nat} {E : List Ev} {e : Ev} (h : BHist node E) (he : EvIs node E e) : BHist node (E ++ [e]) := by
  intro pre x suf hx
  rcases List.eq_nil_or_concat suf with rfl | ⟨s, y, rfl⟩
  · have := List.append_inj' hx rfl
    obtain ⟨rfl, h2⟩ := this
    injection h2 with h2
    subst h2
    exact he
  · have h1 : pre ++ x :: (s ++ [y]) = (pre ++ x :: s) ++ [y] := by simp
    rw [List.concat_eq_append, h1] at hx
    have := List.append_inj' hx rfl
    exact h _ _ _ this.1
theorem BHist.left {node : Nat} {E F : List Ev} (h : BHist node (E ++ F)) : BHist node E := fun pre e suf hx => h pre e (suf ++ F) (by rw [hx]; simp)
/-- Open and Handle keep it -/
theorem BHist.opens {node : Nat} {E : List Ev} (h : BHist node E) (a b : Nat) (ha : a < 65536) (hb : b < 4294967296) : BHist node (openEvs a b E) := by
  unfold openEvs
  split
  · rename_i h0
    exact h.snoc (.inl ⟨a, b, ha, hb, rfl, h0⟩)
  · exact h
theorem hNew_one (x : Msg) (T : Nat × Msg × Bool) (n : Nat) (c : Bool) : hNewT x T n c = [] ∨ ∃ k h, 1 ≤ k ∧ hNewT x T n c = [⟨k, x, h⟩] := by
  unfold hNewT
  (repeat' split)
  · exact .inl rfl
  · exact .inr ⟨1, c, by omega, rfl⟩
  · exact .inr ⟨2, false, by omega, rfl⟩
  · exact .inr ⟨3, false, by omega, rfl⟩
  · exact .inl rfl
theorem hEvs_one (m : Msg) (E : List Ev) : hEvsOf m E = E ∨ ∃ e, e.kind ≠ 0 ∧ e.msg = m ∧ hEvsOf m E = E ++ [e] := by
  unfold hEvsOf
  rcases hNew_one m (legOf m.i m.l E) (keysOf E).length (canB m E) with h | ⟨k, b, hk, h⟩
  · left; rw [h, List.append_nil]
  · right; exact ⟨⟨k, m, b⟩, by show k ≠ 0; omega, rfl, by rw [h]⟩
theorem BHist.handle {node : Nat} {E : List Ev} (h : BHist node E) {m : Msg} (hm : Fair m) (ht : m.t = node) (h0 : hErrOf m E = 0) : BHist node (hEvsOf m E) := by
  rcases hEvs_one m E with e | ⟨e, hk, he, hE⟩
  · rw [e]; exact h
  · rw [hE]
    refine h.snoc (.inr ⟨hk, by rw [he]; exact hm, by rw [he]; exact ht, by rw [he]; exact h0, by rw [he]; exact hE⟩)
/-- the texts, one behind another -/
def bankTexts (E : List Ev) : List UInt8 := E.flatMap evText
theorem bankTexts_snoc (E : List Ev) (e : Ev) : bankTexts (E ++ [e]) = bankTexts E ++ evText e := by simp [bankTexts]
theorem texts_handle {m : Msg} (hm : Fair m) (E : List Ev) : bankTexts (hEvsOf m E) = bankTexts E ++ bankLog m E := by
  unfold bankLog
  rcases hEvs_one m E with e | ⟨e, hk, he, hE⟩
  · rw [e, if_pos rfl, List.append_nil]
  · rw [hE, bankTexts_snoc, if_neg (by simp)]
    unfold evText
    rw [if_neg hk, he, hm.enc.2.2.2]
/-- how many bytes the text has that a log begins with -/
def frSize (l : List UInt8) : Nat := if l.length ≤ 17 then 22 else 22 + at8 l 17
def tsizeB (l : List UInt8) : Nat := if l = [] then 0 else if at8 l 0 = 79 then 7 else if at8 l 0 = 69 then frSize l else 0
/-- the call that has logged a text, once more -/
def redoB (node : Nat) (t : List UInt8) (E : List Ev) : Option (List Ev) :=
  if t.length = 7 then (if openErr (val (cut t 1 3)) E = 0 ∧ openTextOf (val (cut t 1 3)) (val (cut t 3 7)) = t then some (openEvs (val (cut t 1 3)) (val (cut t 3 7)) E) else none)
  else if rErr node t E = 0 ∧ rLog node t E = t then some (rEvs node t E) else none
def replayB (node : Nat) : Nat → List UInt8 → List Ev → Option (List Ev)
  | 0, _, E => some E
  | f + 1, l, E => if l = [] then some E else if tsizeB l = 0 then none else if l.length < tsizeB l then some E else
    match redoB node (l.take (tsizeB l)) E with
    | none => none
    | some E' => replayB node f (l.drop (tsizeB l)) E'
theorem tsizeB_pos {l : List UInt8} (h : tsizeB l ≠ 0) : 7 ≤ tsizeB l := by
  unfold tsizeB frSize at *
  (repeat' split at h) <;> simp_all <;> (repeat' split) <;> omega
/-- more than enough rounds are none too many -/
theorem replayB_more (node : Nat) : ∀ (f : Nat) (l : List UInt8) (E : List Ev), l.length ≤ f → replayB node f l E = replayB node l.length l E := by
  intro f
  induction f using Nat.strongRecOn with
  | ind f ih =>
    intro l E hl
    cases f with
    | zero =>
      have : l.length = 0 := by omega
      rw [this]
    | succ f =>
      by_cases h0 : l = []
      · subst h0; rfl
      · obtain ⟨n, hn⟩ : ∃ n, l.length = n + 1 := ⟨l.length - 1, by have : l.length ≠ 0 := fun e => h0 (List.length_eq_zero_iff.1 e); omega⟩
        rw [hn]
        simp only [replayB]
        rw [if_neg h0, if_neg h0]
        by_cases h1 : tsizeB l = 0
        · rw [if_pos h1, if_pos h1]
        · rw [if_neg h1, if_neg h1]
          by_cases h2 : l.length < tsizeB l
          · rw [if_pos h2, if_pos h2]
          · rw [if_neg h2, if_neg h2]
            cases redoB node (l.take (tsizeB l)) E with
            | none => rfl
            | some E' =>
              have h7 := tsizeB_pos h1
              have hd : (l.drop (tsizeB l)).length = l.length - tsizeB l := List.length_drop
              show replayB node f _ E' = replayB node n _ E'
              rw [ih f (by omega) _ _ (by omega)]
              by_cases hfn : n = f
              · subst hfn
                rw [ih n (by omega) _ _ (by omega)]
              · rw [ih n (by omega) _ _ (by omega)]
/-- what Restore answers -/
def restB (node : Nat) (l : List UInt8) : Option (List Ev) := replayB node l.length l []
theorem at8_append {l r : List UInt8} {k : Nat} (h : k < l.length) : at8 (l ++ r) k = at8 l k := by
  unfold at8
  rw [List.getD_eq_getElem?_getD, List.getD_eq_getElem?_getD, List.getElem?_append_left h]
theorem evText_size {node : Nat} {pre : List Ev} {e : Ev} (h : EvIs node pre e) (r : List UInt8) : tsizeB (evText e ++ r) = (evText e).length ∧ 7 ≤ (evText e).length := by
  rcases h with ⟨a, b, _, _, rfl, _⟩ | ⟨hk, hm, _⟩
  · have e1 : evText (openEv a b) = openTextOf a b := rfl
    rw [e1, openText_length]
    refine ⟨?_, Nat.le_refl _⟩
    unfold tsizeB
    rw [if_neg (by simp [openTextOf]), if_pos (by rfl)]
  · have e1 : evText e = frameOf e.msg := if_neg hk
    obtain ⟨_, _, h3, h4, h5, _⟩ := dec_frame hm.1 hm.2 (fault_zero_memo hm.2)
    rw [e1, h3]
    refine ⟨?_, by omega⟩
    unfold tsizeB frSize
    have hne : frameOf e.msg ++ r ≠ [] := fun e => by
      have := congrArg List.length e
      rw [List.length_append, h3] at this
      simp at this
    rw [if_neg hne, at8_append (by omega), if_neg (by omega), at8_append (by omega), if_pos h4, if_neg (by rw [List.length_append]; omega), h5]
theorem redo_text {node : Nat} {pre : List Ev} {e : Ev} (h : EvIs node pre e) : redoB node (evText e) pre = some (pre ++ [e]) := by
  rcases h with ⟨a, b, ha, hb, rfl, h0⟩ | ⟨hk, hm, ht, h0, hE⟩
  · have e1 : evText (openEv a b) = openTextOf a b := rfl
    unfold redoB
    rw [e1, if_pos (openText_length a b)]
    have c1 : cut (openTextOf a b) 1 3 = be 2 a := by
      unfold cut openTextOf
      simp [List.take_append, be_length]
    have c2 : cut (openTextOf a b) 3 7 = be 4 b := by
      unfold cut openTextOf
      simp [List.drop_append, List.take_append, be_length]
      exact List.take_of_length_le (by simp [be_length])
    rw [c1, c2, val_be (by omega), val_be (by omega), if_pos ⟨h0, rfl⟩]
    unfold openEvs
    rw [if_pos h0]
  · have e1 : evText e = frameOf e.msg := if_neg hk
    obtain ⟨_, _, h3, _⟩ := dec_frame hm.1 hm.2 (fault_zero_memo hm.2)
    unfold redoB
    rw [e1, if_neg (by omega), ← hm.enc.2.2.2, rErr_enc hm ht, rEvs_enc hm ht h0, rLog_enc hm ht h0]
    have hbl : bankLog e.msg pre = encOf e.msg := by unfold bankLog; rw [hE, if_neg (by simp)]
    rw [hbl, if_pos ⟨h0, rfl⟩, hE]
/-- nothing, or the head of a text -/
def CutB (c : List UInt8) : Prop := c = [] ∨ (tsizeB c ≠ 0 ∧ c.length < tsizeB c)
theorem at8_take {l : List UInt8} {k n : Nat} (h : k < n) : at8 (l.take n) k = at8 l k := by
  unfold at8
  rw [List.getD_eq_getElem?_getD, List.getD_eq_getElem?_getD, List.getElem?_take_of_lt h]
theorem evText_cut {node : Nat} {pre : List Ev} {e : Ev} (h : EvIs node pre e) (n : Nat) (hn : n < (evText e).length) : CutB ((evText e).take n) := by
  by_cases h0 : n = 0
  · left; rw [h0]; rfl
  · right
    have hl : ((evText e).take n).length = n := by rw [List.length_take]; omega
    have hne : (evText e).take n ≠ [] := fun e => by rw [e] at hl; simp at hl; omega
    rcases h with ⟨a, b, _, _, rfl, _⟩ | ⟨hk, hm, _⟩
    · have e1 : evText (openEv a b) = openTextOf a b := rfl
      rw [e1] at hl hn hne ⊢
      rw [openText_length] at hn
      unfold tsizeB
      rw [if_neg hne, at8_take (by omega), if_pos (by rfl)]
      omega
    · have e1 : evText e = frameOf e.msg := if_neg hk
      obtain ⟨_, _, h3, h4, h5, _⟩ := dec_frame hm.1 hm.2 (fault_zero_memo hm.2)
      rw [e1] at hl hn hne ⊢
      unfold tsizeB frSize
      rw [if_neg hne, at8_take (by omega), h4, if_neg (by omega), if_pos rfl, hl]
      by_cases h17 : n ≤ 17
      · rw [if_pos h17]; omega
      · rw [if_neg h17, at8_take (by omega), h5]; omega
theorem replay_texts (node : Nat) (c : List UInt8) (hc : CutB c) : ∀ (suf pre : List Ev), BHist node (pre ++ suf) → ∀ f, (bankTexts suf ++ c).length ≤ f → replayB node f (bankTexts suf ++ c) pre = some (pre ++ suf)
  | [], pre, h, f, hf => by
    have e : bankTexts [] ++ c = c := rfl
    rw [e] at hf ⊢
    rw [List.append_nil]
    cases f with
    | zero => rfl
    | succ f =>
      simp only [replayB]
      rcases hc with rfl | ⟨h1, h2⟩
      · rfl
      · rw [if_neg (fun e => by rw [e] at h1; exact h1 rfl), if_neg h1, if_pos h2]
  | e :: suf, pre, h, f, hf => by
    have hI := h pre e suf rfl
    obtain ⟨s1, s2⟩ := evText_size hI (bankTexts suf ++ c)
    have e1 : bankTexts (e :: suf) ++ c = evText e ++ (bankTexts suf ++ c) := by simp [bankTexts]
    rw [e1] at hf ⊢
    rw [List.length_append] at hf
    cases f with
    | zero => omega
    | succ f =>
      simp only [replayB]
      rw [if_neg (fun h => by have := congrArg List.length (List.append_eq_nil_iff.1 h).1; rw [List.length_nil] at this; omega), s1, if_neg (by omega), if_neg (by rw [List.length_append]; omega), List.take_left, List.drop_left, redo_text hI]
      show replayB node f _ (pre ++ [e]) = _
      rw [replay_texts node c hc suf (pre ++ [e]) (by simpa using h) f (by omega)]
      simp
/-- a bank is restored from what it has left behind -/
theorem rest_texts {node : Nat} {E : List Ev} (h : BHist node E) {c : List UInt8} (hc : CutB c) : restB node (bankTexts E ++ c) = some E := by
  unfold restB
  rw [replay_texts node c hc E [] h _ (Nat.le_refl _)]
  rfl
end Go.Proofs.Ytjkhbjgfoopomab
