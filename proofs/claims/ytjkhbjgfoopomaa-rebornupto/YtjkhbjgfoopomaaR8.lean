import Derived.Test.YtjkhbjgfoopomaaR3
import Derived.Test.YtjkhbjgfoopomaaR7
import Derived.Test.YtjkhbjgfoopomaaR4
import Derived.Deep.RegionLaw
import Derived.BigQuiet
import Derived.Deep.RegionHeld3
import Derived.Test.YtjkhbjgfoopomaaR5
/-
  The document's Same.
-/
namespace Go.Proofs.Ytjkhbjgfoopomaa
open Go.RowKit
set_option linter.unusedVariables false
set_option linter.unusedSimpArgs false
def plSame (x y : Pl) : Bool := x.b == y.b && x.p == y.p && x.g == y.g && x.a == y.a
def lsSame : List Pl → List Pl → Bool
  | x :: r, y :: s => plSame x y && lsSame r s
  | _, _ => true
/-- P9: the same payment? -/
def sameOf (a b : Pm) : Bool := a.id == b.id && a.dl == b.dl && a.memo == b.memo && a.legs.length == b.legs.length && lsSame a.legs b.legs
theorem lsSame_at : ∀ (k : Nat) {l m : List Pl} (hl : k < l.length) (hm : k < m.length), lsSame (l.take k) (m.take k) = true → plSame l[k] m[k] = false → lsSame l m = false
  | 0, x :: r, y :: s, _, _, _, h => by
    simp only [List.getElem_cons_zero] at h
    simp [lsSame, h]
  | k + 1, x :: r, y :: s, hl, hm, h0, h => by
    simp only [List.take_succ_cons, lsSame, Bool.and_eq_true] at h0
    simp only [List.getElem_cons_succ] at h
    simp [lsSame, lsSame_at k (by simpa using hl) (by simpa using hm) h0.2 h]
theorem lsSame_next : ∀ (k : Nat) {l m : List Pl} (hl : k < l.length) (hm : k < m.length), lsSame (l.take k) (m.take k) = true → plSame l[k] m[k] = true → lsSame (l.take (k + 1)) (m.take (k + 1)) = true
  | 0, x :: r, y :: s, _, _, _, h => by
    simp only [List.getElem_cons_zero] at h
    simp [lsSame, h]
  | k + 1, x :: r, y :: s, hl, hm, h0, h => by
    simp only [List.take_succ_cons, lsSame, Bool.and_eq_true] at h0
    simp only [List.getElem_cons_succ] at h
    rw [List.take_succ_cons, List.take_succ_cons, lsSame, h0.1, lsSame_next k (by simpa using hl) (by simpa using hm) h0.2 h]
    rfl
theorem TwoP.mk2 (w : World) (x y : Pm) : TwoP w x y ((w.alloc (.cells x.cells.toArray 70)).alloc (.cells y.cells.toArray 70)) := by
  refine ⟨((Below.refl _ _).alloc (Nat.le_refl _) _).alloc (by simp) _, ?_, ?_⟩
  · rw [Below.heap_alloc _ _ _ (by simp)]
    exact heap_alloc_self _ _
  · rw [show w.heap.size + 1 = (w.alloc (.cells x.cells.toArray 70)).heap.size from by simp]
    exact heap_alloc_self _ _
theorem TwoP.below {w u u' : World} {x y : Pm} (h : TwoP w x y u) (hb : Below u.heap.size u u') : TwoP w x y u' :=
  ⟨h.bel.trans (hb.mono h.bel.size), by rw [hb.block _ (block_lt h.one)]; exact h.one, by rw [hb.block _ (block_lt h.two)]; exact h.two⟩

end Go.Proofs.Ytjkhbjgfoopomaa
/-
  The document's Submit, where it answers an error.
-/
namespace Go.Proofs.Ytjkhbjgfoopomaa
open Go.RowKit
set_option linter.unusedVariables false
set_option linter.unusedSimpArgs false
theorem findFold_mem (id : Nat) (acts : List Dt) : ∀ s : Pm × Bool × Nat, (acts.foldl (findStep id) s).2.1 = true → (s.2.1 = true ∧ (acts.foldl (findStep id) s).1 = s.1) ∨ ∃ x, x ∈ acts ∧ x.kind = -1 ∧ x.pay.id = id ∧ (acts.foldl (findStep id) s).1 = x.pay := by
  induction acts with
  | nil => intro s h; exact .inl ⟨h, rfl⟩
  | cons x r ih =>
    intro s h
    simp only [List.foldl_cons] at h ⊢
    rcases ih (findStep id s x) h with ⟨h1, h2⟩ | ⟨y, hy, h1, h2, h3⟩
    · by_cases hk : x.kind = -1
      · by_cases hi : x.pay.id = id
        · exact .inr ⟨x, by simp, hk, hi, by rw [h2]; simp [findStep, hk, hi]⟩
        · left
          simp only [findStep, hk, hi, if_true, if_false] at h1 h2 ⊢
          exact ⟨h1, h2⟩
      · left
        simp only [findStep, hk, if_false] at h1 h2 ⊢
        exact ⟨h1, h2⟩
    · exact .inr ⟨y, by simp [hy], h1, h2, h3⟩
theorem findOf_mem {id : Nat} {acts : List Dt} (h : (findOf id acts).2.1 = true) : ∃ x, x ∈ acts ∧ x.kind = -1 ∧ x.pay.id = id ∧ (findOf id acts).1 = x.pay := by
  rcases findFold_mem id acts (noPm, false, 0) h with ⟨h1, _⟩ | h1
  · simp at h1
  · exact h1
/-- P9: the error of Submit -/
def subErr (p : Pm) (acts : List Dt) : Nat :=
  if wrongOf p = 0 then (if (findOf p.id acts).2.1 then (if sameOf p (findOf p.id acts).1 then 0 else 11) else if p.dl ≤ clockOf acts then 12 else if 32 ≤ (findOf p.id acts).2.2 then 10 else 0) else wrongOf p
/-- the payments that are kept are none too large -/
def PayOk (x : Dt) : Prop := x.pay.legs.length ≤ 4 ∧ x.pay.memo.length ≤ 1000
theorem wrongOf_few {p : Pm} (h : wrongOf p = 0) : p.legs.length ≤ 4 := by
  unfold wrongOf at h
  split at h
  · omega
  · omega

end Go.Proofs.Ytjkhbjgfoopomaa
/-
  append of one struct to a row of structs, as one step of a region that draws its order.
-/
namespace Go.Proofs.Ytjkhbjgfoopomaa
open Go.RowKit
set_option linter.unusedVariables false
theorem step_row {P : Program} {ops : Array Oper} {o : Oper} {a : Act} {K : Act → World → Prop} {Q : Exit → Act → World → Prop} {E : Prop} {α : Type} {f : α → List Value} {sz : Nat} (hf : ∀ x, (f x).length = sz) {W : World} (hgd : o.guard = none) (s x : Operand) (t : TypeId)
    (ho : o.op = .call { callee := .builtin .append, args := #[s, x], argTypes := #[t, t] }) (e : TypeId) (i : TypeInfo) (z : Value) (bytes : Nat) (ht : P.underlying t = some (.slice e)) (hi : P.info? e = some i) (hz : i.zero = some z)
    (hsize : i.size = sz) (hby : i.bytes = bytes) (hzs : z.cells.size = sz) (hsz : 0 < sz) (v : Value) (xs : List α) (b c : Nat) (y : α) (h1 : ∀ u ∈ f y, u.oneCell' = true) (h63 : xs.length + 1 ≤ maxLen) (hbytes : (xs.length + 1) * bytes ≤ 140737488355328)
    (hs : a.eval s = v) (hx : a.eval x = .slice (some ⟨b, 0, none⟩) 1 c) (hrow : RowOf W e sz f v xs) (hb : W.heap[b]? = some (.cells (f y).toArray e (0, 0)))
    (h : ∀ g cap w', RowOf w' e sz f (.slice (some ⟨g, 0, none⟩) (xs.length + 1) cap) (xs ++ [y]) → Kept (fun k => v.ownBlock = some k) W w' → (v.ownBlock = some g ∨ W.heap.size ≤ g) → g < w'.heap.size → K (a.put o.dst (.slice (some ⟨g, 0, none⟩) (xs.length + 1) cap)) w') :
    if Region.wanted o (yielded ops a.tmps) = true then Oper.wp P o a W K Q else E := by
  refine step_append_lies _ hgd s x t ho 0 e i z sz bytes ht hi hz hsize hby hzs hsz v xs.length (xs.flatMap f) hs hrow ⟨b, 0, none⟩ 1 c (f y) hx (by rw [hf]; omega) ?_ h1 (by decide) h63 hbytes (Nat.zero_le _) _ rfl ?_
  · intro j u hu
    exact World.news_of_block hb j u hu
  · intro g cap w' hown hgrow hat hlt
    refine h g cap w' (RowOf.to (xs := xs) hf hown (by simp) (by simp)) (Kept.of_grown hgrow) ?_ hlt
    rcases hat with h' | h'
    · exact .inl h'
    · exact .inr (by omega)
end Go.Proofs.Ytjkhbjgfoopomaa
/-
  The document's notary goes on: one act more.
-/
namespace Go.Proofs.Ytjkhbjgfoopomaa
open Go.RowKit
set_option linter.unusedVariables false
set_option linter.unusedSimpArgs false
theorem plInfo : (Try.prog.info? 57).map (fun i => (i.zero, i.size, i.bytes)) = some (some (.agg #[.int .u8 0, .int .u16 0, .int .u16 0, .int .u32 0]), 4, 12) := by kernel_rfl
theorem pl_each (x : Pl) : ∀ u ∈ x.cells, u.oneCell' = true := by
  intro u hu
  simp only [Pl.cells, List.mem_cons, List.not_mem_nil, or_false] at hu
  rcases hu with h | h | h | h <;> subst h <;> rfl
/-- what is asked hangs on nothing but number, memo and legs -/
theorem asksTo_at (i d d' : Nat) (m : List UInt8) (l : List Pl) (la la' : Option Addr) (lc lc' k but : Nat) : ∀ n, asksTo ⟨i, d, m, l, la, lc⟩ k but n = asksTo ⟨i, d', m, l, la', lc'⟩ k but n
  | 0 => rfl
  | n + 1 => by
    simp only [asksTo]
    rw [asksTo_at i d d' m l la la' lc lc' k but n]
    rfl
theorem asksOf_at (i d d' : Nat) (m : List UInt8) (l : List Pl) (la la' : Option Addr) (lc lc' k but : Nat) : asksOf ⟨i, d, m, l, la, lc⟩ k but = asksOf ⟨i, d', m, l, la', lc'⟩ k but := asksTo_at i d d' m l la la' lc lc' k but _
end Go.Proofs.Ytjkhbjgfoopomaa
/-
  The document's Submit, where the payment is new.
-/
namespace Go.Proofs.Ytjkhbjgfoopomaa
open Go.RowKit
set_option linter.unusedVariables false
set_option linter.unusedSimpArgs false
theorem stopAt2 {p : Prop} (h : Hid p) : p := h
def zeroMsg : Msg := ⟨0, 0, 0, 0, 0, 0, 0, 0, []⟩
end Go.Proofs.Ytjkhbjgfoopomaa
/-
  The document's Bank.Handle: errors.
-/
namespace Go.Proofs.Ytjkhbjgfoopomaa
open Go.RowKit
set_option linter.unusedVariables false
set_option linter.unusedSimpArgs false

theorem Box.drewN {w u : World} {cs : Array Value} (h : Box w cs u) (n : Nat) : Box w cs (u.drewN n) := ⟨h.bel.drewN n, h.lt, h.cell, h.fro⟩

end Go.Proofs.Ytjkhbjgfoopomaa
/-
  The document's Bank.Handle, for every text.
-/
namespace Go.Proofs.Ytjkhbjgfoopomaa
open Go.RowKit
set_option linter.unusedVariables false
set_option linter.unusedSimpArgs false

theorem decMsg_ok (l : List UInt8) : (decMsg l).ok := by
  unfold decMsg
  split
  · rename_i h
    unfold decErr at h
    split at h
    · omega
    · rename_i hf
      have : 22 ≤ l.length := by
        simp only [formB, Bool.not_eq_true, Bool.not_eq_false', Bool.and_eq_true, decide_eq_true_eq] at hf
        exact hf.1.1
      exact sayOf_ok this
  · exact zero_ok
theorem decMsg_fault (l : List UInt8) (h : decErr l = 0) : faultOf (decMsg l) = 0 := by
  have h0 := h
  unfold decErr at h
  split at h
  · omega
  · split at h
    · omega
    · simp only [decMsg, h0, if_true]
      exact h
theorem fault_kind (x : Msg) (h : faultOf x = 0) (ht : x.t ≠ 0) : 1 ≤ x.k ∧ x.k ≤ 3 ∧ x.l < 4 ∧ (x.k = 1 → x.a ≠ 0) := by
  unfold faultOf at h
  split at h
  · omega
  · rename_i hk
    split at h
    · omega
    · rename_i hw
      split at h
      · omega
      · rename_i hl
        simp only [kindB, Bool.not_eq_true, Bool.not_eq_false', Bool.and_eq_true, decide_eq_true_eq] at hk
        simp only [wayB, Bool.not_eq_true, Bool.not_eq_false'] at hw
        refine ⟨hk.1, ?_, by omega, ?_⟩
        · by_cases h3 : x.k ≤ 3
          · exact h3
          · rw [if_neg h3] at hw
            simp only [Bool.and_eq_true, decide_eq_true_eq] at hw
            exact absurd hw.1 ht
        · intro h1
          rw [if_pos h1] at h
          unfold termsOf at h
          split at h
          · omega
          · assumption

def rErr (node : Nat) (l : List UInt8) (evs : List Ev) : Nat := if decErr l ≠ 0 then decErr l else if (decMsg l).t ≠ node then 4 else hErrOf (decMsg l) evs
def rEvs (node : Nat) (l : List UInt8) (evs : List Ev) : List Ev := if rErr node l evs = 0 then hEvsOf (decMsg l) evs else evs
def rOuts (node : Nat) (l : List UInt8) (evs : List Ev) : List (List UInt8) := if rErr node l evs = 0 then [ansOf node (decMsg l).i (decMsg l).l (legOf (decMsg l).i (decMsg l).l (hEvsOf (decMsg l) evs)).1] else []

end Go.Proofs.Ytjkhbjgfoopomaa
/-
  The document's notary: Handle, where it answers an error ahead of all else.
-/
namespace Go.Proofs.Ytjkhbjgfoopomaa
open Go.RowKit
set_option linter.unusedVariables false
set_option linter.unusedSimpArgs false
/-- has the payment this leg at this bank? -/
def hasLegB (p : Pm) (l f : Nat) : Bool := match p.legs[l]? with
  | none => false
  | some y => y.b == f
/-- P10: the error of Handle -/
def tErr (l : List UInt8) (acts : List Dt) : Nat :=
  if decErr l ≠ 0 then decErr l else if (decMsg l).t ≠ 0 then 4 else if ((findOf (decMsg l).i acts).2.1 && hasLegB (findOf (decMsg l).i acts).1 (decMsg l).l (decMsg l).f) = false then 13
  else if ((decMsg l).k = 5 ∧ (stOf (findOf (decMsg l).i acts).1 acts).1 = 2) ∨ ((decMsg l).k = 6 ∧ (stOf (findOf (decMsg l).i acts).1 acts).1 = 1) then 14 else 0
def tActs (l : List UInt8) (acts : List Dt) : List Dt := if tErr l acts = 0 then acts ++ [⟨((decMsg l).k : Int), noPm, decMsg l⟩] else acts
/-- what is sent -/
def tSay (p : Pm) (x : Msg) (st now : Nat) : List (List UInt8) :=
  if x.k = 6 then [] else if st = 1 ∧ now = 1 then [] else if st = 1 then asksOf p (askKind now) 0 else match p.legs[x.l]? with
    | none => []
    | some y => [askOf p y x.l (askKind st)]
def tOuts (l : List UInt8) (acts : List Dt) : List (List UInt8) :=
  if tErr l acts = 0 then tSay (findOf (decMsg l).i acts).1 (decMsg l) (stOf (findOf (decMsg l).i acts).1 acts).1 (stOf (findOf (decMsg l).i acts).1 (tActs l acts)).1 else []
theorem fault_notary {x : Msg} (h : faultOf x = 0) (ht : x.t = 0) : (x.k = 4 ∨ x.k = 5 ∨ x.k = 6) ∧ x.l < 4 ∧ 1 ≤ x.f ∧ x.f ≤ 7 := by
  unfold faultOf at h
  split at h
  · omega
  · rename_i hk
    split at h
    · omega
    · rename_i hw
      split at h
      · omega
      · rename_i hl
        simp only [kindB, Bool.not_eq_true, Bool.not_eq_false', Bool.and_eq_true, decide_eq_true_eq] at hk
        simp only [wayB, Bool.not_eq_true, Bool.not_eq_false'] at hw
        by_cases h3 : x.k ≤ 3
        · rw [if_pos h3] at hw
          simp only [bankB, Bool.and_eq_true, decide_eq_true_eq] at hw
          omega
        · rw [if_neg h3] at hw
          simp only [bankB, Bool.and_eq_true, decide_eq_true_eq] at hw
          omega
end Go.Proofs.Ytjkhbjgfoopomaa
/-
  The program's notary: remind, hasLeg, areAllHeld.
-/
namespace Go.Proofs.Ytjkhbjgfoopomaa
open Go.RowKit
set_option linter.unusedVariables false
set_option linter.unusedSimpArgs false
/-- a payment that is kept is in order -/
structure Xp.fine (x : Xp) : Prop where
  ok : x.ok
  st : 1 ≤ x.st ∧ x.st ≤ 3
  memo : x.pm.memo.length ≤ 64
  few : x.pm.legs.length ≤ 4
  held : x.held < 16
  done : x.done < 16
theorem u8_less (h : Nat) (hh : h < 16) : bits .andNot .u8 15 (h : Int) = ((15 - h : Nat) : Int) := by
  have key : ∀ h : Fin 16, bits .andNot .u8 15 (h.1 : Int) = ((15 - h.1 : Nat) : Int) := by decide
  exact key ⟨h, hh⟩
theorem u8_with (h l : Nat) (hh : h < 16) (hl : l < 4) : bits .or .u8 (h : Int) ((2 ^ l : Nat) : Int) = ((withOf h l : Nat) : Int) := by
  have key : ∀ h : Fin 16, ∀ l : Fin 4, bits .or .u8 (h.1 : Int) ((2 ^ l.1 : Nat) : Int) = ((withOf h.1 l.1 : Nat) : Int) := by decide
  exact key ⟨h, hh⟩ ⟨l, hl⟩
/-- what is said again -/
def remX (x : Xp) : List (List UInt8) := sayL x.pm x.st (15 - (if x.st = 1 then x.held else x.done))
set_option maxRecDepth 100000 in
set_option maxHeartbeats 1000000 in
theorem remind_any (x : Xp) (hx : x.fine) (w : World) (b : Nat) (hP : PBox w b x) :
    Calls Try.prog 75 #[.pointer (some ⟨b, 0, none⟩)] w fun e w' => (∃ lv, e = .returned lv ∧ RowOf w' 9 1 txtCell lv (remX x) ∧ ∀ g, lv.ownBlock = some g → w.heap.size ≤ g) ∧ Below w.heap.size w w' := by
  have hc := fun o => cell_at hP.blk o
  have hbl := hP.lt
  have hS := hide (fun mask (hm : mask < 256) (u : World) (hu : PBox u b x) => say_any x hx.ok hx.st hx.memo hx.few mask hm u b hu)
  have hz : Hid (remX x = sayL x.pm x.st (15 - (if x.st = 1 then x.held else x.done))) := hide rfl
  have e1 := u8_less x.held hx.held
  have e2 := u8_less x.done hx.done
  have hst := hx.st
  have hh := hx.held
  have hd := hx.done
  generalize remX x = Z at *
  by_cases h1 : x.st = 1
  · have hq : Hid (Z = sayL x.pm x.st (15 - x.held)) := hide (by rw [hz.out, if_pos h1])
    have hS2 := hide (hS.out (15 - x.held) (by omega))
    generalize sayL x.pm x.st = SL at *
    obtain ⟨⟨pi, pd, pm, pl, pa, pc⟩, st, he, dn⟩ := x
    simp only [Xp.cells] at *
    subst h1
    clear hz hS e2
    go_enter Try.func75, Try.ntmps75
    go_wp2_with fail
    refine (hS2.out _ hP).mono ?_
    rintro e w1 ⟨⟨lv, rfl, hr, ho⟩, hb⟩
    replace hr := hide hr
    replace ho := hide ho
    clear hS2
    go_wp2
    go_ret
    exact ⟨⟨_, rfl, by rw [hq.out]; exact hr.out, ho.out⟩, hb⟩
  · have hq : Hid (Z = sayL x.pm x.st (15 - x.done)) := hide (by rw [hz.out, if_neg h1])
    have hS2 := hide (hS.out (15 - x.done) (by omega))
    generalize sayL x.pm x.st = SL at *
    obtain ⟨⟨pi, pd, pm, pl, pa, pc⟩, st, he, dn⟩ := x
    simp only [Xp.cells] at *
    have d1 : ((st : Int) == 1) = false := by simp; omega
    clear hz hS e1
    go_enter Try.func75, Try.ntmps75
    go_wp2_with fail
    refine (hS2.out _ hP).mono ?_
    rintro e w1 ⟨⟨lv, rfl, hr, ho⟩, hb⟩
    replace hr := hide hr
    replace ho := hide ho
    clear hS2
    go_wp2
    go_ret
    exact ⟨⟨_, rfl, by rw [hq.out]; exact hr.out, ho.out⟩, hb⟩
set_option maxRecDepth 100000 in
set_option maxHeartbeats 1000000 in
theorem hasLeg_any (x : Xp) (hx : x.ok) (h4 : x.pm.legs.length ≤ 4) (l f : Nat) (hl : l < 256) (hf : f < 256) (w : World) (b : Nat) (hP : PBox w b x) :
    Calls Try.prog 110 #[.pointer (some ⟨b, 0, none⟩), .int .u8 (l : Int), .int .u8 (f : Int)] w fun e w' => e = .returned (.bool (hasLegB x.pm l f)) ∧ Below w.heap.size w w' := by
  have hc := fun o => cell_at hP.blk o
  have hbl := hP.lt
  have hz : Hid (hasLegB x.pm l f = match x.pm.legs[l]? with | none => false | some y => y.b == f) := hide rfl
  have wl : IntKind.i64.wrap (l : Int) = (l : Int) := by rw [IntKind.wrap_i64]; omega
  generalize hasLegB x.pm l f = Z at *
  obtain ⟨⟨pi, pd, pm, pl, pa, pc⟩, st, he, dn⟩ := x
  obtain ⟨⟨hpi, hpd, hpl⟩, _⟩ := hx
  simp only [Xp.cells] at *
  by_cases hlt : l < pl.length
  · have hnl : (l : Int) < (pl.length : Int) := by omega
    have dl : decide ((l : Int) < (pl.length : Int)) = true := by simp; omega
    obtain ⟨ad', cap', hv', hev'⟩ := hP.legs.form Pl.cells_length
    obtain ⟨g, hg, hcell, _⟩ := hev' l hlt
    have ead : pa = ad' := by injection hv'
    subst ead
    subst hg
    have c0 := hcell 0 (by decide)
    have hyk := hpl pl[l] (List.getElem_mem hlt)
    have hq : Hid (Z = (pl[l].b == f)) := hide (by rw [hz.out]; simp [hlt])
    have hgl : g < w.heap.size := hP.legs.lt rfl
    clear hcell hev' hv' hz
    generalize pl[l] = E at *
    obtain ⟨yb, yp, yg, ya⟩ := E
    obtain ⟨hy1, _⟩ := hyk
    simp only [Pl.cells, List.getElem?_cons_zero, Nat.add_zero] at c0 hq hy1
    by_cases hbf : yb = f
    · have d1 : ((yb : Int) == (f : Int)) = true := by simp; omega
      have hq2 : Hid (Z = true) := hide (by rw [hq.out]; simp [hbf])
      clear hq hbf
      go_enter Try.func110, Try.ntmps110
      go_wp2
      go_ret
      exact ⟨by rw [hq2.out]; rfl, Below.refl _ _⟩
    · have d1 : ((yb : Int) == (f : Int)) = false := by simp; omega
      have hq2 : Hid (Z = false) := hide (by rw [hq.out]; simp [hbf])
      clear hq hbf
      go_enter Try.func110, Try.ntmps110
      go_wp2
      go_ret
      exact ⟨by rw [hq2.out]; rfl, Below.refl _ _⟩
  · have dl : decide ((l : Int) < (pl.length : Int)) = false := by simp; omega
    have dn : ¬ l < pl.length := hlt
    have hq2 : Hid (Z = false) := hide (by rw [hz.out, List.getElem?_eq_none (by omega)])
    clear hz
    go_enter Try.func110, Try.ntmps110
    go_wp2
    go_ret
    exact ⟨by rw [hq2.out]; rfl, Below.refl _ _⟩
/-- are all bits there? -/
def allTo (m : Nat) : Nat → Bool
  | 0 => true
  | n + 1 => allTo m n && bitB m n
theorem allTo_more {m : Nat} : ∀ {n k : Nat}, k < n → bitB m k = false → allTo m n = false
  | 0, k, h, _ => by omega
  | n + 1, k, h, hb => by
    simp only [allTo]
    rcases Nat.lt_or_ge k n with x | x
    · rw [allTo_more x hb]; rfl
    · obtain rfl : k = n := by omega
      rw [hb]; simp
set_option maxRecDepth 100000 in
set_option maxHeartbeats 1000000 in
theorem allHeld_any (x : Xp) (hx : x.fine) (w : World) (b : Nat) (hP : PBox w b x) :
    Calls Try.prog 124 #[.pointer (some ⟨b, 0, none⟩)] w fun e w' => e = .returned (.bool (allTo x.held x.pm.legs.length)) ∧ w' = w := by
  have hc := fun o => cell_at hP.blk o
  have hbl := hP.lt
  have hh := hx.held
  have h4 := hx.few
  obtain ⟨⟨pi, pd, pm, pl, pa, pc⟩, st, he, dn⟩ := x
  simp only [Xp.cells] at *
  go_enter Try.func124, Try.ntmps124
  go_wp2
  go_loopw [10] (fun c u => ∃ n : Nat, n ≤ pl.length ∧ c = .int .i64 n ∧ allTo he n = true ∧ u = w) (fun c _ => pl.length - (intOf c).toNat)
  case atStart => exact ⟨0, Nat.zero_le _, rfl, rfl, rfl⟩
  case round =>
    obtain ⟨n, hn, rfl, ha, rfl⟩ := hrel
    by_cases hlt : n < pl.length
    · have hnl : (n : Int) < (pl.length : Int) := by omega
      have dl : decide ((n : Int) < (pl.length : Int)) = true := by simp; omega
      have W1 : IntKind.u8.wrap (n : Int) = (n : Int) := by rw [IntKind.wrap_u8]; omega
      have hbit := u8_bit he n (by omega) (by omega)
      have hf9 : Hid (bitB he n = false → allTo he pl.length = false) := hide (fun h => allTo_more hlt h)
      have ht9 : Hid (bitB he n = true → allTo he (n + 1) = true) := hide (fun h => by simp [allTo, ha, h])
      have hn4 : n = 0 ∨ n = 1 ∨ n = 2 ∨ n = 3 := by omega
      clear ha
      rcases hn4 with rfl | rfl | rfl | rfl
      · cases hbb : bitB he 0 with
        | false =>
          have e1 : bits .and .u8 (he : Int) 1 = 0 := by rw [hbb] at hbit; simpa using hbit
          have hq := hide (hf9.out hbb)
          clear hf9 ht9 hbit hbb
          go_wp2
          go_ret
          exact ⟨by rw [hq.out]; rfl, rfl⟩
        | true =>
          have e1 : bits .and .u8 (he : Int) 1 = 1 := by rw [hbb] at hbit; simpa using hbit
          have hq := hide (ht9.out hbb)
          clear hf9 ht9 hbit hbb
          go_wp2
          exact ⟨⟨0 + 1, by omega, by go_num, hq.out, trivial⟩, by simp [intOf]; omega⟩
      · cases hbb : bitB he 1 with
        | false =>
          have e1 : bits .and .u8 (he : Int) 2 = 0 := by rw [hbb] at hbit; simpa using hbit
          have hq := hide (hf9.out hbb)
          clear hf9 ht9 hbit hbb
          go_wp2
          go_ret
          exact ⟨by rw [hq.out]; rfl, rfl⟩
        | true =>
          have e1 : bits .and .u8 (he : Int) 2 = 2 := by rw [hbb] at hbit; simpa using hbit
          have hq := hide (ht9.out hbb)
          clear hf9 ht9 hbit hbb
          go_wp2
          exact ⟨⟨1 + 1, by omega, by go_num, hq.out, trivial⟩, by simp [intOf]; omega⟩
      · cases hbb : bitB he 2 with
        | false =>
          have e1 : bits .and .u8 (he : Int) 4 = 0 := by rw [hbb] at hbit; simpa using hbit
          have hq := hide (hf9.out hbb)
          clear hf9 ht9 hbit hbb
          go_wp2
          go_ret
          exact ⟨by rw [hq.out]; rfl, rfl⟩
        | true =>
          have e1 : bits .and .u8 (he : Int) 4 = 4 := by rw [hbb] at hbit; simpa using hbit
          have hq := hide (ht9.out hbb)
          clear hf9 ht9 hbit hbb
          go_wp2
          exact ⟨⟨2 + 1, by omega, by go_num, hq.out, trivial⟩, by simp [intOf]; omega⟩
      · cases hbb : bitB he 3 with
        | false =>
          have e1 : bits .and .u8 (he : Int) 8 = 0 := by rw [hbb] at hbit; simpa using hbit
          have hq := hide (hf9.out hbb)
          clear hf9 ht9 hbit hbb
          go_wp2
          go_ret
          exact ⟨by rw [hq.out]; rfl, rfl⟩
        | true =>
          have e1 : bits .and .u8 (he : Int) 8 = 8 := by rw [hbb] at hbit; simpa using hbit
          have hq := hide (ht9.out hbb)
          clear hf9 ht9 hbit hbb
          go_wp2
          exact ⟨⟨3 + 1, by omega, by go_num, hq.out, trivial⟩, by simp [intOf]; omega⟩
    · obtain rfl : n = pl.length := by omega
      have dl : decide ((pl.length : Int) < (pl.length : Int)) = false := by simp
      replace ha := hide ha
      go_wp2
      go_ret
      exact ⟨by rw [ha.out]; rfl, rfl⟩
end Go.Proofs.Ytjkhbjgfoopomaa
