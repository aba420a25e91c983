import Derived.Test.YtjkhbjgfoopomaaG8
import Derived.Test.YtjkhbjgfoopomaaG7
import Derived.Test.YtjkhbjgfoopomaaG3
import Derived.Deep.RegionHeld3
import Derived.Test.YtjkhbjgfoopomaaG5
/-
  The document's notary: Handle, where it answers an error ahead of all else.
-/
namespace Go.Proofs.Ytjkhbjgfoopomaa
open Go.RowKit
set_option linter.unusedVariables false
set_option linter.unusedSimpArgs false
/-- has the payment this leg at this bank? -/
def hasLegB (p : Pm) (l f : Nat) : Bool := match p.legs[l]? with
  | none => false
  | some y => y.b == f
/-- P10: the error of Handle -/
def tErr (l : List UInt8) (acts : List Dt) : Nat :=
  if decErr l ≠ 0 then decErr l else if (decMsg l).t ≠ 0 then 4 else if ((findOf (decMsg l).i acts).2.1 && hasLegB (findOf (decMsg l).i acts).1 (decMsg l).l (decMsg l).f) = false then 13
  else if ((decMsg l).k = 5 ∧ (stOf (findOf (decMsg l).i acts).1 acts).1 = 2) ∨ ((decMsg l).k = 6 ∧ (stOf (findOf (decMsg l).i acts).1 acts).1 = 1) then 14 else 0
def tActs (l : List UInt8) (acts : List Dt) : List Dt := if tErr l acts = 0 then acts ++ [⟨((decMsg l).k : Int), noPm, decMsg l⟩] else acts
/-- what is sent -/
def tSay (p : Pm) (x : Msg) (st now : Nat) : List (List UInt8) :=
  if x.k = 6 then [] else if st = 1 ∧ now = 1 then [] else if st = 1 then asksOf p (askKind now) 0 else match p.legs[x.l]? with
    | none => []
    | some y => [askOf p y x.l (askKind st)]
def tOuts (l : List UInt8) (acts : List Dt) : List (List UInt8) :=
  if tErr l acts = 0 then tSay (findOf (decMsg l).i acts).1 (decMsg l) (stOf (findOf (decMsg l).i acts).1 acts).1 (stOf (findOf (decMsg l).i acts).1 (tActs l acts)).1 else []
theorem fault_notary {x : Msg} (h : faultOf x = 0) (ht : x.t = 0) : (x.k = 4 ∨ x.k = 5 ∨ x.k = 6) ∧ x.l < 4 ∧ 1 ≤ x.f ∧ x.f ≤ 7 := by
  unfold faultOf at h
  split at h
  · omega
  · rename_i hk
    split at h
    · omega
    · rename_i hw
      split at h
      · omega
      · rename_i hl
        simp only [kindB, Bool.not_eq_true, Bool.not_eq_false', Bool.and_eq_true, decide_eq_true_eq] at hk
        simp only [wayB, Bool.not_eq_true, Bool.not_eq_false'] at hw
        by_cases h3 : x.k ≤ 3
        · rw [if_pos h3] at hw
          simp only [bankB, Bool.and_eq_true, decide_eq_true_eq] at hw
          omega
        · rw [if_neg h3] at hw
          simp only [bankB, Bool.and_eq_true, decide_eq_true_eq] at hw
          omega
end Go.Proofs.Ytjkhbjgfoopomaa
/-
  The program's notary: remind, hasLeg, areAllHeld.
-/
namespace Go.Proofs.Ytjkhbjgfoopomaa
open Go.RowKit
set_option linter.unusedVariables false
set_option linter.unusedSimpArgs false
/-- a payment that is kept is in order -/
structure Xp.fine (x : Xp) : Prop where
  ok : x.ok
  st : 1 ≤ x.st ∧ x.st ≤ 3
  memo : x.pm.memo.length ≤ 64
  few : x.pm.legs.length ≤ 4
  held : x.held < 16
  done : x.done < 16
theorem u8_less (h : Nat) (hh : h < 16) : bits .andNot .u8 15 (h : Int) = ((15 - h : Nat) : Int) := by
  have key : ∀ h : Fin 16, bits .andNot .u8 15 (h.1 : Int) = ((15 - h.1 : Nat) : Int) := by decide
  exact key ⟨h, hh⟩
theorem u8_with (h l : Nat) (hh : h < 16) (hl : l < 4) : bits .or .u8 (h : Int) ((2 ^ l : Nat) : Int) = ((withOf h l : Nat) : Int) := by
  have key : ∀ h : Fin 16, ∀ l : Fin 4, bits .or .u8 (h.1 : Int) ((2 ^ l.1 : Nat) : Int) = ((withOf h.1 l.1 : Nat) : Int) := by decide
  exact key ⟨h, hh⟩ ⟨l, hl⟩
/-- what is said again -/
def remX (x : Xp) : List (List UInt8) := sayL x.pm x.st (15 - (if x.st = 1 then x.held else x.done))
set_option maxRecDepth 100000 in
set_option maxHeartbeats 1000000 in
theorem remind_any (x : Xp) (hx : x.fine) (w : World) (b : Nat) (hP : PBox w b x) :
    Calls Try.prog 75 #[.pointer (some ⟨b, 0, none⟩)] w fun e w' => (∃ lv, e = .returned lv ∧ RowOf w' 9 1 txtCell lv (remX x) ∧ ∀ g, lv.ownBlock = some g → w.heap.size ≤ g) ∧ Below w.heap.size w w' := by
  have hc := fun o => cell_at hP.blk o
  have hbl := hP.lt
  have hS := hide (fun mask (hm : mask < 256) (u : World) (hu : PBox u b x) => say_any x hx.ok hx.st hx.memo hx.few mask hm u b hu)
  have hz : Hid (remX x = sayL x.pm x.st (15 - (if x.st = 1 then x.held else x.done))) := hide rfl
  have e1 := u8_less x.held hx.held
  have e2 := u8_less x.done hx.done
  have hst := hx.st
  have hh := hx.held
  have hd := hx.done
  generalize remX x = Z at *
  by_cases h1 : x.st = 1
  · have hq : Hid (Z = sayL x.pm x.st (15 - x.held)) := hide (by rw [hz.out, if_pos h1])
    have hS2 := hide (hS.out (15 - x.held) (by omega))
    generalize sayL x.pm x.st = SL at *
    obtain ⟨⟨pi, pd, pm, pl, pa, pc⟩, st, he, dn⟩ := x
    simp only [Xp.cells] at *
    subst h1
    clear hz hS e2
    go_enter Try.func75, Try.ntmps75
    go_wp2_with fail
    refine (hS2.out _ hP).mono ?_
    rintro e w1 ⟨⟨lv, rfl, hr, ho⟩, hb⟩
    replace hr := hide hr
    replace ho := hide ho
    clear hS2
    go_wp2
    go_ret
    exact ⟨⟨_, rfl, by rw [hq.out]; exact hr.out, ho.out⟩, hb⟩
  · have hq : Hid (Z = sayL x.pm x.st (15 - x.done)) := hide (by rw [hz.out, if_neg h1])
    have hS2 := hide (hS.out (15 - x.done) (by omega))
    generalize sayL x.pm x.st = SL at *
    obtain ⟨⟨pi, pd, pm, pl, pa, pc⟩, st, he, dn⟩ := x
    simp only [Xp.cells] at *
    have d1 : ((st : Int) == 1) = false := by simp; omega
    clear hz hS e1
    go_enter Try.func75, Try.ntmps75
    go_wp2_with fail
    refine (hS2.out _ hP).mono ?_
    rintro e w1 ⟨⟨lv, rfl, hr, ho⟩, hb⟩
    replace hr := hide hr
    replace ho := hide ho
    clear hS2
    go_wp2
    go_ret
    exact ⟨⟨_, rfl, by rw [hq.out]; exact hr.out, ho.out⟩, hb⟩
set_option maxRecDepth 100000 in
set_option maxHeartbeats 1000000 in
theorem hasLeg_any (x : Xp) (hx : x.ok) (h4 : x.pm.legs.length ≤ 4) (l f : Nat) (hl : l < 256) (hf : f < 256) (w : World) (b : Nat) (hP : PBox w b x) :
    Calls Try.prog 110 #[.pointer (some ⟨b, 0, none⟩), .int .u8 (l : Int), .int .u8 (f : Int)] w fun e w' => e = .returned (.bool (hasLegB x.pm l f)) ∧ Below w.heap.size w w' := by
  have hc := fun o => cell_at hP.blk o
  have hbl := hP.lt
  have hz : Hid (hasLegB x.pm l f = match x.pm.legs[l]? with | none => false | some y => y.b == f) := hide rfl
  have wl : IntKind.i64.wrap (l : Int) = (l : Int) := by rw [IntKind.wrap_i64]; omega
  generalize hasLegB x.pm l f = Z at *
  obtain ⟨⟨pi, pd, pm, pl, pa, pc⟩, st, he, dn⟩ := x
  obtain ⟨⟨hpi, hpd, hpl⟩, _⟩ := hx
  simp only [Xp.cells] at *
  by_cases hlt : l < pl.length
  · have hnl : (l : Int) < (pl.length : Int) := by omega
    have dl : decide ((l : Int) < (pl.length : Int)) = true := by simp; omega
    obtain ⟨ad', cap', hv', hev'⟩ := hP.legs.form Pl.cells_length
    obtain ⟨g, hg, hcell, _⟩ := hev' l hlt
    have ead : pa = ad' := by injection hv'
    subst ead
    subst hg
    have c0 := hcell 0 (by decide)
    have hyk := hpl pl[l] (List.getElem_mem hlt)
    have hq : Hid (Z = (pl[l].b == f)) := hide (by rw [hz.out]; simp [hlt])
    have hgl : g < w.heap.size := hP.legs.lt rfl
    clear hcell hev' hv' hz
    generalize pl[l] = E at *
    obtain ⟨yb, yp, yg, ya⟩ := E
    obtain ⟨hy1, _⟩ := hyk
    simp only [Pl.cells, List.getElem?_cons_zero, Nat.add_zero] at c0 hq hy1
    by_cases hbf : yb = f
    · have d1 : ((yb : Int) == (f : Int)) = true := by simp; omega
      have hq2 : Hid (Z = true) := hide (by rw [hq.out]; simp [hbf])
      clear hq hbf
      go_enter Try.func110, Try.ntmps110
      go_wp2
      go_ret
      exact ⟨by rw [hq2.out]; rfl, Below.refl _ _⟩
    · have d1 : ((yb : Int) == (f : Int)) = false := by simp; omega
      have hq2 : Hid (Z = false) := hide (by rw [hq.out]; simp [hbf])
      clear hq hbf
      go_enter Try.func110, Try.ntmps110
      go_wp2
      go_ret
      exact ⟨by rw [hq2.out]; rfl, Below.refl _ _⟩
  · have dl : decide ((l : Int) < (pl.length : Int)) = false := by simp; omega
    have dn : ¬ l < pl.length := hlt
    have hq2 : Hid (Z = false) := hide (by rw [hz.out, List.getElem?_eq_none (by omega)])
    clear hz
    go_enter Try.func110, Try.ntmps110
    go_wp2
    go_ret
    exact ⟨by rw [hq2.out]; rfl, Below.refl _ _⟩
/-- are all bits there? -/
def allTo (m : Nat) : Nat → Bool
  | 0 => true
  | n + 1 => allTo m n && bitB m n
theorem allTo_more {m : Nat} : ∀ {n k : Nat}, k < n → bitB m k = false → allTo m n = false
  | 0, k, h, _ => by omega
  | n + 1, k, h, hb => by
    simp only [allTo]
    rcases Nat.lt_or_ge k n with x | x
    · rw [allTo_more x hb]; rfl
    · obtain rfl : k = n := by omega
      rw [hb]; simp
set_option maxRecDepth 100000 in
set_option maxHeartbeats 1000000 in
theorem allHeld_any (x : Xp) (hx : x.fine) (w : World) (b : Nat) (hP : PBox w b x) :
    Calls Try.prog 124 #[.pointer (some ⟨b, 0, none⟩)] w fun e w' => e = .returned (.bool (allTo x.held x.pm.legs.length)) ∧ w' = w := by
  have hc := fun o => cell_at hP.blk o
  have hbl := hP.lt
  have hh := hx.held
  have h4 := hx.few
  obtain ⟨⟨pi, pd, pm, pl, pa, pc⟩, st, he, dn⟩ := x
  simp only [Xp.cells] at *
  go_enter Try.func124, Try.ntmps124
  go_wp2
  go_loopw [10] (fun c u => ∃ n : Nat, n ≤ pl.length ∧ c = .int .i64 n ∧ allTo he n = true ∧ u = w) (fun c _ => pl.length - (intOf c).toNat)
  case atStart => exact ⟨0, Nat.zero_le _, rfl, rfl, rfl⟩
  case round =>
    obtain ⟨n, hn, rfl, ha, rfl⟩ := hrel
    by_cases hlt : n < pl.length
    · have hnl : (n : Int) < (pl.length : Int) := by omega
      have dl : decide ((n : Int) < (pl.length : Int)) = true := by simp; omega
      have W1 : IntKind.u8.wrap (n : Int) = (n : Int) := by rw [IntKind.wrap_u8]; omega
      have hbit := u8_bit he n (by omega) (by omega)
      have hf9 : Hid (bitB he n = false → allTo he pl.length = false) := hide (fun h => allTo_more hlt h)
      have ht9 : Hid (bitB he n = true → allTo he (n + 1) = true) := hide (fun h => by simp [allTo, ha, h])
      have hn4 : n = 0 ∨ n = 1 ∨ n = 2 ∨ n = 3 := by omega
      clear ha
      rcases hn4 with rfl | rfl | rfl | rfl
      · cases hbb : bitB he 0 with
        | false =>
          have e1 : bits .and .u8 (he : Int) 1 = 0 := by rw [hbb] at hbit; simpa using hbit
          have hq := hide (hf9.out hbb)
          clear hf9 ht9 hbit hbb
          go_wp2
          go_ret
          exact ⟨by rw [hq.out]; rfl, rfl⟩
        | true =>
          have e1 : bits .and .u8 (he : Int) 1 = 1 := by rw [hbb] at hbit; simpa using hbit
          have hq := hide (ht9.out hbb)
          clear hf9 ht9 hbit hbb
          go_wp2
          exact ⟨⟨0 + 1, by omega, by go_num, hq.out, trivial⟩, by simp [intOf]; omega⟩
      · cases hbb : bitB he 1 with
        | false =>
          have e1 : bits .and .u8 (he : Int) 2 = 0 := by rw [hbb] at hbit; simpa using hbit
          have hq := hide (hf9.out hbb)
          clear hf9 ht9 hbit hbb
          go_wp2
          go_ret
          exact ⟨by rw [hq.out]; rfl, rfl⟩
        | true =>
          have e1 : bits .and .u8 (he : Int) 2 = 2 := by rw [hbb] at hbit; simpa using hbit
          have hq := hide (ht9.out hbb)
          clear hf9 ht9 hbit hbb
          go_wp2
          exact ⟨⟨1 + 1, by omega, by go_num, hq.out, trivial⟩, by simp [intOf]; omega⟩
      · cases hbb : bitB he 2 with
        | false =>
          have e1 : bits .and .u8 (he : Int) 4 = 0 := by rw [hbb] at hbit; simpa using hbit
          have hq := hide (hf9.out hbb)
          clear hf9 ht9 hbit hbb
          go_wp2
          go_ret
          exact ⟨by rw [hq.out]; rfl, rfl⟩
        | true =>
          have e1 : bits .and .u8 (he : Int) 4 = 4 := by rw [hbb] at hbit; simpa using hbit
          have hq := hide (ht9.out hbb)
          clear hf9 ht9 hbit hbb
          go_wp2
          exact ⟨⟨2 + 1, by omega, by go_num, hq.out, trivial⟩, by simp [intOf]; omega⟩
      · cases hbb : bitB he 3 with
        | false =>
          have e1 : bits .and .u8 (he : Int) 8 = 0 := by rw [hbb] at hbit; simpa using hbit
          have hq := hide (hf9.out hbb)
          clear hf9 ht9 hbit hbb
          go_wp2
          go_ret
          exact ⟨by rw [hq.out]; rfl, rfl⟩
        | true =>
          have e1 : bits .and .u8 (he : Int) 8 = 8 := by rw [hbb] at hbit; simpa using hbit
          have hq := hide (ht9.out hbb)
          clear hf9 ht9 hbit hbb
          go_wp2
          exact ⟨⟨3 + 1, by omega, by go_num, hq.out, trivial⟩, by simp [intOf]; omega⟩
    · obtain rfl : n = pl.length := by omega
      have dl : decide ((pl.length : Int) < (pl.length : Int)) = false := by simp
      replace ha := hide ha
      go_wp2
      go_ret
      exact ⟨by rw [ha.out]; rfl, rfl⟩
end Go.Proofs.Ytjkhbjgfoopomaa
