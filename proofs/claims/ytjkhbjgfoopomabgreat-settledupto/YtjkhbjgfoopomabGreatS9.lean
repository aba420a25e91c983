import Derived.Test.YtjkhbjgfoopomabGreatS5
import Derived.Test.YtjkhbjgfoopomabGreatS8
/-
  The program's notary: remind, hasLeg, areAllHeld.
-/
namespace Go.Proofs.YtjkhbjgfoopomabGreat
open Go.RowKit
set_option linter.unusedVariables false
set_option linter.unusedSimpArgs false
/-- a payment that is kept is in order -/
structure Xp.fine (x : Xp) : Prop where
  ok : x.ok
  st : 1 ≤ x.st ∧ x.st ≤ 3
  memo : x.pm.memo.length ≤ 64
  few : x.pm.legs.length ≤ 4
  held : x.held < 16
  done : x.done < 16
theorem u8_less (h : Nat) (hh : h < 16) : bits .andNot .u8 15 (h : Int) = ((15 - h : Nat) : Int) := by
  have key : ∀ h : Fin 16, bits .andNot .u8 15 (h.1 : Int) = ((15 - h.1 : Nat) : Int) := by decide
  exact key ⟨h, hh⟩
theorem u8_with (h l : Nat) (hh : h < 16) (hl : l < 4) : bits .or .u8 (h : Int) ((2 ^ l : Nat) : Int) = ((withOf h l : Nat) : Int) := by
  have key : ∀ h : Fin 16, ∀ l : Fin 4, bits .or .u8 (h.1 : Int) ((2 ^ l.1 : Nat) : Int) = ((withOf h.1 l.1 : Nat) : Int) := by decide
  exact key ⟨h, hh⟩ ⟨l, hl⟩
/-- what is said again -/
def remX (x : Xp) : List (List UInt8) := sayL x.pm x.st (15 - (if x.st = 1 then x.held else x.done))
set_option maxRecDepth 100000 in
set_option maxHeartbeats 1000000 in
theorem remind_any (x : Xp) (hx : x.fine) (w : World) (b : Nat) (hP : PBox w b x) :
    Calls Tryz.prog 62 #[.pointer (some ⟨b, 0, none⟩)] w fun e w' => (∃ lv, e = .returned lv ∧ RowOf w' 9 1 txtCell lv (remX x) ∧ ∀ g, lv.ownBlock = some g → w.heap.size ≤ g) ∧ Below w.heap.size w w' := by
  have hc := fun o => cell_at hP.blk o
  have hbl := hP.lt
  have hS := hide (fun mask (hm : mask < 256) (u : World) (hu : PBox u b x) => say_any x hx.ok hx.st hx.memo hx.few mask hm u b hu)
  have hz : Hid (remX x = sayL x.pm x.st (15 - (if x.st = 1 then x.held else x.done))) := hide rfl
  have e1 := u8_less x.held hx.held
  have e2 := u8_less x.done hx.done
  have hst := hx.st
  have hh := hx.held
  have hd := hx.done
  generalize remX x = Z at *
  by_cases h1 : x.st = 1
  · have hq : Hid (Z = sayL x.pm x.st (15 - x.held)) := hide (by rw [hz.out, if_pos h1])
    have hS2 := hide (hS.out (15 - x.held) (by omega))
    generalize sayL x.pm x.st = SL at *
    obtain ⟨⟨pi, pd, pm, pl, pa, pc⟩, st, he, dn⟩ := x
    simp only [Xp.cells] at *
    subst h1
    clear hz hS e2
    go_enter Tryz.func62, Tryz.ntmps62
    go_wp2_with fail
    refine (hS2.out _ hP).mono ?_
    rintro e w1 ⟨⟨lv, rfl, hr, ho⟩, hb⟩
    replace hr := hide hr
    replace ho := hide ho
    clear hS2
    go_wp2
    go_ret
    exact ⟨⟨_, rfl, by rw [hq.out]; exact hr.out, ho.out⟩, hb⟩
  · have hq : Hid (Z = sayL x.pm x.st (15 - x.done)) := hide (by rw [hz.out, if_neg h1])
    have hS2 := hide (hS.out (15 - x.done) (by omega))
    generalize sayL x.pm x.st = SL at *
    obtain ⟨⟨pi, pd, pm, pl, pa, pc⟩, st, he, dn⟩ := x
    simp only [Xp.cells] at *
    have d1 : ((st : Int) == 1) = false := by simp; omega
    clear hz hS e1
    go_enter Tryz.func62, Tryz.ntmps62
    go_wp2_with fail
    refine (hS2.out _ hP).mono ?_
    rintro e w1 ⟨⟨lv, rfl, hr, ho⟩, hb⟩
    replace hr := hide hr
    replace ho := hide ho
    clear hS2
    go_wp2
    go_ret
    exact ⟨⟨_, rfl, by rw [hq.out]; exact hr.out, ho.out⟩, hb⟩
set_option maxRecDepth 100000 in
set_option maxHeartbeats 1000000 in
theorem hasLeg_any (x : Xp) (hx : x.ok) (h4 : x.pm.legs.length ≤ 4) (l f : Nat) (hl : l < 256) (hf : f < 256) (w : World) (b : Nat) (hP : PBox w b x) :
    Calls Tryz.prog 144 #[.pointer (some ⟨b, 0, none⟩), .int .u8 (l : Int), .int .u8 (f : Int)] w fun e w' => e = .returned (.bool (hasLegB x.pm l f)) ∧ Below w.heap.size w w' := by
  have hc := fun o => cell_at hP.blk o
  have hbl := hP.lt
  have hz : Hid (hasLegB x.pm l f = match x.pm.legs[l]? with | none => false | some y => y.b == f) := hide rfl
  have wl : IntKind.i64.wrap (l : Int) = (l : Int) := by rw [IntKind.wrap_i64]; omega
  generalize hasLegB x.pm l f = Z at *
  obtain ⟨⟨pi, pd, pm, pl, pa, pc⟩, st, he, dn⟩ := x
  obtain ⟨⟨hpi, hpd, hpl⟩, _⟩ := hx
  simp only [Xp.cells] at *
  by_cases hlt : l < pl.length
  · have hnl : (l : Int) < (pl.length : Int) := by omega
    have dl : decide ((l : Int) < (pl.length : Int)) = true := by simp; omega
    obtain ⟨ad', cap', hv', hev'⟩ := hP.legs.form Pl.cells_length
    obtain ⟨g, hg, hcell, _⟩ := hev' l hlt
    have ead : pa = ad' := by injection hv'
    subst ead
    subst hg
    have c0 := hcell 0 (by decide)
    have hyk := hpl pl[l] (List.getElem_mem hlt)
    have hq : Hid (Z = (pl[l].b == f)) := hide (by rw [hz.out]; simp [hlt])
    have hgl : g < w.heap.size := hP.legs.lt rfl
    clear hcell hev' hv' hz
    generalize pl[l] = E at *
    obtain ⟨yb, yp, yg, ya⟩ := E
    obtain ⟨hy1, _⟩ := hyk
    simp only [Pl.cells, List.getElem?_cons_zero, Nat.add_zero] at c0 hq hy1
    by_cases hbf : yb = f
    · have d1 : ((yb : Int) == (f : Int)) = true := by simp; omega
      have hq2 : Hid (Z = true) := hide (by rw [hq.out]; simp [hbf])
      clear hq hbf
      go_enter Tryz.func144, Tryz.ntmps144
      go_wp2
      go_ret
      exact ⟨by rw [hq2.out]; rfl, Below.refl _ _⟩
    · have d1 : ((yb : Int) == (f : Int)) = false := by simp; omega
      have hq2 : Hid (Z = false) := hide (by rw [hq.out]; simp [hbf])
      clear hq hbf
      go_enter Tryz.func144, Tryz.ntmps144
      go_wp2
      go_ret
      exact ⟨by rw [hq2.out]; rfl, Below.refl _ _⟩
  · have dl : decide ((l : Int) < (pl.length : Int)) = false := by simp; omega
    have dn : ¬ l < pl.length := hlt
    have hq2 : Hid (Z = false) := hide (by rw [hz.out, List.getElem?_eq_none (by omega)])
    clear hz
    go_enter Tryz.func144, Tryz.ntmps144
    go_wp2
    go_ret
    exact ⟨by rw [hq2.out]; rfl, Below.refl _ _⟩
/-- are all bits there? -/
def allTo (m : Nat) : Nat → Bool
  | 0 => true
  | n + 1 => allTo m n && bitB m n
theorem allTo_more {m : Nat} : ∀ {n k : Nat}, k < n → bitB m k = false → allTo m n = false
  | 0, k, h, _ => by omega
  | n + 1, k, h, hb => by
    simp only [allTo]
    rcases Nat.lt_or_ge k n with x | x
    · rw [allTo_more x hb]; rfl
    · obtain rfl : k = n := by omega
      rw [hb]; simp
set_option maxRecDepth 100000 in
set_option maxHeartbeats 1000000 in
theorem allHeld_any (x : Xp) (hx : x.fine) (w : World) (b : Nat) (hP : PBox w b x) :
    Calls Tryz.prog 165 #[.pointer (some ⟨b, 0, none⟩)] w fun e w' => e = .returned (.bool (allTo x.held x.pm.legs.length)) ∧ w' = w := by
  have hc := fun o => cell_at hP.blk o
  have hbl := hP.lt
  have hh := hx.held
  have h4 := hx.few
  obtain ⟨⟨pi, pd, pm, pl, pa, pc⟩, st, he, dn⟩ := x
  simp only [Xp.cells] at *
  go_enter Tryz.func165, Tryz.ntmps165
  go_wp2
  go_loopw [10] (fun c u => ∃ n : Nat, n ≤ pl.length ∧ c = .int .i64 n ∧ allTo he n = true ∧ u = w) (fun c _ => pl.length - (intOf c).toNat)
  case atStart => exact ⟨0, Nat.zero_le _, rfl, rfl, rfl⟩
  case round =>
    obtain ⟨n, hn, rfl, ha, rfl⟩ := hrel
    by_cases hlt : n < pl.length
    · have hnl : (n : Int) < (pl.length : Int) := by omega
      have dl : decide ((n : Int) < (pl.length : Int)) = true := by simp; omega
      have W1 : IntKind.u8.wrap (n : Int) = (n : Int) := by rw [IntKind.wrap_u8]; omega
      have hbit := u8_bit he n (by omega) (by omega)
      have hf9 : Hid (bitB he n = false → allTo he pl.length = false) := hide (fun h => allTo_more hlt h)
      have ht9 : Hid (bitB he n = true → allTo he (n + 1) = true) := hide (fun h => by simp [allTo, ha, h])
      have hn4 : n = 0 ∨ n = 1 ∨ n = 2 ∨ n = 3 := by omega
      clear ha
      rcases hn4 with rfl | rfl | rfl | rfl
      · cases hbb : bitB he 0 with
        | false =>
          have e1 : bits .and .u8 (he : Int) 1 = 0 := by rw [hbb] at hbit; simpa using hbit
          have hq := hide (hf9.out hbb)
          clear hf9 ht9 hbit hbb
          go_wp2
          go_ret
          exact ⟨by rw [hq.out]; rfl, rfl⟩
        | true =>
          have e1 : bits .and .u8 (he : Int) 1 = 1 := by rw [hbb] at hbit; simpa using hbit
          have hq := hide (ht9.out hbb)
          clear hf9 ht9 hbit hbb
          go_wp2
          exact ⟨⟨0 + 1, by omega, by go_num, hq.out, trivial⟩, by simp [intOf]; omega⟩
      · cases hbb : bitB he 1 with
        | false =>
          have e1 : bits .and .u8 (he : Int) 2 = 0 := by rw [hbb] at hbit; simpa using hbit
          have hq := hide (hf9.out hbb)
          clear hf9 ht9 hbit hbb
          go_wp2
          go_ret
          exact ⟨by rw [hq.out]; rfl, rfl⟩
        | true =>
          have e1 : bits .and .u8 (he : Int) 2 = 2 := by rw [hbb] at hbit; simpa using hbit
          have hq := hide (ht9.out hbb)
          clear hf9 ht9 hbit hbb
          go_wp2
          exact ⟨⟨1 + 1, by omega, by go_num, hq.out, trivial⟩, by simp [intOf]; omega⟩
      · cases hbb : bitB he 2 with
        | false =>
          have e1 : bits .and .u8 (he : Int) 4 = 0 := by rw [hbb] at hbit; simpa using hbit
          have hq := hide (hf9.out hbb)
          clear hf9 ht9 hbit hbb
          go_wp2
          go_ret
          exact ⟨by rw [hq.out]; rfl, rfl⟩
        | true =>
          have e1 : bits .and .u8 (he : Int) 4 = 4 := by rw [hbb] at hbit; simpa using hbit
          have hq := hide (ht9.out hbb)
          clear hf9 ht9 hbit hbb
          go_wp2
          exact ⟨⟨2 + 1, by omega, by go_num, hq.out, trivial⟩, by simp [intOf]; omega⟩
      · cases hbb : bitB he 3 with
        | false =>
          have e1 : bits .and .u8 (he : Int) 8 = 0 := by rw [hbb] at hbit; simpa using hbit
          have hq := hide (hf9.out hbb)
          clear hf9 ht9 hbit hbb
          go_wp2
          go_ret
          exact ⟨by rw [hq.out]; rfl, rfl⟩
        | true =>
          have e1 : bits .and .u8 (he : Int) 8 = 8 := by rw [hbb] at hbit; simpa using hbit
          have hq := hide (ht9.out hbb)
          clear hf9 ht9 hbit hbb
          go_wp2
          exact ⟨⟨3 + 1, by omega, by go_num, hq.out, trivial⟩, by simp [intOf]; omega⟩
    · obtain rfl : n = pl.length := by omega
      have dl : decide ((pl.length : Int) < (pl.length : Int)) = false := by simp
      replace ha := hide ha
      go_wp2
      go_ret
      exact ⟨by rw [ha.out]; rfl, rfl⟩
end Go.Proofs.YtjkhbjgfoopomabGreat
/-
  The program's notary: what it does with a bank's word.
-/
namespace Go.Proofs.YtjkhbjgfoopomabGreat
open Go.RowKit
set_option linter.unusedVariables false
set_option linter.unusedSimpArgs false
/-- the payment behind a Prepared; what is said -/
def prepX (x : Xp) (l : Nat) : Xp × List (List UInt8) :=
  if x.st = 1 then (if allTo (withOf x.held l) x.pm.legs.length then ({ x with held := withOf x.held l, st := 2 }, sayL x.pm 2 15) else ({ x with held := withOf x.held l }, []))
  else (x, sayL x.pm x.st (2 ^ l))
/-- the payment has gone on, and a fresh list comes out -/
structure Heard (w w' : World) (b : Nat) (x' : Xp) (lv : Value) (outs : List (List UInt8)) : Prop where
  box : PBox w' b x'
  kept : Kept (fun k => k = b) w w'
  row : RowOf w' 9 1 txtCell lv outs
  fresh : ∀ g, lv.ownBlock = some g → w.heap.size ≤ g
theorem kept_set (w : World) (b o : Nat) (u : Value) : Kept (fun k => k = b) w (w.setCell ⟨b, o, none⟩ u) := Kept.of_setCell w ⟨b, o, none⟩ u
theorem PBox.set {w : World} {b : Nat} {x x' : Xp} {o : Nat} {u : Value} (hP : PBox w b x) (hm : x'.pm = x.pm) (hc : x.cells.toArray.setIfInBounds o u = x'.cells.toArray) (hn : ∀ g, x.pm.lv.ownBlock = some g → g ≠ b) : PBox (w.setCell ⟨b, o, none⟩ u) b x' := by
  refine ⟨?_, ?_⟩
  · rw [← hc]; exact heap_set_self hP.blk o u
  · rw [hm]; exact hP.legs.kept (Kept.of_setCell _ _ _) hn
theorem Heard.of {w u w' : World} {b : Nat} {x' : Xp} {lv : Value} {outs : List (List UInt8)} (hP : PBox u b x') (hk : Kept (fun k => k = b) w u) (hb : Below u.heap.size u w') (hr : RowOf w' 9 1 txtCell lv outs) (hf : ∀ g, lv.ownBlock = some g → u.heap.size ≤ g) : Heard w w' b x' lv outs :=
  ⟨hP.below hb, hk.trans (Kept.of_below (S := fun _ => False) hb) (fun i h => h.elim), hr, fun g hg => Nat.le_trans hk.size (hf g hg)⟩
set_option maxRecDepth 100000 in
set_option maxHeartbeats 2000000 in
theorem hearPrepared_any (x : Xp) (hx : x.fine) (l : Nat) (hl : l < 4) (w : World) (b : Nat) (hP : PBox w b x) (hn : ∀ g, x.pm.lv.ownBlock = some g → g ≠ b) :
    Calls Tryz.prog 158 #[.pointer (some ⟨b, 0, none⟩), .int .u8 (l : Int)] w fun e w' => ∃ lv, e = .returned lv ∧ Heard w w' b (prepX x l).1 lv (prepX x l).2 := by
  have hc := fun o => cell_at hP.blk o
  have hf := fun o => frozen_at hP.blk o
  have hbl := hP.lt
  have hst := hx.st
  have hwl := withOf_lt x.held l hx.held hl
  have hwi := u8_with x.held l hx.held hl
  have hx1 : ({ x with held := withOf x.held l } : Xp).fine := ⟨⟨hx.ok.1, hx.ok.2.1, by show withOf x.held l < 256; omega, hx.ok.2.2.2⟩, hx.st, hx.memo, hx.few, hwl, hx.done⟩
  have hx2 : ({ x with held := withOf x.held l, st := 2 } : Xp).fine := ⟨⟨hx.ok.1, by show (2 : Nat) < 256; omega, by show withOf x.held l < 256; omega, hx.ok.2.2.2⟩, ⟨by show (1 : Nat) ≤ 2; omega, by show (2 : Nat) ≤ 3; omega⟩, hx.memo, hx.few, hwl, hx.done⟩
  have hAl := hide (fun u hu => allHeld_any _ hx1 u b hu)
  have hS1 := hide (fun mask (hm : mask < 256) u hu => say_any x hx.ok hx.st hx.memo hx.few mask hm u b hu)
  have hS2 := hide (fun u hu => say_any _ hx2.ok hx2.st hx2.memo hx2.few 15 (by decide) u b hu)
  have hP1 := hide (hP.set (o := 5) (u := .int .u8 ((withOf x.held l : Nat) : Int)) (x' := { x with held := withOf x.held l }) rfl rfl hn)
  have hP2 := hide (hP1.out.set (o := 4) (u := .int .u8 2) (x' := { x with held := withOf x.held l, st := 2 }) rfl rfl hn)
  have hz1 : Hid (x.st ≠ 1 → prepX x l = (x, sayL x.pm x.st (2 ^ l))) := hide (fun h => by simp [prepX, h])
  have hz2 : Hid (x.st = 1 → allTo (withOf x.held l) x.pm.legs.length = true → prepX x l = ({ x with held := withOf x.held l, st := 2 }, sayL x.pm 2 15)) := hide (fun h h2 => by simp [prepX, h, h2])
  have hz3 : Hid (x.st = 1 → allTo (withOf x.held l) x.pm.legs.length = false → prepX x l = ({ x with held := withOf x.held l }, [])) := hide (fun h h2 => by simp [prepX, h, h2])
  generalize prepX x l = Z at *
  by_cases h1 : x.st = 1
  · cases hal : allTo (withOf x.held l) x.pm.legs.length with
    | true =>
      have hq := hide (hz2.out h1 hal)
      have hAl2 : Hid (∀ u, PBox u b { x with held := withOf x.held l } → Calls Tryz.prog 165 #[.pointer (some ⟨b, 0, none⟩)] u fun e w' => e = .returned (.bool true) ∧ w' = u) := hide (fun u hu => by have := hAl.out u hu; simp only at this; rw [hal] at this; exact this)
      clear hz1 hz2 hz3 hal hAl hS1
      generalize withOf x.held l = W at *
      obtain ⟨⟨pi, pd, pm, pl, pa, pc⟩, st, he, dn⟩ := x
      simp only [Xp.cells] at *
      subst h1
      have hl4 : l = 0 ∨ l = 1 ∨ l = 2 ∨ l = 3 := by omega
      rcases hl4 with rfl | rfl | rfl | rfl
      all_goals (
        simp only [Nat.reducePow, Int.natCast_one, Int.cast_ofNat_Int] at hwi
        go_enter Tryz.func158, Tryz.ntmps158
        go_wp2_with fail
        refine (hAl2.out _ hP1.out).mono ?_
        rintro e w1 ⟨rfl, rfl⟩
        clear hAl2
        go_wp2_with fail
        refine (hS2.out _ hP2.out).mono ?_
        rintro e w2 ⟨⟨lv, rfl, hr, ho⟩, hb⟩
        replace hr := hide hr
        replace ho := hide ho
        replace hb := hide hb
        clear hS2
        go_wp2
        go_ret
        exact ⟨_, rfl, by rw [hq.out]; exact Heard.of hP2.out ((kept_set _ _ _ _).trans (kept_set _ _ _ _) (fun i h => .inl h)) hb.out hr.out ho.out⟩)
    | false =>
      have hq := hide (hz3.out h1 hal)
      have hAl2 : Hid (∀ u, PBox u b { x with held := withOf x.held l } → Calls Tryz.prog 165 #[.pointer (some ⟨b, 0, none⟩)] u fun e w' => e = .returned (.bool false) ∧ w' = u) := hide (fun u hu => by have := hAl.out u hu; simp only at this; rw [hal] at this; exact this)
      clear hz1 hz2 hz3 hal hAl hS1 hS2 hP2 hx2
      generalize withOf x.held l = W at *
      obtain ⟨⟨pi, pd, pm, pl, pa, pc⟩, st, he, dn⟩ := x
      simp only [Xp.cells] at *
      subst h1
      have hl4 : l = 0 ∨ l = 1 ∨ l = 2 ∨ l = 3 := by omega
      rcases hl4 with rfl | rfl | rfl | rfl
      all_goals (
        simp only [Nat.reducePow, Int.natCast_one, Int.cast_ofNat_Int] at hwi
        go_enter Tryz.func158, Tryz.ntmps158
        go_wp2_with fail
        refine (hAl2.out _ hP1.out).mono ?_
        rintro e w1 ⟨rfl, rfl⟩
        clear hAl2
        go_wp2
        go_ret
        exact ⟨_, rfl, by rw [hq.out]; exact Heard.of hP1.out (kept_set _ _ _ _) (Below.refl _ _) (RowOf.nil _ _) (fun g hg => by simp [Value.ownBlock] at hg)⟩)
  · have hq := hide (hz1.out h1)
    clear hz1 hz2 hz3 hAl hS2 hP2 hP1 hx2 hx1 hwi
    have hS3 := hide (hS1.out (2 ^ l) (Nat.lt_of_lt_of_le (Nat.pow_lt_pow_right (by decide) hl) (by decide)))
    generalize withOf x.held l = W at *
    obtain ⟨⟨pi, pd, pm, pl, pa, pc⟩, st, he, dn⟩ := x
    simp only [Xp.cells] at *
    have d1 : ((st : Int) != 1) = true := by simp; omega
    clear h1 hS1
    have hl4 : l = 0 ∨ l = 1 ∨ l = 2 ∨ l = 3 := by omega
    rcases hl4 with rfl | rfl | rfl | rfl
    all_goals (
      simp only [Nat.reducePow, Int.natCast_one, Int.cast_ofNat_Int] at hS3 hq
      go_enter Tryz.func158, Tryz.ntmps158
      go_wp2_with fail
      refine (hS3.out _ hP).mono ?_
      rintro e w2 ⟨⟨lv, rfl, hr, ho⟩, hb⟩
      replace hr := hide hr
      replace ho := hide ho
      replace hb := hide hb
      clear hS3
      go_wp2
      go_ret
      exact ⟨_, rfl, by rw [hq.out]; exact Heard.of hP (Kept.refl _ _) hb.out hr.out ho.out⟩)
/-- the payment behind a Refused; what is said; the error -/
def refX (x : Xp) (l : Nat) : Xp × List (List UInt8) × Nat :=
  if x.st = 2 then (x, [], 14) else if x.st = 3 then (x, sayL x.pm 3 (2 ^ l), 0) else ({ x with st := 3 }, sayL x.pm 3 15, 0)
set_option maxRecDepth 100000 in
set_option maxHeartbeats 2000000 in
theorem hearRefused_any (x : Xp) (hx : x.fine) (l : Nat) (hl : l < 4) (w : World) (b : Nat) (hP : PBox w b x) (hn : ∀ g, x.pm.lv.ownBlock = some g → g ≠ b) :
    Calls Tryz.prog 159 #[.pointer (some ⟨b, 0, none⟩), .int .u8 (l : Int)] w fun e w' => ∃ lv, e = .returned (.tuple #[lv, .int .i64 ((refX x l).2.2 : Int)]) ∧ Heard w w' b (refX x l).1 lv (refX x l).2.1 := by
  have hc := fun o => cell_at hP.blk o
  have hf := fun o => frozen_at hP.blk o
  have hbl := hP.lt
  have hst := hx.st
  have hx2 : ({ x with st := 3 } : Xp).fine := ⟨⟨hx.ok.1, by show (3 : Nat) < 256; omega, hx.ok.2.2⟩, ⟨by show (1 : Nat) ≤ 3; omega, by show (3 : Nat) ≤ 3; omega⟩, hx.memo, hx.few, hx.held, hx.done⟩
  have hS1 := hide (fun mask (hm : mask < 256) u hu => say_any x hx.ok hx.st hx.memo hx.few mask hm u b hu)
  have hS2 := hide (fun u hu => say_any _ hx2.ok hx2.st hx2.memo hx2.few 15 (by decide) u b hu)
  have hP2 := hide (hP.set (o := 4) (u := .int .u8 3) (x' := { x with st := 3 }) rfl rfl hn)
  have hz1 : Hid (x.st = 2 → refX x l = (x, [], 14)) := hide (fun h => by simp [refX, h])
  have hz2 : Hid (x.st = 3 → refX x l = (x, sayL x.pm x.st (2 ^ l), 0)) := hide (fun h => by simp [refX, h])
  have hz3 : Hid (x.st = 1 → refX x l = ({ x with st := 3 }, sayL x.pm 3 15, 0)) := hide (fun h => by simp [refX, h])
  have hs3 : x.st = 1 ∨ x.st = 2 ∨ x.st = 3 := by omega
  have hS3 := hide (hS1.out (2 ^ l) (Nat.lt_of_lt_of_le (Nat.pow_lt_pow_right (by decide) hl) (by decide)))
  generalize refX x l = Z at *
  rcases hs3 with h1 | h1 | h1
  · have hq := hide (hz3.out h1)
    clear hz1 hz2 hz3 hS1 hS3
    obtain ⟨⟨pi, pd, pm, pl, pa, pc⟩, st, he, dn⟩ := x
    simp only [Xp.cells] at *
    subst h1
    go_enter Tryz.func159, Tryz.ntmps159
    go_wp2_with fail
    refine (hS2.out _ hP2.out).mono ?_
    rintro e w2 ⟨⟨lv, rfl, hr, ho⟩, hb⟩
    replace hr := hide hr
    replace ho := hide ho
    replace hb := hide hb
    clear hS2
    go_wp2
    go_ret2
    exact ⟨_, by rw [hq.out]; rfl, by rw [hq.out]; exact Heard.of hP2.out (kept_set _ _ _ _) hb.out hr.out ho.out⟩
  · have hq := hide (hz1.out h1)
    clear hz1 hz2 hz3 hS1 hS3 hS2 hP2
    obtain ⟨⟨pi, pd, pm, pl, pa, pc⟩, st, he, dn⟩ := x
    simp only [Xp.cells] at *
    subst h1
    go_enter Tryz.func159, Tryz.ntmps159
    go_wp2
    go_ret2
    exact ⟨_, by rw [hq.out]; rfl, by rw [hq.out]; exact Heard.of hP (Kept.refl _ _) (Below.refl _ _) (RowOf.nil _ _) (fun g hg => by simp [Value.ownBlock] at hg)⟩
  · have hq := hide (hz2.out h1)
    clear hz1 hz2 hz3 hS1 hS2 hP2
    obtain ⟨⟨pi, pd, pm, pl, pa, pc⟩, st, he, dn⟩ := x
    simp only [Xp.cells] at *
    subst h1
    have hl4 : l = 0 ∨ l = 1 ∨ l = 2 ∨ l = 3 := by omega
    rcases hl4 with rfl | rfl | rfl | rfl
    all_goals (
      simp only [Nat.reducePow, Int.natCast_one, Int.cast_ofNat_Int] at hS3 hq
      go_enter Tryz.func159, Tryz.ntmps159
      go_wp2_with fail
      refine (hS3.out _ hP).mono ?_
      rintro e w2 ⟨⟨lv, rfl, hr, ho⟩, hb⟩
      replace hr := hide hr
      replace ho := hide ho
      replace hb := hide hb
      clear hS3
      go_wp2
      go_ret2
      exact ⟨_, by rw [hq.out]; rfl, by rw [hq.out]; exact Heard.of hP (Kept.refl _ _) hb.out hr.out ho.out⟩)
/-- the payment behind a Done; the error -/
def doneX (x : Xp) (l : Nat) : Xp × Nat := if x.st = 1 then (x, 14) else ({ x with done := withOf x.done l }, 0)
set_option maxRecDepth 100000 in
set_option maxHeartbeats 2000000 in
theorem hearDone_any (x : Xp) (hx : x.fine) (l : Nat) (hl : l < 4) (w : World) (b : Nat) (hP : PBox w b x) (hn : ∀ g, x.pm.lv.ownBlock = some g → g ≠ b) :
    Calls Tryz.prog 160 #[.pointer (some ⟨b, 0, none⟩), .int .u8 (l : Int)] w fun e w' => e = .returned (.int .i64 ((doneX x l).2 : Int)) ∧ PBox w' b (doneX x l).1 ∧ Kept (fun k => k = b) w w' := by
  have hc := fun o => cell_at hP.blk o
  have hf := fun o => frozen_at hP.blk o
  have hbl := hP.lt
  have hst := hx.st
  have hwi := u8_with x.done l hx.done hl
  have hP1 := hide (hP.set (o := 6) (u := .int .u8 ((withOf x.done l : Nat) : Int)) (x' := { x with done := withOf x.done l }) rfl rfl hn)
  have hz1 : Hid (x.st = 1 → doneX x l = (x, 14)) := hide (fun h => by simp [doneX, h])
  have hz2 : Hid (x.st ≠ 1 → doneX x l = ({ x with done := withOf x.done l }, 0)) := hide (fun h => by simp [doneX, h])
  generalize doneX x l = Z at *
  generalize withOf x.done l = W at *
  by_cases h1 : x.st = 1
  · have hq := hide (hz1.out h1)
    clear hz1 hz2 hP1 hwi
    obtain ⟨⟨pi, pd, pm, pl, pa, pc⟩, st, he, dn⟩ := x
    simp only [Xp.cells] at *
    subst h1
    go_enter Tryz.func160, Tryz.ntmps160
    go_wp2
    go_ret
    exact ⟨by rw [hq.out]; rfl, by rw [hq.out]; exact hP, Kept.refl _ _⟩
  · have hq := hide (hz2.out h1)
    clear hz1 hz2
    obtain ⟨⟨pi, pd, pm, pl, pa, pc⟩, st, he, dn⟩ := x
    simp only [Xp.cells] at *
    have d1 : ((st : Int) == 1) = false := by simp; omega
    clear h1
    have hl4 : l = 0 ∨ l = 1 ∨ l = 2 ∨ l = 3 := by omega
    rcases hl4 with rfl | rfl | rfl | rfl
    all_goals (
      simp only [Nat.reducePow, Int.natCast_one, Int.cast_ofNat_Int] at hwi
      go_enter Tryz.func160, Tryz.ntmps160
      go_wp2
      go_ret
      exact ⟨by rw [hq.out]; rfl, by rw [hq.out]; exact hP1.out, kept_set _ _ _ _⟩)
end Go.Proofs.YtjkhbjgfoopomabGreat
