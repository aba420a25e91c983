import Derived.Test.YtjkhbjgfoopomaaA8
import Derived.Test.YtjkhbjgfoopomaaA3
/-
  The program's notary: what it does with a bank's word.
-/
namespace Go.Proofs.Ytjkhbjgfoopomaa
open Go.RowKit
set_option linter.unusedVariables false
set_option linter.unusedSimpArgs false
/-- the payment behind a Prepared; what is said -/
def prepX (x : Xp) (l : Nat) : Xp × List (List UInt8) :=
  if x.st = 1 then (if allTo (withOf x.held l) x.pm.legs.length then ({ x with held := withOf x.held l, st := 2 }, sayL x.pm 2 15) else ({ x with held := withOf x.held l }, []))
  else (x, sayL x.pm x.st (2 ^ l))
/-- the payment has gone on, and a fresh list comes out -/
structure Heard (w w' : World) (b : Nat) (x' : Xp) (lv : Value) (outs : List (List UInt8)) : Prop where
  box : PBox w' b x'
  kept : Kept (fun k => k = b) w w'
  row : RowOf w' 9 1 txtCell lv outs
  fresh : ∀ g, lv.ownBlock = some g → w.heap.size ≤ g
theorem kept_set (w : World) (b o : Nat) (u : Value) : Kept (fun k => k = b) w (w.setCell ⟨b, o, none⟩ u) := Kept.of_setCell w ⟨b, o, none⟩ u
theorem PBox.set {w : World} {b : Nat} {x x' : Xp} {o : Nat} {u : Value} (hP : PBox w b x) (hm : x'.pm = x.pm) (hc : x.cells.toArray.setIfInBounds o u = x'.cells.toArray) (hn : ∀ g, x.pm.lv.ownBlock = some g → g ≠ b) : PBox (w.setCell ⟨b, o, none⟩ u) b x' := by
  refine ⟨?_, ?_⟩
  · rw [← hc]; exact heap_set_self hP.blk o u
  · rw [hm]; exact hP.legs.kept (Kept.of_setCell _ _ _) hn
theorem Heard.of {w u w' : World} {b : Nat} {x' : Xp} {lv : Value} {outs : List (List UInt8)} (hP : PBox u b x') (hk : Kept (fun k => k = b) w u) (hb : Below u.heap.size u w') (hr : RowOf w' 9 1 txtCell lv outs) (hf : ∀ g, lv.ownBlock = some g → u.heap.size ≤ g) : Heard w w' b x' lv outs :=
  ⟨hP.below hb, hk.trans (Kept.of_below (S := fun _ => False) hb) (fun i h => h.elim), hr, fun g hg => Nat.le_trans hk.size (hf g hg)⟩
set_option maxRecDepth 100000 in
set_option maxHeartbeats 2000000 in
theorem hearPrepared_any (x : Xp) (hx : x.fine) (l : Nat) (hl : l < 4) (w : World) (b : Nat) (hP : PBox w b x) (hn : ∀ g, x.pm.lv.ownBlock = some g → g ≠ b) :
    Calls Try.prog 118 #[.pointer (some ⟨b, 0, none⟩), .int .u8 (l : Int)] w fun e w' => ∃ lv, e = .returned lv ∧ Heard w w' b (prepX x l).1 lv (prepX x l).2 := by
  have hc := fun o => cell_at hP.blk o
  have hf := fun o => frozen_at hP.blk o
  have hbl := hP.lt
  have hst := hx.st
  have hwl := withOf_lt x.held l hx.held hl
  have hwi := u8_with x.held l hx.held hl
  have hx1 : ({ x with held := withOf x.held l } : Xp).fine := ⟨⟨hx.ok.1, hx.ok.2.1, by show withOf x.held l < 256; omega, hx.ok.2.2.2⟩, hx.st, hx.memo, hx.few, hwl, hx.done⟩
  have hx2 : ({ x with held := withOf x.held l, st := 2 } : Xp).fine := ⟨⟨hx.ok.1, by show (2 : Nat) < 256; omega, by show withOf x.held l < 256; omega, hx.ok.2.2.2⟩, ⟨by show (1 : Nat) ≤ 2; omega, by show (2 : Nat) ≤ 3; omega⟩, hx.memo, hx.few, hwl, hx.done⟩
  have hAl := hide (fun u hu => allHeld_any _ hx1 u b hu)
  have hS1 := hide (fun mask (hm : mask < 256) u hu => say_any x hx.ok hx.st hx.memo hx.few mask hm u b hu)
  have hS2 := hide (fun u hu => say_any _ hx2.ok hx2.st hx2.memo hx2.few 15 (by decide) u b hu)
  have hP1 := hide (hP.set (o := 5) (u := .int .u8 ((withOf x.held l : Nat) : Int)) (x' := { x with held := withOf x.held l }) rfl rfl hn)
  have hP2 := hide (hP1.out.set (o := 4) (u := .int .u8 2) (x' := { x with held := withOf x.held l, st := 2 }) rfl rfl hn)
  have hz1 : Hid (x.st ≠ 1 → prepX x l = (x, sayL x.pm x.st (2 ^ l))) := hide (fun h => by simp [prepX, h])
  have hz2 : Hid (x.st = 1 → allTo (withOf x.held l) x.pm.legs.length = true → prepX x l = ({ x with held := withOf x.held l, st := 2 }, sayL x.pm 2 15)) := hide (fun h h2 => by simp [prepX, h, h2])
  have hz3 : Hid (x.st = 1 → allTo (withOf x.held l) x.pm.legs.length = false → prepX x l = ({ x with held := withOf x.held l }, [])) := hide (fun h h2 => by simp [prepX, h, h2])
  generalize prepX x l = Z at *
  by_cases h1 : x.st = 1
  · cases hal : allTo (withOf x.held l) x.pm.legs.length with
    | true =>
      have hq := hide (hz2.out h1 hal)
      have hAl2 : Hid (∀ u, PBox u b { x with held := withOf x.held l } → Calls Try.prog 124 #[.pointer (some ⟨b, 0, none⟩)] u fun e w' => e = .returned (.bool true) ∧ w' = u) := hide (fun u hu => by have := hAl.out u hu; simp only at this; rw [hal] at this; exact this)
      clear hz1 hz2 hz3 hal hAl hS1
      generalize withOf x.held l = W at *
      obtain ⟨⟨pi, pd, pm, pl, pa, pc⟩, st, he, dn⟩ := x
      simp only [Xp.cells] at *
      subst h1
      have hl4 : l = 0 ∨ l = 1 ∨ l = 2 ∨ l = 3 := by omega
      rcases hl4 with rfl | rfl | rfl | rfl
      all_goals (
        simp only [Nat.reducePow, Int.natCast_one, Int.cast_ofNat_Int] at hwi
        go_enter Try.func118, Try.ntmps118
        go_wp2_with fail
        refine (hAl2.out _ hP1.out).mono ?_
        rintro e w1 ⟨rfl, rfl⟩
        clear hAl2
        go_wp2_with fail
        refine (hS2.out _ hP2.out).mono ?_
        rintro e w2 ⟨⟨lv, rfl, hr, ho⟩, hb⟩
        replace hr := hide hr
        replace ho := hide ho
        replace hb := hide hb
        clear hS2
        go_wp2
        go_ret
        exact ⟨_, rfl, by rw [hq.out]; exact Heard.of hP2.out ((kept_set _ _ _ _).trans (kept_set _ _ _ _) (fun i h => .inl h)) hb.out hr.out ho.out⟩)
    | false =>
      have hq := hide (hz3.out h1 hal)
      have hAl2 : Hid (∀ u, PBox u b { x with held := withOf x.held l } → Calls Try.prog 124 #[.pointer (some ⟨b, 0, none⟩)] u fun e w' => e = .returned (.bool false) ∧ w' = u) := hide (fun u hu => by have := hAl.out u hu; simp only at this; rw [hal] at this; exact this)
      clear hz1 hz2 hz3 hal hAl hS1 hS2 hP2 hx2
      generalize withOf x.held l = W at *
      obtain ⟨⟨pi, pd, pm, pl, pa, pc⟩, st, he, dn⟩ := x
      simp only [Xp.cells] at *
      subst h1
      have hl4 : l = 0 ∨ l = 1 ∨ l = 2 ∨ l = 3 := by omega
      rcases hl4 with rfl | rfl | rfl | rfl
      all_goals (
        simp only [Nat.reducePow, Int.natCast_one, Int.cast_ofNat_Int] at hwi
        go_enter Try.func118, Try.ntmps118
        go_wp2_with fail
        refine (hAl2.out _ hP1.out).mono ?_
        rintro e w1 ⟨rfl, rfl⟩
        clear hAl2
        go_wp2
        go_ret
        exact ⟨_, rfl, by rw [hq.out]; exact Heard.of hP1.out (kept_set _ _ _ _) (Below.refl _ _) (RowOf.nil _ _) (fun g hg => by simp [Value.ownBlock] at hg)⟩)
  · have hq := hide (hz1.out h1)
    clear hz1 hz2 hz3 hAl hS2 hP2 hP1 hx2 hx1 hwi
    have hS3 := hide (hS1.out (2 ^ l) (Nat.lt_of_lt_of_le (Nat.pow_lt_pow_right (by decide) hl) (by decide)))
    generalize withOf x.held l = W at *
    obtain ⟨⟨pi, pd, pm, pl, pa, pc⟩, st, he, dn⟩ := x
    simp only [Xp.cells] at *
    have d1 : ((st : Int) != 1) = true := by simp; omega
    clear h1 hS1
    have hl4 : l = 0 ∨ l = 1 ∨ l = 2 ∨ l = 3 := by omega
    rcases hl4 with rfl | rfl | rfl | rfl
    all_goals (
      simp only [Nat.reducePow, Int.natCast_one, Int.cast_ofNat_Int] at hS3 hq
      go_enter Try.func118, Try.ntmps118
      go_wp2_with fail
      refine (hS3.out _ hP).mono ?_
      rintro e w2 ⟨⟨lv, rfl, hr, ho⟩, hb⟩
      replace hr := hide hr
      replace ho := hide ho
      replace hb := hide hb
      clear hS3
      go_wp2
      go_ret
      exact ⟨_, rfl, by rw [hq.out]; exact Heard.of hP (Kept.refl _ _) hb.out hr.out ho.out⟩)
/-- the payment behind a Refused; what is said; the error -/
def refX (x : Xp) (l : Nat) : Xp × List (List UInt8) × Nat :=
  if x.st = 2 then (x, [], 14) else if x.st = 3 then (x, sayL x.pm 3 (2 ^ l), 0) else ({ x with st := 3 }, sayL x.pm 3 15, 0)
set_option maxRecDepth 100000 in
set_option maxHeartbeats 2000000 in
theorem hearRefused_any (x : Xp) (hx : x.fine) (l : Nat) (hl : l < 4) (w : World) (b : Nat) (hP : PBox w b x) (hn : ∀ g, x.pm.lv.ownBlock = some g → g ≠ b) :
    Calls Try.prog 119 #[.pointer (some ⟨b, 0, none⟩), .int .u8 (l : Int)] w fun e w' => ∃ lv, e = .returned (.tuple #[lv, .int .i64 ((refX x l).2.2 : Int)]) ∧ Heard w w' b (refX x l).1 lv (refX x l).2.1 := by
  have hc := fun o => cell_at hP.blk o
  have hf := fun o => frozen_at hP.blk o
  have hbl := hP.lt
  have hst := hx.st
  have hx2 : ({ x with st := 3 } : Xp).fine := ⟨⟨hx.ok.1, by show (3 : Nat) < 256; omega, hx.ok.2.2⟩, ⟨by show (1 : Nat) ≤ 3; omega, by show (3 : Nat) ≤ 3; omega⟩, hx.memo, hx.few, hx.held, hx.done⟩
  have hS1 := hide (fun mask (hm : mask < 256) u hu => say_any x hx.ok hx.st hx.memo hx.few mask hm u b hu)
  have hS2 := hide (fun u hu => say_any _ hx2.ok hx2.st hx2.memo hx2.few 15 (by decide) u b hu)
  have hP2 := hide (hP.set (o := 4) (u := .int .u8 3) (x' := { x with st := 3 }) rfl rfl hn)
  have hz1 : Hid (x.st = 2 → refX x l = (x, [], 14)) := hide (fun h => by simp [refX, h])
  have hz2 : Hid (x.st = 3 → refX x l = (x, sayL x.pm x.st (2 ^ l), 0)) := hide (fun h => by simp [refX, h])
  have hz3 : Hid (x.st = 1 → refX x l = ({ x with st := 3 }, sayL x.pm 3 15, 0)) := hide (fun h => by simp [refX, h])
  have hs3 : x.st = 1 ∨ x.st = 2 ∨ x.st = 3 := by omega
  have hS3 := hide (hS1.out (2 ^ l) (Nat.lt_of_lt_of_le (Nat.pow_lt_pow_right (by decide) hl) (by decide)))
  generalize refX x l = Z at *
  rcases hs3 with h1 | h1 | h1
  · have hq := hide (hz3.out h1)
    clear hz1 hz2 hz3 hS1 hS3
    obtain ⟨⟨pi, pd, pm, pl, pa, pc⟩, st, he, dn⟩ := x
    simp only [Xp.cells] at *
    subst h1
    go_enter Try.func119, Try.ntmps119
    go_wp2_with fail
    refine (hS2.out _ hP2.out).mono ?_
    rintro e w2 ⟨⟨lv, rfl, hr, ho⟩, hb⟩
    replace hr := hide hr
    replace ho := hide ho
    replace hb := hide hb
    clear hS2
    go_wp2
    go_ret2
    exact ⟨_, by rw [hq.out]; rfl, by rw [hq.out]; exact Heard.of hP2.out (kept_set _ _ _ _) hb.out hr.out ho.out⟩
  · have hq := hide (hz1.out h1)
    clear hz1 hz2 hz3 hS1 hS3 hS2 hP2
    obtain ⟨⟨pi, pd, pm, pl, pa, pc⟩, st, he, dn⟩ := x
    simp only [Xp.cells] at *
    subst h1
    go_enter Try.func119, Try.ntmps119
    go_wp2
    go_ret2
    exact ⟨_, by rw [hq.out]; rfl, by rw [hq.out]; exact Heard.of hP (Kept.refl _ _) (Below.refl _ _) (RowOf.nil _ _) (fun g hg => by simp [Value.ownBlock] at hg)⟩
  · have hq := hide (hz2.out h1)
    clear hz1 hz2 hz3 hS1 hS2 hP2
    obtain ⟨⟨pi, pd, pm, pl, pa, pc⟩, st, he, dn⟩ := x
    simp only [Xp.cells] at *
    subst h1
    have hl4 : l = 0 ∨ l = 1 ∨ l = 2 ∨ l = 3 := by omega
    rcases hl4 with rfl | rfl | rfl | rfl
    all_goals (
      simp only [Nat.reducePow, Int.natCast_one, Int.cast_ofNat_Int] at hS3 hq
      go_enter Try.func119, Try.ntmps119
      go_wp2_with fail
      refine (hS3.out _ hP).mono ?_
      rintro e w2 ⟨⟨lv, rfl, hr, ho⟩, hb⟩
      replace hr := hide hr
      replace ho := hide ho
      replace hb := hide hb
      clear hS3
      go_wp2
      go_ret2
      exact ⟨_, by rw [hq.out]; rfl, by rw [hq.out]; exact Heard.of hP (Kept.refl _ _) hb.out hr.out ho.out⟩)
/-- the payment behind a Done; the error -/
def doneX (x : Xp) (l : Nat) : Xp × Nat := if x.st = 1 then (x, 14) else ({ x with done := withOf x.done l }, 0)
set_option maxRecDepth 100000 in
set_option maxHeartbeats 2000000 in
theorem hearDone_any (x : Xp) (hx : x.fine) (l : Nat) (hl : l < 4) (w : World) (b : Nat) (hP : PBox w b x) (hn : ∀ g, x.pm.lv.ownBlock = some g → g ≠ b) :
    Calls Try.prog 120 #[.pointer (some ⟨b, 0, none⟩), .int .u8 (l : Int)] w fun e w' => e = .returned (.int .i64 ((doneX x l).2 : Int)) ∧ PBox w' b (doneX x l).1 ∧ Kept (fun k => k = b) w w' := by
  have hc := fun o => cell_at hP.blk o
  have hf := fun o => frozen_at hP.blk o
  have hbl := hP.lt
  have hst := hx.st
  have hwi := u8_with x.done l hx.done hl
  have hP1 := hide (hP.set (o := 6) (u := .int .u8 ((withOf x.done l : Nat) : Int)) (x' := { x with done := withOf x.done l }) rfl rfl hn)
  have hz1 : Hid (x.st = 1 → doneX x l = (x, 14)) := hide (fun h => by simp [doneX, h])
  have hz2 : Hid (x.st ≠ 1 → doneX x l = ({ x with done := withOf x.done l }, 0)) := hide (fun h => by simp [doneX, h])
  generalize doneX x l = Z at *
  generalize withOf x.done l = W at *
  by_cases h1 : x.st = 1
  · have hq := hide (hz1.out h1)
    clear hz1 hz2 hP1 hwi
    obtain ⟨⟨pi, pd, pm, pl, pa, pc⟩, st, he, dn⟩ := x
    simp only [Xp.cells] at *
    subst h1
    go_enter Try.func120, Try.ntmps120
    go_wp2
    go_ret
    exact ⟨by rw [hq.out]; rfl, by rw [hq.out]; exact hP, Kept.refl _ _⟩
  · have hq := hide (hz2.out h1)
    clear hz1 hz2
    obtain ⟨⟨pi, pd, pm, pl, pa, pc⟩, st, he, dn⟩ := x
    simp only [Xp.cells] at *
    have d1 : ((st : Int) == 1) = false := by simp; omega
    clear h1
    have hl4 : l = 0 ∨ l = 1 ∨ l = 2 ∨ l = 3 := by omega
    rcases hl4 with rfl | rfl | rfl | rfl
    all_goals (
      simp only [Nat.reducePow, Int.natCast_one, Int.cast_ofNat_Int] at hwi
      go_enter Try.func120, Try.ntmps120
      go_wp2
      go_ret
      exact ⟨by rw [hq.out]; rfl, by rw [hq.out]; exact hP1.out, kept_set _ _ _ _⟩)
end Go.Proofs.Ytjkhbjgfoopomaa
/-
  The program's notary: hear; fault.
-/
namespace Go.Proofs.Ytjkhbjgfoopomaa
open Go.RowKit
set_option linter.unusedVariables false
set_option linter.unusedSimpArgs false
/-- the payment behind a bank's word; what is said; the error -/
def hearX (x : Xp) (k l : Nat) : Xp × List (List UInt8) × Nat := if k = 4 then ((prepX x l).1, (prepX x l).2, 0) else if k = 5 then refX x l else ((doneX x l).1, [], (doneX x l).2)
set_option maxRecDepth 100000 in
set_option maxHeartbeats 2000000 in
theorem hear_any (x : Xp) (hx : x.fine) (k l : Nat) (hk : k = 4 ∨ k = 5 ∨ k = 6) (hl : l < 4) (w : World) (b : Nat) (hP : PBox w b x) (hn : ∀ g, x.pm.lv.ownBlock = some g → g ≠ b) :
    Calls Try.prog 111 #[.pointer (some ⟨b, 0, none⟩), .int .u8 (k : Int), .int .u8 (l : Int)] w fun e w' => ∃ lv, e = .returned (.tuple #[lv, .int .i64 ((hearX x k l).2.2 : Int)]) ∧ Heard w w' b (hearX x k l).1 lv (hearX x k l).2.1 := by
  rcases hk with rfl | rfl | rfl
  · have hC := hide (hearPrepared_any x hx l hl w b hP hn)
    have hq : Hid (hearX x 4 l = ((prepX x l).1, (prepX x l).2, 0)) := hide (by simp [hearX])
    generalize hearX x 4 l = Z at *
    generalize prepX x l = Y at *
    go_enter Try.func111, Try.ntmps111
    go_wp2_with fail
    refine (hC.out).mono ?_
    rintro e w1 ⟨lv, rfl, hH⟩
    replace hH := hide hH
    clear hC
    go_wp2
    go_ret2
    exact ⟨_, by rw [hq.out]; rfl, by rw [hq.out]; exact hH.out⟩
  · have hC := hide (hearRefused_any x hx l hl w b hP hn)
    have hq : Hid (hearX x 5 l = refX x l) := hide (by simp [hearX])
    generalize hearX x 5 l = Z at *
    generalize refX x l = Y at *
    obtain ⟨y1, y2, y3⟩ := Y
    simp only at hC
    go_enter Try.func111, Try.ntmps111
    go_wp2_with fail
    refine (hC.out).mono ?_
    rintro e w1 ⟨lv, rfl, hH⟩
    replace hH := hide hH
    clear hC
    go_wp2
    go_ret2
    exact ⟨_, by rw [hq.out]; rfl, by rw [hq.out]; exact hH.out⟩
  · have hC := hide (hearDone_any x hx l hl w b hP hn)
    have hq : Hid (hearX x 6 l = ((doneX x l).1, [], (doneX x l).2)) := hide (by simp [hearX])
    generalize hearX x 6 l = Z at *
    generalize doneX x l = Y at *
    obtain ⟨y1, y2⟩ := Y
    simp only at hC hq
    go_enter Try.func111, Try.ntmps111
    go_wp2_with fail
    refine (hC.out).mono ?_
    rintro e w1 ⟨rfl, hB, hK⟩
    replace hB := hide hB
    replace hK := hide hK
    clear hC
    go_wp2
    go_ret2
    exact ⟨_, by rw [hq.out]; rfl, by rw [hq.out]; exact Heard.of hB.out hK.out (Below.refl _ _) (RowOf.nil _ _) (fun g hg => by simp [Value.ownBlock] at hg)⟩
set_option maxRecDepth 100000 in
set_option maxHeartbeats 1000000 in
theorem xfault_any (p : Pm) (hp : p.ok) (hm : p.memo.length ≤ 140737488351232) (hll : p.legs.length ≤ 11728124029269) (w : World) (hR : LegsAt w p.la p.legs) :
    Calls Try.prog 72 #[p.v] w fun e w' => e = .returned (.int .i64 (wrongOf p : Int)) ∧ Below w.heap.size w w' := by
  obtain ⟨pi, pd, pm, pl, pa, pc⟩ := p
  obtain ⟨hpi, hpd, hpl⟩ := hp
  simp only [Pm.v, Pm.lv] at *
  have hms : (bs pm).size ≤ maxLen := by rw [bs_size]; unfold maxLen; omega
  have hIs := hide (fun n (hn : n < 256) u => isBank_any n hn u)
  go_enter Try.func72, Try.ntmps72
  by_cases hz : pl.length = 0
  · have hq : Hid (wrongOf ⟨pi, pd, pm, pl, pa, pc⟩ = 5) := hide (by simp [wrongOf, hz])
    have dz : ((pl.length : Int) == 0) = true := by simp [hz]
    go_wp2
    go_ret
    refine ⟨by rw [hq.out]; rfl, ?_⟩
    exact (Below.refl _ _).alloc (Nat.le_refl _) _
  by_cases h4 : 4 < pl.length
  · have hq : Hid (wrongOf ⟨pi, pd, pm, pl, pa, pc⟩ = 5) := hide (by simp [wrongOf, h4])
    have dz : ((pl.length : Int) == 0) = false := by simp [hz]
    have dz4 : decide ((pl.length : Int) > 4) = true := by simp; omega
    have dz5 : decide ((4 : Int) < (pl.length : Int)) = true := by simp; omega
    go_wp2
    go_ret
    refine ⟨by rw [hq.out]; rfl, ?_⟩
    exact (Below.refl _ _).alloc (Nat.le_refl _) _
  have dz : ((pl.length : Int) == 0) = false := by simp [hz]
  have dz4 : decide ((pl.length : Int) > 4) = false := by simp; omega
  have hw : Hid (wrongOf ⟨pi, pd, pm, pl, pa, pc⟩ = if legsErr pl = 0 then (if memoB pm then 0 else 7) else legsErr pl) := hide (by simp [wrongOf, hz, h4])
  go_wp2
  go_loopw [17] (fun c u => ∃ k : Nat, k ≤ pl.length ∧ c = .int .i64 k ∧ legsErr (pl.take k) = 0 ∧ u = w.alloc (.cells #[.int .u32 (pi : Int), .int .u64 (pd : Int), .string (bs pm), .slice pa pl.length pc] 70)) (fun c _ => pl.length - (intOf c).toNat)
  case atStart => exact ⟨0, Nat.zero_le _, rfl, rfl, rfl⟩
  case round =>
    obtain ⟨k, hk, rfl, he, rfl⟩ := hrel
    have hb : Hid (Below w.heap.size w (w.alloc (.cells #[.int .u32 (pi : Int), .int .u64 (pd : Int), .string (bs pm), .slice pa pl.length pc] 70))) := hide ((Below.refl _ _).alloc (Nat.le_refl _) _)
    by_cases hlt : k < pl.length
    · have hlk : (k : Int) < (pl.length : Int) := by omega
      have dl : decide ((k : Int) < (pl.length : Int)) = true := by simp; omega
      obtain ⟨ga, hg, hgl, hcell⟩ := (hR.below hb.out) k hlt
      subst hg
      have c0 := hcell 0 _ rfl
      rw [show (ga.add (k * 4)).add 0 = ga.add (k * 4) from rfl] at c0
      have c3 : World.cell? _ ⟨(ga.add (k * 4)).block, (ga.add (k * 4)).off + 3, none⟩ = _ := hcell 3 _ rfl
      have hek := hpl pl[k] (List.getElem_mem hlt)
      have hat := hide (legsErr_at hlt he)
      have hnx := hide (legsErr_next hlt he)
      clear hcell hpl hR
      generalize pl[k] = E at *
      obtain ⟨lb, lp, lg, la⟩ := E
      obtain ⟨hlb, hlp, hlg, hla⟩ := hek
      simp only at c0 c3
      simp only at hlb hlp hlg hla
      have hIb := hide (hIs.out lb hlb)
      clear hIs
      cases hbb : bankB lb with
      | false =>
        rw [hbb] at hIb
        have hno : lb < 1 ∨ 7 < lb := by
          simp only [bankB, Bool.and_eq_false_iff, decide_eq_false_iff_not] at hbb
          omega
        have hq : Hid (wrongOf ⟨pi, pd, pm, pl, some ga, pc⟩ = 4) := hide (by
          have e : plErr ⟨lb, lp, lg, la⟩ = 4 := by simp only [plErr, if_pos hno]
          rw [hw.out, hat.out (by rw [e]; decide), e]; rfl)
        clear hat hnx hw hno hbb
        go_wp2_with fail
        refine (hIb.out _).mono ?_
        rintro e w1 ⟨rfl, rfl⟩
        clear hIb
        go_wp2
        go_ret
        exact ⟨by rw [hq.out]; rfl, hb.out⟩
      | true =>
        rw [hbb] at hIb
        have hyes : ¬ (lb < 1 ∨ 7 < lb) := by
          simp only [bankB, Bool.and_eq_true, decide_eq_true_eq] at hbb
          omega
        clear hbb
        by_cases ha : la = 0
        · have hq : Hid (wrongOf ⟨pi, pd, pm, pl, some ga, pc⟩ = 6) := hide (by
            have e : plErr ⟨lb, lp, lg, la⟩ = 6 := by simp only [plErr, if_neg hyes, if_pos (show la < 1 by omega)]
            rw [hw.out, hat.out (by rw [e]; decide), e]; rfl)
          clear hat hnx hw hyes
          subst ha
          go_wp2_with fail
          refine (hIb.out _).mono ?_
          rintro e w1 ⟨rfl, rfl⟩
          clear hIb
          go_wp2
          go_ret
          exact ⟨by rw [hq.out]; rfl, hb.out⟩
        · have da : ((la : Int) == 0) = false := by simp; omega
          have hq := hide (hnx.out (by simp only [plErr, if_neg hyes, if_neg (show ¬ la < 1 by omega)]))
          clear hat hnx hw hyes ha
          go_wp2_with fail
          refine (hIb.out _).mono ?_
          rintro e w1 ⟨rfl, rfl⟩
          clear hIb
          go_wp2
          exact ⟨⟨k + 1, hlt, by go_num, hq.out, trivial⟩, by simp [intOf]; omega⟩
    · obtain rfl : k = pl.length := by omega
      have dl : decide ((pl.length : Int) < (pl.length : Int)) = false := by simp
      rw [List.take_length] at he
      have hq : Hid (wrongOf ⟨pi, pd, pm, pl, pa, pc⟩ = if memoB pm then 0 else 7) := hide (by rw [hw.out]; simp [he])
      have hmd := hide (bs_data pm)
      clear hw he hIs
      go_wp2_with fail
      refine (isMemo_any (bs pm) hms _).mono ?_
      rintro e w1 ⟨rfl, rfl⟩
      rw [hmd.out]
      cases hbb : memoB pm with
      | true =>
        rw [hbb] at hq
        clear hbb
        go_wp2
        go_ret
        exact ⟨by rw [hq.out]; rfl, hb.out⟩
      | false =>
        rw [hbb] at hq
        clear hbb
        go_wp2
        go_ret
        exact ⟨by rw [hq.out]; rfl, hb.out⟩
end Go.Proofs.Ytjkhbjgfoopomaa
