import Derived.Test.YtjkhbjgfoopomabGreatA24
namespace Go.Proofs.YtjkhbjgfoopomabGreat
open Go.RowKit
set_option maxRecDepth 100000
set_option maxHeartbeats 2000000
set_option linter.unusedVariables false
set_option linter.unusedSimpArgs false
def prepX (x : Xp) (l : Nat) : Xp × List (List UInt8) :=
 if x.st = 1 then (if allTo (withOf x.held l) x.pm.legs.length then ({ x with held := withOf x.held l, st := 2 }, sayL x.pm 2 15) else ({ x with held := withOf x.held l }, []))
 else (x, sayL x.pm x.st (2 ^ l))
structure Heard (w w' : World) (b : Nat) (x' : Xp) (lv : Value) (outs : List (List UInt8)) : Prop where
 box : PBox w' b x'
 kept : Kept (fun k => k = b) w w'
 row : RowOf w' 9 1 txtCell lv outs
 fresh : ∀ g, lv.ownBlock = some g → w.heap.size ≤ g
theorem kept_set (w : World) (b o : Nat) (u : Value) : Kept (fun k => k = b) w (w.setCell ⟨b, o, none⟩ u) := Kept.of_setCell w ⟨b, o, none⟩ u
theorem PBox.set {w : World} {b : Nat} {x x' : Xp} {o : Nat} {u : Value} (hP : PBox w b x) (hm : x'.pm = x.pm) (hc : x.cells.toArray.setIfInBounds o u = x'.cells.toArray) (hn : ∀ g, x.pm.lv.ownBlock = some g → g ≠ b) : PBox (w.setCell ⟨b, o, none⟩ u) b x' := by
 refine ⟨?_, ?_⟩
 ·rw [← hc]; exact heap_set_self hP.blk o u
 ·rw [hm]; exact hP.legs.kept (Kept.of_setCell _ _ _) hn
theorem Heard.of {w u w' : World} {b : Nat} {x' : Xp} {lv : Value} {outs : List (List UInt8)} (hP : PBox u b x') (hk : Kept (fun k => k = b) w u) (hb : Below u.heap.size u w') (hr : RowOf w' 9 1 txtCell lv outs) (hf : ∀ g, lv.ownBlock = some g → u.heap.size ≤ g) : Heard w w' b x' lv outs :=
 ⟨hP.below hb, hk.trans (Kept.of_below (S := fun _ => False) hb) (fun i h => h.elim), hr, fun g hg => Nat.le_trans hk.size (hf g hg)⟩
theorem hearPrepared_any (x : Xp) (hx : x.fine) (l : Nat) (hl : l < 4) (w : World) (b : Nat) (hP : PBox w b x) (hn : ∀ g, x.pm.lv.ownBlock = some g → g ≠ b) :
  Calls Tryz.prog 158 #[.pointer (some ⟨b, 0, none⟩), .int .u8 (l : Int)] w fun e w' => ∃ lv, e = .returned lv ∧ Heard w w' b (prepX x l).1 lv (prepX x l).2 := by
 have hc := fun o => cell_at hP.blk o
 have hf := fun o => frozen_at hP.blk o
 have hbl := hP.lt
 have hst := hx.st
 have hwl := withOf_lt x.held l hx.held hl
 have hwi := u8_with x.held l hx.held hl
 have hx1 : ({ x with held := withOf x.held l } : Xp).fine := ⟨⟨hx.ok.1, hx.ok.2.1, by show withOf x.held l < 256; omega, hx.ok.2.2.2⟩, hx.st, hx.memo, hx.few, hwl, hx.done⟩
 have hx2 : ({ x with held := withOf x.held l, st := 2 } : Xp).fine := ⟨⟨hx.ok.1, by show (2 : Nat) < 256; omega, by show withOf x.held l < 256; omega, hx.ok.2.2.2⟩, ⟨by show (1 : Nat) ≤ 2; omega, by show (2 : Nat) ≤ 3; omega⟩, hx.memo, hx.few, hwl, hx.done⟩
 have hAl := hide (fun u hu => allHeld_any _ hx1 u b hu)
 have hS1 := hide (fun mask (hm : mask < 256) u hu => say_any x hx.ok hx.st hx.memo hx.few mask hm u b hu)
 have hS2 := hide (fun u hu => say_any _ hx2.ok hx2.st hx2.memo hx2.few 15 (by decide) u b hu)
 have hP1 := hide (hP.set (o := 5) (u := .int .u8 ((withOf x.held l : Nat) : Int)) (x' := { x with held := withOf x.held l }) rfl rfl hn)
 have hP2 := hide (hP1.out.set (o := 4) (u := .int .u8 2) (x' := { x with held := withOf x.held l, st := 2 }) rfl rfl hn)
 have hz1 : Hid (x.st ≠ 1 → prepX x l = (x, sayL x.pm x.st (2 ^ l))) := hide (fun h => by simp [prepX, h])
 have hz2 : Hid (x.st = 1 → allTo (withOf x.held l) x.pm.legs.length = true → prepX x l = ({ x with held := withOf x.held l, st := 2 }, sayL x.pm 2 15)) := hide (fun h h2 => by simp [prepX, h, h2])
 have hz3 : Hid (x.st = 1 → allTo (withOf x.held l) x.pm.legs.length = false → prepX x l = ({ x with held := withOf x.held l }, [])) := hide (fun h h2 => by simp [prepX, h, h2])
 generalize prepX x l = Z at *
 by_cases h1 : x.st = 1
 ·cases hal : allTo (withOf x.held l) x.pm.legs.length with
  | true =>
   have hq := hide (hz2.out h1 hal);have hAl2 : Hid (∀ u, PBox u b { x with held := withOf x.held l } → Calls Tryz.prog 165 #[.pointer (some ⟨b, 0, none⟩)] u fun e w' => e = .returned (.bool true) ∧ w' = u) := hide (fun u hu => by have := hAl.out u hu; simp only at this; rw [hal] at this; exact this);clear hz1 hz2 hz3 hal hAl hS1;generalize withOf x.held l = W at *;obtain ⟨⟨pi, pd, pm, pl, pa, pc⟩, st, he, dn⟩ := x;simp only [Xp.cells] at *;subst h1;have hl4 : l = 0 ∨ l = 1 ∨ l = 2 ∨ l = 3 := by omega
   rcases hl4 with rfl | rfl | rfl | rfl
   all_goals (
    simp only [Nat.reducePow, Int.natCast_one, Int.cast_ofNat_Int] at hwi;go_enter Tryz.func158, Tryz.ntmps158;go_wp2_with fail
    refine (hAl2.out _ hP1.out).mono ?_;rintro e w1 ⟨rfl, rfl⟩;clear hAl2;go_wp2_with fail
    refine (hS2.out _ hP2.out).mono ?_;rintro e w2 ⟨⟨lv, rfl, hr, ho⟩, hb⟩;replace hr := hide hr;replace ho := hide ho;replace hb := hide hb;clear hS2;go_wp2;go_ret
    exact ⟨_, rfl, by rw [hq.out]; exact Heard.of hP2.out ((kept_set _ _ _ _).trans (kept_set _ _ _ _) (fun i h => .inl h)) hb.out hr.out ho.out⟩)
  | false =>
   have hq := hide (hz3.out h1 hal);have hAl2 : Hid (∀ u, PBox u b { x with held := withOf x.held l } → Calls Tryz.prog 165 #[.pointer (some ⟨b, 0, none⟩)] u fun e w' => e = .returned (.bool false) ∧ w' = u) := hide (fun u hu => by have := hAl.out u hu; simp only at this; rw [hal] at this; exact this);clear hz1 hz2 hz3 hal hAl hS1 hS2 hP2 hx2;generalize withOf x.held l = W at *;obtain ⟨⟨pi, pd, pm, pl, pa, pc⟩, st, he, dn⟩ := x;simp only [Xp.cells] at *;subst h1;have hl4 : l = 0 ∨ l = 1 ∨ l = 2 ∨ l = 3 := by omega
   rcases hl4 with rfl | rfl | rfl | rfl
   all_goals (
    simp only [Nat.reducePow, Int.natCast_one, Int.cast_ofNat_Int] at hwi;go_enter Tryz.func158, Tryz.ntmps158;go_wp2_with fail
    refine (hAl2.out _ hP1.out).mono ?_;rintro e w1 ⟨rfl, rfl⟩;clear hAl2;go_wp2;go_ret
    exact ⟨_, rfl, by rw [hq.out]; exact Heard.of hP1.out (kept_set _ _ _ _) (Below.refl _ _) (RowOf.nil _ _) (fun g hg => by simp [Value.ownBlock] at hg)⟩)
 ·have hq := hide (hz1.out h1);clear hz1 hz2 hz3 hAl hS2 hP2 hP1 hx2 hx1 hwi;have hS3 := hide (hS1.out (2 ^ l) (Nat.lt_of_lt_of_le (Nat.pow_lt_pow_right (by decide) hl) (by decide)));generalize withOf x.held l = W at *;obtain ⟨⟨pi, pd, pm, pl, pa, pc⟩, st, he, dn⟩ := x;simp only [Xp.cells] at *;have d1 : ((st : Int) != 1) = true := by simp; omega
  clear h1 hS1;have hl4 : l = 0 ∨ l = 1 ∨ l = 2 ∨ l = 3 := by omega
  rcases hl4 with rfl | rfl | rfl | rfl
  all_goals (
   simp only [Nat.reducePow, Int.natCast_one, Int.cast_ofNat_Int] at hS3 hq;go_enter Tryz.func158, Tryz.ntmps158;go_wp2_with fail
   refine (hS3.out _ hP).mono ?_;rintro e w2 ⟨⟨lv, rfl, hr, ho⟩, hb⟩;replace hr := hide hr;replace ho := hide ho;replace hb := hide hb;clear hS3;go_wp2;go_ret
   exact ⟨_, rfl, by rw [hq.out]; exact Heard.of hP (Kept.refl _ _) hb.out hr.out ho.out⟩)
def refX (x : Xp) (l : Nat) : Xp × List (List UInt8) × Nat :=
 if x.st = 2 then (x, [], 14) else if x.st = 3 then (x, sayL x.pm 3 (2 ^ l), 0) else ({ x with st := 3 }, sayL x.pm 3 15, 0)
theorem hearRefused_any (x : Xp) (hx : x.fine) (l : Nat) (hl : l < 4) (w : World) (b : Nat) (hP : PBox w b x) (hn : ∀ g, x.pm.lv.ownBlock = some g → g ≠ b) :
  Calls Tryz.prog 159 #[.pointer (some ⟨b, 0, none⟩), .int .u8 (l : Int)] w fun e w' => ∃ lv, e = .returned (.tuple #[lv, .int .i64 ((refX x l).2.2 : Int)]) ∧ Heard w w' b (refX x l).1 lv (refX x l).2.1 := by
 have hc := fun o => cell_at hP.blk o
 have hf := fun o => frozen_at hP.blk o
 have hbl := hP.lt
 have hst := hx.st
 have hx2 : ({ x with st := 3 } : Xp).fine := ⟨⟨hx.ok.1, by show (3 : Nat) < 256; omega, hx.ok.2.2⟩, ⟨by show (1 : Nat) ≤ 3; omega, by show (3 : Nat) ≤ 3; omega⟩, hx.memo, hx.few, hx.held, hx.done⟩
 have hS1 := hide (fun mask (hm : mask < 256) u hu => say_any x hx.ok hx.st hx.memo hx.few mask hm u b hu)
 have hS2 := hide (fun u hu => say_any _ hx2.ok hx2.st hx2.memo hx2.few 15 (by decide) u b hu)
 have hP2 := hide (hP.set (o := 4) (u := .int .u8 3) (x' := { x with st := 3 }) rfl rfl hn)
 have hz1 : Hid (x.st = 2 → refX x l = (x, [], 14)) := hide (fun h => by simp [refX, h])
 have hz2 : Hid (x.st = 3 → refX x l = (x, sayL x.pm x.st (2 ^ l), 0)) := hide (fun h => by simp [refX, h])
 have hz3 : Hid (x.st = 1 → refX x l = ({ x with st := 3 }, sayL x.pm 3 15, 0)) := hide (fun h => by simp [refX, h])
 have hs3 : x.st = 1 ∨ x.st = 2 ∨ x.st = 3 := by omega
 have hS3 := hide (hS1.out (2 ^ l) (Nat.lt_of_lt_of_le (Nat.pow_lt_pow_right (by decide) hl) (by decide)))
 generalize refX x l = Z at *
 rcases hs3 with h1 | h1 | h1
 ·have hq := hide (hz3.out h1);clear hz1 hz2 hz3 hS1 hS3;obtain ⟨⟨pi, pd, pm, pl, pa, pc⟩, st, he, dn⟩ := x;simp only [Xp.cells] at *;subst h1;go_enter Tryz.func159, Tryz.ntmps159;go_wp2_with fail
  refine (hS2.out _ hP2.out).mono ?_;rintro e w2 ⟨⟨lv, rfl, hr, ho⟩, hb⟩;replace hr := hide hr;replace ho := hide ho;replace hb := hide hb;clear hS2;go_wp2;go_ret2;exact ⟨_, by rw [hq.out]; rfl, by rw [hq.out]; exact Heard.of hP2.out (kept_set _ _ _ _) hb.out hr.out ho.out⟩
 ·have hq := hide (hz1.out h1);clear hz1 hz2 hz3 hS1 hS3 hS2 hP2;obtain ⟨⟨pi, pd, pm, pl, pa, pc⟩, st, he, dn⟩ := x;simp only [Xp.cells] at *;subst h1;go_enter Tryz.func159, Tryz.ntmps159;go_wp2;go_ret2;exact ⟨_, by rw [hq.out]; rfl, by rw [hq.out]; exact Heard.of hP (Kept.refl _ _) (Below.refl _ _) (RowOf.nil _ _) (fun g hg => by simp [Value.ownBlock] at hg)⟩
 ·have hq := hide (hz2.out h1);clear hz1 hz2 hz3 hS1 hS2 hP2;obtain ⟨⟨pi, pd, pm, pl, pa, pc⟩, st, he, dn⟩ := x;simp only [Xp.cells] at *;subst h1;have hl4 : l = 0 ∨ l = 1 ∨ l = 2 ∨ l = 3 := by omega
  rcases hl4 with rfl | rfl | rfl | rfl
  all_goals (
   simp only [Nat.reducePow, Int.natCast_one, Int.cast_ofNat_Int] at hS3 hq;go_enter Tryz.func159, Tryz.ntmps159;go_wp2_with fail
   refine (hS3.out _ hP).mono ?_;rintro e w2 ⟨⟨lv, rfl, hr, ho⟩, hb⟩;replace hr := hide hr;replace ho := hide ho;replace hb := hide hb;clear hS3;go_wp2;go_ret2
   exact ⟨_, by rw [hq.out]; rfl, by rw [hq.out]; exact Heard.of hP (Kept.refl _ _) hb.out hr.out ho.out⟩)
def doneX (x : Xp) (l : Nat) : Xp × Nat := if x.st = 1 then (x, 14) else ({ x with done := withOf x.done l }, 0)
theorem hearDone_any (x : Xp) (hx : x.fine) (l : Nat) (hl : l < 4) (w : World) (b : Nat) (hP : PBox w b x) (hn : ∀ g, x.pm.lv.ownBlock = some g → g ≠ b) :
  Calls Tryz.prog 160 #[.pointer (some ⟨b, 0, none⟩), .int .u8 (l : Int)] w fun e w' => e = .returned (.int .i64 ((doneX x l).2 : Int)) ∧ PBox w' b (doneX x l).1 ∧ Kept (fun k => k = b) w w' := by
 have hc := fun o => cell_at hP.blk o
 have hf := fun o => frozen_at hP.blk o
 have hbl := hP.lt
 have hst := hx.st
 have hwi := u8_with x.done l hx.done hl
 have hP1 := hide (hP.set (o := 6) (u := .int .u8 ((withOf x.done l : Nat) : Int)) (x' := { x with done := withOf x.done l }) rfl rfl hn)
 have hz1 : Hid (x.st = 1 → doneX x l = (x, 14)) := hide (fun h => by simp [doneX, h])
 have hz2 : Hid (x.st ≠ 1 → doneX x l = ({ x with done := withOf x.done l }, 0)) := hide (fun h => by simp [doneX, h])
 generalize doneX x l = Z at *
 generalize withOf x.done l = W at *
 by_cases h1 : x.st = 1
 ·have hq := hide (hz1.out h1);clear hz1 hz2 hP1 hwi;obtain ⟨⟨pi, pd, pm, pl, pa, pc⟩, st, he, dn⟩ := x;simp only [Xp.cells] at *;subst h1;go_enter Tryz.func160, Tryz.ntmps160;go_wp2;go_ret;exact ⟨by rw [hq.out]; rfl, by rw [hq.out]; exact hP, Kept.refl _ _⟩
 ·have hq := hide (hz2.out h1);clear hz1 hz2;obtain ⟨⟨pi, pd, pm, pl, pa, pc⟩, st, he, dn⟩ := x;simp only [Xp.cells] at *;have d1 : ((st : Int) == 1) = false := by simp; omega
  clear h1;have hl4 : l = 0 ∨ l = 1 ∨ l = 2 ∨ l = 3 := by omega
  rcases hl4 with rfl | rfl | rfl | rfl
  all_goals (
   simp only [Nat.reducePow, Int.natCast_one, Int.cast_ofNat_Int] at hwi;go_enter Tryz.func160, Tryz.ntmps160;go_wp2;go_ret
   exact ⟨by rw [hq.out]; rfl, by rw [hq.out]; exact hP1.out, kept_set _ _ _ _⟩)
def hearX (x : Xp) (k l : Nat) : Xp × List (List UInt8) × Nat := if k = 4 then ((prepX x l).1, (prepX x l).2, 0) else if k = 5 then refX x l else ((doneX x l).1, [], (doneX x l).2)
theorem hear_any (x : Xp) (hx : x.fine) (k l : Nat) (hk : k = 4 ∨ k = 5 ∨ k = 6) (hl : l < 4) (w : World) (b : Nat) (hP : PBox w b x) (hn : ∀ g, x.pm.lv.ownBlock = some g → g ≠ b) :
  Calls Tryz.prog 145 #[.pointer (some ⟨b, 0, none⟩), .int .u8 (k : Int), .int .u8 (l : Int)] w fun e w' => ∃ lv, e = .returned (.tuple #[lv, .int .i64 ((hearX x k l).2.2 : Int)]) ∧ Heard w w' b (hearX x k l).1 lv (hearX x k l).2.1 := by
 rcases hk with rfl | rfl | rfl
 ·have hC := hide (hearPrepared_any x hx l hl w b hP hn);have hq : Hid (hearX x 4 l = ((prepX x l).1, (prepX x l).2, 0)) := hide (by simp [hearX]);generalize hearX x 4 l = Z at *;generalize prepX x l = Y at *;go_enter Tryz.func145, Tryz.ntmps145;go_wp2_with fail
  refine (hC.out).mono ?_;rintro e w1 ⟨lv, rfl, hH⟩;replace hH := hide hH;clear hC;go_wp2;go_ret2;exact ⟨_, by rw [hq.out]; rfl, by rw [hq.out]; exact hH.out⟩
 ·have hC := hide (hearRefused_any x hx l hl w b hP hn);have hq : Hid (hearX x 5 l = refX x l) := hide (by simp [hearX]);generalize hearX x 5 l = Z at *;generalize refX x l = Y at *;obtain ⟨y1, y2, y3⟩ := Y;simp only at hC;go_enter Tryz.func145, Tryz.ntmps145;go_wp2_with fail
  refine (hC.out).mono ?_;rintro e w1 ⟨lv, rfl, hH⟩;replace hH := hide hH;clear hC;go_wp2;go_ret2;exact ⟨_, by rw [hq.out]; rfl, by rw [hq.out]; exact hH.out⟩
 ·have hC := hide (hearDone_any x hx l hl w b hP hn);have hq : Hid (hearX x 6 l = ((doneX x l).1, [], (doneX x l).2)) := hide (by simp [hearX]);generalize hearX x 6 l = Z at *;generalize doneX x l = Y at *;obtain ⟨y1, y2⟩ := Y;simp only at hC hq;go_enter Tryz.func145, Tryz.ntmps145;go_wp2_with fail
  refine (hC.out).mono ?_;rintro e w1 ⟨rfl, hB, hK⟩;replace hB := hide hB;replace hK := hide hK;clear hC;go_wp2;go_ret2;exact ⟨_, by rw [hq.out]; rfl, by rw [hq.out]; exact Heard.of hB.out hK.out (Below.refl _ _) (RowOf.nil _ _) (fun g hg => by simp [Value.ownBlock] at hg)⟩
theorem xfault_any (p : Pm) (hp : p.ok) (hm : p.memo.length ≤ 140737488351232) (hll : p.legs.length ≤ 11728124029269) (w : World) (hR : LegsAt w p.la p.legs) :
  Calls Tryz.prog 59 #[p.v] w fun e w' => e = .returned (.int .i64 (wrongOf p : Int)) ∧ Below w.heap.size w w' := by
 obtain ⟨pi, pd, pm, pl, pa, pc⟩ := p
 obtain ⟨hpi, hpd, hpl⟩ := hp
 simp only [Pm.v, Pm.lv] at *
 have hms : (bs pm).size ≤ maxLen := by rw [bs_size]; unfold maxLen; omega
 have hIs := hide (fun n (hn : n < 256) u => isBank_any n hn u)
 go_enter Tryz.func59, Tryz.ntmps59
 by_cases hz : pl.length = 0
 ·have hq : Hid (wrongOf ⟨pi, pd, pm, pl, pa, pc⟩ = 5) := hide (by simp [wrongOf, hz]);have dz : ((pl.length : Int) == 0) = true := by simp [hz]
  go_wp2;go_ret;refine ⟨by rw [hq.out]; rfl, ?_⟩;exact (Below.refl _ _).alloc (Nat.le_refl _) _
 by_cases h4 : 4 < pl.length
 ·have hq : Hid (wrongOf ⟨pi, pd, pm, pl, pa, pc⟩ = 5) := hide (by simp [wrongOf, h4]);have dz : ((pl.length : Int) == 0) = false := by simp [hz]
  have dz4 : decide ((pl.length : Int) > 4) = true := by simp; omega
  have dz5 : decide ((4 : Int) < (pl.length : Int)) = true := by simp; omega
  go_wp2;go_ret;refine ⟨by rw [hq.out]; rfl, ?_⟩;exact (Below.refl _ _).alloc (Nat.le_refl _) _
 have dz : ((pl.length : Int) == 0) = false := by simp [hz]
 have dz4 : decide ((pl.length : Int) > 4) = false := by simp; omega
 have hw : Hid (wrongOf ⟨pi, pd, pm, pl, pa, pc⟩ = if legsErr pl = 0 then (if memoB pm then 0 else 7) else legsErr pl) := hide (by simp [wrongOf, hz, h4])
 go_wp2
 go_loopw [17] (fun c u => ∃ k : Nat, k ≤ pl.length ∧ c = .int .i64 k ∧ legsErr (pl.take k) = 0 ∧ u = w.alloc (.cells #[.int .u32 (pi : Int), .int .u64 (pd : Int), .string (bs pm), .slice pa pl.length pc] 69)) (fun c _ => pl.length - (intOf c).toNat)
 case atStart => exact ⟨0, Nat.zero_le _, rfl, rfl, rfl⟩
 case round =>
  obtain ⟨k, hk, rfl, he, rfl⟩ := hrel;have hb : Hid (Below w.heap.size w (w.alloc (.cells #[.int .u32 (pi : Int), .int .u64 (pd : Int), .string (bs pm), .slice pa pl.length pc] 69))) := hide ((Below.refl _ _).alloc (Nat.le_refl _) _);by_cases hlt : k < pl.length
  ·have hlk : (k : Int) < (pl.length : Int) := by omega
   have dl : decide ((k : Int) < (pl.length : Int)) = true := by simp; omega
   obtain ⟨ga, hg, hgl, hcell⟩ := (hR.below hb.out) k hlt;subst hg;have c0 := hcell 0 _ rfl;rw [show (ga.add (k * 4)).add 0 = ga.add (k * 4) from rfl] at c0;have c3 : World.cell? _ ⟨(ga.add (k * 4)).block, (ga.add (k * 4)).off + 3, none⟩ = _ := hcell 3 _ rfl;have hek := hpl pl[k] (List.getElem_mem hlt);have hat := hide (legsErr_at hlt he);have hnx := hide (legsErr_next hlt he);clear hcell hpl hR;generalize pl[k] = E at *;obtain ⟨lb, lp, lg, la⟩ := E;obtain ⟨hlb, hlp, hlg, hla⟩ := hek;simp only at c0 c3;simp only at hlb hlp hlg hla;have hIb := hide (hIs.out lb hlb);clear hIs;cases hbb : bankB lb with
   | false =>
    rw [hbb] at hIb
    have hno : lb < 1 ∨ 7 < lb := by
     simp only [bankB, Bool.and_eq_false_iff, decide_eq_false_iff_not] at hbb;omega
    have hq : Hid (wrongOf ⟨pi, pd, pm, pl, some ga, pc⟩ = 4) := hide (by
     have e : plErr ⟨lb, lp, lg, la⟩ = 4 := by simp only [plErr, if_pos hno]
     rw [hw.out, hat.out (by rw [e]; decide), e]; rfl)
    clear hat hnx hw hno hbb;go_wp2_with fail
    refine (hIb.out _).mono ?_;rintro e w1 ⟨rfl, rfl⟩;clear hIb;go_wp2;go_ret;exact ⟨by rw [hq.out]; rfl, hb.out⟩
   | true =>
    rw [hbb] at hIb
    have hyes : ¬ (lb < 1 ∨ 7 < lb) := by
     simp only [bankB, Bool.and_eq_true, decide_eq_true_eq] at hbb;omega
    clear hbb;by_cases ha : la = 0
    ·have hq : Hid (wrongOf ⟨pi, pd, pm, pl, some ga, pc⟩ = 6) := hide (by
      have e : plErr ⟨lb, lp, lg, la⟩ = 6 := by simp only [plErr, if_neg hyes, if_pos (show la < 1 by omega)]
      rw [hw.out, hat.out (by rw [e]; decide), e]; rfl)
     clear hat hnx hw hyes;subst ha;go_wp2_with fail
     refine (hIb.out _).mono ?_;rintro e w1 ⟨rfl, rfl⟩;clear hIb;go_wp2;go_ret;exact ⟨by rw [hq.out]; rfl, hb.out⟩
    ·have da : ((la : Int) == 0) = false := by simp; omega
     have hq := hide (hnx.out (by simp only [plErr, if_neg hyes, if_neg (show ¬ la < 1 by omega)]));clear hat hnx hw hyes ha;go_wp2_with fail
     refine (hIb.out _).mono ?_;rintro e w1 ⟨rfl, rfl⟩;clear hIb;go_wp2;exact ⟨⟨k + 1, hlt, by go_num, hq.out, trivial⟩, by simp [intOf]; omega⟩
  ·obtain rfl : k = pl.length := by omega
   have dl : decide ((pl.length : Int) < (pl.length : Int)) = false := by simp
   rw [List.take_length] at he;have hq : Hid (wrongOf ⟨pi, pd, pm, pl, pa, pc⟩ = if memoB pm then 0 else 7) := hide (by rw [hw.out]; simp [he]);have hmd := hide (bs_data pm);clear hw he hIs;go_wp2_with fail
   refine (isMemo_any (bs pm) hms _).mono ?_;rintro e w1 ⟨rfl, rfl⟩;rw [hmd.out];cases hbb : memoB pm with
   | true =>
    rw [hbb] at hq;clear hbb;go_wp2;go_ret;exact ⟨by rw [hq.out]; rfl, hb.out⟩
   | false =>
    rw [hbb] at hq;clear hbb;go_wp2;go_ret;exact ⟨by rw [hq.out]; rfl, hb.out⟩
theorem wpList_legs0 {ops : Array Oper} {rest : List Oper} {o : Oper} {a : Act} {w : World} {Q : Exit → Act → World → Prop} (hgd : o.guard = none) (s x : Operand)
  (ho : o.op = .call { callee := .builtin .append, args := #[s, x], argTypes := #[29, 29] }) (v : Value) (hs : a.eval s = v) (hv : RowOf w 67 4 Pl.cells v []) (la : Option Addr) (legs : List Pl) (c : Nat) (hx : a.eval x = .slice la legs.length c) (hL : LegsAt w la legs) (h0 : 0 < legs.length) (hlen : legs.length ≤ 1000000)
  (h : ∀ g cap w', RowOf w' 67 4 Pl.cells (.slice (some ⟨g, 0, none⟩) legs.length cap) legs → Kept (fun k => v.ownBlock = some k) w w' → (v.ownBlock = some g ∨ w.heap.size ≤ g) → g < w'.heap.size → wpList Tryz.prog ops Q rest (a.put o.dst (.slice (some ⟨g, 0, none⟩) legs.length cap)) w') : wpList Tryz.prog ops Q (o :: rest) a w := by
 obtain ⟨i0, hi, y0, y1, y2⟩ := info_parts plInfo
 obtain ⟨ad, e, _, _⟩ := hL 0 h0
 subst e
 refine wpList_append_lies w hgd s x 29 ho 0 67 i0 _ 4 12 Tryz.underlying29 hi y0 y1 y2 rfl (by decide) v 0 [] hs hv ad legs.length c (legs.flatMap Pl.cells) hx (flat_length Pl.cells_length legs) ?_ ?_ h0 (by unfold maxLen; omega) (by omega) (Nat.zero_le _) _ rfl ?_
 ·intro j u hu;have hjl := (List.getElem?_eq_some_iff.1 hu).1;rw [flat_length Pl.cells_length] at hjl;have hk : j / 4 < legs.length := by omega
  have e : j = (j / 4) * 4 + j % 4 := by omega
  rw [e, flat_get Pl.cells_length legs (j / 4) (j % 4) hk (by omega)] at hu;obtain ⟨a', e', _, hc⟩ := hL (j / 4) hk;injection e' with e'
  subst e';have := hc (j % 4) u hu;rw [addr_add, ← e] at this;exact this
 ·intro u hu;obtain ⟨y, _, hy⟩ := List.mem_flatMap.1 hu;exact pl_each y u hy
 ·intro g cap w' hown hgrow hat hlt;rw [Nat.zero_add] at hown;rw [Nat.zero_add];exact h g cap w' (RowOf.to (xs := ([] : List Pl)) Pl.cells_length (ys := legs) hown (by simp) rfl) (Kept.of_grown hgrow) (hat.imp_right (fun e => by omega)) hlt
theorem copyOf_any (p : Pm) (hp : p.ok) (hm : p.memo.length ≤ 1000) (h0 : 0 < p.legs.length) (h4 : p.legs.length ≤ 4) (w : World) (hR : LegsAt w p.la p.legs) :
  Calls Tryz.prog 63 #[p.v] w fun e w' => (∃ g lc, e = .returned (⟨p.id, p.dl, p.memo, p.legs, some ⟨g, 0, none⟩, lc⟩ : Pm).v ∧ w.heap.size ≤ g ∧ RowOf w' 67 4 Pl.cells (.slice (some ⟨g, 0, none⟩) p.legs.length lc) p.legs) ∧ Below w.heap.size w w' := by
 obtain ⟨pi, pd, pm, pl, pa, pc⟩ := p
 obtain ⟨hpi, hpd, hpl⟩ := hp
 simp only [Pm.v, Pm.lv] at *
 obtain ⟨W, cap, h1, h2, h3, h5, h6⟩ := bytes_laid2 ((w.alloc (.cells #[.int .u32 (pi : Int), .int .u64 (pd : Int), .string (bs pm), .slice pa pl.length pc] 69)).alloc (.cells #[.int .u32 0, .int .u64 0, .string ⟨#[]⟩, .slice none 0 0] 69)) pm
 have h1' := h1 _ rfl
 have hN : ((w.alloc (.cells #[.int .u32 (pi : Int), .int .u64 (pd : Int), .string (bs pm), .slice pa pl.length pc] 69)).alloc (.cells #[.int .u32 0, .int .u64 0, .string ⟨#[]⟩, .slice none 0 0] 69)).heap.size = w.heap.size + 1 + 1 := by simp
 have B2 : W.heap[w.heap.size]? = some (.cells #[.int .u32 (pi : Int), .int .u64 (pd : Int), .string (bs pm), .slice pa pl.length pc] 69 (0, 0)) := by
  rw [h2.block _ (by rw [hN]; omega), Below.heap_alloc _ _ _ (by simp)];exact heap_alloc_self _ _
 have B3 : W.heap[w.heap.size + 1]? = some (.cells #[.int .u32 0, .int .u64 0, .string ⟨#[]⟩, .slice none 0 0] 69 (0, 0)) := by
  rw [h2.block _ (by rw [hN]; omega)];have e : w.heap.size + 1 = (w.alloc (.cells #[.int .u32 (pi : Int), .int .u64 (pd : Int), .string (bs pm), .slice pa pl.length pc] 69)).heap.size := by simp
  rw [e];exact heap_alloc_self _ _
 have hbel : Below w.heap.size w W := (((Below.refl _ _).alloc (Nat.le_refl _) _).alloc (by simp) _).trans (h2.mono (by rw [hN]; omega))
 rw [hN] at h1' h3 h5
 have hc2 : ∀ o, W.cell? ⟨w.heap.size, o, none⟩ = (#[.int .u32 (pi : Int), .int .u64 (pd : Int), .string (bs pm), .slice pa pl.length pc] : Array Value)[o]? := fun o => cell_at B2 o
 have hl2 := block_lt B2
 have hvoid : Below W.heap.size W (W.alloc (.cells #[] 67)) := (Below.refl _ _).alloc (Nat.le_refl _) _
 have hLA := hide ((hR.below hbel).below hvoid)
 have hRV := RowOf.void (f := Pl.cells) (sz := 4) W 67
 rw [h3] at hRV
 replace hRV := hide hRV
 replace B2 := hide B2
 replace B3 := hide B3
 replace h5 := hide h5
 replace hbel := hide hbel
 clear h1 h2 h6 hN
 go_enter Tryz.func63, Tryz.ntmps63
 go_wp2_with (first | (at_builtin; refine stopAt2 ?_))
 refine hide ?_
 refine wpList_legs0 (by rfl) _ _ (by rfl) _ (by rfl) hRV.out pa pl pc (by rfl) hLA.out h0 (by omega) ?_
 intro gL cL w6 hrL hk6 hg6 hlt6
 have hown : ∀ k, (Value.slice (some ⟨w.heap.size + 1 + 1 + 1, 0, none⟩) 0 0).ownBlock = some k → k = w.heap.size + 1 + 1 + 1 := fun k hk => by
  have : w.heap.size + 1 + 1 + 1 = k := by simpa [Value.ownBlock] using hk
  omega
 have hkW : Kept (fun k => k = w.heap.size + 1 + 1 + 1) W w6 := (Kept.of_below hvoid).trans (hk6.mono (fun i _ h => hown i h)) (fun i h => .inl h)
 have B26 : w6.heap[w.heap.size]? = some (.cells #[.int .u32 (pi : Int), .int .u64 (pd : Int), .string (bs pm), .slice pa pl.length pc] 69 (0, 0)) := by rw [hkW.block _ (by omega) (by omega)]; exact B2.out
 have B36 : w6.heap[w.heap.size + 1]? = some (.cells #[.int .u32 0, .int .u64 0, .string ⟨#[]⟩, .slice none 0 0] 69 (0, 0)) := by rw [hkW.block _ (by omega) (by omega)]; exact B3.out
 have h6 := bytes_read w6 (w.heap.size + 1 + 1) cap pm (fun j hj => (hkW.cell (p := ⟨w.heap.size + 1 + 1, j, none⟩) (by show w.heap.size + 1 + 1 < W.heap.size; omega) (by show ¬ w.heap.size + 1 + 1 = _; omega)).trans (h5.out j hj))
 have hgL : w.heap.size ≤ gL := by
  rcases hg6 with h | h
  ·have := hown _ h; omega
  ·have : W.heap.size ≤ gL := Nat.le_trans hvoid.size h;omega
 have hgL3 : gL ≠ w.heap.size + 1 := by
  rcases hg6 with h | h
  ·have := hown _ h; omega
  ·have : W.heap.size ≤ gL := Nat.le_trans hvoid.size h;omega
 have hb6 : Below w.heap.size w w6 := hbel.out.trans (hkW.below hbel.out.size (fun k e => by omega))
 have hc6 : ∀ o, w6.cell? ⟨w.heap.size, o, none⟩ = (#[.int .u32 (pi : Int), .int .u64 (pd : Int), .string (bs pm), .slice pa pl.length pc] : Array Value)[o]? := fun o => cell_at B26 o
 have hc3 : ∀ o, w6.cell? ⟨w.heap.size + 1, o, none⟩ = (#[.int .u32 0, .int .u64 0, .string ⟨#[]⟩, .slice none 0 0] : Array Value)[o]? := fun o => cell_at B36 o
 have hf3 : ∀ o, w6.frozen? ⟨w.heap.size + 1, o, none⟩ = false := fun o => frozen_at B36 o
 have hl3 := block_lt B36
 have hl26 := block_lt B26
 have hP := putL_whole [.int .u32 (pi : Int), .int .u64 (pd : Int), .string (bs pm), .slice (some ⟨gL, 0, none⟩) pl.length cL] B36 rfl
 have hkp := putL_kept [.int .u32 (pi : Int), .int .u64 (pd : Int), .string (bs pm), .slice (some ⟨gL, 0, none⟩) pl.length cL] w6 (w.heap.size + 1) 0
 have hB := hb6.trans (hkp.below hb6.size (fun k e => by omega))
 have hrL2 := hrL.kept hkp (fun k hk e => hgL3 (by
  have h1 : gL = k := by simpa [Value.ownBlock] using hk
  have h2 : k = w.heap.size + 1 := e
  omega))
 clear hLA hRV h5 B2 B3 hk6 hg6 hkW hc2 hbel hrL B26 B36 h1' hvoid
 replace hB := hide hB
 replace hrL2 := hide hrL2
 replace hP := hide hP
 replace hb6 := hide hb6
 go_wp2_with fail
 have hq := fun o => cell_at hP.out o
 have hB9 := hB.out
 have hr9 := hrL2.out
 simp only [putL] at hq hB9 hr9
 generalize World.setCell _ _ _ = u at *
 exact bodyPost_ret (v := .agg #[.int .u32 (pi : Int), .int .u64 (pd : Int), .string (bs pm), .slice (some ⟨gL, 0, none⟩) pl.length cL]) (by simp [results, Tryz.results63, go_sem, hq]) rfl ⟨⟨gL, cL, rfl, hgL, hr9⟩, hB9⟩
theorem isSame_any (a b : Pm) (ha : a.ok) (hb : b.ok) (hal : a.legs.length ≤ 4) (w : World) (hA : RowOf w 67 4 Pl.cells a.lv a.legs) (hB : RowOf w 67 4 Pl.cells b.lv b.legs) (hbl : b.legs.length ≤ 11728124029269) :
  Calls Tryz.prog 61 #[a.v, b.v] w fun e w' => e = .returned (.bool (sameOf a b)) ∧ Below w.heap.size w w' := by
 have hT0 := hide (TwoP.mk2 w a b)
 obtain ⟨ai, ad, am, al, aa, ac⟩ := a
 obtain ⟨bi, bd, bm, bl, ba, bc⟩ := b
 obtain ⟨hai, had, hao⟩ := ha
 obtain ⟨hbi, hbd, hbo⟩ := hb
 simp only [Pm.v, Pm.lv] at *
 have hsame : Hid (sameOf ⟨ai, ad, am, al, aa, ac⟩ ⟨bi, bd, bm, bl, ba, bc⟩ = (ai == bi && ad == bd && am == bm && al.length == bl.length && lsSame al bl)) := hide rfl
 go_enter Tryz.func61, Tryz.ntmps61
 by_cases h1 : ai = bi
 case neg =>
  have d1 : ((ai : Int) != (bi : Int)) = true := by simp; omega
  have hq : Hid (sameOf ⟨ai, ad, am, al, aa, ac⟩ ⟨bi, bd, bm, bl, ba, bc⟩ = false) := hide (by rw [hsame.out]; simp [h1]);clear h1 hsame;go_wp2;go_ret;exact ⟨by rw [hq.out]; rfl, hT0.out.bel⟩
 have d1 : ((ai : Int) != (bi : Int)) = false := by simp; omega
 by_cases h2 : ad = bd
 case neg =>
  have d2 : ((ad : Int) != (bd : Int)) = true := by simp; omega
  have hq : Hid (sameOf ⟨ai, ad, am, al, aa, ac⟩ ⟨bi, bd, bm, bl, ba, bc⟩ = false) := hide (by rw [hsame.out]; simp [h2]);clear h1 h2 hsame;go_wp2;go_ret;exact ⟨by rw [hq.out]; rfl, hT0.out.bel⟩
 have d2 : ((ad : Int) != (bd : Int)) = false := by simp; omega
 by_cases h3 : am = bm
 case neg =>
  have d3 : ((bs am).toList == (bs bm).toList) = false := by rw [bs_same]; simpa using h3
  have d3' : ((bs am).toList != (bs bm).toList) = true := by rw [bne, d3]; rfl
  have hq : Hid (sameOf ⟨ai, ad, am, al, aa, ac⟩ ⟨bi, bd, bm, bl, ba, bc⟩ = false) := hide (by rw [hsame.out]; simp [h3]);clear h1 h2 h3 hsame;go_wp2;go_ret;exact ⟨by rw [hq.out]; rfl, hT0.out.bel⟩
 have d3 : ((bs am).toList == (bs bm).toList) = true := by rw [bs_same]; simpa using h3
 have d3' : ((bs am).toList != (bs bm).toList) = false := by rw [bne, d3]; rfl
 by_cases h4 : al.length = bl.length
 case neg =>
  have d4 : ((al.length : Int) != (bl.length : Int)) = true := by simp; omega
  have hq : Hid (sameOf ⟨ai, ad, am, al, aa, ac⟩ ⟨bi, bd, bm, bl, ba, bc⟩ = false) := hide (by rw [hsame.out]; simp [h4]);clear h1 h2 h3 h4 hsame;go_wp2;go_ret;exact ⟨by rw [hq.out]; rfl, hT0.out.bel⟩
 have d4 : ((al.length : Int) != (bl.length : Int)) = false := by simp; omega
 have hq : Hid (sameOf ⟨ai, ad, am, al, aa, ac⟩ ⟨bi, bd, bm, bl, ba, bc⟩ = lsSame al bl) := hide (by rw [hsame.out]; simp [h1, h2, h3, h4])
 clear h1 h2 h3 hsame
 replace h4 := hide h4
 go_wp2
 go_loopw [35] (fun c u => ∃ k : Nat, k ≤ al.length ∧ c = .int .i64 k ∧ lsSame (al.take k) (bl.take k) = true ∧ TwoP w ⟨ai, ad, am, al, aa, ac⟩ ⟨bi, bd, bm, bl, ba, bc⟩ u) (fun c _ => al.length - (intOf c).toNat)
 case atStart => exact ⟨0, Nat.zero_le _, rfl, rfl, hT0.out⟩
 case round =>
  clear hT0 d1 d2 d3 d3' d4;obtain ⟨k, hk, rfl, he, hT⟩ := hrel;have hA' := hide (hA.below hT.bel);have hB' := hide (hB.below hT.bel);have hca : ∀ o, wr.cell? ⟨w.heap.size, o, none⟩ = (#[.int .u32 (ai : Int), .int .u64 (ad : Int), .string (bs am), .slice aa al.length ac] : Array Value)[o]? := fun o => cell_at hT.one o;have hcb : ∀ o, wr.cell? ⟨w.heap.size + 1, o, none⟩ = (#[.int .u32 (bi : Int), .int .u64 (bd : Int), .string (bs bm), .slice ba bl.length bc] : Array Value)[o]? := fun o => cell_at hT.two o;have hl1 := block_lt hT.one;have hl2 := block_lt hT.two;replace hT := hide hT;by_cases hlt : k < al.length
  ·have hlt2 : k < bl.length := by have := h4.out; omega
   have hlk : (k : Int) < (al.length : Int) := by omega
   have hlk2 : (k : Int) < (bl.length : Int) := by omega
   have dl : decide ((k : Int) < (al.length : Int)) = true := by simp; omega
   obtain ⟨ad', cap', hv', hev'⟩ := hA'.out.form Pl.cells_length;obtain ⟨g, hg, hcell, _⟩ := hev' k hlt;have ead : aa = ad' := by injection hv'
   subst ead;subst hg;have hgl : g < wr.heap.size := hA'.out.lt rfl;have a0 := hcell 0 (by decide);have a1 := hcell 1 (by decide);have a2 := hcell 2 (by decide);have a3 := hcell 3 (by decide);clear hcell hev' hv';obtain ⟨ad', cap', hv', hev'⟩ := hB'.out.form Pl.cells_length;obtain ⟨f, hf, hcell, _⟩ := hev' k hlt2;have ead : ba = ad' := by injection hv'
   subst ead;subst hf;have hfl : f < wr.heap.size := hB'.out.lt rfl;have b0 := hcell 0 (by decide);have b1 := hcell 1 (by decide);have b2 := hcell 2 (by decide);have b3 := hcell 3 (by decide);clear hcell hev' hv';have hoa := hao al[k] (List.getElem_mem hlt);have hob := hbo bl[k] (List.getElem_mem hlt2);have hat := hide (lsSame_at k hlt hlt2 he);have hnx := hide (lsSame_next k hlt hlt2 he);clear hao hbo hA hB hA' hB' he;generalize al[k] = E at *;generalize bl[k] = F at *;obtain ⟨xb, xp, xg, xa⟩ := E;obtain ⟨yb, yp, yg, ya⟩ := F;simp only [Pl.cells, List.getElem?_cons_zero, List.getElem?_cons_succ, Nat.add_zero] at a0 a1 a2 a3 b0 b1 b2 b3;by_cases e0 : xb = yb
   case neg =>
    have q0 : ((xb : Int) == (yb : Int)) = false := by simp; omega
    have hq2 := hide (hq.out.trans (hat.out (by simp [plSame, e0])));clear hat hnx hq e0 h4;go_wp2_with fail
    go_quiet (fail)
    go_wp2;go_ret;exact ⟨by rw [hq2.out]; rfl, hT.out.bel.drewN _⟩
   have q0 : ((xb : Int) == (yb : Int)) = true := by simp; omega
   by_cases e1 : xp = yp
   case neg =>
    have q1 : ((xp : Int) == (yp : Int)) = false := by simp; omega
    have hq2 := hide (hq.out.trans (hat.out (by simp [plSame, e1])));clear hat hnx hq e0 e1 h4;go_wp2_with fail
    go_quiet (fail)
    go_wp2;go_ret;exact ⟨by rw [hq2.out]; rfl, hT.out.bel.drewN _⟩
   have q1 : ((xp : Int) == (yp : Int)) = true := by simp; omega
   by_cases e2 : xg = yg
   case neg =>
    have q2 : ((xg : Int) == (yg : Int)) = false := by simp; omega
    have hq2 := hide (hq.out.trans (hat.out (by simp [plSame, e2])));clear hat hnx hq e0 e1 e2 h4;go_wp2_with fail
    go_quiet (fail)
    go_wp2;go_ret;exact ⟨by rw [hq2.out]; rfl, hT.out.bel.drewN _⟩
   have q2 : ((xg : Int) == (yg : Int)) = true := by simp; omega
   by_cases e3 : xa = ya
   case neg =>
    have q3 : ((xa : Int) == (ya : Int)) = false := by simp; omega
    have hq2 := hide (hq.out.trans (hat.out (by simp [plSame, e3])));clear hat hnx hq e0 e1 e2 e3 h4;go_wp2_with fail
    go_quiet (fail)
    go_wp2;go_ret;exact ⟨by rw [hq2.out]; rfl, hT.out.bel.drewN _⟩
   have q3 : ((xa : Int) == (ya : Int)) = true := by simp; omega
   have hq2 := hide (hnx.out (by simp [plSame, e0, e1, e2, e3]));clear hat hnx h4 e0 e1 e2 e3;go_wp2_with fail
   go_quiet (fail)
   go_wp2;exact ⟨⟨k + 1, hlt, by go_num, hq2.out, hT.out.below ((Below.refl _ _).drewN _)⟩, by simp [intOf]; omega⟩
  ·obtain rfl : k = al.length := by omega
   have dl : decide ((al.length : Int) < (al.length : Int)) = false := by simp
   rw [List.take_length, h4.out, List.take_length] at he;go_wp2;go_ret;exact ⟨by rw [hq.out, he]; rfl, hT.out.bel⟩
end Go.Proofs.YtjkhbjgfoopomabGreat
