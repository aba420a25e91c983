import Derived.Test.YtjkhbjgfoopomaaR24
import Derived.Test.YtjkhbjgfoopomaaR10
/-
  The program's Bank.prepare.
-/
namespace Go.Proofs.Ytjkhbjgfoopomaa
open Go.RowKit
set_option linter.unusedVariables false
set_option linter.unusedSimpArgs false

set_option maxRecDepth 100000 in
set_option maxHeartbeats 1000000 in
theorem prep_new (f t i l p g a : Nat) (m : List UInt8) (hm : m.length ≤ 64) (kk : Int) (hi : i < 4294967296) (hl : l < 256) (hp : p < 65536) (hg : g < 65536) (ha : a < 4294967296) (w : World) (B node : Nat) (ac : List Ac) (ls : List Lg) (va vl : Value) (hX : XB w B node ac ls va vl) (hap : Apart B va vl) (hoka : ∀ x, x ∈ ac → x.ok) (hokl : ∀ x, x ∈ ls → x.ok) (hlena : ac.length ≤ 1000000) (hlenl : ls.length < 128)
    (hh : ∀ a, heldL a ls ≤ balL a ac) (hd : ∀ a, dueL a ls < 4294967296) (hj : ls.length ≤ findB i l ls) (st : Nat) (hst : st = if canX p g a ac ls then 1 else 2) :
    Calls Try.prog 121 #[.pointer (some ⟨B, 0, none⟩), .agg #[.int .u8 kk, .int .u8 (f : Int), .int .u8 (t : Int), .int .u32 (i : Int), .int .u8 (l : Int), .int .u16 (p : Int), .int .u16 (g : Int), .int .u32 (a : Int), .string (bs m)]] w fun e w' =>
      e = .returned (.tuple #[.int .u8 (st : Int), .int .i64 0]) ∧ ∃ k vl', k ≤ ls.length ∧ (∀ q (hq : q < ls.length), k ≤ q → aheadB ⟨i, l, st, p, g, a, m⟩ ls[q] = true) ∧ (∀ j (hj : j < ls.length), k = j + 1 → aheadB ⟨i, l, st, p, g, a, m⟩ ls[j] = false) ∧ XBTo w w' B node ac (insAt ⟨i, l, st, p, g, a, m⟩ k ls) va vl va vl' := by
  have hTm := hide (fun u => termsOf_any 0 f t i l p g a m hm kk u)
  have hF := hide (fun u (hu : XB u B node ac ls va vl) => find_any i l hi hl u B node ac ls va vl hu hokl (by omega))
  have hCn := hide (fun u (hu : XB u B node ac ls va vl) => canHold_any p g a m hp hg ha u B node ac ls va vl hu hoka hokl hlena (by omega) hh hd)
  have hst2 : st < 256 := by rw [hst]; split <;> omega
  have hK := hide (fun u (hu : XB u B node ac ls va vl) => keep_any ⟨i, l, st, p, g, a, m⟩ ⟨hi, hl, hst2, hp, hg, ha⟩ u B node ac ls va vl hu hap hokl hlenl)
  clear hh hd
  generalize canX p g a ac ls = cx at *
  generalize findB i l ls = j at *
  simp only at hK
  obtain ⟨ad, cap, hv, hev⟩ := hX.lrow.form Lg.cells_length
  subst hv
  clear hev
  have hc : ∀ o, _ = _ := fun o => cell_at hX.blk o
  have hBl := hX.lt
  have d1 : decide ((j : Int) < (ls.length : Int)) = false := by simp; omega
  have main : ∀ (sn : Int), (st : Int) = sn → cx = decide (sn = 1) → (sn = 1 ∨ sn = 2) → Calls Try.prog 121 #[.pointer (some ⟨B, 0, none⟩), .agg #[.int .u8 kk, .int .u8 (f : Int), .int .u8 (t : Int), .int .u32 (i : Int), .int .u8 (l : Int), .int .u16 (p : Int), .int .u16 (g : Int), .int .u32 (a : Int), .string (bs m)]] w fun e w' =>
      e = .returned (.tuple #[.int .u8 (st : Int), .int .i64 0]) ∧ ∃ k vl', k ≤ ls.length ∧ (∀ q (hq : q < ls.length), k ≤ q → aheadB ⟨i, l, st, p, g, a, m⟩ ls[q] = true) ∧ (∀ j (hj : j < ls.length), k = j + 1 → aheadB ⟨i, l, st, p, g, a, m⟩ ls[j] = false) ∧ XBTo w w' B node ac (insAt ⟨i, l, st, p, g, a, m⟩ k ls) va (.slice ad ls.length cap) va vl' := by
    intro sn hsn hcx hor
    rw [hsn] at hK ⊢
    clear hsn hst hst2
    go_enter Try.func121, Try.ntmps121
    go_wp2_with fail
    refine (hTm.out _).mono ?_
    rintro e w1 ⟨rfl, hb1⟩
    have B1 := (Box.mk0 _ _ _).below hb1
    have hcm := B1.cell
    have hltm := B1.lt
    clear hTm hb1
    go_wp2_with fail
    refine (hF.out _ (hX.below (B1.alloc _).bel)).mono ?_
    rintro e w2 ⟨rfl, rfl⟩
    have B2 := B1.alloc (.cells #[.int .u16 (p : Int), .int .u16 (g : Int), .int .u32 (a : Int), .string (bs m)] 166)
    have hXb := hX.below B2.bel
    clear hF hc
    have hc : ∀ o, _ = _ := fun o => cell_at hXb.blk o
    go_wp2_with fail
    refine (hCn.out _ hXb).mono ?_
    rintro e w3 ⟨rfl, hb3⟩
    have B3 := B2.below hb3
    have hct := fun o => cel_kept hb3 o
    have hltt := lt_kept hb3
    have hXc := hX.below B3.bel
    clear hcm hltm hCn hb3 hc
    have hcm := B3.cell
    have hltm := B3.lt
    rcases hor with rfl | rfl
    · simp only [decide_true] at hcx
      subst hcx
      go_wp2_with fail
      refine (hK.out _ hXc).mono ?_
      rintro e w4 ⟨rfl, k, vl', h1, h2, h3, h4⟩
      have H := hide (And.intro h1 (And.intro h2 (And.intro h3 (XBTo.from B3.bel h4))))
      clear h1 h2 h3 h4 hK hcm hct
      go_wp2
      go_ret2
      first
        | exact ⟨rfl, k, vl', H.out.1, H.out.2.1, H.out.2.2.1, H.out.2.2.2⟩
        | exact ⟨rfl, k, H.out.1, H.out.2.1, H.out.2.2.1, vl', H.out.2.2.2⟩
    · have hcx' : cx = false := by rw [hcx]; decide
      subst hcx'
      clear hcx
      go_wp2_with fail
      refine (hK.out _ hXc).mono ?_
      rintro e w4 ⟨rfl, k, vl', h1, h2, h3, h4⟩
      have H := hide (And.intro h1 (And.intro h2 (And.intro h3 (XBTo.from B3.bel h4))))
      clear h1 h2 h3 h4 hK hcm hct
      go_wp2
      go_ret2
      first
        | exact ⟨rfl, k, vl', H.out.1, H.out.2.1, H.out.2.2.1, H.out.2.2.2⟩
        | exact ⟨rfl, k, H.out.1, H.out.2.1, H.out.2.2.1, vl', H.out.2.2.2⟩
  cases cx with
  | true => exact main 1 (by rw [hst]; rfl) (by decide) (.inl rfl)
  | false => exact main 2 (by rw [hst]; rfl) (by decide) (.inr rfl)
end Go.Proofs.Ytjkhbjgfoopomaa
