import Derived.Test.YtjkhbjgfoopomaaGreatGPrep
/-
  The program's Bank.reject and Bank.prepare where no leg more can be kept.
-/
namespace Go.Proofs.YtjkhbjgfoopomaaGreat
open Go.RowKit
set_option linter.unusedVariables false
set_option linter.unusedSimpArgs false

set_option maxRecDepth 100000 in
set_option maxHeartbeats 1000000 in
theorem rej_full (f t i l p g a : Nat) (m : List UInt8) (kk : Int) (hi : i < 4294967296) (hl : l < 256) (w : World) (B node : Nat) (ac : List Ac) (ls : List Lg) (va vl : Value) (hX : XB w B node ac ls va vl) (hap : Apart B va vl) (hokl : ∀ x, x ∈ ls → x.ok) (hlenl : 128 ≤ ls.length) (hlen2 : ls.length ≤ 1000000) (hj : ls.length ≤ findB i l ls) :
    Calls Tryz.prog 121 #[.pointer (some ⟨B, 0, none⟩), .agg #[.int .u8 kk, .int .u8 (f : Int), .int .u8 (t : Int), .int .u32 (i : Int), .int .u8 (l : Int), .int .u16 (p : Int), .int .u16 (g : Int), .int .u32 (a : Int), .string (bs m)]] w fun e w' =>
      e = .returned (.tuple #[.int .u8 0, .int .i64 10]) ∧ XBTo w w' B node ac ls va vl va vl := by
  have hF := hide (fun u (hu : XB u B node ac ls va vl) => find_any i l hi hl u B node ac ls va vl hu hokl hlen2)
  have hK := hide (fun u (hu : XB u B node ac ls va vl) => keep_full (bareLg i l) u B node ac ls va vl hu hlenl hlen2)
  generalize hb : bareLg i l = X0 at *
  have hXX : X0 = ⟨i, l, 4, 0, 0, 0, []⟩ := hb.symm
  clear hb
  generalize findB i l ls = j at *
  obtain ⟨ad, cap, hv, hev⟩ := hX.lrow.form Lg.cells_length
  subst hv
  clear hev
  have hc : ∀ o, _ = _ := fun o => cell_at hX.blk o
  have hBl := hX.lt
  have d1 : decide ((j : Int) ≥ (ls.length : Int)) = true := by simp; omega
  have d2 : decide ((ls.length : Int) ≤ (j : Int)) = true := by simp; omega
  have hK2 : Hid (∀ u, XB u B node ac ls va (.slice ad ls.length cap) → Calls Tryz.prog 139 #[.pointer (some ⟨B, 0, none⟩), .agg #[.int .u32 (i : Int), .int .u8 (l : Int), .int .u8 4, .int .u16 0, .int .u16 0, .int .u32 0, .string ⟨#[]⟩]] u fun e w' => e = .returned (.int .i64 10) ∧ Below u.heap.size u w') := hide (fun u hu => by
    have h := hK.out u hu
    rw [hXX] at h
    exact h)
  clear hK hXX
  go_enter Tryz.func121, Tryz.ntmps121
  go_wp2_with fail
  refine (hF.out _ (hX.below ((Below.refl _ _).alloc (Nat.le_refl _) _))).mono ?_
  rintro e w1 ⟨rfl, rfl⟩
  clear hF
  go_wp2_with fail
  refine (hK2.out _ (hX.below ((Below.refl _ _).alloc (Nat.le_refl _) _))).mono ?_
  rintro e w2 ⟨rfl, hb2⟩
  have hB := all_kept hb2
  clear hK2 hc hb2
  go_wp2
  go_ret2
  exact ⟨rfl, XBTo.same hX hap hB⟩

set_option maxRecDepth 100000 in
set_option maxHeartbeats 1000000 in
theorem prep_full (f t i l p g a : Nat) (m : List UInt8) (hm : m.length ≤ 64) (kk : Int) (hi : i < 4294967296) (hl : l < 256) (hp : p < 65536) (hg : g < 65536) (ha : a < 4294967296) (w : World) (B node : Nat) (ac : List Ac) (ls : List Lg) (va vl : Value) (hX : XB w B node ac ls va vl) (hap : Apart B va vl) (hoka : ∀ x, x ∈ ac → x.ok) (hokl : ∀ x, x ∈ ls → x.ok) (hlena : ac.length ≤ 1000000) (hlenl : 128 ≤ ls.length) (hlen2 : ls.length ≤ 1000000)
    (hh : ∀ a, heldL a ls ≤ balL a ac) (hd : ∀ a, dueL a ls < 4294967296) (hj : ls.length ≤ findB i l ls) (st : Nat) (hst : st = if canX p g a ac ls then 1 else 2) :
    Calls Tryz.prog 119 #[.pointer (some ⟨B, 0, none⟩), .agg #[.int .u8 kk, .int .u8 (f : Int), .int .u8 (t : Int), .int .u32 (i : Int), .int .u8 (l : Int), .int .u16 (p : Int), .int .u16 (g : Int), .int .u32 (a : Int), .string (bs m)]] w fun e w' =>
      e = .returned (.tuple #[.int .u8 0, .int .i64 10]) ∧ XBTo w w' B node ac ls va vl va vl := by
  have hTm := hide (fun u => termsOf_any 0 f t i l p g a m hm kk u)
  have hF := hide (fun u (hu : XB u B node ac ls va vl) => find_any i l hi hl u B node ac ls va vl hu hokl hlen2)
  have hCn := hide (fun u (hu : XB u B node ac ls va vl) => canHold_any p g a m hp hg ha u B node ac ls va vl hu hoka hokl hlena hlen2 hh hd)
  have hst2 : st < 256 := by rw [hst]; split <;> omega
  have hK := hide (fun u (hu : XB u B node ac ls va vl) => keep_full ⟨i, l, st, p, g, a, m⟩ u B node ac ls va vl hu hlenl hlen2)
  clear hh hd
  generalize canX p g a ac ls = cx at *
  generalize findB i l ls = j at *
  simp only at hK
  obtain ⟨ad, cap, hv, hev⟩ := hX.lrow.form Lg.cells_length
  subst hv
  clear hev
  have hc : ∀ o, _ = _ := fun o => cell_at hX.blk o
  have hBl := hX.lt
  have d1 : decide ((j : Int) < (ls.length : Int)) = false := by simp; omega
  have main : ∀ (sn : Int), (st : Int) = sn → cx = decide (sn = 1) → (sn = 1 ∨ sn = 2) → Calls Tryz.prog 119 #[.pointer (some ⟨B, 0, none⟩), .agg #[.int .u8 kk, .int .u8 (f : Int), .int .u8 (t : Int), .int .u32 (i : Int), .int .u8 (l : Int), .int .u16 (p : Int), .int .u16 (g : Int), .int .u32 (a : Int), .string (bs m)]] w fun e w' =>
      e = .returned (.tuple #[.int .u8 0, .int .i64 10]) ∧ XBTo w w' B node ac ls va (.slice ad ls.length cap) va (.slice ad ls.length cap) := by
    intro sn hsn hcx hor
    rw [hsn] at hK
    clear hsn hst hst2
    go_enter Tryz.func119, Tryz.ntmps119
    go_wp2_with fail
    refine (hTm.out _).mono ?_
    rintro e w1 ⟨rfl, hb1⟩
    have B1 := (Box.mk0 _ _ _).below hb1
    have hcm := B1.cell
    have hltm := B1.lt
    clear hTm hb1
    go_wp2_with fail
    refine (hF.out _ (hX.below (B1.alloc _).bel)).mono ?_
    rintro e w2 ⟨rfl, rfl⟩
    have B2 := B1.alloc (.cells #[.int .u16 (p : Int), .int .u16 (g : Int), .int .u32 (a : Int), .string (bs m)] 186)
    have hXb := hX.below B2.bel
    clear hF hc
    have hc : ∀ o, _ = _ := fun o => cell_at hXb.blk o
    go_wp2_with fail
    refine (hCn.out _ hXb).mono ?_
    rintro e w3 ⟨rfl, hb3⟩
    have B3 := B2.below hb3
    have hct := fun o => cel_kept hb3 o
    have hltt := lt_kept hb3
    have hXc := hX.below B3.bel
    clear hcm hltm hCn hb3 hc
    have hcm := B3.cell
    have hltm := B3.lt
    rcases hor with rfl | rfl
    · simp only [decide_true] at hcx
      subst hcx
      go_wp2_with fail
      refine (hK.out _ hXc).mono ?_
      rintro e w4 ⟨rfl, hb4⟩
      have hB := (B3.below hb4).bel
      clear hb4 hK hcm hct
      go_wp2
      go_ret2
      exact ⟨rfl, XBTo.same hX hap hB⟩
    · have hcx' : cx = false := by rw [hcx]; decide
      subst hcx'
      clear hcx
      go_wp2_with fail
      refine (hK.out _ hXc).mono ?_
      rintro e w4 ⟨rfl, hb4⟩
      have hB := (B3.below hb4).bel
      clear hb4 hK hcm hct
      go_wp2
      go_ret2
      exact ⟨rfl, XBTo.same hX hap hB⟩
  cases cx with
  | true => exact main 1 (by rw [hst]; rfl) (by decide) (.inl rfl)
  | false => exact main 2 (by rw [hst]; rfl) (by decide) (.inr rfl)
end Go.Proofs.YtjkhbjgfoopomaaGreat
/-
  The program's Bank.follow: each kind to its own.
-/
namespace Go.Proofs.YtjkhbjgfoopomaaGreat
open Go.RowKit
set_option linter.unusedVariables false
set_option linter.unusedSimpArgs false

set_option maxRecDepth 100000 in
set_option maxHeartbeats 1000000 in
theorem follow1 (f t i l p g a : Nat) (m : List UInt8) (w : World) (B st er : Nat) (P : World → Prop)
    (hC : ∀ u, Below w.heap.size w u → Calls Tryz.prog 119 #[.pointer (some ⟨B, 0, none⟩), .agg #[.int .u8 1, .int .u8 (f : Int), .int .u8 (t : Int), .int .u32 (i : Int), .int .u8 (l : Int), .int .u16 (p : Int), .int .u16 (g : Int), .int .u32 (a : Int), .string (bs m)]] u fun e w' => e = .returned (.tuple #[.int .u8 (st : Int), .int .i64 (er : Int)]) ∧ P w') :
    Calls Tryz.prog 96 #[.pointer (some ⟨B, 0, none⟩), .agg #[.int .u8 1, .int .u8 (f : Int), .int .u8 (t : Int), .int .u32 (i : Int), .int .u8 (l : Int), .int .u16 (p : Int), .int .u16 (g : Int), .int .u32 (a : Int), .string (bs m)]] w fun e w' => e = .returned (.tuple #[.int .u8 (st : Int), .int .i64 (er : Int)]) ∧ P w' := by
  replace hC := hide hC
  go_enter Tryz.func96, Tryz.ntmps96
  go_wp2_with fail
  refine (hC.out _ ((Below.refl _ _).alloc (Nat.le_refl _) _)).mono ?_
  rintro e w1 ⟨rfl, hP⟩
  replace hP := hide hP
  clear hC
  go_wp2
  go_ret2
  exact ⟨rfl, hP.out⟩

set_option maxRecDepth 100000 in
set_option maxHeartbeats 1000000 in
theorem follow2 (f t i l p g a : Nat) (m : List UInt8) (w : World) (B st er : Nat) (P : World → Prop)
    (hC : ∀ u, Below w.heap.size w u → Calls Tryz.prog 120 #[.pointer (some ⟨B, 0, none⟩), .agg #[.int .u8 2, .int .u8 (f : Int), .int .u8 (t : Int), .int .u32 (i : Int), .int .u8 (l : Int), .int .u16 (p : Int), .int .u16 (g : Int), .int .u32 (a : Int), .string (bs m)]] u fun e w' => e = .returned (.tuple #[.int .u8 (st : Int), .int .i64 (er : Int)]) ∧ P w') :
    Calls Tryz.prog 96 #[.pointer (some ⟨B, 0, none⟩), .agg #[.int .u8 2, .int .u8 (f : Int), .int .u8 (t : Int), .int .u32 (i : Int), .int .u8 (l : Int), .int .u16 (p : Int), .int .u16 (g : Int), .int .u32 (a : Int), .string (bs m)]] w fun e w' => e = .returned (.tuple #[.int .u8 (st : Int), .int .i64 (er : Int)]) ∧ P w' := by
  replace hC := hide hC
  go_enter Tryz.func96, Tryz.ntmps96
  go_wp2_with fail
  refine (hC.out _ ((Below.refl _ _).alloc (Nat.le_refl _) _)).mono ?_
  rintro e w1 ⟨rfl, hP⟩
  replace hP := hide hP
  clear hC
  go_wp2
  go_ret2
  exact ⟨rfl, hP.out⟩

set_option maxRecDepth 100000 in
set_option maxHeartbeats 1000000 in
theorem follow3 (f t i l p g a : Nat) (m : List UInt8) (w : World) (B st er : Nat) (P : World → Prop)
    (hC : ∀ u, Below w.heap.size w u → Calls Tryz.prog 121 #[.pointer (some ⟨B, 0, none⟩), .agg #[.int .u8 3, .int .u8 (f : Int), .int .u8 (t : Int), .int .u32 (i : Int), .int .u8 (l : Int), .int .u16 (p : Int), .int .u16 (g : Int), .int .u32 (a : Int), .string (bs m)]] u fun e w' => e = .returned (.tuple #[.int .u8 (st : Int), .int .i64 (er : Int)]) ∧ P w') :
    Calls Tryz.prog 96 #[.pointer (some ⟨B, 0, none⟩), .agg #[.int .u8 3, .int .u8 (f : Int), .int .u8 (t : Int), .int .u32 (i : Int), .int .u8 (l : Int), .int .u16 (p : Int), .int .u16 (g : Int), .int .u32 (a : Int), .string (bs m)]] w fun e w' => e = .returned (.tuple #[.int .u8 (st : Int), .int .i64 (er : Int)]) ∧ P w' := by
  replace hC := hide hC
  go_enter Tryz.func96, Tryz.ntmps96
  go_wp2_with fail
  refine (hC.out _ ((Below.refl _ _).alloc (Nat.le_refl _) _)).mono ?_
  rintro e w1 ⟨rfl, hP⟩
  replace hP := hide hP
  clear hC
  go_wp2
  go_ret2
  exact ⟨rfl, hP.out⟩
end Go.Proofs.YtjkhbjgfoopomaaGreat
