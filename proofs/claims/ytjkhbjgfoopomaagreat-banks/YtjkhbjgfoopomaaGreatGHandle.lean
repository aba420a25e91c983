import Derived.Test.YtjkhbjgfoopomaaGreatGHandleErr
import Derived.BigQuiet
import Derived.Test.YtjkhbjgfoopomaaGreatRowStep
/-
  The document's Bank.Handle: what goes well.
-/
namespace Go.Proofs.YtjkhbjgfoopomaaGreat
open Go.RowKit
set_option linter.unusedVariables false
set_option linter.unusedSimpArgs false


set_option maxRecDepth 100000 in
set_option maxHeartbeats 1000000 in
theorem rh_same1a (s : ByteArray) (hs : s.size ≤ 140737488351232) (w : World) (B : Nat) (evs : List Ev) (v : Value) (f t i l p g a : Nat) (m : List UInt8) (hxok : (⟨1, f, t, i, l, p, g, a, m⟩ : Msg).ok) (t1 nk nf nt ni nl np ng na : Nat) (nm : List UInt8) (t3 : Bool)
    (he0 : decErr s.data.toList = 0) (hx : decMsg s.data.toList = ⟨1, f, t, i, l, p, g, a, m⟩) (hT : legOf i l evs = (t1, ⟨nk, nf, nt, ni, nl, np, ng, na, nm⟩, t3))
    (hR : RB w B t evs v) (hap : v.ownBlock ≠ some B) (hok : ∀ e, e ∈ evs → e.ok) (hlen : evs.length ≤ 900000) (h3 : t3 = true) (ho : otherB ⟨1, f, t, i, l, p, g, a, m⟩ ⟨nk, nf, nt, ni, nl, np, ng, na, nm⟩ = false) (h0 : t1 ≠ 0) :
    Calls Tryz.prog 31 #[.pointer (some ⟨B, 0, none⟩), .string s] w fun e w' => ∃ v' lv, e = .returned (.tuple #[lv, .int .i64 0]) ∧ Handed w w' B t (evs) v v' lv [ansOf t i l (legOf i l (evs)).1] := by
  have hD := hide (refDecode_any s hs)
  rw [he0, hx] at hD
  have hL := hide (fun u (hu : RB u B t evs v) => leg_any i l hxok.2.2.2.1 hxok.2.2.2.2.1 u B t evs v hu hok (by omega))
  rw [hT] at hL
  have hK := hide (fun u (hu : RB u B t evs v) => kept_any u B t evs v hu hok (by omega))
  have hkl : (keysOf evs).length ≤ evs.length := keysTo_length _ _
  generalize hnn : (keysOf evs).length = n at *
  replace hnn := hide hnn
  obtain ⟨ad, cap, hv, hev⟩ := hR.form
  clear hev he0 hx
  replace hT := hide hT
  subst hv
  have hxok' := hide hxok
  obtain ⟨hk, hf, ht, hi, hl, hp, hg, ha⟩ := hxok
  simp only [Msg.v, Msg.cells] at hk hf ht hi hl hp hg ha hD hL
  have hBl := hR.lt
  have hcs : ((t : Int) != (t : Int)) = false := by simp
  go_enter Tryz.func31, Tryz.ntmps31
  go_wp2_with fail
  refine (hD.out _).mono ?_
  rintro e w1 ⟨rfl, hb⟩
  have hR1 := hR.below hb
  have hc : ∀ o, _ = _ := fun o => cell_at hR1.blk o
  have hBl1 := hR1.lt
  clear hD
  go_wp2_with fail
  go_quiet (fail)
  have B1 := (Box.mk0 w1 #[Value.int .u8 1, .int .u8 (f : Int), .int .u8 (t : Int), .int .u32 (i : Int), .int .u8 (l : Int), .int .u16 (p : Int), .int .u16 (g : Int), .int .u32 (a : Int), .string (bs m)] 40).drewN nq
  generalize World.drewN _ _ = w2 at *
  have hcm := B1.cell
  have hlt1 := B1.lt
  have hR2 := hR1.below B1.bel
  have hBl2 := hR2.lt
  clear hc
  go_wp2_with fail
  refine (hL.out _ hR2).mono ?_
  rintro e w3 ⟨rfl, hb3⟩
  have hR3 := hR2.below hb3
  have B3 := B1.below hb3
  clear hcm hlt1 B1 hL
  go_wp2_with fail
  refine (hK.out _ (hR3.below ((Below.refl _ _).alloc (Nat.le_refl _) _))).mono ?_
  rintro e w4 ⟨rfl, hb4⟩
  have B4 := (B3.alloc _).below hb4
  have hcm := B4.cell
  have hltm := B4.lt
  have hco := fun o => cel_kept hb4 o
  have hlto := lt_kept hb4
  have hR4 := (hR3.below ((Below.refl _ _).alloc (Nat.le_refl _) _)).below hb4
  have hbel4 := hb.trans (B4.bel.mono hb.size)
  clear hb3 hb4 hK B3
  subst h3
  have d0 : ((t1 : Int) == 0) = false := by simp; omega
  simp only [otherB, Bool.or_eq_false_iff, decide_eq_false_iff_not, Decidable.not_not] at ho
  obtain ⟨o1, o2, o3, o4⟩ := ho
  have d1 : ((np : Int) != (p : Int)) = false := by simp; omega
  have d2 : ((ng : Int) != (g : Int)) = false := by simp; omega
  have d3 : ((na : Int) != (a : Int)) = false := by simp; omega
  have d4 : ((bs nm).toList == (bs m).toList) = true := by rw [bs_same]; simpa using o4
  clear o1 o2 o3 o4 h0
  have hW := told_at 1 f t i l p g a m hxok'.out 1 rfl B t ht (evs) hok (by omega)
  generalize hAA : ansOf t i l (legOf i l (evs)).1 = A at hW
  replace hAA := hide hAA
  go_wp2_with fail
  refine (hW.out _ _ hR4).mono ?_
  rintro e w7 ⟨rfl, hb7⟩
  clear hW
  go_wp2
  go_ret2
  exact ⟨_, _, rfl, by rw [hAA.out]; exact Handed.single (RBTo.same hR hap hbel4) hb7 A⟩

set_option maxRecDepth 100000 in
set_option maxHeartbeats 1000000 in
theorem rh_same1b (s : ByteArray) (hs : s.size ≤ 140737488351232) (w : World) (B : Nat) (evs : List Ev) (v : Value) (f t i l p g a : Nat) (m : List UInt8) (hxok : (⟨1, f, t, i, l, p, g, a, m⟩ : Msg).ok) (t1 nk nf nt ni nl np ng na : Nat) (nm : List UInt8) (t3 : Bool)
    (he0 : decErr s.data.toList = 0) (hx : decMsg s.data.toList = ⟨1, f, t, i, l, p, g, a, m⟩) (hT : legOf i l evs = (t1, ⟨nk, nf, nt, ni, nl, np, ng, na, nm⟩, t3))
    (hR : RB w B t evs v) (hap : v.ownBlock ≠ some B) (hok : ∀ e, e ∈ evs → e.ok) (hlen : evs.length ≤ 900000) (h3 : t3 = false) (h0 : t1 ≠ 0) :
    Calls Tryz.prog 31 #[.pointer (some ⟨B, 0, none⟩), .string s] w fun e w' => ∃ v' lv, e = .returned (.tuple #[lv, .int .i64 0]) ∧ Handed w w' B t (evs) v v' lv [ansOf t i l (legOf i l (evs)).1] := by
  have hD := hide (refDecode_any s hs)
  rw [he0, hx] at hD
  have hL := hide (fun u (hu : RB u B t evs v) => leg_any i l hxok.2.2.2.1 hxok.2.2.2.2.1 u B t evs v hu hok (by omega))
  rw [hT] at hL
  have hK := hide (fun u (hu : RB u B t evs v) => kept_any u B t evs v hu hok (by omega))
  have hkl : (keysOf evs).length ≤ evs.length := keysTo_length _ _
  generalize hnn : (keysOf evs).length = n at *
  replace hnn := hide hnn
  obtain ⟨ad, cap, hv, hev⟩ := hR.form
  clear hev he0 hx
  replace hT := hide hT
  subst hv
  have hxok' := hide hxok
  obtain ⟨hk, hf, ht, hi, hl, hp, hg, ha⟩ := hxok
  simp only [Msg.v, Msg.cells] at hk hf ht hi hl hp hg ha hD hL
  have hBl := hR.lt
  have hcs : ((t : Int) != (t : Int)) = false := by simp
  go_enter Tryz.func31, Tryz.ntmps31
  go_wp2_with fail
  refine (hD.out _).mono ?_
  rintro e w1 ⟨rfl, hb⟩
  have hR1 := hR.below hb
  have hc : ∀ o, _ = _ := fun o => cell_at hR1.blk o
  have hBl1 := hR1.lt
  clear hD
  go_wp2_with fail
  go_quiet (fail)
  have B1 := (Box.mk0 w1 #[Value.int .u8 1, .int .u8 (f : Int), .int .u8 (t : Int), .int .u32 (i : Int), .int .u8 (l : Int), .int .u16 (p : Int), .int .u16 (g : Int), .int .u32 (a : Int), .string (bs m)] 40).drewN nq
  generalize World.drewN _ _ = w2 at *
  have hcm := B1.cell
  have hlt1 := B1.lt
  have hR2 := hR1.below B1.bel
  have hBl2 := hR2.lt
  clear hc
  go_wp2_with fail
  refine (hL.out _ hR2).mono ?_
  rintro e w3 ⟨rfl, hb3⟩
  have hR3 := hR2.below hb3
  have B3 := B1.below hb3
  clear hcm hlt1 B1 hL
  go_wp2_with fail
  refine (hK.out _ (hR3.below ((Below.refl _ _).alloc (Nat.le_refl _) _))).mono ?_
  rintro e w4 ⟨rfl, hb4⟩
  have B4 := (B3.alloc _).below hb4
  have hcm := B4.cell
  have hltm := B4.lt
  have hco := fun o => cel_kept hb4 o
  have hlto := lt_kept hb4
  have hR4 := (hR3.below ((Below.refl _ _).alloc (Nat.le_refl _) _)).below hb4
  have hbel4 := hb.trans (B4.bel.mono hb.size)
  clear hb3 hb4 hK B3
  subst h3
  have d0 : ((t1 : Int) == 0) = false := by simp; omega
  clear h0
  have hW := told_at 1 f t i l p g a m hxok'.out 1 rfl B t ht (evs) hok (by omega)
  generalize hAA : ansOf t i l (legOf i l (evs)).1 = A at hW
  replace hAA := hide hAA
  go_wp2_with fail
  refine (hW.out _ _ hR4).mono ?_
  rintro e w7 ⟨rfl, hb7⟩
  clear hW
  go_wp2
  go_ret2
  exact ⟨_, _, rfl, by rw [hAA.out]; exact Handed.single (RBTo.same hR hap hbel4) hb7 A⟩

set_option maxRecDepth 100000 in
set_option maxHeartbeats 1000000 in
theorem rh_same2 (s : ByteArray) (hs : s.size ≤ 140737488351232) (w : World) (B : Nat) (evs : List Ev) (v : Value) (f t i l p g a : Nat) (m : List UInt8) (hxok : (⟨2, f, t, i, l, p, g, a, m⟩ : Msg).ok) (t1 nk nf nt ni nl np ng na : Nat) (nm : List UInt8) (t3 : Bool)
    (he0 : decErr s.data.toList = 0) (hx : decMsg s.data.toList = ⟨2, f, t, i, l, p, g, a, m⟩) (hT : legOf i l evs = (t1, ⟨nk, nf, nt, ni, nl, np, ng, na, nm⟩, t3))
    (hR : RB w B t evs v) (hap : v.ownBlock ≠ some B) (hok : ∀ e, e ∈ evs → e.ok) (hlen : evs.length ≤ 900000) (h1 : t1 = 3) :
    Calls Tryz.prog 31 #[.pointer (some ⟨B, 0, none⟩), .string s] w fun e w' => ∃ v' lv, e = .returned (.tuple #[lv, .int .i64 0]) ∧ Handed w w' B t (evs) v v' lv [ansOf t i l (legOf i l (evs)).1] := by
  have hD := hide (refDecode_any s hs)
  rw [he0, hx] at hD
  have hL := hide (fun u (hu : RB u B t evs v) => leg_any i l hxok.2.2.2.1 hxok.2.2.2.2.1 u B t evs v hu hok (by omega))
  rw [hT] at hL
  have hK := hide (fun u (hu : RB u B t evs v) => kept_any u B t evs v hu hok (by omega))
  have hkl : (keysOf evs).length ≤ evs.length := keysTo_length _ _
  generalize hnn : (keysOf evs).length = n at *
  replace hnn := hide hnn
  obtain ⟨ad, cap, hv, hev⟩ := hR.form
  clear hev he0 hx
  replace hT := hide hT
  subst hv
  have hxok' := hide hxok
  obtain ⟨hk, hf, ht, hi, hl, hp, hg, ha⟩ := hxok
  simp only [Msg.v, Msg.cells] at hk hf ht hi hl hp hg ha hD hL
  have hBl := hR.lt
  have hcs : ((t : Int) != (t : Int)) = false := by simp
  go_enter Tryz.func31, Tryz.ntmps31
  go_wp2_with fail
  refine (hD.out _).mono ?_
  rintro e w1 ⟨rfl, hb⟩
  have hR1 := hR.below hb
  have hc : ∀ o, _ = _ := fun o => cell_at hR1.blk o
  have hBl1 := hR1.lt
  clear hD
  go_wp2_with fail
  go_quiet (fail)
  have B1 := (Box.mk0 w1 #[Value.int .u8 2, .int .u8 (f : Int), .int .u8 (t : Int), .int .u32 (i : Int), .int .u8 (l : Int), .int .u16 (p : Int), .int .u16 (g : Int), .int .u32 (a : Int), .string (bs m)] 40).drewN nq
  generalize World.drewN _ _ = w2 at *
  have hcm := B1.cell
  have hlt1 := B1.lt
  have hR2 := hR1.below B1.bel
  have hBl2 := hR2.lt
  clear hc
  go_wp2_with fail
  refine (hL.out _ hR2).mono ?_
  rintro e w3 ⟨rfl, hb3⟩
  have hR3 := hR2.below hb3
  have B3 := B1.below hb3
  clear hcm hlt1 B1 hL
  go_wp2_with fail
  refine (hK.out _ (hR3.below ((Below.refl _ _).alloc (Nat.le_refl _) _))).mono ?_
  rintro e w4 ⟨rfl, hb4⟩
  have B4 := (B3.alloc _).below hb4
  have hcm := B4.cell
  have hltm := B4.lt
  have hco := fun o => cel_kept hb4 o
  have hlto := lt_kept hb4
  have hR4 := (hR3.below ((Below.refl _ _).alloc (Nat.le_refl _) _)).below hb4
  have hbel4 := hb.trans (B4.bel.mono hb.size)
  clear hb3 hb4 hK B3
  have d1 : ((t1 : Int) != 1) = true := by simp; omega
  have d3 : ((t1 : Int) != 3) = false := by simp; omega
  have e1 : ((t1 : Int) == 1) = false := by simp; omega
  clear h1
  have hW := told_at 2 f t i l p g a m hxok'.out 2 rfl B t ht (evs) hok (by omega)
  generalize hAA : ansOf t i l (legOf i l (evs)).1 = A at hW
  replace hAA := hide hAA
  go_wp2_with fail
  refine (hW.out _ _ hR4).mono ?_
  rintro e w7 ⟨rfl, hb7⟩
  clear hW
  go_wp2
  go_ret2
  exact ⟨_, _, rfl, by rw [hAA.out]; exact Handed.single (RBTo.same hR hap hbel4) hb7 A⟩

set_option maxRecDepth 100000 in
set_option maxHeartbeats 1000000 in
theorem rh_same3 (s : ByteArray) (hs : s.size ≤ 140737488351232) (w : World) (B : Nat) (evs : List Ev) (v : Value) (f t i l p g a : Nat) (m : List UInt8) (hxok : (⟨3, f, t, i, l, p, g, a, m⟩ : Msg).ok) (t1 nk nf nt ni nl np ng na : Nat) (nm : List UInt8) (t3 : Bool)
    (he0 : decErr s.data.toList = 0) (hx : decMsg s.data.toList = ⟨3, f, t, i, l, p, g, a, m⟩) (hT : legOf i l evs = (t1, ⟨nk, nf, nt, ni, nl, np, ng, na, nm⟩, t3))
    (hR : RB w B t evs v) (hap : v.ownBlock ≠ some B) (hok : ∀ e, e ∈ evs → e.ok) (hlen : evs.length ≤ 900000) (h1 : t1 = 4) :
    Calls Tryz.prog 31 #[.pointer (some ⟨B, 0, none⟩), .string s] w fun e w' => ∃ v' lv, e = .returned (.tuple #[lv, .int .i64 0]) ∧ Handed w w' B t (evs) v v' lv [ansOf t i l (legOf i l (evs)).1] := by
  have hD := hide (refDecode_any s hs)
  rw [he0, hx] at hD
  have hL := hide (fun u (hu : RB u B t evs v) => leg_any i l hxok.2.2.2.1 hxok.2.2.2.2.1 u B t evs v hu hok (by omega))
  rw [hT] at hL
  have hK := hide (fun u (hu : RB u B t evs v) => kept_any u B t evs v hu hok (by omega))
  have hkl : (keysOf evs).length ≤ evs.length := keysTo_length _ _
  generalize hnn : (keysOf evs).length = n at *
  replace hnn := hide hnn
  obtain ⟨ad, cap, hv, hev⟩ := hR.form
  clear hev he0 hx
  replace hT := hide hT
  subst hv
  have hxok' := hide hxok
  obtain ⟨hk, hf, ht, hi, hl, hp, hg, ha⟩ := hxok
  simp only [Msg.v, Msg.cells] at hk hf ht hi hl hp hg ha hD hL
  have hBl := hR.lt
  have hcs : ((t : Int) != (t : Int)) = false := by simp
  go_enter Tryz.func31, Tryz.ntmps31
  go_wp2_with fail
  refine (hD.out _).mono ?_
  rintro e w1 ⟨rfl, hb⟩
  have hR1 := hR.below hb
  have hc : ∀ o, _ = _ := fun o => cell_at hR1.blk o
  have hBl1 := hR1.lt
  clear hD
  go_wp2_with fail
  go_quiet (fail)
  have B1 := (Box.mk0 w1 #[Value.int .u8 3, .int .u8 (f : Int), .int .u8 (t : Int), .int .u32 (i : Int), .int .u8 (l : Int), .int .u16 (p : Int), .int .u16 (g : Int), .int .u32 (a : Int), .string (bs m)] 40).drewN nq
  generalize World.drewN _ _ = w2 at *
  have hcm := B1.cell
  have hlt1 := B1.lt
  have hR2 := hR1.below B1.bel
  have hBl2 := hR2.lt
  clear hc
  go_wp2_with fail
  refine (hL.out _ hR2).mono ?_
  rintro e w3 ⟨rfl, hb3⟩
  have hR3 := hR2.below hb3
  have B3 := B1.below hb3
  clear hcm hlt1 B1 hL
  go_wp2_with fail
  refine (hK.out _ (hR3.below ((Below.refl _ _).alloc (Nat.le_refl _) _))).mono ?_
  rintro e w4 ⟨rfl, hb4⟩
  have B4 := (B3.alloc _).below hb4
  have hcm := B4.cell
  have hltm := B4.lt
  have hco := fun o => cel_kept hb4 o
  have hlto := lt_kept hb4
  have hR4 := (hR3.below ((Below.refl _ _).alloc (Nat.le_refl _) _)).below hb4
  have hbel4 := hb.trans (B4.bel.mono hb.size)
  clear hb3 hb4 hK B3
  have e3 : ((t1 : Int) == 3) = false := by simp; omega
  have e0 : ((t1 : Int) == 0) = false := by simp; omega
  have e4 : ((t1 : Int) != 4) = false := by simp; omega
  clear h1
  have hW := told_at 3 f t i l p g a m hxok'.out 3 rfl B t ht (evs) hok (by omega)
  generalize hAA : ansOf t i l (legOf i l (evs)).1 = A at hW
  replace hAA := hide hAA
  go_wp2_with fail
  refine (hW.out _ _ hR4).mono ?_
  rintro e w7 ⟨rfl, hb7⟩
  clear hW
  go_wp2
  go_ret2
  exact ⟨_, _, rfl, by rw [hAA.out]; exact Handed.single (RBTo.same hR hap hbel4) hb7 A⟩

end Go.Proofs.YtjkhbjgfoopomaaGreat
/-
  The document's Bank.Handle: what goes well.
-/
namespace Go.Proofs.YtjkhbjgfoopomaaGreat
open Go.RowKit
set_option linter.unusedVariables false
set_option linter.unusedSimpArgs false


set_option maxRecDepth 100000 in
set_option maxHeartbeats 1000000 in
theorem rh_new1 (s : ByteArray) (hs : s.size ≤ 140737488351232) (w : World) (B : Nat) (evs : List Ev) (v : Value) (f t i l p g a : Nat) (m : List UInt8) (hxok : (⟨1, f, t, i, l, p, g, a, m⟩ : Msg).ok) (t1 nk nf nt ni nl np ng na : Nat) (nm : List UInt8) (t3 : Bool)
    (he0 : decErr s.data.toList = 0) (hx : decMsg s.data.toList = ⟨1, f, t, i, l, p, g, a, m⟩) (hT : legOf i l evs = (t1, ⟨nk, nf, nt, ni, nl, np, ng, na, nm⟩, t3))
    (hR : RB w B t evs v) (hap : v.ownBlock ≠ some B) (hok : ∀ e, e ∈ evs → e.ok) (hlen : evs.length ≤ 900000) (h3 : t3 = false) (h0 : t1 = 0) (hroom : (keysOf evs).length < 128) (hge : ∀ a, outOf a evs (keysOf evs) ≤ (openedOf a evs).1 + inOf a evs (keysOf evs)) (cb : Bool) (hcb : canB ⟨1, f, t, i, l, p, g, a, m⟩ evs = cb) :
    Calls Tryz.prog 31 #[.pointer (some ⟨B, 0, none⟩), .string s] w fun e w' => ∃ v' lv, e = .returned (.tuple #[lv, .int .i64 0]) ∧ Handed w w' B t (evs ++ [⟨1, ⟨1, f, t, i, l, p, g, a, m⟩, cb⟩]) v v' lv [ansOf t i l (legOf i l (evs ++ [⟨1, ⟨1, f, t, i, l, p, g, a, m⟩, cb⟩])).1] := by
  have hC := hide (fun u (hu : RB u B t evs v) => can_any ⟨1, f, t, i, l, p, g, a, m⟩ hxok u B t evs v hu hok (by omega) hge)
  rw [hcb] at hC
  clear hcb hge
  have hD := hide (refDecode_any s hs)
  rw [he0, hx] at hD
  have hL := hide (fun u (hu : RB u B t evs v) => leg_any i l hxok.2.2.2.1 hxok.2.2.2.2.1 u B t evs v hu hok (by omega))
  rw [hT] at hL
  have hK := hide (fun u (hu : RB u B t evs v) => kept_any u B t evs v hu hok (by omega))
  have hkl : (keysOf evs).length ≤ evs.length := keysTo_length _ _
  generalize hnn : (keysOf evs).length = n at *
  replace hnn := hide hnn
  obtain ⟨ad, cap, hv, hev⟩ := hR.form
  clear hev he0 hx
  replace hT := hide hT
  subst hv
  have hxok' := hide hxok
  obtain ⟨hk, hf, ht, hi, hl, hp, hg, ha⟩ := hxok
  simp only [Msg.v, Msg.cells] at hk hf ht hi hl hp hg ha hD hL hC
  have hBl := hR.lt
  have hcs : ((t : Int) != (t : Int)) = false := by simp
  go_enter Tryz.func31, Tryz.ntmps31
  go_wp2_with fail
  refine (hD.out _).mono ?_
  rintro e w1 ⟨rfl, hb⟩
  have hR1 := hR.below hb
  have hc : ∀ o, _ = _ := fun o => cell_at hR1.blk o
  have hBl1 := hR1.lt
  clear hD
  go_wp2_with fail
  go_quiet (fail)
  have B1 := (Box.mk0 w1 #[Value.int .u8 1, .int .u8 (f : Int), .int .u8 (t : Int), .int .u32 (i : Int), .int .u8 (l : Int), .int .u16 (p : Int), .int .u16 (g : Int), .int .u32 (a : Int), .string (bs m)] 40).drewN nq
  generalize World.drewN _ _ = w2 at *
  have hcm := B1.cell
  have hlt1 := B1.lt
  have hR2 := hR1.below B1.bel
  have hBl2 := hR2.lt
  clear hc
  go_wp2_with fail
  refine (hL.out _ hR2).mono ?_
  rintro e w3 ⟨rfl, hb3⟩
  have hR3 := hR2.below hb3
  have B3 := B1.below hb3
  clear hcm hlt1 B1 hL
  go_wp2_with fail
  refine (hK.out _ (hR3.below ((Below.refl _ _).alloc (Nat.le_refl _) _))).mono ?_
  rintro e w4 ⟨rfl, hb4⟩
  have B4 := (B3.alloc _).below hb4
  have hcm := B4.cell
  have hltm := B4.lt
  have hco := fun o => cel_kept hb4 o
  have hlto := lt_kept hb4
  have hR4 := (hR3.below ((Below.refl _ _).alloc (Nat.le_refl _) _)).below hb4
  have hbel4 := hb.trans (B4.bel.mono hb.size)
  clear hb3 hb4 hK B3
  subst h3
  have d0 : ((t1 : Int) == 0) = true := by simp; omega
  have dn : decide ((n : Int) ≥ 128) = false := by simp; omega
  have dn' : decide ((128 : Int) ≤ (n : Int)) = false := by simp; omega
  clear h0
  have hok2 : Hid (∀ e, e ∈ evs ++ [⟨1, ⟨1, f, t, i, l, p, g, a, m⟩, cb⟩] → e.ok) := hide (fun e he => by rcases List.mem_append.1 he with h | h; exact hok e h; rw [List.mem_singleton.1 h]; exact ⟨by show (1 : Nat) < 4; omega, hxok'.out⟩)
  have hW := told_at 1 f t i l p g a m hxok'.out 1 rfl B t ht (evs ++ [⟨1, ⟨1, f, t, i, l, p, g, a, m⟩, cb⟩]) hok2.out (by simp; omega)
  generalize hAA : ansOf t i l (legOf i l (evs ++ [⟨1, ⟨1, f, t, i, l, p, g, a, m⟩, cb⟩])).1 = A at hW
  replace hAA := hide hAA
  obtain ⟨i0, hi0, y0, y1, y2⟩ := info_parts evInfo
  go_wp2_with fail
  refine (hC.out _ hR4).mono ?_
  rintro e w5 ⟨rfl, hb5⟩
  have hR5 := hR4.below hb5
  have B5 := B4.below hb5
  have hbel5 := hb.trans (B5.bel.mono hb.size)
  clear hC hcm hltm hco
  have hcm := B5.cell
  have hltm := B5.lt
  have hc : ∀ o, _ = _ := fun o => cell_at hR5.blk o
  have hf' : ∀ o, _ = _ := fun o => frozen_at hR5.blk o
  have hBl9 := hR5.lt
  have hrow1 := hR5.row
  have hneB : w1.heap.size ≠ B := by omega
  have hneB' : B ≠ w1.heap.size := by omega
  have hown : ∀ k, (Value.slice ad evs.length cap).ownBlock = some k → k < w1.heap.size := fun k hk => hR1.row.lt hk
  have hWb : Below w5.heap.size w5 (w5.alloc (.cells (Ev.cells ⟨1, ⟨1, f, t, i, l, p, g, a, m⟩, cb⟩).toArray 150)).drew := ((Below.refl _ _).alloc (Nat.le_refl _) _).drew
  have hWr := hide (hrow1.below hWb)
  have hWa : Hid ((w5.alloc (.cells (Ev.cells ⟨1, ⟨1, f, t, i, l, p, g, a, m⟩, cb⟩).toArray 150)).drew.heap[w5.heap.size]? = some (.cells (Ev.cells ⟨1, ⟨1, f, t, i, l, p, g, a, m⟩, cb⟩).toArray 150 (0, 0))) := hide (heap_alloc_self w5 _)
  have hWk : Hid (Kept (fun k => (Value.slice ad evs.length cap).ownBlock = some k) w5 (w5.alloc (.cells (Ev.cells ⟨1, ⟨1, f, t, i, l, p, g, a, m⟩, cb⟩).toArray 150)).drew) := hide (Kept.of_below hWb)
  go_wp2_with fail
  go_region_law (refine step_row Ev.cells_length (by rfl) _ _ 76 (by rfl) 150 i0 _ 56 Tryz.underlying76 hi0 y0 y1 y2 rfl (by decide) (.slice ad evs.length cap) evs w5.heap.size 1 ⟨1, ⟨1, f, t, i, l, p, g, a, m⟩, cb⟩ (ev_one _) (by unfold maxLen; omega) (by omega) (by first | rfl | simp [Act.eval, Act.put]) (by first | rfl | simp [Act.eval, Act.put]) (by exact hWr.out) (by exact hWa.out) ?_; intro g' cap' w6 hrow2 hk2 hg2 hlt2; replace hk2 := hWk.out.trans hk2 (fun i hi => .inl hi); replace hg2 := hg2.imp_right (fun h => Nat.le_trans hWb.size h); have hblk : w6.heap[B]? = some (.cells #[.int .u8 (t : Int), .slice ad evs.length cap] 78 (0, 0)) := (by rw [hk2.block B hBl9 hap]; exact hR5.blk); have hc2 := fun o => cell_at hblk o; have hf2 := fun o => frozen_at hblk o; have hcm6 := boxes_kept B5 hk2 hown; have hlt6 := Nat.lt_of_lt_of_le B5.lt hk2.size; have X : Hid (RowOf w6 150 11 Ev.cells (.slice (some ⟨g', 0, none⟩) (evs.length + 1) cap') (evs ++ [⟨1, ⟨1, f, t, i, l, p, g, a, m⟩, cb⟩]) ∧ Kept (fun k => (Value.slice ad evs.length cap).ownBlock = some k) w5 w6 ∧ ((Value.slice ad evs.length cap).ownBlock = some g' ∨ w5.heap.size ≤ g')) := hide ⟨hrow2, hk2, hg2⟩; clear hrow2 hk2 hg2 hblk)
  all_goals (
    have hto := RBTo.from hbel5 (RB.grow hR5 hap X.out.1 X.out.2.1 X.out.2.2)
    clear hcm hWb hWr hWa hWk
    go_wp2_with fail
    refine (hW.out _ _ hto.rb).mono ?_
    rintro e w7 ⟨rfl, hb7⟩
    clear hW hcm6 hc2 hf2
    go_wp2
    go_ret2
    exact ⟨_, _, rfl, by rw [hAA.out]; exact Handed.single hto hb7 A⟩)

set_option maxRecDepth 100000 in
set_option maxHeartbeats 1000000 in
theorem rh_exec2 (s : ByteArray) (hs : s.size ≤ 140737488351232) (w : World) (B : Nat) (evs : List Ev) (v : Value) (f t i l p g a : Nat) (m : List UInt8) (hxok : (⟨2, f, t, i, l, p, g, a, m⟩ : Msg).ok) (t1 nk nf nt ni nl np ng na : Nat) (nm : List UInt8) (t3 : Bool)
    (he0 : decErr s.data.toList = 0) (hx : decMsg s.data.toList = ⟨2, f, t, i, l, p, g, a, m⟩) (hT : legOf i l evs = (t1, ⟨nk, nf, nt, ni, nl, np, ng, na, nm⟩, t3))
    (hR : RB w B t evs v) (hap : v.ownBlock ≠ some B) (hok : ∀ e, e ∈ evs → e.ok) (hlen : evs.length ≤ 900000) (h1 : t1 = 1) :
    Calls Tryz.prog 31 #[.pointer (some ⟨B, 0, none⟩), .string s] w fun e w' => ∃ v' lv, e = .returned (.tuple #[lv, .int .i64 0]) ∧ Handed w w' B t (evs ++ [⟨2, ⟨2, f, t, i, l, p, g, a, m⟩, false⟩]) v v' lv [ansOf t i l (legOf i l (evs ++ [⟨2, ⟨2, f, t, i, l, p, g, a, m⟩, false⟩])).1] := by
  have hD := hide (refDecode_any s hs)
  rw [he0, hx] at hD
  have hL := hide (fun u (hu : RB u B t evs v) => leg_any i l hxok.2.2.2.1 hxok.2.2.2.2.1 u B t evs v hu hok (by omega))
  rw [hT] at hL
  have hK := hide (fun u (hu : RB u B t evs v) => kept_any u B t evs v hu hok (by omega))
  have hkl : (keysOf evs).length ≤ evs.length := keysTo_length _ _
  generalize hnn : (keysOf evs).length = n at *
  replace hnn := hide hnn
  obtain ⟨ad, cap, hv, hev⟩ := hR.form
  clear hev he0 hx
  replace hT := hide hT
  subst hv
  have hxok' := hide hxok
  obtain ⟨hk, hf, ht, hi, hl, hp, hg, ha⟩ := hxok
  simp only [Msg.v, Msg.cells] at hk hf ht hi hl hp hg ha hD hL
  have hBl := hR.lt
  have hcs : ((t : Int) != (t : Int)) = false := by simp
  go_enter Tryz.func31, Tryz.ntmps31
  go_wp2_with fail
  refine (hD.out _).mono ?_
  rintro e w1 ⟨rfl, hb⟩
  have hR1 := hR.below hb
  have hc : ∀ o, _ = _ := fun o => cell_at hR1.blk o
  have hBl1 := hR1.lt
  clear hD
  go_wp2_with fail
  go_quiet (fail)
  have B1 := (Box.mk0 w1 #[Value.int .u8 2, .int .u8 (f : Int), .int .u8 (t : Int), .int .u32 (i : Int), .int .u8 (l : Int), .int .u16 (p : Int), .int .u16 (g : Int), .int .u32 (a : Int), .string (bs m)] 40).drewN nq
  generalize World.drewN _ _ = w2 at *
  have hcm := B1.cell
  have hlt1 := B1.lt
  have hR2 := hR1.below B1.bel
  have hBl2 := hR2.lt
  clear hc
  go_wp2_with fail
  refine (hL.out _ hR2).mono ?_
  rintro e w3 ⟨rfl, hb3⟩
  have hR3 := hR2.below hb3
  have B3 := B1.below hb3
  clear hcm hlt1 B1 hL
  go_wp2_with fail
  refine (hK.out _ (hR3.below ((Below.refl _ _).alloc (Nat.le_refl _) _))).mono ?_
  rintro e w4 ⟨rfl, hb4⟩
  have B4 := (B3.alloc _).below hb4
  have hcm := B4.cell
  have hltm := B4.lt
  have hco := fun o => cel_kept hb4 o
  have hlto := lt_kept hb4
  have hR4 := (hR3.below ((Below.refl _ _).alloc (Nat.le_refl _) _)).below hb4
  have hbel4 := hb.trans (B4.bel.mono hb.size)
  clear hb3 hb4 hK B3
  have d1 : ((t1 : Int) != 1) = false := by simp; omega
  have e1 : ((t1 : Int) == 1) = true := by simp; omega
  clear h1
  have hok2 : Hid (∀ e, e ∈ evs ++ [⟨2, ⟨2, f, t, i, l, p, g, a, m⟩, false⟩] → e.ok) := hide (fun e he => by rcases List.mem_append.1 he with h | h; exact hok e h; rw [List.mem_singleton.1 h]; exact ⟨by show (2 : Nat) < 4; omega, hxok'.out⟩)
  have hW := told_at 2 f t i l p g a m hxok'.out 2 rfl B t ht (evs ++ [⟨2, ⟨2, f, t, i, l, p, g, a, m⟩, false⟩]) hok2.out (by simp; omega)
  generalize hAA : ansOf t i l (legOf i l (evs ++ [⟨2, ⟨2, f, t, i, l, p, g, a, m⟩, false⟩])).1 = A at hW
  replace hAA := hide hAA
  obtain ⟨i0, hi0, y0, y1, y2⟩ := info_parts evInfo
  have hc : ∀ o, _ = _ := fun o => cell_at hR4.blk o
  have hf' : ∀ o, _ = _ := fun o => frozen_at hR4.blk o
  have hBl9 := hR4.lt
  have hrow1 := hR4.row
  have hneB : w1.heap.size ≠ B := by omega
  have hneB' : B ≠ w1.heap.size := by omega
  have hown : ∀ k, (Value.slice ad evs.length cap).ownBlock = some k → k < w1.heap.size := fun k hk => hR1.row.lt hk
  have hWb : Below w4.heap.size w4 (w4.alloc (.cells (Ev.cells ⟨2, ⟨2, f, t, i, l, p, g, a, m⟩, false⟩).toArray 150)).drew := ((Below.refl _ _).alloc (Nat.le_refl _) _).drew
  have hWr := hide (hrow1.below hWb)
  have hWa : Hid ((w4.alloc (.cells (Ev.cells ⟨2, ⟨2, f, t, i, l, p, g, a, m⟩, false⟩).toArray 150)).drew.heap[w4.heap.size]? = some (.cells (Ev.cells ⟨2, ⟨2, f, t, i, l, p, g, a, m⟩, false⟩).toArray 150 (0, 0))) := hide (heap_alloc_self w4 _)
  have hWk : Hid (Kept (fun k => (Value.slice ad evs.length cap).ownBlock = some k) w4 (w4.alloc (.cells (Ev.cells ⟨2, ⟨2, f, t, i, l, p, g, a, m⟩, false⟩).toArray 150)).drew) := hide (Kept.of_below hWb)
  go_wp2_with fail
  go_region_law (refine step_row Ev.cells_length (by rfl) _ _ 76 (by rfl) 150 i0 _ 56 Tryz.underlying76 hi0 y0 y1 y2 rfl (by decide) (.slice ad evs.length cap) evs w4.heap.size 1 ⟨2, ⟨2, f, t, i, l, p, g, a, m⟩, false⟩ (ev_one _) (by unfold maxLen; omega) (by omega) (by first | rfl | simp [Act.eval, Act.put]) (by first | rfl | simp [Act.eval, Act.put]) (by exact hWr.out) (by exact hWa.out) ?_; intro g' cap' w6 hrow2 hk2 hg2 hlt2; replace hk2 := hWk.out.trans hk2 (fun i hi => .inl hi); replace hg2 := hg2.imp_right (fun h => Nat.le_trans hWb.size h); have hblk : w6.heap[B]? = some (.cells #[.int .u8 (t : Int), .slice ad evs.length cap] 78 (0, 0)) := (by rw [hk2.block B hBl9 hap]; exact hR4.blk); have hc2 := fun o => cell_at hblk o; have hf2 := fun o => frozen_at hblk o; have hcm6 := boxes_kept B4 hk2 hown; have hlt6 := Nat.lt_of_lt_of_le B4.lt hk2.size; have X : Hid (RowOf w6 150 11 Ev.cells (.slice (some ⟨g', 0, none⟩) (evs.length + 1) cap') (evs ++ [⟨2, ⟨2, f, t, i, l, p, g, a, m⟩, false⟩]) ∧ Kept (fun k => (Value.slice ad evs.length cap).ownBlock = some k) w4 w6 ∧ ((Value.slice ad evs.length cap).ownBlock = some g' ∨ w4.heap.size ≤ g')) := hide ⟨hrow2, hk2, hg2⟩; clear hrow2 hk2 hg2 hblk)
  all_goals (
    have hto := RBTo.from hbel4 (RB.grow hR4 hap X.out.1 X.out.2.1 X.out.2.2)
    clear hcm hWb hWr hWa hWk
    go_wp2_with fail
    refine (hW.out _ _ hto.rb).mono ?_
    rintro e w7 ⟨rfl, hb7⟩
    clear hW hcm6 hc2 hf2
    go_wp2
    go_ret2
    exact ⟨_, _, rfl, by rw [hAA.out]; exact Handed.single hto hb7 A⟩)

set_option maxRecDepth 100000 in
set_option maxHeartbeats 1000000 in
theorem rh_rej3 (s : ByteArray) (hs : s.size ≤ 140737488351232) (w : World) (B : Nat) (evs : List Ev) (v : Value) (f t i l p g a : Nat) (m : List UInt8) (hxok : (⟨3, f, t, i, l, p, g, a, m⟩ : Msg).ok) (t1 nk nf nt ni nl np ng na : Nat) (nm : List UInt8) (t3 : Bool)
    (he0 : decErr s.data.toList = 0) (hx : decMsg s.data.toList = ⟨3, f, t, i, l, p, g, a, m⟩) (hT : legOf i l evs = (t1, ⟨nk, nf, nt, ni, nl, np, ng, na, nm⟩, t3))
    (hR : RB w B t evs v) (hap : v.ownBlock ≠ some B) (hok : ∀ e, e ∈ evs → e.ok) (hlen : evs.length ≤ 900000) (h3 : t1 ≠ 3) (h4 : t1 ≠ 4) (h0 : t1 ≠ 0) :
    Calls Tryz.prog 31 #[.pointer (some ⟨B, 0, none⟩), .string s] w fun e w' => ∃ v' lv, e = .returned (.tuple #[lv, .int .i64 0]) ∧ Handed w w' B t (evs ++ [⟨3, ⟨3, f, t, i, l, p, g, a, m⟩, false⟩]) v v' lv [ansOf t i l (legOf i l (evs ++ [⟨3, ⟨3, f, t, i, l, p, g, a, m⟩, false⟩])).1] := by
  have hD := hide (refDecode_any s hs)
  rw [he0, hx] at hD
  have hL := hide (fun u (hu : RB u B t evs v) => leg_any i l hxok.2.2.2.1 hxok.2.2.2.2.1 u B t evs v hu hok (by omega))
  rw [hT] at hL
  have hK := hide (fun u (hu : RB u B t evs v) => kept_any u B t evs v hu hok (by omega))
  have hkl : (keysOf evs).length ≤ evs.length := keysTo_length _ _
  generalize hnn : (keysOf evs).length = n at *
  replace hnn := hide hnn
  obtain ⟨ad, cap, hv, hev⟩ := hR.form
  clear hev he0 hx
  replace hT := hide hT
  subst hv
  have hxok' := hide hxok
  obtain ⟨hk, hf, ht, hi, hl, hp, hg, ha⟩ := hxok
  simp only [Msg.v, Msg.cells] at hk hf ht hi hl hp hg ha hD hL
  have hBl := hR.lt
  have hcs : ((t : Int) != (t : Int)) = false := by simp
  go_enter Tryz.func31, Tryz.ntmps31
  go_wp2_with fail
  refine (hD.out _).mono ?_
  rintro e w1 ⟨rfl, hb⟩
  have hR1 := hR.below hb
  have hc : ∀ o, _ = _ := fun o => cell_at hR1.blk o
  have hBl1 := hR1.lt
  clear hD
  go_wp2_with fail
  go_quiet (fail)
  have B1 := (Box.mk0 w1 #[Value.int .u8 3, .int .u8 (f : Int), .int .u8 (t : Int), .int .u32 (i : Int), .int .u8 (l : Int), .int .u16 (p : Int), .int .u16 (g : Int), .int .u32 (a : Int), .string (bs m)] 40).drewN nq
  generalize World.drewN _ _ = w2 at *
  have hcm := B1.cell
  have hlt1 := B1.lt
  have hR2 := hR1.below B1.bel
  have hBl2 := hR2.lt
  clear hc
  go_wp2_with fail
  refine (hL.out _ hR2).mono ?_
  rintro e w3 ⟨rfl, hb3⟩
  have hR3 := hR2.below hb3
  have B3 := B1.below hb3
  clear hcm hlt1 B1 hL
  go_wp2_with fail
  refine (hK.out _ (hR3.below ((Below.refl _ _).alloc (Nat.le_refl _) _))).mono ?_
  rintro e w4 ⟨rfl, hb4⟩
  have B4 := (B3.alloc _).below hb4
  have hcm := B4.cell
  have hltm := B4.lt
  have hco := fun o => cel_kept hb4 o
  have hlto := lt_kept hb4
  have hR4 := (hR3.below ((Below.refl _ _).alloc (Nat.le_refl _) _)).below hb4
  have hbel4 := hb.trans (B4.bel.mono hb.size)
  clear hb3 hb4 hK B3
  have e3 : ((t1 : Int) == 3) = false := by simp; omega
  have e0 : ((t1 : Int) == 0) = false := by simp; omega
  have e4 : ((t1 : Int) != 4) = true := by simp; omega
  clear h3 h4 h0
  have hok2 : Hid (∀ e, e ∈ evs ++ [⟨3, ⟨3, f, t, i, l, p, g, a, m⟩, false⟩] → e.ok) := hide (fun e he => by rcases List.mem_append.1 he with h | h; exact hok e h; rw [List.mem_singleton.1 h]; exact ⟨by show (3 : Nat) < 4; omega, hxok'.out⟩)
  have hW := told_at 3 f t i l p g a m hxok'.out 3 rfl B t ht (evs ++ [⟨3, ⟨3, f, t, i, l, p, g, a, m⟩, false⟩]) hok2.out (by simp; omega)
  generalize hAA : ansOf t i l (legOf i l (evs ++ [⟨3, ⟨3, f, t, i, l, p, g, a, m⟩, false⟩])).1 = A at hW
  replace hAA := hide hAA
  obtain ⟨i0, hi0, y0, y1, y2⟩ := info_parts evInfo
  have hc : ∀ o, _ = _ := fun o => cell_at hR4.blk o
  have hf' : ∀ o, _ = _ := fun o => frozen_at hR4.blk o
  have hBl9 := hR4.lt
  have hrow1 := hR4.row
  have hneB : w1.heap.size ≠ B := by omega
  have hneB' : B ≠ w1.heap.size := by omega
  have hown : ∀ k, (Value.slice ad evs.length cap).ownBlock = some k → k < w1.heap.size := fun k hk => hR1.row.lt hk
  have hWb : Below w4.heap.size w4 (w4.alloc (.cells (Ev.cells ⟨3, ⟨3, f, t, i, l, p, g, a, m⟩, false⟩).toArray 150)).drew := ((Below.refl _ _).alloc (Nat.le_refl _) _).drew
  have hWr := hide (hrow1.below hWb)
  have hWa : Hid ((w4.alloc (.cells (Ev.cells ⟨3, ⟨3, f, t, i, l, p, g, a, m⟩, false⟩).toArray 150)).drew.heap[w4.heap.size]? = some (.cells (Ev.cells ⟨3, ⟨3, f, t, i, l, p, g, a, m⟩, false⟩).toArray 150 (0, 0))) := hide (heap_alloc_self w4 _)
  have hWk : Hid (Kept (fun k => (Value.slice ad evs.length cap).ownBlock = some k) w4 (w4.alloc (.cells (Ev.cells ⟨3, ⟨3, f, t, i, l, p, g, a, m⟩, false⟩).toArray 150)).drew) := hide (Kept.of_below hWb)
  go_wp2_with fail
  go_region_law (refine step_row Ev.cells_length (by rfl) _ _ 76 (by rfl) 150 i0 _ 56 Tryz.underlying76 hi0 y0 y1 y2 rfl (by decide) (.slice ad evs.length cap) evs w4.heap.size 1 ⟨3, ⟨3, f, t, i, l, p, g, a, m⟩, false⟩ (ev_one _) (by unfold maxLen; omega) (by omega) (by first | rfl | simp [Act.eval, Act.put]) (by first | rfl | simp [Act.eval, Act.put]) (by exact hWr.out) (by exact hWa.out) ?_; intro g' cap' w6 hrow2 hk2 hg2 hlt2; replace hk2 := hWk.out.trans hk2 (fun i hi => .inl hi); replace hg2 := hg2.imp_right (fun h => Nat.le_trans hWb.size h); have hblk : w6.heap[B]? = some (.cells #[.int .u8 (t : Int), .slice ad evs.length cap] 78 (0, 0)) := (by rw [hk2.block B hBl9 hap]; exact hR4.blk); have hc2 := fun o => cell_at hblk o; have hf2 := fun o => frozen_at hblk o; have hcm6 := boxes_kept B4 hk2 hown; have hlt6 := Nat.lt_of_lt_of_le B4.lt hk2.size; have X : Hid (RowOf w6 150 11 Ev.cells (.slice (some ⟨g', 0, none⟩) (evs.length + 1) cap') (evs ++ [⟨3, ⟨3, f, t, i, l, p, g, a, m⟩, false⟩]) ∧ Kept (fun k => (Value.slice ad evs.length cap).ownBlock = some k) w4 w6 ∧ ((Value.slice ad evs.length cap).ownBlock = some g' ∨ w4.heap.size ≤ g')) := hide ⟨hrow2, hk2, hg2⟩; clear hrow2 hk2 hg2 hblk)
  all_goals (
    have hto := RBTo.from hbel4 (RB.grow hR4 hap X.out.1 X.out.2.1 X.out.2.2)
    clear hcm hWb hWr hWa hWk
    go_wp2_with fail
    refine (hW.out _ _ hto.rb).mono ?_
    rintro e w7 ⟨rfl, hb7⟩
    clear hW hcm6 hc2 hf2
    go_wp2
    go_ret2
    exact ⟨_, _, rfl, by rw [hAA.out]; exact Handed.single hto hb7 A⟩)

set_option maxRecDepth 100000 in
set_option maxHeartbeats 1000000 in
theorem rh_new3 (s : ByteArray) (hs : s.size ≤ 140737488351232) (w : World) (B : Nat) (evs : List Ev) (v : Value) (f t i l p g a : Nat) (m : List UInt8) (hxok : (⟨3, f, t, i, l, p, g, a, m⟩ : Msg).ok) (t1 nk nf nt ni nl np ng na : Nat) (nm : List UInt8) (t3 : Bool)
    (he0 : decErr s.data.toList = 0) (hx : decMsg s.data.toList = ⟨3, f, t, i, l, p, g, a, m⟩) (hT : legOf i l evs = (t1, ⟨nk, nf, nt, ni, nl, np, ng, na, nm⟩, t3))
    (hR : RB w B t evs v) (hap : v.ownBlock ≠ some B) (hok : ∀ e, e ∈ evs → e.ok) (hlen : evs.length ≤ 900000) (h0 : t1 = 0) (hroom : (keysOf evs).length < 128) :
    Calls Tryz.prog 31 #[.pointer (some ⟨B, 0, none⟩), .string s] w fun e w' => ∃ v' lv, e = .returned (.tuple #[lv, .int .i64 0]) ∧ Handed w w' B t (evs ++ [⟨3, ⟨3, f, t, i, l, p, g, a, m⟩, false⟩]) v v' lv [ansOf t i l (legOf i l (evs ++ [⟨3, ⟨3, f, t, i, l, p, g, a, m⟩, false⟩])).1] := by
  have hD := hide (refDecode_any s hs)
  rw [he0, hx] at hD
  have hL := hide (fun u (hu : RB u B t evs v) => leg_any i l hxok.2.2.2.1 hxok.2.2.2.2.1 u B t evs v hu hok (by omega))
  rw [hT] at hL
  have hK := hide (fun u (hu : RB u B t evs v) => kept_any u B t evs v hu hok (by omega))
  have hkl : (keysOf evs).length ≤ evs.length := keysTo_length _ _
  generalize hnn : (keysOf evs).length = n at *
  replace hnn := hide hnn
  obtain ⟨ad, cap, hv, hev⟩ := hR.form
  clear hev he0 hx
  replace hT := hide hT
  subst hv
  have hxok' := hide hxok
  obtain ⟨hk, hf, ht, hi, hl, hp, hg, ha⟩ := hxok
  simp only [Msg.v, Msg.cells] at hk hf ht hi hl hp hg ha hD hL
  have hBl := hR.lt
  have hcs : ((t : Int) != (t : Int)) = false := by simp
  go_enter Tryz.func31, Tryz.ntmps31
  go_wp2_with fail
  refine (hD.out _).mono ?_
  rintro e w1 ⟨rfl, hb⟩
  have hR1 := hR.below hb
  have hc : ∀ o, _ = _ := fun o => cell_at hR1.blk o
  have hBl1 := hR1.lt
  clear hD
  go_wp2_with fail
  go_quiet (fail)
  have B1 := (Box.mk0 w1 #[Value.int .u8 3, .int .u8 (f : Int), .int .u8 (t : Int), .int .u32 (i : Int), .int .u8 (l : Int), .int .u16 (p : Int), .int .u16 (g : Int), .int .u32 (a : Int), .string (bs m)] 40).drewN nq
  generalize World.drewN _ _ = w2 at *
  have hcm := B1.cell
  have hlt1 := B1.lt
  have hR2 := hR1.below B1.bel
  have hBl2 := hR2.lt
  clear hc
  go_wp2_with fail
  refine (hL.out _ hR2).mono ?_
  rintro e w3 ⟨rfl, hb3⟩
  have hR3 := hR2.below hb3
  have B3 := B1.below hb3
  clear hcm hlt1 B1 hL
  go_wp2_with fail
  refine (hK.out _ (hR3.below ((Below.refl _ _).alloc (Nat.le_refl _) _))).mono ?_
  rintro e w4 ⟨rfl, hb4⟩
  have B4 := (B3.alloc _).below hb4
  have hcm := B4.cell
  have hltm := B4.lt
  have hco := fun o => cel_kept hb4 o
  have hlto := lt_kept hb4
  have hR4 := (hR3.below ((Below.refl _ _).alloc (Nat.le_refl _) _)).below hb4
  have hbel4 := hb.trans (B4.bel.mono hb.size)
  clear hb3 hb4 hK B3
  have e3 : ((t1 : Int) == 3) = false := by simp; omega
  have e0 : ((t1 : Int) == 0) = true := by simp; omega
  have e4 : ((t1 : Int) != 4) = true := by simp; omega
  have dn : decide ((n : Int) ≥ 128) = false := by simp; omega
  have dn' : decide ((128 : Int) ≤ (n : Int)) = false := by simp; omega
  clear h0
  have hok2 : Hid (∀ e, e ∈ evs ++ [⟨3, ⟨3, f, t, i, l, p, g, a, m⟩, false⟩] → e.ok) := hide (fun e he => by rcases List.mem_append.1 he with h | h; exact hok e h; rw [List.mem_singleton.1 h]; exact ⟨by show (3 : Nat) < 4; omega, hxok'.out⟩)
  have hW := told_at 3 f t i l p g a m hxok'.out 3 rfl B t ht (evs ++ [⟨3, ⟨3, f, t, i, l, p, g, a, m⟩, false⟩]) hok2.out (by simp; omega)
  generalize hAA : ansOf t i l (legOf i l (evs ++ [⟨3, ⟨3, f, t, i, l, p, g, a, m⟩, false⟩])).1 = A at hW
  replace hAA := hide hAA
  obtain ⟨i0, hi0, y0, y1, y2⟩ := info_parts evInfo
  have hc : ∀ o, _ = _ := fun o => cell_at hR4.blk o
  have hf' : ∀ o, _ = _ := fun o => frozen_at hR4.blk o
  have hBl9 := hR4.lt
  have hrow1 := hR4.row
  have hneB : w1.heap.size ≠ B := by omega
  have hneB' : B ≠ w1.heap.size := by omega
  have hown : ∀ k, (Value.slice ad evs.length cap).ownBlock = some k → k < w1.heap.size := fun k hk => hR1.row.lt hk
  have hWb : Below w4.heap.size w4 (w4.alloc (.cells (Ev.cells ⟨3, ⟨3, f, t, i, l, p, g, a, m⟩, false⟩).toArray 150)).drew := ((Below.refl _ _).alloc (Nat.le_refl _) _).drew
  have hWr := hide (hrow1.below hWb)
  have hWa : Hid ((w4.alloc (.cells (Ev.cells ⟨3, ⟨3, f, t, i, l, p, g, a, m⟩, false⟩).toArray 150)).drew.heap[w4.heap.size]? = some (.cells (Ev.cells ⟨3, ⟨3, f, t, i, l, p, g, a, m⟩, false⟩).toArray 150 (0, 0))) := hide (heap_alloc_self w4 _)
  have hWk : Hid (Kept (fun k => (Value.slice ad evs.length cap).ownBlock = some k) w4 (w4.alloc (.cells (Ev.cells ⟨3, ⟨3, f, t, i, l, p, g, a, m⟩, false⟩).toArray 150)).drew) := hide (Kept.of_below hWb)
  go_wp2_with fail
  go_region_law (refine step_row Ev.cells_length (by rfl) _ _ 76 (by rfl) 150 i0 _ 56 Tryz.underlying76 hi0 y0 y1 y2 rfl (by decide) (.slice ad evs.length cap) evs w4.heap.size 1 ⟨3, ⟨3, f, t, i, l, p, g, a, m⟩, false⟩ (ev_one _) (by unfold maxLen; omega) (by omega) (by first | rfl | simp [Act.eval, Act.put]) (by first | rfl | simp [Act.eval, Act.put]) (by exact hWr.out) (by exact hWa.out) ?_; intro g' cap' w6 hrow2 hk2 hg2 hlt2; replace hk2 := hWk.out.trans hk2 (fun i hi => .inl hi); replace hg2 := hg2.imp_right (fun h => Nat.le_trans hWb.size h); have hblk : w6.heap[B]? = some (.cells #[.int .u8 (t : Int), .slice ad evs.length cap] 78 (0, 0)) := (by rw [hk2.block B hBl9 hap]; exact hR4.blk); have hc2 := fun o => cell_at hblk o; have hf2 := fun o => frozen_at hblk o; have hcm6 := boxes_kept B4 hk2 hown; have hlt6 := Nat.lt_of_lt_of_le B4.lt hk2.size; have X : Hid (RowOf w6 150 11 Ev.cells (.slice (some ⟨g', 0, none⟩) (evs.length + 1) cap') (evs ++ [⟨3, ⟨3, f, t, i, l, p, g, a, m⟩, false⟩]) ∧ Kept (fun k => (Value.slice ad evs.length cap).ownBlock = some k) w4 w6 ∧ ((Value.slice ad evs.length cap).ownBlock = some g' ∨ w4.heap.size ≤ g')) := hide ⟨hrow2, hk2, hg2⟩; clear hrow2 hk2 hg2 hblk)
  all_goals (
    have hto := RBTo.from hbel4 (RB.grow hR4 hap X.out.1 X.out.2.1 X.out.2.2)
    clear hcm hWb hWr hWa hWk
    go_wp2_with fail
    refine (hW.out _ _ hto.rb).mono ?_
    rintro e w7 ⟨rfl, hb7⟩
    clear hW hcm6 hc2 hf2
    go_wp2
    go_ret2
    exact ⟨_, _, rfl, by rw [hAA.out]; exact Handed.single hto hb7 A⟩)

end Go.Proofs.YtjkhbjgfoopomaaGreat
/-
  The document's Bank.Handle, for every text.
-/
namespace Go.Proofs.YtjkhbjgfoopomaaGreat
open Go.RowKit
set_option linter.unusedVariables false
set_option linter.unusedSimpArgs false

theorem decMsg_ok (l : List UInt8) : (decMsg l).ok := by
  unfold decMsg
  split
  · rename_i h
    unfold decErr at h
    split at h
    · omega
    · rename_i hf
      have : 22 ≤ l.length := by
        simp only [formB, Bool.not_eq_true, Bool.not_eq_false', Bool.and_eq_true, decide_eq_true_eq] at hf
        exact hf.1.1
      exact sayOf_ok this
  · exact zero_ok
theorem decMsg_fault (l : List UInt8) (h : decErr l = 0) : faultOf (decMsg l) = 0 := by
  have h0 := h
  unfold decErr at h
  split at h
  · omega
  · split at h
    · omega
    · simp only [decMsg, h0, if_true]
      exact h
theorem fault_kind (x : Msg) (h : faultOf x = 0) (ht : x.t ≠ 0) : 1 ≤ x.k ∧ x.k ≤ 3 ∧ x.l < 4 ∧ (x.k = 1 → x.a ≠ 0) := by
  unfold faultOf at h
  split at h
  · omega
  · rename_i hk
    split at h
    · omega
    · rename_i hw
      split at h
      · omega
      · rename_i hl
        simp only [kindB, Bool.not_eq_true, Bool.not_eq_false', Bool.and_eq_true, decide_eq_true_eq] at hk
        simp only [wayB, Bool.not_eq_true, Bool.not_eq_false'] at hw
        refine ⟨hk.1, ?_, by omega, ?_⟩
        · by_cases h3 : x.k ≤ 3
          · exact h3
          · rw [if_neg h3] at hw
            simp only [Bool.and_eq_true, decide_eq_true_eq] at hw
            exact absurd hw.1 ht
        · intro h1
          rw [if_pos h1] at h
          unfold termsOf at h
          split at h
          · omega
          · assumption

def rErr (node : Nat) (l : List UInt8) (evs : List Ev) : Nat := if decErr l ≠ 0 then decErr l else if (decMsg l).t ≠ node then 4 else hErrOf (decMsg l) evs
def rEvs (node : Nat) (l : List UInt8) (evs : List Ev) : List Ev := if rErr node l evs = 0 then hEvsOf (decMsg l) evs else evs
def rOuts (node : Nat) (l : List UInt8) (evs : List Ev) : List (List UInt8) := if rErr node l evs = 0 then [ansOf node (decMsg l).i (decMsg l).l (legOf (decMsg l).i (decMsg l).l (hEvsOf (decMsg l) evs)).1] else []

set_option maxRecDepth 100000 in
set_option maxHeartbeats 1000000 in
theorem rh_dec (s : ByteArray) (hs : s.size ≤ 140737488351232) (w : World) (B t : Nat) (evs : List Ev) (v : Value) (he0 : decErr s.data.toList ≠ 0) (hR : RB w B t evs v) (hap : v.ownBlock ≠ some B) :
    Calls Tryz.prog 31 #[.pointer (some ⟨B, 0, none⟩), .string s] w fun e w' => e = .returned (.tuple #[.slice none 0 0, .int .i64 (decErr s.data.toList : Int)]) ∧ ∃ v', RBTo w w' B t evs v v' := by
  have hD := hide (refDecode_any s hs)
  generalize decErr s.data.toList = er at *
  generalize decMsg s.data.toList = x at *
  obtain ⟨k, f, t', i, l, p, g, a, m⟩ := x
  simp only [Msg.v, Msg.cells] at hD
  have d0 : ((er : Int) != 0) = true := by simp; omega
  go_enter Tryz.func31, Tryz.ntmps31
  go_wp2_with fail
  refine (hD.out _).mono ?_
  rintro e w1 ⟨rfl, hb⟩
  clear hD
  go_wp2
  go_ret2
  exact ⟨rfl, _, RBTo.same hR hap (hb.alloc hb.size _)⟩

set_option maxRecDepth 100000 in
set_option maxHeartbeats 1000000 in
theorem rh_node (s : ByteArray) (hs : s.size ≤ 140737488351232) (w : World) (B t : Nat) (ht : t < 256) (evs : List Ev) (v : Value) (he0 : decErr s.data.toList = 0) (hn : (decMsg s.data.toList).t ≠ t) (hR : RB w B t evs v) (hap : v.ownBlock ≠ some B) :
    Calls Tryz.prog 31 #[.pointer (some ⟨B, 0, none⟩), .string s] w fun e w' => e = .returned (.tuple #[.slice none 0 0, .int .i64 4]) ∧ ∃ v', RBTo w w' B t evs v v' := by
  have hD := hide (refDecode_any s hs)
  rw [he0] at hD
  have hok := decMsg_ok s.data.toList
  generalize decMsg s.data.toList = x at *
  obtain ⟨k, f, t', i, l, p, g, a, m⟩ := x
  obtain ⟨_, _, ht', _, _, _, _, _⟩ := hok
  simp only [Msg.v, Msg.cells] at hD hn ht'
  have hcs : ((t' : Int) != (t : Int)) = true := by simp; omega
  go_enter Tryz.func31, Tryz.ntmps31
  go_wp2_with fail
  refine (hD.out _).mono ?_
  rintro e w1 ⟨rfl, hb⟩
  have hR1 := hR.below hb
  have hc : ∀ o, _ = _ := fun o => cell_at hR1.blk o
  have hBl1 := hR1.lt
  clear hD
  go_wp2_with fail
  go_quiet (fail)
  go_wp2
  go_ret2
  exact ⟨rfl, _, RBTo.same hR hap ((hb.alloc hb.size _).drewN _)⟩

set_option maxHeartbeats 1000000 in
theorem refHandle_any (s : ByteArray) (hs : s.size ≤ 140737488351232) (w : World) (B node : Nat) (hnode : 1 ≤ node ∧ node ≤ 7) (evs : List Ev) (v : Value) (hR : RB w B node evs v) (hap : v.ownBlock ≠ some B) (hok : ∀ e, e ∈ evs → e.ok) (hlen : evs.length ≤ 900000)
    (hge : ∀ a, outOf a evs (keysOf evs) ≤ (openedOf a evs).1 + inOf a evs (keysOf evs)) :
    Calls Tryz.prog 31 #[.pointer (some ⟨B, 0, none⟩), .string s] w fun e w' =>
      ∃ v' lv, e = .returned (.tuple #[lv, .int .i64 (rErr node s.data.toList evs : Int)]) ∧ Handed w w' B node (rEvs node s.data.toList evs) v v' lv (rOuts node s.data.toList evs) := by
  have bad : ∀ er : Nat, er ≠ 0 → rErr node s.data.toList evs = er → (Calls Tryz.prog 31 #[.pointer (some ⟨B, 0, none⟩), .string s] w fun e w' => e = .returned (.tuple #[.slice none 0 0, .int .i64 (er : Int)]) ∧ ∃ v', RBTo w w' B node evs v v') → Calls Tryz.prog 31 #[.pointer (some ⟨B, 0, none⟩), .string s] w fun e w' =>
      ∃ v' lv, e = .returned (.tuple #[lv, .int .i64 (rErr node s.data.toList evs : Int)]) ∧ Handed w w' B node (rEvs node s.data.toList evs) v v' lv (rOuts node s.data.toList evs) := by
    intro er h0 he hC
    refine Calls.mono hC ?_
    rintro e w' ⟨rfl, v', hto⟩
    refine ⟨v', _, by rw [he], ?_⟩
    have h1 : rEvs node s.data.toList evs = evs := by unfold rEvs; rw [he, if_neg h0]
    have h2 : rOuts node s.data.toList evs = [] := by unfold rOuts; rw [he, if_neg h0]
    rw [h1, h2]
    exact Handed.nil hto
  by_cases he0 : decErr s.data.toList = 0
  · by_cases hto : (decMsg s.data.toList).t = node
    · have hx : rErr node s.data.toList evs = hErrOf (decMsg s.data.toList) evs := by unfold rErr; rw [if_neg (by simp [he0]), if_neg (by simp [hto])]
      have good : ∀ (x : Msg) (new : List Ev), decMsg s.data.toList = x → hErrOf x evs = 0 → hEvsOf x evs = evs ++ new → (Calls Tryz.prog 31 #[.pointer (some ⟨B, 0, none⟩), .string s] w fun e w' => ∃ v' lv, e = .returned (.tuple #[lv, .int .i64 0]) ∧ Handed w w' B node (evs ++ new) v v' lv [ansOf node x.i x.l (legOf x.i x.l (evs ++ new)).1]) → Calls Tryz.prog 31 #[.pointer (some ⟨B, 0, none⟩), .string s] w fun e w' =>
          ∃ v' lv, e = .returned (.tuple #[lv, .int .i64 (rErr node s.data.toList evs : Int)]) ∧ Handed w w' B node (rEvs node s.data.toList evs) v v' lv (rOuts node s.data.toList evs) := by
        intro x new hxx h0 hn hC
        have he : rErr node s.data.toList evs = 0 := by rw [hx, hxx, h0]
        have h1 : rEvs node s.data.toList evs = evs ++ new := by unfold rEvs; rw [if_pos he, hxx, hn]
        have h2 : rOuts node s.data.toList evs = [ansOf node x.i x.l (legOf x.i x.l (evs ++ new)).1] := by unfold rOuts; rw [if_pos he, hxx, hn]
        rw [h1, h2, he]
        exact hC
      have hfk := fault_kind _ (decMsg_fault _ he0) (by omega)
      have hxok := decMsg_ok s.data.toList
      have herr : ∀ er, er ≠ 0 → hErrOf (decMsg s.data.toList) evs = er → _ := fun er h0 h => bad er h0 (by rw [hx, h])
      generalize hxx : decMsg s.data.toList = x at *
      obtain ⟨k, f, t, i, l, p, g, a, m⟩ := x
      simp only at hfk hto
      subst hto
      have ask := legOf_asked i l evs
      have hE : hErrOf ⟨k, f, t, i, l, p, g, a, m⟩ evs = hErrT ⟨k, f, t, i, l, p, g, a, m⟩ (legOf i l evs) (keysOf evs).length := rfl
      have hN : hEvsOf ⟨k, f, t, i, l, p, g, a, m⟩ evs = evs ++ hNewT ⟨k, f, t, i, l, p, g, a, m⟩ (legOf i l evs) (keysOf evs).length (canB ⟨k, f, t, i, l, p, g, a, m⟩ evs) := rfl
      generalize hT : legOf i l evs = T at *
      obtain ⟨t1, ⟨nk, nf, nt, ni, nl, np, ng, na, nm⟩, t3⟩ := T
      simp only at ask
      have hk3 : k = 1 ∨ k = 2 ∨ k = 3 := by omega
      rcases hk3 with rfl | rfl | rfl
      · cases t3 with
        | true =>
          have h0 := ask rfl
          by_cases ho : otherB ⟨1, f, t, i, l, p, g, a, m⟩ ⟨nk, nf, nt, ni, nl, np, ng, na, nm⟩ = true
          · exact herr 11 (by decide) (by rw [hE]; simp [hErrT, hNewT, ho]) (rh_conflict s hs w B evs v f t i l p g a m hxok t1 nk nf nt ni nl np ng na nm true he0 hxx hT hR hap hok hlen rfl ho)
          · have ho' : otherB ⟨1, f, t, i, l, p, g, a, m⟩ ⟨nk, nf, nt, ni, nl, np, ng, na, nm⟩ = false := by simpa using ho
            exact good _ [] rfl (by rw [hE]; simp [hErrT, hNewT, ho', h0]) (by rw [hN]; simp [hErrT, hNewT, ho', h0]) (by rw [List.append_nil]; exact rh_same1a s hs w B evs v f t i l p g a m hxok t1 nk nf nt ni nl np ng na nm true he0 hxx hT hR hap hok hlen rfl ho' h0)
        | false =>
          by_cases h0 : t1 = 0
          · by_cases hfull : 128 ≤ (keysOf evs).length
            · exact herr 10 (by decide) (by rw [hE]; simp [hErrT, hNewT, h0, hfull]) (rh_full1 s hs w B evs v f t i l p g a m hxok t1 nk nf nt ni nl np ng na nm false he0 hxx hT hR hap hok hlen h0 rfl hfull)
            · exact good _ [⟨1, ⟨1, f, t, i, l, p, g, a, m⟩, canB ⟨1, f, t, i, l, p, g, a, m⟩ evs⟩] rfl (by rw [hE]; simp [hErrT, hNewT, h0, hfull]) (by rw [hN]; simp [hErrT, hNewT, h0, hfull]) (rh_new1 s hs w B evs v f t i l p g a m hxok t1 nk nf nt ni nl np ng na nm false he0 hxx hT hR hap hok hlen rfl h0 (by omega) hge _ rfl)
          · exact good _ [] rfl (by rw [hE]; simp [hErrT, hNewT, h0]) (by rw [hN]; simp [hErrT, hNewT, h0]) (by rw [List.append_nil]; exact rh_same1b s hs w B evs v f t i l p g a m hxok t1 nk nf nt ni nl np ng na nm false he0 hxx hT hR hap hok hlen rfl h0)
      · by_cases h1 : t1 = 1
        · exact good _ [⟨2, ⟨2, f, t, i, l, p, g, a, m⟩, false⟩] rfl (by rw [hE]; simp [hErrT, hNewT, h1]) (by rw [hN]; simp [hErrT, hNewT, h1]) (rh_exec2 s hs w B evs v f t i l p g a m hxok t1 nk nf nt ni nl np ng na nm t3 he0 hxx hT hR hap hok hlen h1)
        · by_cases h3 : t1 = 3
          · exact good _ [] rfl (by rw [hE]; simp [hErrT, hNewT, h3]) (by rw [hN]; simp [hErrT, hNewT, h3]) (by rw [List.append_nil]; exact rh_same2 s hs w B evs v f t i l p g a m hxok t1 nk nf nt ni nl np ng na nm t3 he0 hxx hT hR hap hok hlen h3)
          · exact herr 14 (by decide) (by rw [hE]; simp [hErrT, hNewT, h1, h3]) (rh_state2 s hs w B evs v f t i l p g a m hxok t1 nk nf nt ni nl np ng na nm t3 he0 hxx hT hR hap hok hlen h1 h3)
      · by_cases h3 : t1 = 3
        · exact herr 14 (by decide) (by rw [hE]; simp [hErrT, hNewT, h3]) (rh_state3 s hs w B evs v f t i l p g a m hxok t1 nk nf nt ni nl np ng na nm t3 he0 hxx hT hR hap hok hlen h3)
        · by_cases h0 : t1 = 0
          · have ht3 : t3 = false := by
              cases t3 with
              | true => exact absurd h0 (ask rfl)
              | false => rfl
            by_cases hfull : 128 ≤ (keysOf evs).length
            · exact herr 10 (by decide) (by rw [hE]; simp [hErrT, hNewT, h0, hfull]) (rh_full3 s hs w B evs v f t i l p g a m hxok t1 nk nf nt ni nl np ng na nm t3 he0 hxx hT hR hap hok hlen h0 ht3 hfull)
            · exact good _ [⟨3, ⟨3, f, t, i, l, p, g, a, m⟩, false⟩] rfl (by rw [hE]; simp [hErrT, hNewT, h0, hfull]) (by rw [hN]; simp [hErrT, hNewT, h0, hfull]) (rh_new3 s hs w B evs v f t i l p g a m hxok t1 nk nf nt ni nl np ng na nm t3 he0 hxx hT hR hap hok hlen h0 (by omega))
          · by_cases h4 : t1 = 4
            · exact good _ [] rfl (by rw [hE]; simp [hErrT, hNewT, h4]) (by rw [hN]; simp [hErrT, hNewT, h4]) (by rw [List.append_nil]; exact rh_same3 s hs w B evs v f t i l p g a m hxok t1 nk nf nt ni nl np ng na nm t3 he0 hxx hT hR hap hok hlen h4)
            · exact good _ [⟨3, ⟨3, f, t, i, l, p, g, a, m⟩, false⟩] rfl (by rw [hE]; simp [hErrT, hNewT, h0, h3, h4]) (by rw [hN]; simp [hErrT, hNewT, h0, h3, h4]) (rh_rej3 s hs w B evs v f t i l p g a m hxok t1 nk nf nt ni nl np ng na nm t3 he0 hxx hT hR hap hok hlen h3 h4 h0)
    · exact bad 4 (by decide) (by unfold rErr; rw [if_neg (by simp [he0]), if_pos hto]) (rh_node s hs w B node (by omega) evs v he0 hto hR hap)
  · exact bad _ he0 (by unfold rErr; rw [if_pos he0]) (rh_dec s hs w B node evs v he0 hR hap)
end Go.Proofs.YtjkhbjgfoopomaaGreat
