import Derived.Test.YtjkhbjgfoopomabGreatA17
namespace Go.Proofs.YtjkhbjgfoopomabGreat
open Go.RowKit
set_option maxRecDepth 100000
set_option maxHeartbeats 1000000
set_option linter.unusedVariables false
set_option linter.unusedSimpArgs false
theorem rh_same1a (s : ByteArray) (hs : s.size ≤ 140737488351232) (w : World) (B : Nat) (evs : List Ev) (v : Value) (f t i l p g a : Nat) (m : List UInt8) (hxok : (⟨1, f, t, i, l, p, g, a, m⟩ : Msg).ok) (t1 nk nf nt ni nl np ng na : Nat) (nm : List UInt8) (t3 : Bool)
  (he0 : decErr s.data.toList = 0) (hx : decMsg s.data.toList = ⟨1, f, t, i, l, p, g, a, m⟩) (hT : legOf i l evs = (t1, ⟨nk, nf, nt, ni, nl, np, ng, na, nm⟩, t3))
  (hR : RB w B t evs v) (hap : v.ownBlock ≠ some B) (hok : ∀ e, e ∈ evs → e.ok) (hlen : evs.length ≤ 900000) (h3 : t3 = true) (ho : otherB ⟨1, f, t, i, l, p, g, a, m⟩ ⟨nk, nf, nt, ni, nl, np, ng, na, nm⟩ = false) (h0 : t1 ≠ 0) :
  Calls Tryz.prog 84 #[.pointer (some ⟨B, 0, none⟩), .string s] w fun e w' => ∃ v' lv, e = .returned (.tuple #[lv, .int .i64 0]) ∧ Handed w w' B t (evs) v v' lv [ansOf t i l (legOf i l (evs)).1] := by
 have hD := hide (refDecode_any s hs)
 rw [he0, hx] at hD
 have hL := hide (fun u (hu : RB u B t evs v) => leg_any i l hxok.2.2.2.1 hxok.2.2.2.2.1 u B t evs v hu hok (by omega))
 rw [hT] at hL
 have hK := hide (fun u (hu : RB u B t evs v) => kept_any u B t evs v hu hok (by omega))
 have hkl : (keysOf evs).length ≤ evs.length := keysTo_length _ _
 generalize hnn : (keysOf evs).length = n at *
 replace hnn := hide hnn
 obtain ⟨ad, cap, hv, hev⟩ := hR.form
 clear hev he0 hx
 replace hT := hide hT
 subst hv
 have hxok' := hide hxok
 obtain ⟨hk, hf, ht, hi, hl, hp, hg, ha⟩ := hxok
 simp only [Msg.v, Msg.cells] at hk hf ht hi hl hp hg ha hD hL
 have hBl := hR.lt
 have hcs : ((t : Int) != (t : Int)) = false := by simp
 go_enter Tryz.func84, Tryz.ntmps84
 go_wp2_with fail
 refine (hD.out _).mono ?_
 rintro e w1 ⟨rfl, hb⟩
 have hR1 := hR.below hb
 have hc : ∀ o, _ = _ := fun o => cell_at hR1.blk o
 have hBl1 := hR1.lt
 clear hD
 go_wp2_with fail
 go_quiet (fail)
 have B1 := (Box.mk0 w1 #[Value.int .u8 1, .int .u8 (f : Int), .int .u8 (t : Int), .int .u32 (i : Int), .int .u8 (l : Int), .int .u16 (p : Int), .int .u16 (g : Int), .int .u32 (a : Int), .string (bs m)] 102).drewN nq
 generalize World.drewN _ _ = w2 at *
 have hcm := B1.cell
 have hlt1 := B1.lt
 have hR2 := hR1.below B1.bel
 have hBl2 := hR2.lt
 clear hc
 go_wp2_with fail
 refine (hL.out _ hR2).mono ?_
 rintro e w3 ⟨rfl, hb3⟩
 have hR3 := hR2.below hb3
 have B3 := B1.below hb3
 clear hcm hlt1 B1 hL
 go_wp2_with fail
 refine (hK.out _ (hR3.below ((Below.refl _ _).alloc (Nat.le_refl _) _))).mono ?_
 rintro e w4 ⟨rfl, hb4⟩
 have B4 := (B3.alloc _).below hb4
 have hcm := B4.cell
 have hltm := B4.lt
 have hco := fun o => cel_kept hb4 o
 have hlto := lt_kept hb4
 have hR4 := (hR3.below ((Below.refl _ _).alloc (Nat.le_refl _) _)).below hb4
 have hbel4 := hb.trans (B4.bel.mono hb.size)
 clear hb3 hb4 hK B3
 subst h3
 have d0 : ((t1 : Int) == 0) = false := by simp; omega
 simp only [otherB, Bool.or_eq_false_iff, decide_eq_false_iff_not, Decidable.not_not] at ho
 obtain ⟨o1, o2, o3, o4⟩ := ho
 have d1 : ((np : Int) != (p : Int)) = false := by simp; omega
 have d2 : ((ng : Int) != (g : Int)) = false := by simp; omega
 have d3 : ((na : Int) != (a : Int)) = false := by simp; omega
 have d4 : ((bs nm).toList == (bs m).toList) = true := by rw [bs_same]; simpa using o4
 clear o1 o2 o3 o4 h0
 have hW := told_at 1 f t i l p g a m hxok'.out 1 rfl B t ht (evs) hok (by omega)
 generalize hAA : ansOf t i l (legOf i l (evs)).1 = A at hW
 replace hAA := hide hAA
 go_wp2_with fail
 refine (hW.out _ _ hR4).mono ?_
 rintro e w7 ⟨rfl, hb7⟩
 clear hW
 go_wp2
 go_ret2
 exact ⟨_, _, rfl, by rw [hAA.out]; exact Handed.single (RBTo.same hR hap hbel4) hb7 A⟩
theorem rh_same1b (s : ByteArray) (hs : s.size ≤ 140737488351232) (w : World) (B : Nat) (evs : List Ev) (v : Value) (f t i l p g a : Nat) (m : List UInt8) (hxok : (⟨1, f, t, i, l, p, g, a, m⟩ : Msg).ok) (t1 nk nf nt ni nl np ng na : Nat) (nm : List UInt8) (t3 : Bool)
  (he0 : decErr s.data.toList = 0) (hx : decMsg s.data.toList = ⟨1, f, t, i, l, p, g, a, m⟩) (hT : legOf i l evs = (t1, ⟨nk, nf, nt, ni, nl, np, ng, na, nm⟩, t3))
  (hR : RB w B t evs v) (hap : v.ownBlock ≠ some B) (hok : ∀ e, e ∈ evs → e.ok) (hlen : evs.length ≤ 900000) (h3 : t3 = false) (h0 : t1 ≠ 0) :
  Calls Tryz.prog 84 #[.pointer (some ⟨B, 0, none⟩), .string s] w fun e w' => ∃ v' lv, e = .returned (.tuple #[lv, .int .i64 0]) ∧ Handed w w' B t (evs) v v' lv [ansOf t i l (legOf i l (evs)).1] := by
 have hD := hide (refDecode_any s hs)
 rw [he0, hx] at hD
 have hL := hide (fun u (hu : RB u B t evs v) => leg_any i l hxok.2.2.2.1 hxok.2.2.2.2.1 u B t evs v hu hok (by omega))
 rw [hT] at hL
 have hK := hide (fun u (hu : RB u B t evs v) => kept_any u B t evs v hu hok (by omega))
 have hkl : (keysOf evs).length ≤ evs.length := keysTo_length _ _
 generalize hnn : (keysOf evs).length = n at *
 replace hnn := hide hnn
 obtain ⟨ad, cap, hv, hev⟩ := hR.form
 clear hev he0 hx
 replace hT := hide hT
 subst hv
 have hxok' := hide hxok
 obtain ⟨hk, hf, ht, hi, hl, hp, hg, ha⟩ := hxok
 simp only [Msg.v, Msg.cells] at hk hf ht hi hl hp hg ha hD hL
 have hBl := hR.lt
 have hcs : ((t : Int) != (t : Int)) = false := by simp
 go_enter Tryz.func84, Tryz.ntmps84
 go_wp2_with fail
 refine (hD.out _).mono ?_
 rintro e w1 ⟨rfl, hb⟩
 have hR1 := hR.below hb
 have hc : ∀ o, _ = _ := fun o => cell_at hR1.blk o
 have hBl1 := hR1.lt
 clear hD
 go_wp2_with fail
 go_quiet (fail)
 have B1 := (Box.mk0 w1 #[Value.int .u8 1, .int .u8 (f : Int), .int .u8 (t : Int), .int .u32 (i : Int), .int .u8 (l : Int), .int .u16 (p : Int), .int .u16 (g : Int), .int .u32 (a : Int), .string (bs m)] 102).drewN nq
 generalize World.drewN _ _ = w2 at *
 have hcm := B1.cell
 have hlt1 := B1.lt
 have hR2 := hR1.below B1.bel
 have hBl2 := hR2.lt
 clear hc
 go_wp2_with fail
 refine (hL.out _ hR2).mono ?_
 rintro e w3 ⟨rfl, hb3⟩
 have hR3 := hR2.below hb3
 have B3 := B1.below hb3
 clear hcm hlt1 B1 hL
 go_wp2_with fail
 refine (hK.out _ (hR3.below ((Below.refl _ _).alloc (Nat.le_refl _) _))).mono ?_
 rintro e w4 ⟨rfl, hb4⟩
 have B4 := (B3.alloc _).below hb4
 have hcm := B4.cell
 have hltm := B4.lt
 have hco := fun o => cel_kept hb4 o
 have hlto := lt_kept hb4
 have hR4 := (hR3.below ((Below.refl _ _).alloc (Nat.le_refl _) _)).below hb4
 have hbel4 := hb.trans (B4.bel.mono hb.size)
 clear hb3 hb4 hK B3
 subst h3
 have d0 : ((t1 : Int) == 0) = false := by simp; omega
 clear h0
 have hW := told_at 1 f t i l p g a m hxok'.out 1 rfl B t ht (evs) hok (by omega)
 generalize hAA : ansOf t i l (legOf i l (evs)).1 = A at hW
 replace hAA := hide hAA
 go_wp2_with fail
 refine (hW.out _ _ hR4).mono ?_
 rintro e w7 ⟨rfl, hb7⟩
 clear hW
 go_wp2
 go_ret2
 exact ⟨_, _, rfl, by rw [hAA.out]; exact Handed.single (RBTo.same hR hap hbel4) hb7 A⟩
theorem rh_same2 (s : ByteArray) (hs : s.size ≤ 140737488351232) (w : World) (B : Nat) (evs : List Ev) (v : Value) (f t i l p g a : Nat) (m : List UInt8) (hxok : (⟨2, f, t, i, l, p, g, a, m⟩ : Msg).ok) (t1 nk nf nt ni nl np ng na : Nat) (nm : List UInt8) (t3 : Bool)
  (he0 : decErr s.data.toList = 0) (hx : decMsg s.data.toList = ⟨2, f, t, i, l, p, g, a, m⟩) (hT : legOf i l evs = (t1, ⟨nk, nf, nt, ni, nl, np, ng, na, nm⟩, t3))
  (hR : RB w B t evs v) (hap : v.ownBlock ≠ some B) (hok : ∀ e, e ∈ evs → e.ok) (hlen : evs.length ≤ 900000) (h1 : t1 = 3) :
  Calls Tryz.prog 84 #[.pointer (some ⟨B, 0, none⟩), .string s] w fun e w' => ∃ v' lv, e = .returned (.tuple #[lv, .int .i64 0]) ∧ Handed w w' B t (evs) v v' lv [ansOf t i l (legOf i l (evs)).1] := by
 have hD := hide (refDecode_any s hs)
 rw [he0, hx] at hD
 have hL := hide (fun u (hu : RB u B t evs v) => leg_any i l hxok.2.2.2.1 hxok.2.2.2.2.1 u B t evs v hu hok (by omega))
 rw [hT] at hL
 have hK := hide (fun u (hu : RB u B t evs v) => kept_any u B t evs v hu hok (by omega))
 have hkl : (keysOf evs).length ≤ evs.length := keysTo_length _ _
 generalize hnn : (keysOf evs).length = n at *
 replace hnn := hide hnn
 obtain ⟨ad, cap, hv, hev⟩ := hR.form
 clear hev he0 hx
 replace hT := hide hT
 subst hv
 have hxok' := hide hxok
 obtain ⟨hk, hf, ht, hi, hl, hp, hg, ha⟩ := hxok
 simp only [Msg.v, Msg.cells] at hk hf ht hi hl hp hg ha hD hL
 have hBl := hR.lt
 have hcs : ((t : Int) != (t : Int)) = false := by simp
 go_enter Tryz.func84, Tryz.ntmps84
 go_wp2_with fail
 refine (hD.out _).mono ?_
 rintro e w1 ⟨rfl, hb⟩
 have hR1 := hR.below hb
 have hc : ∀ o, _ = _ := fun o => cell_at hR1.blk o
 have hBl1 := hR1.lt
 clear hD
 go_wp2_with fail
 go_quiet (fail)
 have B1 := (Box.mk0 w1 #[Value.int .u8 2, .int .u8 (f : Int), .int .u8 (t : Int), .int .u32 (i : Int), .int .u8 (l : Int), .int .u16 (p : Int), .int .u16 (g : Int), .int .u32 (a : Int), .string (bs m)] 102).drewN nq
 generalize World.drewN _ _ = w2 at *
 have hcm := B1.cell
 have hlt1 := B1.lt
 have hR2 := hR1.below B1.bel
 have hBl2 := hR2.lt
 clear hc
 go_wp2_with fail
 refine (hL.out _ hR2).mono ?_
 rintro e w3 ⟨rfl, hb3⟩
 have hR3 := hR2.below hb3
 have B3 := B1.below hb3
 clear hcm hlt1 B1 hL
 go_wp2_with fail
 refine (hK.out _ (hR3.below ((Below.refl _ _).alloc (Nat.le_refl _) _))).mono ?_
 rintro e w4 ⟨rfl, hb4⟩
 have B4 := (B3.alloc _).below hb4
 have hcm := B4.cell
 have hltm := B4.lt
 have hco := fun o => cel_kept hb4 o
 have hlto := lt_kept hb4
 have hR4 := (hR3.below ((Below.refl _ _).alloc (Nat.le_refl _) _)).below hb4
 have hbel4 := hb.trans (B4.bel.mono hb.size)
 clear hb3 hb4 hK B3
 have d1 : ((t1 : Int) != 1) = true := by simp; omega
 have d3 : ((t1 : Int) != 3) = false := by simp; omega
 have e1 : ((t1 : Int) == 1) = false := by simp; omega
 clear h1
 have hW := told_at 2 f t i l p g a m hxok'.out 2 rfl B t ht (evs) hok (by omega)
 generalize hAA : ansOf t i l (legOf i l (evs)).1 = A at hW
 replace hAA := hide hAA
 go_wp2_with fail
 refine (hW.out _ _ hR4).mono ?_
 rintro e w7 ⟨rfl, hb7⟩
 clear hW
 go_wp2
 go_ret2
 exact ⟨_, _, rfl, by rw [hAA.out]; exact Handed.single (RBTo.same hR hap hbel4) hb7 A⟩
theorem rh_same3 (s : ByteArray) (hs : s.size ≤ 140737488351232) (w : World) (B : Nat) (evs : List Ev) (v : Value) (f t i l p g a : Nat) (m : List UInt8) (hxok : (⟨3, f, t, i, l, p, g, a, m⟩ : Msg).ok) (t1 nk nf nt ni nl np ng na : Nat) (nm : List UInt8) (t3 : Bool)
  (he0 : decErr s.data.toList = 0) (hx : decMsg s.data.toList = ⟨3, f, t, i, l, p, g, a, m⟩) (hT : legOf i l evs = (t1, ⟨nk, nf, nt, ni, nl, np, ng, na, nm⟩, t3))
  (hR : RB w B t evs v) (hap : v.ownBlock ≠ some B) (hok : ∀ e, e ∈ evs → e.ok) (hlen : evs.length ≤ 900000) (h1 : t1 = 4) :
  Calls Tryz.prog 84 #[.pointer (some ⟨B, 0, none⟩), .string s] w fun e w' => ∃ v' lv, e = .returned (.tuple #[lv, .int .i64 0]) ∧ Handed w w' B t (evs) v v' lv [ansOf t i l (legOf i l (evs)).1] := by
 have hD := hide (refDecode_any s hs)
 rw [he0, hx] at hD
 have hL := hide (fun u (hu : RB u B t evs v) => leg_any i l hxok.2.2.2.1 hxok.2.2.2.2.1 u B t evs v hu hok (by omega))
 rw [hT] at hL
 have hK := hide (fun u (hu : RB u B t evs v) => kept_any u B t evs v hu hok (by omega))
 have hkl : (keysOf evs).length ≤ evs.length := keysTo_length _ _
 generalize hnn : (keysOf evs).length = n at *
 replace hnn := hide hnn
 obtain ⟨ad, cap, hv, hev⟩ := hR.form
 clear hev he0 hx
 replace hT := hide hT
 subst hv
 have hxok' := hide hxok
 obtain ⟨hk, hf, ht, hi, hl, hp, hg, ha⟩ := hxok
 simp only [Msg.v, Msg.cells] at hk hf ht hi hl hp hg ha hD hL
 have hBl := hR.lt
 have hcs : ((t : Int) != (t : Int)) = false := by simp
 go_enter Tryz.func84, Tryz.ntmps84
 go_wp2_with fail
 refine (hD.out _).mono ?_
 rintro e w1 ⟨rfl, hb⟩
 have hR1 := hR.below hb
 have hc : ∀ o, _ = _ := fun o => cell_at hR1.blk o
 have hBl1 := hR1.lt
 clear hD
 go_wp2_with fail
 go_quiet (fail)
 have B1 := (Box.mk0 w1 #[Value.int .u8 3, .int .u8 (f : Int), .int .u8 (t : Int), .int .u32 (i : Int), .int .u8 (l : Int), .int .u16 (p : Int), .int .u16 (g : Int), .int .u32 (a : Int), .string (bs m)] 102).drewN nq
 generalize World.drewN _ _ = w2 at *
 have hcm := B1.cell
 have hlt1 := B1.lt
 have hR2 := hR1.below B1.bel
 have hBl2 := hR2.lt
 clear hc
 go_wp2_with fail
 refine (hL.out _ hR2).mono ?_
 rintro e w3 ⟨rfl, hb3⟩
 have hR3 := hR2.below hb3
 have B3 := B1.below hb3
 clear hcm hlt1 B1 hL
 go_wp2_with fail
 refine (hK.out _ (hR3.below ((Below.refl _ _).alloc (Nat.le_refl _) _))).mono ?_
 rintro e w4 ⟨rfl, hb4⟩
 have B4 := (B3.alloc _).below hb4
 have hcm := B4.cell
 have hltm := B4.lt
 have hco := fun o => cel_kept hb4 o
 have hlto := lt_kept hb4
 have hR4 := (hR3.below ((Below.refl _ _).alloc (Nat.le_refl _) _)).below hb4
 have hbel4 := hb.trans (B4.bel.mono hb.size)
 clear hb3 hb4 hK B3
 have e3 : ((t1 : Int) == 3) = false := by simp; omega
 have e0 : ((t1 : Int) == 0) = false := by simp; omega
 have e4 : ((t1 : Int) != 4) = false := by simp; omega
 clear h1
 have hW := told_at 3 f t i l p g a m hxok'.out 3 rfl B t ht (evs) hok (by omega)
 generalize hAA : ansOf t i l (legOf i l (evs)).1 = A at hW
 replace hAA := hide hAA
 go_wp2_with fail
 refine (hW.out _ _ hR4).mono ?_
 rintro e w7 ⟨rfl, hb7⟩
 clear hW
 go_wp2
 go_ret2
 exact ⟨_, _, rfl, by rw [hAA.out]; exact Handed.single (RBTo.same hR hap hbel4) hb7 A⟩
end Go.Proofs.YtjkhbjgfoopomabGreat
