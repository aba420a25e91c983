import Derived.Test.YtjkhbjgfoopomabGreatA17
namespace Go.Proofs.YtjkhbjgfoopomabGreat
open Go.RowKit
set_option maxRecDepth 100000
set_option maxHeartbeats 1000000
set_option linter.unusedVariables false
set_option linter.unusedSimpArgs false
theorem rh_new1 (s : ByteArray) (hs : s.size ≤ 140737488351232) (w : World) (B : Nat) (evs : List Ev) (v : Value) (f t i l p g a : Nat) (m : List UInt8) (hxok : (⟨1, f, t, i, l, p, g, a, m⟩ : Msg).ok) (t1 nk nf nt ni nl np ng na : Nat) (nm : List UInt8) (t3 : Bool)
  (he0 : decErr s.data.toList = 0) (hx : decMsg s.data.toList = ⟨1, f, t, i, l, p, g, a, m⟩) (hT : legOf i l evs = (t1, ⟨nk, nf, nt, ni, nl, np, ng, na, nm⟩, t3))
  (hR : RB w B t evs v) (hap : v.ownBlock ≠ some B) (hok : ∀ e, e ∈ evs → e.ok) (hlen : evs.length ≤ 900000) (h3 : t3 = false) (h0 : t1 = 0) (hroom : (keysOf evs).length < 128) (hge : ∀ a, outOf a evs (keysOf evs) ≤ (openedOf a evs).1 + inOf a evs (keysOf evs)) (cb : Bool) (hcb : canB ⟨1, f, t, i, l, p, g, a, m⟩ evs = cb) :
  Calls Tryz.prog 84 #[.pointer (some ⟨B, 0, none⟩), .string s] w fun e w' => ∃ v' lv, e = .returned (.tuple #[lv, .int .i64 0]) ∧ Handed w w' B t (evs ++ [⟨1, ⟨1, f, t, i, l, p, g, a, m⟩, cb⟩]) v v' lv [ansOf t i l (legOf i l (evs ++ [⟨1, ⟨1, f, t, i, l, p, g, a, m⟩, cb⟩])).1] := by
 have hC := hide (fun u (hu : RB u B t evs v) => can_any ⟨1, f, t, i, l, p, g, a, m⟩ hxok u B t evs v hu hok (by omega) hge)
 rw [hcb] at hC
 clear hcb hge
 have hD := hide (refDecode_any s hs)
 rw [he0, hx] at hD
 have hL := hide (fun u (hu : RB u B t evs v) => leg_any i l hxok.2.2.2.1 hxok.2.2.2.2.1 u B t evs v hu hok (by omega))
 rw [hT] at hL
 have hK := hide (fun u (hu : RB u B t evs v) => kept_any u B t evs v hu hok (by omega))
 have hkl : (keysOf evs).length ≤ evs.length := keysTo_length _ _
 generalize hnn : (keysOf evs).length = n at *
 replace hnn := hide hnn
 obtain ⟨ad, cap, hv, hev⟩ := hR.form
 clear hev he0 hx
 replace hT := hide hT
 subst hv
 have hxok' := hide hxok
 obtain ⟨hk, hf, ht, hi, hl, hp, hg, ha⟩ := hxok
 simp only [Msg.v, Msg.cells] at hk hf ht hi hl hp hg ha hD hL hC
 have hBl := hR.lt
 have hcs : ((t : Int) != (t : Int)) = false := by simp
 go_enter Tryz.func84, Tryz.ntmps84
 go_wp2_with fail
 refine (hD.out _).mono ?_
 rintro e w1 ⟨rfl, hb⟩
 have hR1 := hR.below hb
 have hc : ∀ o, _ = _ := fun o => cell_at hR1.blk o
 have hBl1 := hR1.lt
 clear hD
 go_wp2_with fail
 go_quiet (fail)
 have B1 := (Box.mk0 w1 #[Value.int .u8 1, .int .u8 (f : Int), .int .u8 (t : Int), .int .u32 (i : Int), .int .u8 (l : Int), .int .u16 (p : Int), .int .u16 (g : Int), .int .u32 (a : Int), .string (bs m)] 102).drewN nq
 generalize World.drewN _ _ = w2 at *
 have hcm := B1.cell
 have hlt1 := B1.lt
 have hR2 := hR1.below B1.bel
 have hBl2 := hR2.lt
 clear hc
 go_wp2_with fail
 refine (hL.out _ hR2).mono ?_
 rintro e w3 ⟨rfl, hb3⟩
 have hR3 := hR2.below hb3
 have B3 := B1.below hb3
 clear hcm hlt1 B1 hL
 go_wp2_with fail
 refine (hK.out _ (hR3.below ((Below.refl _ _).alloc (Nat.le_refl _) _))).mono ?_
 rintro e w4 ⟨rfl, hb4⟩
 have B4 := (B3.alloc _).below hb4
 have hcm := B4.cell
 have hltm := B4.lt
 have hco := fun o => cel_kept hb4 o
 have hlto := lt_kept hb4
 have hR4 := (hR3.below ((Below.refl _ _).alloc (Nat.le_refl _) _)).below hb4
 have hbel4 := hb.trans (B4.bel.mono hb.size)
 clear hb3 hb4 hK B3
 subst h3
 have d0 : ((t1 : Int) == 0) = true := by simp; omega
 have dn : decide ((n : Int) ≥ 128) = false := by simp; omega
 have dn' : decide ((128 : Int) ≤ (n : Int)) = false := by simp; omega
 clear h0
 have hok2 : Hid (∀ e, e ∈ evs ++ [⟨1, ⟨1, f, t, i, l, p, g, a, m⟩, cb⟩] → e.ok) := hide (fun e he => by rcases List.mem_append.1 he with h | h; exact hok e h; rw [List.mem_singleton.1 h]; exact ⟨by show (1 : Nat) < 4; omega, hxok'.out⟩)
 have hW := told_at 1 f t i l p g a m hxok'.out 1 rfl B t ht (evs ++ [⟨1, ⟨1, f, t, i, l, p, g, a, m⟩, cb⟩]) hok2.out (by simp; omega)
 generalize hAA : ansOf t i l (legOf i l (evs ++ [⟨1, ⟨1, f, t, i, l, p, g, a, m⟩, cb⟩])).1 = A at hW
 replace hAA := hide hAA
 obtain ⟨i0, hi0, y0, y1, y2⟩ := info_parts evInfo
 go_wp2_with fail
 refine (hC.out _ hR4).mono ?_
 rintro e w5 ⟨rfl, hb5⟩
 have hR5 := hR4.below hb5
 have B5 := B4.below hb5
 have hbel5 := hb.trans (B5.bel.mono hb.size)
 clear hC hcm hltm hco
 have hcm := B5.cell
 have hltm := B5.lt
 have hc : ∀ o, _ = _ := fun o => cell_at hR5.blk o
 have hf' : ∀ o, _ = _ := fun o => frozen_at hR5.blk o
 have hBl9 := hR5.lt
 have hrow1 := hR5.row
 have hneB : w1.heap.size ≠ B := by omega
 have hneB' : B ≠ w1.heap.size := by omega
 have hown : ∀ k, (Value.slice ad evs.length cap).ownBlock = some k → k < w1.heap.size := fun k hk => hR1.row.lt hk
 have hWb : Below w5.heap.size w5 (w5.alloc (.cells (Ev.cells ⟨1, ⟨1, f, t, i, l, p, g, a, m⟩, cb⟩).toArray 207)).drew := ((Below.refl _ _).alloc (Nat.le_refl _) _).drew
 have hWr := hide (hrow1.below hWb)
 have hWa : Hid ((w5.alloc (.cells (Ev.cells ⟨1, ⟨1, f, t, i, l, p, g, a, m⟩, cb⟩).toArray 207)).drew.heap[w5.heap.size]? = some (.cells (Ev.cells ⟨1, ⟨1, f, t, i, l, p, g, a, m⟩, cb⟩).toArray 207 (0, 0))) := hide (heap_alloc_self w5 _)
 have hWk : Hid (Kept (fun k => (Value.slice ad evs.length cap).ownBlock = some k) w5 (w5.alloc (.cells (Ev.cells ⟨1, ⟨1, f, t, i, l, p, g, a, m⟩, cb⟩).toArray 207)).drew) := hide (Kept.of_below hWb)
 go_wp2_with fail
 go_region_law (refine step_row Ev.cells_length (by rfl) _ _ 161 (by rfl) 207 i0 _ 56 Tryz.underlying161 hi0 y0 y1 y2 rfl (by decide) (.slice ad evs.length cap) evs w5.heap.size 1 ⟨1, ⟨1, f, t, i, l, p, g, a, m⟩, cb⟩ (ev_one _) (by unfold maxLen; omega) (by omega) (by first | rfl | simp [Act.eval, Act.put]) (by first | rfl | simp [Act.eval, Act.put]) (by exact hWr.out) (by exact hWa.out) ?_; intro g' cap' w6 hrow2 hk2 hg2 hlt2; replace hk2 := hWk.out.trans hk2 (fun i hi => .inl hi); replace hg2 := hg2.imp_right (fun h => Nat.le_trans hWb.size h); have hblk : w6.heap[B]? = some (.cells #[.int .u8 (t : Int), .slice ad evs.length cap] 163 (0, 0)) := (by rw [hk2.block B hBl9 hap]; exact hR5.blk); have hc2 := fun o => cell_at hblk o; have hf2 := fun o => frozen_at hblk o; have hcm6 := boxes_kept B5 hk2 hown; have hlt6 := Nat.lt_of_lt_of_le B5.lt hk2.size; have X : Hid (RowOf w6 207 11 Ev.cells (.slice (some ⟨g', 0, none⟩) (evs.length + 1) cap') (evs ++ [⟨1, ⟨1, f, t, i, l, p, g, a, m⟩, cb⟩]) ∧ Kept (fun k => (Value.slice ad evs.length cap).ownBlock = some k) w5 w6 ∧ ((Value.slice ad evs.length cap).ownBlock = some g' ∨ w5.heap.size ≤ g')) := hide ⟨hrow2, hk2, hg2⟩; clear hrow2 hk2 hg2 hblk)
 all_goals (
  have hto := RBTo.from hbel5 (RB.grow hR5 hap X.out.1 X.out.2.1 X.out.2.2);clear hcm hWb hWr hWa hWk;go_wp2_with fail
  refine (hW.out _ _ hto.rb).mono ?_;rintro e w7 ⟨rfl, hb7⟩;clear hW hcm6 hc2 hf2;go_wp2;go_ret2
  exact ⟨_, _, rfl, by rw [hAA.out]; exact Handed.single hto hb7 A⟩)
theorem rh_exec2 (s : ByteArray) (hs : s.size ≤ 140737488351232) (w : World) (B : Nat) (evs : List Ev) (v : Value) (f t i l p g a : Nat) (m : List UInt8) (hxok : (⟨2, f, t, i, l, p, g, a, m⟩ : Msg).ok) (t1 nk nf nt ni nl np ng na : Nat) (nm : List UInt8) (t3 : Bool)
  (he0 : decErr s.data.toList = 0) (hx : decMsg s.data.toList = ⟨2, f, t, i, l, p, g, a, m⟩) (hT : legOf i l evs = (t1, ⟨nk, nf, nt, ni, nl, np, ng, na, nm⟩, t3))
  (hR : RB w B t evs v) (hap : v.ownBlock ≠ some B) (hok : ∀ e, e ∈ evs → e.ok) (hlen : evs.length ≤ 900000) (h1 : t1 = 1) :
  Calls Tryz.prog 84 #[.pointer (some ⟨B, 0, none⟩), .string s] w fun e w' => ∃ v' lv, e = .returned (.tuple #[lv, .int .i64 0]) ∧ Handed w w' B t (evs ++ [⟨2, ⟨2, f, t, i, l, p, g, a, m⟩, false⟩]) v v' lv [ansOf t i l (legOf i l (evs ++ [⟨2, ⟨2, f, t, i, l, p, g, a, m⟩, false⟩])).1] := by
 have hD := hide (refDecode_any s hs)
 rw [he0, hx] at hD
 have hL := hide (fun u (hu : RB u B t evs v) => leg_any i l hxok.2.2.2.1 hxok.2.2.2.2.1 u B t evs v hu hok (by omega))
 rw [hT] at hL
 have hK := hide (fun u (hu : RB u B t evs v) => kept_any u B t evs v hu hok (by omega))
 have hkl : (keysOf evs).length ≤ evs.length := keysTo_length _ _
 generalize hnn : (keysOf evs).length = n at *
 replace hnn := hide hnn
 obtain ⟨ad, cap, hv, hev⟩ := hR.form
 clear hev he0 hx
 replace hT := hide hT
 subst hv
 have hxok' := hide hxok
 obtain ⟨hk, hf, ht, hi, hl, hp, hg, ha⟩ := hxok
 simp only [Msg.v, Msg.cells] at hk hf ht hi hl hp hg ha hD hL
 have hBl := hR.lt
 have hcs : ((t : Int) != (t : Int)) = false := by simp
 go_enter Tryz.func84, Tryz.ntmps84
 go_wp2_with fail
 refine (hD.out _).mono ?_
 rintro e w1 ⟨rfl, hb⟩
 have hR1 := hR.below hb
 have hc : ∀ o, _ = _ := fun o => cell_at hR1.blk o
 have hBl1 := hR1.lt
 clear hD
 go_wp2_with fail
 go_quiet (fail)
 have B1 := (Box.mk0 w1 #[Value.int .u8 2, .int .u8 (f : Int), .int .u8 (t : Int), .int .u32 (i : Int), .int .u8 (l : Int), .int .u16 (p : Int), .int .u16 (g : Int), .int .u32 (a : Int), .string (bs m)] 102).drewN nq
 generalize World.drewN _ _ = w2 at *
 have hcm := B1.cell
 have hlt1 := B1.lt
 have hR2 := hR1.below B1.bel
 have hBl2 := hR2.lt
 clear hc
 go_wp2_with fail
 refine (hL.out _ hR2).mono ?_
 rintro e w3 ⟨rfl, hb3⟩
 have hR3 := hR2.below hb3
 have B3 := B1.below hb3
 clear hcm hlt1 B1 hL
 go_wp2_with fail
 refine (hK.out _ (hR3.below ((Below.refl _ _).alloc (Nat.le_refl _) _))).mono ?_
 rintro e w4 ⟨rfl, hb4⟩
 have B4 := (B3.alloc _).below hb4
 have hcm := B4.cell
 have hltm := B4.lt
 have hco := fun o => cel_kept hb4 o
 have hlto := lt_kept hb4
 have hR4 := (hR3.below ((Below.refl _ _).alloc (Nat.le_refl _) _)).below hb4
 have hbel4 := hb.trans (B4.bel.mono hb.size)
 clear hb3 hb4 hK B3
 have d1 : ((t1 : Int) != 1) = false := by simp; omega
 have e1 : ((t1 : Int) == 1) = true := by simp; omega
 clear h1
 have hok2 : Hid (∀ e, e ∈ evs ++ [⟨2, ⟨2, f, t, i, l, p, g, a, m⟩, false⟩] → e.ok) := hide (fun e he => by rcases List.mem_append.1 he with h | h; exact hok e h; rw [List.mem_singleton.1 h]; exact ⟨by show (2 : Nat) < 4; omega, hxok'.out⟩)
 have hW := told_at 2 f t i l p g a m hxok'.out 2 rfl B t ht (evs ++ [⟨2, ⟨2, f, t, i, l, p, g, a, m⟩, false⟩]) hok2.out (by simp; omega)
 generalize hAA : ansOf t i l (legOf i l (evs ++ [⟨2, ⟨2, f, t, i, l, p, g, a, m⟩, false⟩])).1 = A at hW
 replace hAA := hide hAA
 obtain ⟨i0, hi0, y0, y1, y2⟩ := info_parts evInfo
 have hc : ∀ o, _ = _ := fun o => cell_at hR4.blk o
 have hf' : ∀ o, _ = _ := fun o => frozen_at hR4.blk o
 have hBl9 := hR4.lt
 have hrow1 := hR4.row
 have hneB : w1.heap.size ≠ B := by omega
 have hneB' : B ≠ w1.heap.size := by omega
 have hown : ∀ k, (Value.slice ad evs.length cap).ownBlock = some k → k < w1.heap.size := fun k hk => hR1.row.lt hk
 have hWb : Below w4.heap.size w4 (w4.alloc (.cells (Ev.cells ⟨2, ⟨2, f, t, i, l, p, g, a, m⟩, false⟩).toArray 207)).drew := ((Below.refl _ _).alloc (Nat.le_refl _) _).drew
 have hWr := hide (hrow1.below hWb)
 have hWa : Hid ((w4.alloc (.cells (Ev.cells ⟨2, ⟨2, f, t, i, l, p, g, a, m⟩, false⟩).toArray 207)).drew.heap[w4.heap.size]? = some (.cells (Ev.cells ⟨2, ⟨2, f, t, i, l, p, g, a, m⟩, false⟩).toArray 207 (0, 0))) := hide (heap_alloc_self w4 _)
 have hWk : Hid (Kept (fun k => (Value.slice ad evs.length cap).ownBlock = some k) w4 (w4.alloc (.cells (Ev.cells ⟨2, ⟨2, f, t, i, l, p, g, a, m⟩, false⟩).toArray 207)).drew) := hide (Kept.of_below hWb)
 go_wp2_with fail
 go_region_law (refine step_row Ev.cells_length (by rfl) _ _ 161 (by rfl) 207 i0 _ 56 Tryz.underlying161 hi0 y0 y1 y2 rfl (by decide) (.slice ad evs.length cap) evs w4.heap.size 1 ⟨2, ⟨2, f, t, i, l, p, g, a, m⟩, false⟩ (ev_one _) (by unfold maxLen; omega) (by omega) (by first | rfl | simp [Act.eval, Act.put]) (by first | rfl | simp [Act.eval, Act.put]) (by exact hWr.out) (by exact hWa.out) ?_; intro g' cap' w6 hrow2 hk2 hg2 hlt2; replace hk2 := hWk.out.trans hk2 (fun i hi => .inl hi); replace hg2 := hg2.imp_right (fun h => Nat.le_trans hWb.size h); have hblk : w6.heap[B]? = some (.cells #[.int .u8 (t : Int), .slice ad evs.length cap] 163 (0, 0)) := (by rw [hk2.block B hBl9 hap]; exact hR4.blk); have hc2 := fun o => cell_at hblk o; have hf2 := fun o => frozen_at hblk o; have hcm6 := boxes_kept B4 hk2 hown; have hlt6 := Nat.lt_of_lt_of_le B4.lt hk2.size; have X : Hid (RowOf w6 207 11 Ev.cells (.slice (some ⟨g', 0, none⟩) (evs.length + 1) cap') (evs ++ [⟨2, ⟨2, f, t, i, l, p, g, a, m⟩, false⟩]) ∧ Kept (fun k => (Value.slice ad evs.length cap).ownBlock = some k) w4 w6 ∧ ((Value.slice ad evs.length cap).ownBlock = some g' ∨ w4.heap.size ≤ g')) := hide ⟨hrow2, hk2, hg2⟩; clear hrow2 hk2 hg2 hblk)
 all_goals (
  have hto := RBTo.from hbel4 (RB.grow hR4 hap X.out.1 X.out.2.1 X.out.2.2);clear hcm hWb hWr hWa hWk;go_wp2_with fail
  refine (hW.out _ _ hto.rb).mono ?_;rintro e w7 ⟨rfl, hb7⟩;clear hW hcm6 hc2 hf2;go_wp2;go_ret2
  exact ⟨_, _, rfl, by rw [hAA.out]; exact Handed.single hto hb7 A⟩)
theorem rh_rej3 (s : ByteArray) (hs : s.size ≤ 140737488351232) (w : World) (B : Nat) (evs : List Ev) (v : Value) (f t i l p g a : Nat) (m : List UInt8) (hxok : (⟨3, f, t, i, l, p, g, a, m⟩ : Msg).ok) (t1 nk nf nt ni nl np ng na : Nat) (nm : List UInt8) (t3 : Bool)
  (he0 : decErr s.data.toList = 0) (hx : decMsg s.data.toList = ⟨3, f, t, i, l, p, g, a, m⟩) (hT : legOf i l evs = (t1, ⟨nk, nf, nt, ni, nl, np, ng, na, nm⟩, t3))
  (hR : RB w B t evs v) (hap : v.ownBlock ≠ some B) (hok : ∀ e, e ∈ evs → e.ok) (hlen : evs.length ≤ 900000) (h3 : t1 ≠ 3) (h4 : t1 ≠ 4) (h0 : t1 ≠ 0) :
  Calls Tryz.prog 84 #[.pointer (some ⟨B, 0, none⟩), .string s] w fun e w' => ∃ v' lv, e = .returned (.tuple #[lv, .int .i64 0]) ∧ Handed w w' B t (evs ++ [⟨3, ⟨3, f, t, i, l, p, g, a, m⟩, false⟩]) v v' lv [ansOf t i l (legOf i l (evs ++ [⟨3, ⟨3, f, t, i, l, p, g, a, m⟩, false⟩])).1] := by
 have hD := hide (refDecode_any s hs)
 rw [he0, hx] at hD
 have hL := hide (fun u (hu : RB u B t evs v) => leg_any i l hxok.2.2.2.1 hxok.2.2.2.2.1 u B t evs v hu hok (by omega))
 rw [hT] at hL
 have hK := hide (fun u (hu : RB u B t evs v) => kept_any u B t evs v hu hok (by omega))
 have hkl : (keysOf evs).length ≤ evs.length := keysTo_length _ _
 generalize hnn : (keysOf evs).length = n at *
 replace hnn := hide hnn
 obtain ⟨ad, cap, hv, hev⟩ := hR.form
 clear hev he0 hx
 replace hT := hide hT
 subst hv
 have hxok' := hide hxok
 obtain ⟨hk, hf, ht, hi, hl, hp, hg, ha⟩ := hxok
 simp only [Msg.v, Msg.cells] at hk hf ht hi hl hp hg ha hD hL
 have hBl := hR.lt
 have hcs : ((t : Int) != (t : Int)) = false := by simp
 go_enter Tryz.func84, Tryz.ntmps84
 go_wp2_with fail
 refine (hD.out _).mono ?_
 rintro e w1 ⟨rfl, hb⟩
 have hR1 := hR.below hb
 have hc : ∀ o, _ = _ := fun o => cell_at hR1.blk o
 have hBl1 := hR1.lt
 clear hD
 go_wp2_with fail
 go_quiet (fail)
 have B1 := (Box.mk0 w1 #[Value.int .u8 3, .int .u8 (f : Int), .int .u8 (t : Int), .int .u32 (i : Int), .int .u8 (l : Int), .int .u16 (p : Int), .int .u16 (g : Int), .int .u32 (a : Int), .string (bs m)] 102).drewN nq
 generalize World.drewN _ _ = w2 at *
 have hcm := B1.cell
 have hlt1 := B1.lt
 have hR2 := hR1.below B1.bel
 have hBl2 := hR2.lt
 clear hc
 go_wp2_with fail
 refine (hL.out _ hR2).mono ?_
 rintro e w3 ⟨rfl, hb3⟩
 have hR3 := hR2.below hb3
 have B3 := B1.below hb3
 clear hcm hlt1 B1 hL
 go_wp2_with fail
 refine (hK.out _ (hR3.below ((Below.refl _ _).alloc (Nat.le_refl _) _))).mono ?_
 rintro e w4 ⟨rfl, hb4⟩
 have B4 := (B3.alloc _).below hb4
 have hcm := B4.cell
 have hltm := B4.lt
 have hco := fun o => cel_kept hb4 o
 have hlto := lt_kept hb4
 have hR4 := (hR3.below ((Below.refl _ _).alloc (Nat.le_refl _) _)).below hb4
 have hbel4 := hb.trans (B4.bel.mono hb.size)
 clear hb3 hb4 hK B3
 have e3 : ((t1 : Int) == 3) = false := by simp; omega
 have e0 : ((t1 : Int) == 0) = false := by simp; omega
 have e4 : ((t1 : Int) != 4) = true := by simp; omega
 clear h3 h4 h0
 have hok2 : Hid (∀ e, e ∈ evs ++ [⟨3, ⟨3, f, t, i, l, p, g, a, m⟩, false⟩] → e.ok) := hide (fun e he => by rcases List.mem_append.1 he with h | h; exact hok e h; rw [List.mem_singleton.1 h]; exact ⟨by show (3 : Nat) < 4; omega, hxok'.out⟩)
 have hW := told_at 3 f t i l p g a m hxok'.out 3 rfl B t ht (evs ++ [⟨3, ⟨3, f, t, i, l, p, g, a, m⟩, false⟩]) hok2.out (by simp; omega)
 generalize hAA : ansOf t i l (legOf i l (evs ++ [⟨3, ⟨3, f, t, i, l, p, g, a, m⟩, false⟩])).1 = A at hW
 replace hAA := hide hAA
 obtain ⟨i0, hi0, y0, y1, y2⟩ := info_parts evInfo
 have hc : ∀ o, _ = _ := fun o => cell_at hR4.blk o
 have hf' : ∀ o, _ = _ := fun o => frozen_at hR4.blk o
 have hBl9 := hR4.lt
 have hrow1 := hR4.row
 have hneB : w1.heap.size ≠ B := by omega
 have hneB' : B ≠ w1.heap.size := by omega
 have hown : ∀ k, (Value.slice ad evs.length cap).ownBlock = some k → k < w1.heap.size := fun k hk => hR1.row.lt hk
 have hWb : Below w4.heap.size w4 (w4.alloc (.cells (Ev.cells ⟨3, ⟨3, f, t, i, l, p, g, a, m⟩, false⟩).toArray 207)).drew := ((Below.refl _ _).alloc (Nat.le_refl _) _).drew
 have hWr := hide (hrow1.below hWb)
 have hWa : Hid ((w4.alloc (.cells (Ev.cells ⟨3, ⟨3, f, t, i, l, p, g, a, m⟩, false⟩).toArray 207)).drew.heap[w4.heap.size]? = some (.cells (Ev.cells ⟨3, ⟨3, f, t, i, l, p, g, a, m⟩, false⟩).toArray 207 (0, 0))) := hide (heap_alloc_self w4 _)
 have hWk : Hid (Kept (fun k => (Value.slice ad evs.length cap).ownBlock = some k) w4 (w4.alloc (.cells (Ev.cells ⟨3, ⟨3, f, t, i, l, p, g, a, m⟩, false⟩).toArray 207)).drew) := hide (Kept.of_below hWb)
 go_wp2_with fail
 go_region_law (refine step_row Ev.cells_length (by rfl) _ _ 161 (by rfl) 207 i0 _ 56 Tryz.underlying161 hi0 y0 y1 y2 rfl (by decide) (.slice ad evs.length cap) evs w4.heap.size 1 ⟨3, ⟨3, f, t, i, l, p, g, a, m⟩, false⟩ (ev_one _) (by unfold maxLen; omega) (by omega) (by first | rfl | simp [Act.eval, Act.put]) (by first | rfl | simp [Act.eval, Act.put]) (by exact hWr.out) (by exact hWa.out) ?_; intro g' cap' w6 hrow2 hk2 hg2 hlt2; replace hk2 := hWk.out.trans hk2 (fun i hi => .inl hi); replace hg2 := hg2.imp_right (fun h => Nat.le_trans hWb.size h); have hblk : w6.heap[B]? = some (.cells #[.int .u8 (t : Int), .slice ad evs.length cap] 163 (0, 0)) := (by rw [hk2.block B hBl9 hap]; exact hR4.blk); have hc2 := fun o => cell_at hblk o; have hf2 := fun o => frozen_at hblk o; have hcm6 := boxes_kept B4 hk2 hown; have hlt6 := Nat.lt_of_lt_of_le B4.lt hk2.size; have X : Hid (RowOf w6 207 11 Ev.cells (.slice (some ⟨g', 0, none⟩) (evs.length + 1) cap') (evs ++ [⟨3, ⟨3, f, t, i, l, p, g, a, m⟩, false⟩]) ∧ Kept (fun k => (Value.slice ad evs.length cap).ownBlock = some k) w4 w6 ∧ ((Value.slice ad evs.length cap).ownBlock = some g' ∨ w4.heap.size ≤ g')) := hide ⟨hrow2, hk2, hg2⟩; clear hrow2 hk2 hg2 hblk)
 all_goals (
  have hto := RBTo.from hbel4 (RB.grow hR4 hap X.out.1 X.out.2.1 X.out.2.2);clear hcm hWb hWr hWa hWk;go_wp2_with fail
  refine (hW.out _ _ hto.rb).mono ?_;rintro e w7 ⟨rfl, hb7⟩;clear hW hcm6 hc2 hf2;go_wp2;go_ret2
  exact ⟨_, _, rfl, by rw [hAA.out]; exact Handed.single hto hb7 A⟩)
theorem rh_new3 (s : ByteArray) (hs : s.size ≤ 140737488351232) (w : World) (B : Nat) (evs : List Ev) (v : Value) (f t i l p g a : Nat) (m : List UInt8) (hxok : (⟨3, f, t, i, l, p, g, a, m⟩ : Msg).ok) (t1 nk nf nt ni nl np ng na : Nat) (nm : List UInt8) (t3 : Bool)
  (he0 : decErr s.data.toList = 0) (hx : decMsg s.data.toList = ⟨3, f, t, i, l, p, g, a, m⟩) (hT : legOf i l evs = (t1, ⟨nk, nf, nt, ni, nl, np, ng, na, nm⟩, t3))
  (hR : RB w B t evs v) (hap : v.ownBlock ≠ some B) (hok : ∀ e, e ∈ evs → e.ok) (hlen : evs.length ≤ 900000) (h0 : t1 = 0) (hroom : (keysOf evs).length < 128) :
  Calls Tryz.prog 84 #[.pointer (some ⟨B, 0, none⟩), .string s] w fun e w' => ∃ v' lv, e = .returned (.tuple #[lv, .int .i64 0]) ∧ Handed w w' B t (evs ++ [⟨3, ⟨3, f, t, i, l, p, g, a, m⟩, false⟩]) v v' lv [ansOf t i l (legOf i l (evs ++ [⟨3, ⟨3, f, t, i, l, p, g, a, m⟩, false⟩])).1] := by
 have hD := hide (refDecode_any s hs)
 rw [he0, hx] at hD
 have hL := hide (fun u (hu : RB u B t evs v) => leg_any i l hxok.2.2.2.1 hxok.2.2.2.2.1 u B t evs v hu hok (by omega))
 rw [hT] at hL
 have hK := hide (fun u (hu : RB u B t evs v) => kept_any u B t evs v hu hok (by omega))
 have hkl : (keysOf evs).length ≤ evs.length := keysTo_length _ _
 generalize hnn : (keysOf evs).length = n at *
 replace hnn := hide hnn
 obtain ⟨ad, cap, hv, hev⟩ := hR.form
 clear hev he0 hx
 replace hT := hide hT
 subst hv
 have hxok' := hide hxok
 obtain ⟨hk, hf, ht, hi, hl, hp, hg, ha⟩ := hxok
 simp only [Msg.v, Msg.cells] at hk hf ht hi hl hp hg ha hD hL
 have hBl := hR.lt
 have hcs : ((t : Int) != (t : Int)) = false := by simp
 go_enter Tryz.func84, Tryz.ntmps84
 go_wp2_with fail
 refine (hD.out _).mono ?_
 rintro e w1 ⟨rfl, hb⟩
 have hR1 := hR.below hb
 have hc : ∀ o, _ = _ := fun o => cell_at hR1.blk o
 have hBl1 := hR1.lt
 clear hD
 go_wp2_with fail
 go_quiet (fail)
 have B1 := (Box.mk0 w1 #[Value.int .u8 3, .int .u8 (f : Int), .int .u8 (t : Int), .int .u32 (i : Int), .int .u8 (l : Int), .int .u16 (p : Int), .int .u16 (g : Int), .int .u32 (a : Int), .string (bs m)] 102).drewN nq
 generalize World.drewN _ _ = w2 at *
 have hcm := B1.cell
 have hlt1 := B1.lt
 have hR2 := hR1.below B1.bel
 have hBl2 := hR2.lt
 clear hc
 go_wp2_with fail
 refine (hL.out _ hR2).mono ?_
 rintro e w3 ⟨rfl, hb3⟩
 have hR3 := hR2.below hb3
 have B3 := B1.below hb3
 clear hcm hlt1 B1 hL
 go_wp2_with fail
 refine (hK.out _ (hR3.below ((Below.refl _ _).alloc (Nat.le_refl _) _))).mono ?_
 rintro e w4 ⟨rfl, hb4⟩
 have B4 := (B3.alloc _).below hb4
 have hcm := B4.cell
 have hltm := B4.lt
 have hco := fun o => cel_kept hb4 o
 have hlto := lt_kept hb4
 have hR4 := (hR3.below ((Below.refl _ _).alloc (Nat.le_refl _) _)).below hb4
 have hbel4 := hb.trans (B4.bel.mono hb.size)
 clear hb3 hb4 hK B3
 have e3 : ((t1 : Int) == 3) = false := by simp; omega
 have e0 : ((t1 : Int) == 0) = true := by simp; omega
 have e4 : ((t1 : Int) != 4) = true := by simp; omega
 have dn : decide ((n : Int) ≥ 128) = false := by simp; omega
 have dn' : decide ((128 : Int) ≤ (n : Int)) = false := by simp; omega
 clear h0
 have hok2 : Hid (∀ e, e ∈ evs ++ [⟨3, ⟨3, f, t, i, l, p, g, a, m⟩, false⟩] → e.ok) := hide (fun e he => by rcases List.mem_append.1 he with h | h; exact hok e h; rw [List.mem_singleton.1 h]; exact ⟨by show (3 : Nat) < 4; omega, hxok'.out⟩)
 have hW := told_at 3 f t i l p g a m hxok'.out 3 rfl B t ht (evs ++ [⟨3, ⟨3, f, t, i, l, p, g, a, m⟩, false⟩]) hok2.out (by simp; omega)
 generalize hAA : ansOf t i l (legOf i l (evs ++ [⟨3, ⟨3, f, t, i, l, p, g, a, m⟩, false⟩])).1 = A at hW
 replace hAA := hide hAA
 obtain ⟨i0, hi0, y0, y1, y2⟩ := info_parts evInfo
 have hc : ∀ o, _ = _ := fun o => cell_at hR4.blk o
 have hf' : ∀ o, _ = _ := fun o => frozen_at hR4.blk o
 have hBl9 := hR4.lt
 have hrow1 := hR4.row
 have hneB : w1.heap.size ≠ B := by omega
 have hneB' : B ≠ w1.heap.size := by omega
 have hown : ∀ k, (Value.slice ad evs.length cap).ownBlock = some k → k < w1.heap.size := fun k hk => hR1.row.lt hk
 have hWb : Below w4.heap.size w4 (w4.alloc (.cells (Ev.cells ⟨3, ⟨3, f, t, i, l, p, g, a, m⟩, false⟩).toArray 207)).drew := ((Below.refl _ _).alloc (Nat.le_refl _) _).drew
 have hWr := hide (hrow1.below hWb)
 have hWa : Hid ((w4.alloc (.cells (Ev.cells ⟨3, ⟨3, f, t, i, l, p, g, a, m⟩, false⟩).toArray 207)).drew.heap[w4.heap.size]? = some (.cells (Ev.cells ⟨3, ⟨3, f, t, i, l, p, g, a, m⟩, false⟩).toArray 207 (0, 0))) := hide (heap_alloc_self w4 _)
 have hWk : Hid (Kept (fun k => (Value.slice ad evs.length cap).ownBlock = some k) w4 (w4.alloc (.cells (Ev.cells ⟨3, ⟨3, f, t, i, l, p, g, a, m⟩, false⟩).toArray 207)).drew) := hide (Kept.of_below hWb)
 go_wp2_with fail
 go_region_law (refine step_row Ev.cells_length (by rfl) _ _ 161 (by rfl) 207 i0 _ 56 Tryz.underlying161 hi0 y0 y1 y2 rfl (by decide) (.slice ad evs.length cap) evs w4.heap.size 1 ⟨3, ⟨3, f, t, i, l, p, g, a, m⟩, false⟩ (ev_one _) (by unfold maxLen; omega) (by omega) (by first | rfl | simp [Act.eval, Act.put]) (by first | rfl | simp [Act.eval, Act.put]) (by exact hWr.out) (by exact hWa.out) ?_; intro g' cap' w6 hrow2 hk2 hg2 hlt2; replace hk2 := hWk.out.trans hk2 (fun i hi => .inl hi); replace hg2 := hg2.imp_right (fun h => Nat.le_trans hWb.size h); have hblk : w6.heap[B]? = some (.cells #[.int .u8 (t : Int), .slice ad evs.length cap] 163 (0, 0)) := (by rw [hk2.block B hBl9 hap]; exact hR4.blk); have hc2 := fun o => cell_at hblk o; have hf2 := fun o => frozen_at hblk o; have hcm6 := boxes_kept B4 hk2 hown; have hlt6 := Nat.lt_of_lt_of_le B4.lt hk2.size; have X : Hid (RowOf w6 207 11 Ev.cells (.slice (some ⟨g', 0, none⟩) (evs.length + 1) cap') (evs ++ [⟨3, ⟨3, f, t, i, l, p, g, a, m⟩, false⟩]) ∧ Kept (fun k => (Value.slice ad evs.length cap).ownBlock = some k) w4 w6 ∧ ((Value.slice ad evs.length cap).ownBlock = some g' ∨ w4.heap.size ≤ g')) := hide ⟨hrow2, hk2, hg2⟩; clear hrow2 hk2 hg2 hblk)
 all_goals (
  have hto := RBTo.from hbel4 (RB.grow hR4 hap X.out.1 X.out.2.1 X.out.2.2);clear hcm hWb hWr hWa hWk;go_wp2_with fail
  refine (hW.out _ _ hto.rb).mono ?_;rintro e w7 ⟨rfl, hb7⟩;clear hW hcm6 hc2 hf2;go_wp2;go_ret2
  exact ⟨_, _, rfl, by rw [hAA.out]; exact Handed.single hto hb7 A⟩)
end Go.Proofs.YtjkhbjgfoopomabGreat
