import Derived.Test.YtjkhbjgfoopomabGreatS50
import Derived.Test.YtjkhbjgfoopomabGreatS48
import Derived.Test.YtjkhbjgfoopomabGreatS51
/-
  The document's own case: a payment of two legs that is paid.
-/
namespace Go.Proofs.YtjkhbjgfoopomabGreat
open Go.RowKit
set_option linter.unusedVariables false
set_option linter.unusedSimpArgs false
def twoL : List Pl := [⟨1, 0, 1, 30⟩, ⟨2, 2, 0, 7⟩]
theorem two_pay : Payable twoL := ⟨⟨by decide, by decide⟩, fun k x hx => by
  match k, hx with
  | 0, hx => injection hx with hx; subst hx; decide
  | 1, hx => injection hx with hx; subst hx; decide
  | k + 2, hx => simp [twoL] at hx⟩
theorem two_ok : ∀ x, x ∈ twoL → x.ok ∧ 1 ≤ x.a := fun x hx => by
  simp only [twoL, List.mem_cons, List.not_mem_nil, or_false] at hx
  rcases hx with rfl | rfl <;> exact ⟨⟨by decide, by decide, by decide, by decide⟩, by decide⟩
theorem two_250 : ∀ (k : Nat) (x : Pl), twoL[k]? = some x → x.a ≤ 250 := fun k x hx => by
  match k, hx with
  | 0, hx => injection hx with hx; subst hx; decide
  | 1, hx => injection hx with hx; subst hx; decide
  | k + 2, hx => simp [twoL] at hx
def twoP (la : Option Addr) : Pm := ⟨9, 5, [], twoL, la, 2⟩
/-- what holds till it is paid -/
def PaidJ (P : PN) : Prop := PrJ twoL false P ∧ Ful P ∧ Owed P
theorem PaidJ.steady : Steady PaidJ := fun Q m rest G J hw => ⟨PrJ.steady two_pay (fun _ => two_250) (fun h => by cases h) Q m rest G J.1 hw, Ful.steady Q m rest G J.2.1 hw, Owed.steady Q m rest G J.2.2 hw⟩
theorem PaidJ.start (la : Option Addr) : PaidJ (paidPN (twoP la)) := by
  obtain ⟨f1, f2, f3, f4⟩ := paid_find (twoP la) rfl
  refine ⟨paid_ok (twoP la) rfl (by show 1 ≤ twoL.length; decide), fun i hf => ?_, fun i l x hf hx => ?_⟩
  · rw [f3 i hf, f4, f2]
    exact ⟨fun e => by simp at e, fun _ => by show 0 ≠ fullOf twoL.length; decide, by show 0 < 2 ^ twoL.length; decide⟩
  · have e := f3 i hf
    subst e
    rw [f2] at hx
    rw [f4]
    have hp := ask_parts (core (twoP la)) x l 1
    exact ⟨fun _ => .inr ⟨_, paid_wire (twoP la) hx, hp.2.2.2.1, hp.2.2.2.2, .inl hp.1⟩, fun h => absurd rfl h⟩
theorem PaidJ.end_ {P : PN} (J : PaidJ P) (G : Good P) (hw : P.wire = []) : fnd P.A 9 = true ∧ (stA P.A 9).1 = 2 ∧ (stA P.A 9).2.1 = 3 ∧ (stA P.A 9).2.2.1 = 3 ∧ balOf 1 (P.E 1) = 1030 ∧ balOf 2 (P.E 2) = 993 ∧ (openedOf 1 (P.E 1)).2.1 = true ∧ (openedOf 2 (P.E 2)).2.1 = true := by
  obtain ⟨h1, _, _, h4⟩ := J.1.end_ two_pay G hw
  have hc := J.1.c
  have hd := J.2.2.full J.2.1 G hw hc.f9
  have hh := (J.2.1 9 hc.f9).1 h1
  rw [hc.legs] at hd hh
  refine ⟨hc.f9, h1, hh, hd, ?_, ?_, (hc.op 1 (by omega) (by omega) 1 (by omega)).2, (hc.op 2 (by omega) (by omega) 2 (by omega)).2⟩
  · rw [h4 1 1 (by omega) (by omega) (by omega)]; decide
  · rw [h4 2 2 (by omega) (by omega) (by omega)]; decide
theorem two_row (w : World) : RowOf (w.alloc (.cells #[.int .u8 1, .int .u16 0, .int .u16 1, .int .u32 30, .int .u8 2, .int .u16 2, .int .u16 0, .int .u32 7] 67)) 67 4 Pl.cells (.slice (some ⟨w.heap.size, 0, none⟩) 2 2) twoL :=
  ⟨rfl, .inr ⟨w.heap.size, 2, _, rfl, Nat.zero_le _, heap_alloc_self _ _, Nat.le_refl _, by unfold maxLen; omega, rfl, rfl⟩⟩
set_option maxRecDepth 100000 in
set_option maxHeartbeats 1000000 in
theorem paid_any (w : World) :
    Calls Tryz.prog 7 #[] w fun e w' => e = .returned (.bool true) ∧ Below w.heap.size w w' := by
  have hNe := hide (fun u => network_any u (.slice none 0 0) [] (FundsAt.nil u))
  go_enter Tryz.func7, Tryz.ntmps7
  go_wp2_with fail
  refine (hNe.out _).mono ?_
  rintro e w2 ⟨nb, own, M, rfl, hnb, I2, ho2, hb2⟩
  clear hNe
  have hcw : w2.cell? ⟨nb, 4, none⟩ = some (.pointer (some ⟨M.db, 0, none⟩)) := by rw [cell_at I2.blk 4]; rfl
  have hnl2 := I2.lt
  have hbU : Below w2.heap.size w2 (w2.alloc (.cells #[.int .u8 1, .int .u16 0, .int .u16 1, .int .u32 30, .int .u8 2, .int .u16 2, .int .u16 0, .int .u32 7] 67)) := (Below.refl _ _).alloc (Nat.le_refl _) _
  have hrow := two_row w2
  have hck : M.ck = 0 := I2.deed.rel.clk
  have I3 := I2.below0 hbU
  have hlo : ∀ g, (Value.slice (some ⟨w2.heap.size, 0, none⟩) 2 2).ownBlock = some g → (fun i => if i < w2.heap.size then own i else 0) g = 0 := fun g hg => by
    have : w2.heap.size = g := by simpa [Value.ownBlock] using hg
    subst this
    simp
  have hSub := sub_net _ _ nb M (initPN []) I3 (twoP (some ⟨w2.heap.size, 0, none⟩)) ⟨by show (9 : Nat) < 4294967296; omega, by show (5 : Nat) < 18446744073709551616; omega, fun x hx => (two_ok x hx).1⟩ (by show (0 : Nat) ≤ 1000000; omega) (by show twoL.length ≤ 1000000; decide) (by rw [hck]; omega) hrow hlo
  have hfst := sub_first two_pay two_ok 5 (by omega) (some ⟨w2.heap.size, 0, none⟩) 2
  have hA0 : (initPN []).A = [] := rfl
  rw [hA0, show twoP (some ⟨w2.heap.size, 0, none⟩) = ⟨9, 5, [], twoL, some ⟨w2.heap.size, 0, none⟩, 2⟩ from rfl, hfst.1, hfst.2.1, hfst.2.2.1] at hSub
  have hz : ∀ i, i < w.heap.size → (fun i => if i < w2.heap.size then own i else 0) i = 0 := fun i hi => by
    have := hb2.size
    show (if i < w2.heap.size then own i else 0) = 0
    rw [if_pos (by omega)]
    exact ho2 i hi
  have hbw : Below w.heap.size w (w2.alloc (.cells #[.int .u8 1, .int .u16 0, .int .u16 1, .int .u32 30, .int .u8 2, .int .u16 2, .int .u16 0, .int .u32 7] 67)) := hb2.trans (hbU.mono hb2.size)
  simp only [Pm.v, Pm.lv] at hSub
  have hbn : bs [] = ⟨#[]⟩ := rfl
  rw [hbn] at hSub
  have hSu := hide hSub
  have hmsl := hfst.2.2.2.2
  generalize (fun i => if i < w2.heap.size then own i else 0) = own0 at *
  generalize subLog ⟨9, 5, [], twoL, some ⟨w2.heap.size, 0, none⟩, 2⟩ [] = LGX at *
  obtain ⟨ms, hms⟩ : ∃ ms, ms = asksM (core ⟨9, 5, [], twoL, some ⟨w2.heap.size, 0, none⟩, 2⟩) 1 0 := ⟨_, rfl⟩
  rw [← hms] at hSu hmsl
  have hm2 : ms.length = 2 := hmsl
  replace hms := hide hms
  replace hm2 := hide hm2
  have hzH := hide hz
  have hbH := hide hbw
  clear hSub hfst hA0 hrow hck I3 hlo hbn hmsl I2 ho2 hb2 hbU hz hbw hnb
  have hlt2 : twoL.length = 2 := rfl
  rw [hlt2] at hSu
  clear hlt2
  go_wp2_with fail
  refine hSu.out.mono ?_
  rintro e w4 ⟨lv2, own4, M4, rfl, I4, F4, hrow4, hlo4, hck4⟩
  have hrow4' := row_msgs (ms := ms) (fun l => rfl) hrow4
  obtain ⟨oad, ocap, holv⟩ := hrow4'.slice
  rw [hm2.out] at holv
  subst holv
  have hSend := hide (send_any w4 own4 nb M4 _ I4 (.slice oad 2 ocap) ms hrow4' (by show (0 : Nat) + ms.length ≤ _; have := hm2.out; omega))
  replace F4 := hide F4
  clear hSu hrow4 hlo4 I4 hcw hnl2
  generalize World.alloc w2 _ = U at *
  go_wp2_with fail
  refine hSend.out.mono ?_
  rintro e w5 ⟨rfl, own5, M5, I5, F5, _⟩
  have e5 : { initPN [] with A := [⟨-1, core ⟨9, 5, [], twoL, some ⟨w2.heap.size, 0, none⟩, 2⟩, zeroMsg⟩], wire := (initPN []).wire ++ ms } = paidPN (twoP (some ⟨w2.heap.size, 0, none⟩)) := by rw [hms.out]; rfl
  have I5' : NetAt w5 own5 nb 3 M5 (paidPN (twoP (some ⟨w2.heap.size, 0, none⟩))) := by rw [← e5]; exact I5
  have hI5 : NInv (paidPN (twoP (some ⟨w2.heap.size, 0, none⟩))) := NInv.submit (init_inv []) DRel.start (q := core (twoP (some ⟨w2.heap.size, 0, none⟩))) rfl (fun k x hx => ⟨(two_pay.x k x hx).1, (two_pay.x k x hx).2.1⟩) ⟨_, _, I5'.deed.rel⟩ rfl rfl (fun y hy => .inr hy)
  have F5' := F4.out.trans F5
  have hFl := hide (flush_any PaidJ PaidJ.steady w5 own5 nb M5 _ I5' hI5 (PaidJ.start _) (by show (asksM (core (twoP (some ⟨w2.heap.size, 0, none⟩))) 1 0).length ≤ _; have h2 := hm2.out; rw [hms.out] at h2; have h3 : (asksM (core (twoP (some ⟨w2.heap.size, 0, none⟩))) 1 0).length = 2 := h2; omega) (fun q => by
    show (openLg [] q (cntA 4 0 q)).length ≤ _
    rw [openLg_len]
    unfold cntA
    (repeat' split) <;> omega))
  replace F5' := hide F5'
  clear hSend F4 F5 I5 I5' hI5 e5 hms hm2
  go_wp2_with fail
  refine hFl.out.mono ?_
  rintro e w7 ⟨rfl, own7, M7, P7, I7, F7, hI7, hJ7, hw7, _⟩
  obtain ⟨hf9, h1, h2, h3, h4, h5, h6, h7⟩ := hJ7.end_ (I7.good hI7) hw7
  have hSt := eStatusR_any 9 (by omega) w7 M7.db M7.ck M7.ps M7.xv P7.A I7.deed.x I7.deed.rel
  have hstr : stR P7.A 9 = (2, 3, 3, 0) := by unfold stR; rw [if_pos hf9, h1, h2, h3]
  rw [hstr] at hSt
  have hc4 : w7.cell? ⟨nb, 4, none⟩ = some (.pointer (some ⟨M7.db, 0, none⟩)) := by rw [cell_at I7.blk 4]; rfl
  have hbel : Below w.heap.size w w7 := hbH.out.trans ((F5'.out.trans F7).kept.below hbH.out.size (fun i hi => by
    rcases Nat.lt_or_ge i w.heap.size with h | h
    · exact absurd (hzH.out i h) hi
    · exact h))
  have hFu1 := hide (fun u (hu : Below w7.heap.size w7 u) => eFundsR_any 1 (by omega) u (M7.bk 1).b 1 _ _ _ _ (P7.E 1) ((I7.bank 1 (by omega) (by omega)).x.below hu) (I7.bank 1 (by omega) (by omega)).rel h6)
  have hFu2 := hide (fun u (hu : Below w7.heap.size w7 u) => eFundsR_any 2 (by omega) u (M7.bk 2).b 2 _ _ _ _ (P7.E 2) ((I7.bank 2 (by omega) (by omega)).x.below hu) (I7.bank 2 (by omega) (by omega)).rel h7)
  rw [h4] at hFu1
  rw [h5] at hFu2
  have hcb1 : w7.cell? ⟨nb, 1, none⟩ = some (.pointer (some ⟨(M7.bk 1).b, 0, none⟩)) := by rw [cell_at I7.blk 1]; rfl
  have hcb2 : w7.cell? ⟨nb, 2, none⟩ = some (.pointer (some ⟨(M7.bk 2).b, 0, none⟩)) := by rw [cell_at I7.blk 2]; rfl
  have hnl7 := I7.lt
  generalize heldOf 1 (P7.E 1) = x1 at *
  generalize dueOf 1 (P7.E 1) = x2 at *
  generalize heldOf 2 (P7.E 2) = x3 at *
  generalize dueOf 2 (P7.E 2) = x4 at *
  replace hSt := hide hSt
  clear hFl F5' F7 I7 hI7 hJ7 hw7 hf9 h1 h2 h3 h4 h5 h6 h7 hstr hzH hbH
  go_wp2_with fail
  refine hSt.out.mono ?_
  rintro e w8 ⟨rfl, hb8⟩
  clear hSt
  have hG1 : Hid (∀ u, Below w7.heap.size w7 u → Calls Tryz.prog 15 #[.pointer (some ⟨(M7.bk 1).b, 0, none⟩), .int .u16 1] u fun e w' => e = .returned (.tuple #[.agg #[.int .u32 1030, .int .u32 (x1 : Int), .int .u32 (x2 : Int)], .int .i64 0]) ∧ Below u.heap.size u w') := hide (fun u hu => hFu1.out u hu)
  have hG2 : Hid (∀ u, Below w7.heap.size w7 u → Calls Tryz.prog 15 #[.pointer (some ⟨(M7.bk 2).b, 0, none⟩), .int .u16 2] u fun e w' => e = .returned (.tuple #[.agg #[.int .u32 993, .int .u32 (x3 : Int), .int .u32 (x4 : Int)], .int .i64 0]) ∧ Below u.heap.size u w') := hide (fun u hu => hFu2.out u hu)
  clear hFu1 hFu2 hc4
  have hb9 : Below w7.heap.size w7 (w8.alloc (.cells #[.int .u8 2, .int .u8 3, .int .u8 3] 73)) := hb8.alloc hb8.size _
  have B9 := Box.mk0 w8 #[.int .u8 2, .int .u8 3, .int .u8 3] 73
  have hq1 : (w8.alloc (.cells #[.int .u8 2, .int .u8 3, .int .u8 3] 73)).cell? ⟨nb, 1, none⟩ = some (.pointer (some ⟨(M7.bk 1).b, 0, none⟩)) := by rw [hb9.cell (p := ⟨nb, 1, none⟩) hnl7]; exact hcb1
  have hn9 := Nat.lt_of_lt_of_le hnl7 hb9.size
  go_wp2_with fail
  refine (hG1.out _ hb9).mono ?_
  rintro e w10 ⟨rfl, hb10⟩
  have B10 := B9.below hb10
  have hb11 : Below w7.heap.size w7 (w10.alloc (.cells #[.int .u32 1030, .int .u32 (x1 : Int), .int .u32 (x2 : Int)] 49)) := (hb9.trans (hb10.mono hb9.size)).alloc (by have := hb9.size; have := hb10.size; omega) _
  have B11 := B10.alloc (.cells #[.int .u32 1030, .int .u32 (x1 : Int), .int .u32 (x2 : Int)] 49)
  have C11 := Box.mk0 w10 #[.int .u32 1030, .int .u32 (x1 : Int), .int .u32 (x2 : Int)] 49
  have hq2 : (w10.alloc (.cells #[.int .u32 1030, .int .u32 (x1 : Int), .int .u32 (x2 : Int)] 49)).cell? ⟨nb, 2, none⟩ = some (.pointer (some ⟨(M7.bk 2).b, 0, none⟩)) := by rw [hb11.cell (p := ⟨nb, 2, none⟩) hnl7]; exact hcb2
  have hn11 := Nat.lt_of_lt_of_le hnl7 hb11.size
  clear hG1 hq1 hb9 hn9
  go_wp2_with fail
  refine (hG2.out _ hb11).mono ?_
  rintro e w12 ⟨rfl, hb12⟩
  have B12 := B11.below hb12
  have C12 := C11.below hb12
  have hc1 := B12.cell
  have hl1 := B12.lt
  have hc2 := C12.cell
  have hl2 := C12.lt
  have hend := hide (hbel.trans ((hb11.trans (hb12.mono hb11.size)).mono hbel.size))
  clear hG2 hq2 hb11 hn11 hcb1 hcb2
  go_wp2
  go_ret
  exact ⟨rfl, hend.out.alloc hend.out.size _⟩
end Go.Proofs.YtjkhbjgfoopomabGreat
/-
  A script that came in, wherever the world has gone.
-/
namespace Go.Proofs.YtjkhbjgfoopomabGreat
open Go.RowKit
set_option linter.unusedVariables false
set_option linter.unusedSimpArgs false
/-- the steps, wherever the world has gone -/
theorem Steps.at {w : World} {sv : Value} {ss : List Stp} (h : Steps w sv ss) : ∃ ad cap, sv = .slice ad ss.length cap ∧ ∀ k (hk : k < ss.length), ∃ (a : Addr) (la : Option Addr) (lc : Nat), ad = some a ∧ LegsAt w la ss[k].legs ∧ ∀ u, Below w.heap.size w u → u.cell? (a.add (k * 4)) = some (.int .i64 ss[k].k) ∧ u.cell? ⟨(a.add (k * 4)).block, (a.add (k * 4)).off + 1, none⟩ = some (.int .i64 ss[k].a) ∧ u.cell? ⟨(a.add (k * 4)).block, (a.add (k * 4)).off + 2, none⟩ = some (.int .i64 ss[k].b) ∧ u.cell? ⟨(a.add (k * 4)).block, (a.add (k * 4)).off + 3, none⟩ = some (.slice la ss[k].legs.length lc) := by
  obtain ⟨ad, cap, hv, hf⟩ := h.form
  refine ⟨ad, cap, hv, fun k hk => ?_⟩
  obtain ⟨a, la, lc, e, hl, hc, hL⟩ := hf k hk
  refine ⟨a, la, lc, e, hL, fun u hu => ?_⟩
  have key : ∀ j v, (ss[k].cells la lc)[j]? = some v → u.cell? ((a.add (k * 4)).add j) = some v := fun j v hj => (World.cell?_of_block (w := w) (by rw [addr_block, addr_block]; exact hu.block _ hl)).trans (hc j v hj)
  refine ⟨?_, key 1 _ rfl, key 2 _ rfl, key 3 _ rfl⟩
  have h0 := key 0 _ rfl
  rwa [addr_add, Nat.add_zero] at h0
end Go.Proofs.YtjkhbjgfoopomabGreat
