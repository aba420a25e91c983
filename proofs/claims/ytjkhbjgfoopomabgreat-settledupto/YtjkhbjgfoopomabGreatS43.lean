import Derived.Test.YtjkhbjgfoopomabGreatS42
/-
  Networks: a payment is submitted; funds; what legs move.
-/
namespace Go.Proofs.YtjkhbjgfoopomabGreat
open Go.RowKit
set_option linter.unusedVariables false
set_option linter.unusedSimpArgs false
theorem leg_open (fs : List Int) (j n i l : Nat) : legOf i l (openE fs j n) = (0, noMsg, false) := by
  induction n with
  | zero => rfl
  | succ n ih =>
    rw [openE_succ, legOf_snoc, ih]
    unfold legStep
    exact if_pos rfl
theorem init_inv (fs : List Int) : NInv (initPN fs) := by
  refine ⟨fun i h => ?_, fun b i l _ _ h => ?_, fun b i l x _ _ h => ?_, fun i l x h => ?_, fun m hm => ?_⟩
  · cases h
  · exact absurd (by show (legOf i l (openE fs b _)).1 = 0; rw [leg_open]) h
  · have h' : (legOf i l (openE fs b (cntA 4 0 b))).2.2 = true := h
    rw [leg_open] at h'
    cases h'
  · cases h
  · cases hm
theorem init_cnt (b : Nat) (h1 : 1 ≤ b) (h3 : b ≤ 3) : cntA 4 0 b = 3 := by
  unfold cntA
  rw [if_neg (by omega), if_pos (by omega)]
theorem init_opened (b a : Nat) (h1 : 1 ≤ b) (h3 : b ≤ 3) (ha : a < 3) : (openedOf a ((initPN []).E b)).1 = 1000 ∧ (openedOf a ((initPN []).E b)).2.1 = true := by
  have e : (initPN []).E b = openE [] b 3 := by show openE [] b (cntA 4 0 b) = _; rw [init_cnt b h1 h3]
  rw [e]
  have hb : b = 1 ∨ b = 2 ∨ b = 3 := by omega
  have haa : a = 0 ∨ a = 1 ∨ a = 2 := by omega
  rcases hb with rfl | rfl | rfl <;> rcases haa with rfl | rfl | rfl <;> exact ⟨rfl, rfl⟩
/-- the network behind the payment -/
def paidPN (p : Pm) : PN := ⟨(initPN []).E, [⟨-1, core p, zeroMsg⟩], asksM (core p) 1 0, (initPN []).lg, (initPN []).sm⟩
theorem paid_find (p : Pm) (h9 : p.id = 9) : fnd (paidPN p).A 9 = true ∧ payO (paidPN p).A 9 = core p ∧ (∀ i, fnd (paidPN p).A i = true → i = 9) ∧ stA (paidPN p).A 9 = (1, 0, 0, 0) := by
  have hn := fun i => find_new (A := []) (core p) i
  have e : ([] : List Dt) ++ [⟨-1, core p, zeroMsg⟩] = (paidPN p).A := rfl
  have hid : (core p).id = 9 := h9
  rw [e] at hn
  have hp : payO (paidPN p).A 9 = core p := by rw [(hn 9).2, if_pos hid]
  refine ⟨by rw [(hn 9).1]; simp [hid], hp, fun i h => ?_, ?_⟩
  · rw [(hn i).1] at h
    have h0 : fnd [] i = false := rfl
    rw [h0, Bool.or_false, hid] at h
    have := of_decide_eq_true h
    exact this.symm
  · unfold stA
    rw [hp]
    show stStep (core p) (0, 0, 0, 0) ⟨-1, core p, zeroMsg⟩ = _
    unfold stStep
    rw [if_neg (by show ¬ (-1 : Int) = 0; decide), if_pos rfl]
    simp
theorem paid_c (p : Pm) (h9 : p.id = 9) (hn : 1 ≤ p.legs.length) : PrC p.legs (paidPN p) := by
  obtain ⟨h1, h2, h3, h4⟩ := paid_find p h9
  refine ⟨h1, h3, by rw [h2]; rfl, fun b hb1 hb3 a ha => init_opened b a hb1 hb3 ha, fun _ => ?_⟩
  rw [h4]
  unfold fullOf
  have : 2 ≤ 2 ^ p.legs.length := by
    calc 2 = 2 ^ 1 := rfl
      _ ≤ 2 ^ p.legs.length := Nat.pow_le_pow_right (by omega) hn
  simp only
  omega
theorem paid_ls (p : Pm) (b l : Nat) : (legOf 9 l ((paidPN p).E b)).1 = 0 := by
  show (legOf 9 l (openE [] b _)).1 = 0
  rw [leg_open]
theorem paid_wire (p : Pm) {l : Nat} {x : Pl} (hx : p.legs[l]? = some x) : askMsg (core p) x l 1 ∈ (paidPN p).wire := by
  refine (asksM_mem _ _ _ _).2 ⟨l, x, ?_, hx, rfl⟩
  unfold withOf
  simp
theorem paid_ok (p : Pm) (h9 : p.id = 9) (hn : 1 ≤ p.legs.length) : PrOk p.legs (paidPN p) := by
  have h4 := (paid_find p h9).2.2.2
  refine ⟨paid_c p h9 hn, by rw [h4]; exact .inl rfl, fun l x _ => by rw [paid_ls]; omega, fun _ l x hx => .inr ⟨_, paid_wire p hx, (ask_parts _ _ _ _).2.2.2.2, .inl (ask_parts _ _ _ _).1⟩, fun e => by rw [h4] at e; simp at e⟩
/-- a payment is submitted to the notary of a network -/
theorem sub_net (w : World) (own : Nat → Nat) (nb : Nat) (M : NM) (P : PN) (I : NetAt w own nb 3 M P) (p : Pm) (hp : p.ok) (hm : p.memo.length ≤ 1000000) (hll : p.legs.length ≤ 1000000) (hck : M.ck < 18446744073709551616) (hL : RowOf w 67 4 Pl.cells p.lv p.legs) (hlo : ∀ g, p.lv.ownBlock = some g → own g = 0) :
    Calls Tryz.prog 20 #[.pointer (some ⟨M.db, 0, none⟩), p.v] w fun e w' => ∃ lv own' M', e = .returned (.tuple #[lv, .string (bs (subLog p P.A)), .int .i64 (subErr p P.A : Int)]) ∧ NetAt w' own' nb 3 M' { P with A := subActs p (core p) P.A } ∧ Frame w w' own own' ∧ RowOf w' 9 1 txtCell lv (subOuts p P.A) ∧ (∀ g, lv.ownBlock = some g → own' g = 0) ∧ M'.ck = M.ck := by
  refine (eSub_any p hp (by omega) (by omega) w M.db M.ck M.ps M.xv I.deed.x I.deed.ap P.A I.deed.rel hck hL (fun g hg => ⟨fun e => ?_, fun e => ?_⟩)).mono ?_
  · have h1 := hlo g hg
    have h2 := I.deed.own g (.inl e)
    omega
  · have h1 := hlo g hg
    have h2 := I.deed.own g (.inr (.inl e))
    omega
  · rintro e w' ⟨lv, ps', v', rfl, hh, hr⟩
    have J := I.deedTo lv hh.to (hr (core p) rfl) hh.fresh
    exact ⟨lv, _, _, rfl, J.1, J.2, hh.row, fun g hg => by simp only [if_neg (Nat.not_lt.2 (hh.fresh g hg).1), if_pos hg], rfl⟩
/-- Funds, by what has changed the bank -/
theorem eFundsR_any (a : Nat) (ha : a < 65536) (w : World) (B node : Nat) (ac : List Ac) (ls : List Lg) (va vl : Value) (E : List Ev) (hX : XB w B node ac ls va vl) (hr : Rel E ac ls) (hop : (openedOf a E).2.1 = true) :
    Calls Tryz.prog 15 #[.pointer (some ⟨B, 0, none⟩), .int .u16 (a : Int)] w fun e w' => e = .returned (.tuple #[.agg #[.int .u32 (balOf a E : Int), .int .u32 (heldOf a E : Int), .int .u32 (dueOf a E : Int)], .int .i64 0]) ∧ Below w.heap.size w w' := by
  have hm := hr.money a
  have hb := hr.bd a
  have hh := hr.hb a
  refine (eFunds_any a ha w B node ac ls va vl hX hr.aok (fun x hx => (hr.lok x hx).1) (by have := hr.alen; omega) (by have := hr.llen; omega) (by omega) (by omega)).mono ?_
  rintro e w' ⟨he, hbl⟩
  refine ⟨?_, hbl⟩
  rw [he, ← hr.has a, hop, hm.1, hm.2.1, hm.2.2]
  rfl
end Go.Proofs.YtjkhbjgfoopomabGreat
