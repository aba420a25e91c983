import Derived.Test.YtjkhbjgfoopomaaG44
/-
  Networks: a payment is submitted; funds; what legs move.
-/
namespace Go.Proofs.Ytjkhbjgfoopomaa
open Go.RowKit
set_option linter.unusedVariables false
set_option linter.unusedSimpArgs false
theorem leg_open (fs : List Int) (j n i l : Nat) : legOf i l (openE fs j n) = (0, noMsg, false) := by
  induction n with
  | zero => rfl
  | succ n ih =>
    rw [openE_succ, legOf_snoc, ih]
    unfold legStep
    exact if_pos rfl
theorem init_inv (fs : List Int) : NInv (initPN fs) := by
  refine ⟨fun i h => ?_, fun b i l _ _ h => ?_, fun b i l x _ _ h => ?_, fun i l x h => ?_, fun m hm => ?_⟩
  · cases h
  · exact absurd (by show (legOf i l (openE fs b _)).1 = 0; rw [leg_open]) h
  · have h' : (legOf i l (openE fs b (cntA 4 0 b))).2.2 = true := h
    rw [leg_open] at h'
    cases h'
  · cases h
  · cases hm
theorem init_cnt (b : Nat) (h1 : 1 ≤ b) (h3 : b ≤ 3) : cntA 4 0 b = 3 := by
  unfold cntA
  rw [if_neg (by omega), if_pos (by omega)]
theorem init_opened (b a : Nat) (h1 : 1 ≤ b) (h3 : b ≤ 3) (ha : a < 3) : (openedOf a ((initPN []).E b)).1 = 1000 ∧ (openedOf a ((initPN []).E b)).2.1 = true := by
  have e : (initPN []).E b = openE [] b 3 := by show openE [] b (cntA 4 0 b) = _; rw [init_cnt b h1 h3]
  rw [e]
  have hb : b = 1 ∨ b = 2 ∨ b = 3 := by omega
  have haa : a = 0 ∨ a = 1 ∨ a = 2 := by omega
  rcases hb with rfl | rfl | rfl <;> rcases haa with rfl | rfl | rfl <;> exact ⟨rfl, rfl⟩
/-- the network behind the payment -/
def paidPN (p : Pm) : PN := ⟨(initPN []).E, [⟨-1, core p, zeroMsg⟩], asksM (core p) 1 0, (initPN []).lg, (initPN []).sm⟩
theorem paid_find (p : Pm) (h9 : p.id = 9) : fnd (paidPN p).A 9 = true ∧ payO (paidPN p).A 9 = core p ∧ (∀ i, fnd (paidPN p).A i = true → i = 9) ∧ stA (paidPN p).A 9 = (1, 0, 0, 0) := by
  have hn := fun i => find_new (A := []) (core p) i
  have e : ([] : List Dt) ++ [⟨-1, core p, zeroMsg⟩] = (paidPN p).A := rfl
  have hid : (core p).id = 9 := h9
  rw [e] at hn
  have hp : payO (paidPN p).A 9 = core p := by rw [(hn 9).2, if_pos hid]
  refine ⟨by rw [(hn 9).1]; simp [hid], hp, fun i h => ?_, ?_⟩
  · rw [(hn i).1] at h
    have h0 : fnd [] i = false := rfl
    rw [h0, Bool.or_false, hid] at h
    have := of_decide_eq_true h
    exact this.symm
  · unfold stA
    rw [hp]
    show stStep (core p) (0, 0, 0, 0) ⟨-1, core p, zeroMsg⟩ = _
    unfold stStep
    rw [if_neg (by show ¬ (-1 : Int) = 0; decide), if_pos rfl]
    simp
theorem paid_c (p : Pm) (h9 : p.id = 9) (hn : 1 ≤ p.legs.length) : PrC p.legs (paidPN p) := by
  obtain ⟨h1, h2, h3, h4⟩ := paid_find p h9
  refine ⟨h1, h3, by rw [h2]; rfl, fun b hb1 hb3 a ha => init_opened b a hb1 hb3 ha, fun _ => ?_⟩
  rw [h4]
  unfold fullOf
  have : 2 ≤ 2 ^ p.legs.length := by
    calc 2 = 2 ^ 1 := rfl
      _ ≤ 2 ^ p.legs.length := Nat.pow_le_pow_right (by omega) hn
  simp only
  omega
theorem paid_ls (p : Pm) (b l : Nat) : (legOf 9 l ((paidPN p).E b)).1 = 0 := by
  show (legOf 9 l (openE [] b _)).1 = 0
  rw [leg_open]
theorem paid_wire (p : Pm) {l : Nat} {x : Pl} (hx : p.legs[l]? = some x) : askMsg (core p) x l 1 ∈ (paidPN p).wire := by
  refine (asksM_mem _ _ _ _).2 ⟨l, x, ?_, hx, rfl⟩
  unfold withOf
  simp
theorem paid_ok (p : Pm) (h9 : p.id = 9) (hn : 1 ≤ p.legs.length) : PrOk p.legs (paidPN p) := by
  have h4 := (paid_find p h9).2.2.2
  refine ⟨paid_c p h9 hn, by rw [h4]; exact .inl rfl, fun l x _ => by rw [paid_ls]; omega, fun _ l x hx => .inr ⟨_, paid_wire p hx, (ask_parts _ _ _ _).2.2.2.2, .inl (ask_parts _ _ _ _).1⟩, fun e => by rw [h4] at e; simp at e⟩
theorem paid_sh (p : Pm) (h9 : p.id = 9) (hn : 1 ≤ p.legs.length) : PrSh p.legs (paidPN p) := by
  have h4 := (paid_find p h9).2.2.2
  have hx : p.legs[0]? = some (p.legs[0]'(by omega)) := List.getElem?_eq_getElem _
  refine ⟨paid_c p h9 hn, by rw [h4]; exact .inl rfl, fun x _ => by rw [paid_ls]; omega, fun _ => ⟨_, paid_wire p hx, (ask_parts _ _ _ _).2.2.2.2, .inl (ask_parts _ _ _ _).1⟩, fun e => by rw [h4] at e; simp at e⟩
/-- a payment is submitted to the notary of a network -/
theorem sub_net (w : World) (own : Nat → Nat) (nb : Nat) (M : NM) (P : PN) (I : NetAt w own nb 3 M P) (p : Pm) (hp : p.ok) (hm : p.memo.length ≤ 1000000) (hll : p.legs.length ≤ 1000000) (hck : M.ck < 18446744073709551616) (hL : RowOf w 57 4 Pl.cells p.lv p.legs) (hlo : ∀ g, p.lv.ownBlock = some g → own g = 0) :
    Calls Try.prog 24 #[.pointer (some ⟨M.db, 0, none⟩), p.v] w fun e w' => ∃ lv own' M', e = .returned (.tuple #[lv, .string (bs (subLog p P.A)), .int .i64 (subErr p P.A : Int)]) ∧ NetAt w' own' nb 3 M' { P with A := subActs p (core p) P.A } ∧ Frame w w' own own' ∧ RowOf w' 9 1 txtCell lv (subOuts p P.A) ∧ (∀ g, lv.ownBlock = some g → own' g = 0) ∧ M'.ck = M.ck := by
  refine (eSub_any p hp (by omega) (by omega) w M.db M.ck M.ps M.xv I.deed.x I.deed.ap P.A I.deed.rel hck hL (fun g hg => ⟨fun e => ?_, fun e => ?_⟩)).mono ?_
  · have h1 := hlo g hg
    have h2 := I.deed.own g (.inl e)
    omega
  · have h1 := hlo g hg
    have h2 := I.deed.own g (.inr (.inl e))
    omega
  · rintro e w' ⟨lv, ps', v', rfl, hh, hr⟩
    have J := I.deedTo lv hh.to (hr (core p) rfl) hh.fresh
    exact ⟨lv, _, _, rfl, J.1, J.2, hh.row, fun g hg => by simp only [if_neg (Nat.not_lt.2 (hh.fresh g hg).1), if_pos hg], rfl⟩
/-- Funds, by what has changed the bank -/
theorem eFundsR_any (a : Nat) (ha : a < 65536) (w : World) (B node : Nat) (ac : List Ac) (ls : List Lg) (va vl : Value) (E : List Ev) (hX : XB w B node ac ls va vl) (hr : Rel E ac ls) (hop : (openedOf a E).2.1 = true) :
    Calls Try.prog 31 #[.pointer (some ⟨B, 0, none⟩), .int .u16 (a : Int)] w fun e w' => e = .returned (.tuple #[.agg #[.int .u32 (balOf a E : Int), .int .u32 (heldOf a E : Int), .int .u32 (dueOf a E : Int)], .int .i64 0]) ∧ Below w.heap.size w w' := by
  have hm := hr.money a
  have hb := hr.bd a
  have hh := hr.hb a
  refine (eFunds_any a ha w B node ac ls va vl hX hr.aok (fun x hx => (hr.lok x hx).1) (by have := hr.alen; omega) (by have := hr.llen; omega) (by omega) (by omega)).mono ?_
  rintro e w' ⟨he, hbl⟩
  refine ⟨?_, hbl⟩
  rw [he, ← hr.has a, hop, hm.1, hm.2.1, hm.2.2]
  rfl
theorem outTo_le (L : List Pl) (b a : Nat) (hL : ∀ x, x ∈ L → x.ok) : ∀ n, outTo L b a n ≤ n * 4294967295 ∧ inTo L b a n ≤ n * 4294967295
  | 0 => ⟨Nat.zero_le _, Nat.zero_le _⟩
  | n + 1 => by
    obtain ⟨h1, h2⟩ := outTo_le L b a hL n
    have key : ∀ (c : Prop) [Decidable c] (y : Nat), y ≤ 4294967295 → (if c then y else 0) ≤ 4294967295 := fun c _ y hy => by
      split
      · exact hy
      · exact Nat.zero_le _
    rw [Nat.succ_mul]
    simp only [outTo, inTo]
    cases hx : L[n]? with
    | none => exact ⟨Nat.add_le_add h1 (Nat.zero_le _), Nat.add_le_add h2 (Nat.zero_le _)⟩
    | some x =>
      have h3 : x.a ≤ 4294967295 := Nat.le_of_lt_succ (hL x (List.mem_of_getElem? hx)).2.2.2
      exact ⟨Nat.add_le_add h1 (key _ _ h3), Nat.add_le_add h2 (key _ _ h3)⟩
set_option maxRecDepth 100000 in
set_option maxHeartbeats 4000000 in
theorem moves_any (w : World) (lv : Value) (L : List Pl) (hok : ∀ x, x ∈ L → x.ok) (hlen : L.length ≤ 4) (hrow : RowOf w 57 4 Pl.cells lv L) (b a : Nat) (hb : b ≤ 3) (ha : a < 3) :
    Calls Try.prog 32 #[lv, .int .i64 (b : Int), .int .i64 (a : Int)] w fun e w' => e = .returned (.tuple #[.int .u64 (outTo L b a L.length : Int), .int .u64 (inTo L b a L.length : Int)]) ∧ w' = w := by
  obtain ⟨ad, cap, hv, hev⟩ := hrow.form Pl.cells_length
  subst hv
  go_enter Try.func32, Try.ntmps32
  go_wp2_with fail
  go_loopw [8, 9, 10] (fun o n c u => ∃ k : Nat, k ≤ L.length ∧ c = .int .i64 (k : Int) ∧ o = .int .u64 (outTo L b a k : Int) ∧ n = .int .u64 (inTo L b a k : Int) ∧ u = w) (fun _ _ c _ => 5 - (intOf c).toNat)
  case atStart => exact ⟨0, Nat.zero_le _, rfl, rfl, rfl, rfl⟩
  case round =>
    obtain ⟨k, hk, rfl, rfl, rfl, hu⟩ := hrel
    subst hu
    obtain ⟨hO, hI⟩ := outTo_le L b a hok k
    by_cases hlt : k < L.length
    · have hki : (k : Int) < (L.length : Int) := by omega
      have dl : decide ((k : Int) < (L.length : Int)) = true := by simp; omega
      obtain ⟨g, hg, hcell, _⟩ := hev k hlt
      subst hg
      have hgl : g < wr.heap.size := hrow.lt rfl
      have c0 := hcell 0 (by decide)
      have c1 := hcell 1 (by decide)
      have c2 := hcell 2 (by decide)
      have c3 := hcell 3 (by decide)
      have hx := hok L[k] (List.getElem_mem hlt)
      have eo : Hid (outTo L b a (k + 1) = outTo L b a k + if L[k].b = b ∧ L[k].p = a then L[k].a else 0) := hide (by simp only [outTo, List.getElem?_eq_getElem hlt])
      have ei : Hid (inTo L b a (k + 1) = inTo L b a k + if L[k].b = b ∧ L[k].g = a then L[k].a else 0) := hide (by simp only [inTo, List.getElem?_eq_getElem hlt])
      generalize L[k] = X at *
      obtain ⟨xb, xp, xg, xa⟩ := X
      obtain ⟨q1, q2, q3, q4⟩ := hx
      simp only [Pl.cells, List.getElem?_cons_zero, List.getElem?_cons_succ, Nat.add_zero] at c0 c1 c2 c3 q1 q2 q3 q4 eo ei
      generalize outTo L b a k = O at *
      generalize inTo L b a k = I at *
      have hkO : O ≤ 4 * 4294967295 := Nat.le_trans hO (Nat.mul_le_mul_right _ (by omega))
      have hkI : I ≤ 4 * 4294967295 := Nat.le_trans hI (Nat.mul_le_mul_right _ (by omega))
      clear hev hcell hok hrow hO hI
      have hcase : ∃ o i : Nat, outTo L b a (k + 1) = O + o ∧ inTo L b a (k + 1) = I + i ∧ ((((xb : Int) == (b : Int)) = false ∧ o = 0 ∧ i = 0) ∨ (((xb : Int) == (b : Int)) = true ∧ ((((xp : Int) == (a : Int)) = true ∧ o = xa) ∨ (((xp : Int) == (a : Int)) = false ∧ o = 0)) ∧ ((((xg : Int) == (a : Int)) = true ∧ i = xa) ∨ (((xg : Int) == (a : Int)) = false ∧ i = 0)))) := by
        refine ⟨_, _, eo.out, ei.out, ?_⟩
        by_cases hB : xb = b <;> by_cases hP : xp = a <;> by_cases hG : xg = a <;> simp [hB, hP, hG] <;> omega
      obtain ⟨o, i, eo', ei', hc⟩ := hcase
      replace eo' := hide eo'
      replace ei' := hide ei'
      clear eo ei
      rcases hc with ⟨d1, rfl, rfl⟩ | ⟨d1, ⟨d2, rfl⟩ | ⟨d2, rfl⟩, ⟨d3, rfl⟩ | ⟨d3, rfl⟩⟩
      all_goals (
        go_wp2
        exact ⟨⟨k + 1, hlt, by go_num, by rw [eo'.out]; go_num, by rw [ei'.out]; go_num, trivial⟩, by simp [intOf]; omega⟩)
    · obtain rfl : k = L.length := by omega
      have dl : decide ((L.length : Int) < (L.length : Int)) = false := by simp
      clear hev hok hrow
      go_wp2
      go_ret2
      exact ⟨rfl, rfl⟩
end Go.Proofs.Ytjkhbjgfoopomaa
/-
  The statement Prompt: its steps.
-/
namespace Go.Proofs.Ytjkhbjgfoopomaa
open Go.RowKit
set_option linter.unusedVariables false
set_option linter.unusedSimpArgs false
/-- the amounts that Prompt asks for -/
def fewL (x : Pl) : Pl := ⟨x.b, x.p, x.g, 1 + x.a % 250⟩
def promptL (l : List Pl) (short : Bool) : List Pl := if short then ((legsOf l).map fewL).modify 0 (fun x => ⟨x.b, x.p, x.g, 1001⟩) else (legsOf l).map fewL
theorem promptL_len (l : List Pl) (s : Bool) : (promptL l s).length = (legsOf l).length := by
  unfold promptL
  split <;> simp
theorem promptL_ok {l : List Pl} (h : ∀ x, x ∈ l → x.ok) (s : Bool) : Payable (promptL l s) ∧ (∀ x, x ∈ promptL l s → x.ok ∧ 1 ≤ x.a) ∧ (s = false → ∀ (k : Nat) (x : Pl), (promptL l s)[k]? = some x → x.a ≤ 250) ∧ (s = true → ∀ (x : Pl), (promptL l s)[0]? = some x → 1000 < x.a) := by
  obtain ⟨h1, h2, h3⟩ := legsOf_ok h
  have hf : ∀ x, x ∈ (legsOf l).map fewL → x.ok ∧ 1 ≤ x.b ∧ x.b ≤ 3 ∧ x.p < 3 ∧ x.g < 3 ∧ 1 ≤ x.a ∧ x.a ≤ 250 := fun x hx => by
    obtain ⟨y, hy, rfl⟩ := List.mem_map.1 hx
    obtain ⟨⟨o1, o2, o3, o4⟩, a1, a2, a3, a4, a5⟩ := h1 y hy
    refine ⟨⟨o1, o2, o3, ?_⟩, a1, a2, a3, a4, ?_, ?_⟩ <;> simp only [fewL] <;> omega
  have hg : ∀ x, x ∈ promptL l s → x.ok ∧ 1 ≤ x.b ∧ x.b ≤ 3 ∧ x.p < 3 ∧ x.g < 3 ∧ 1 ≤ x.a := fun x hx => by
    unfold promptL at hx
    split at hx
    · obtain ⟨k, hk, rfl⟩ := List.getElem_of_mem hx
      rw [List.getElem_modify]
      have hk' : k < ((legsOf l).map fewL).length := by simpa using hk
      have := hf _ (List.getElem_mem hk')
      split
      · obtain ⟨⟨o1, o2, o3, o4⟩, a1, a2, a3, a4, a5, _⟩ := this
        exact ⟨⟨o1, o2, o3, by show (1001 : Nat) < 4294967296; omega⟩, a1, a2, a3, a4, by show 1 ≤ (1001 : Nat); omega⟩
      · obtain ⟨o, a1, a2, a3, a4, a5, _⟩ := this
        exact ⟨o, a1, a2, a3, a4, a5⟩
    · obtain ⟨o, a1, a2, a3, a4, a5, _⟩ := hf x hx
      exact ⟨o, a1, a2, a3, a4, a5⟩
  refine ⟨⟨by rw [promptL_len]; exact ⟨h2, h3⟩, fun k x hx => ?_⟩, fun x hx => ⟨(hg x hx).1, (hg x hx).2.2.2.2.2⟩, fun hs k x hx => ?_, fun hs x hx => ?_⟩
  · obtain ⟨_, a1, a2, a3, a4, _⟩ := hg x (List.mem_of_getElem? hx)
    exact ⟨a1, a2, a3, a4⟩
  · subst hs
    exact (hf x (List.mem_of_getElem? hx)).2.2.2.2.2.2
  · subst hs
    unfold promptL at hx
    simp only [if_true, List.getElem?_modify] at hx
    cases hq : ((legsOf l).map fewL)[0]? with
    | none => rw [hq] at hx; simp at hx
    | some y =>
      rw [hq] at hx
      simp at hx
      subst hx
      show 1000 < (1001 : Nat)
      omega
/-- what holds in both cases -/
def PrJ (L : List Pl) (short : Bool) (P : PN) : Prop := if short then PrSh L P else PrOk L P
theorem PrJ.step {L : List Pl} {s : Bool} (H : Payable L) (h250 : s = false → ∀ (k : Nat) (x : Pl), L[k]? = some x → x.a ≤ 250) (h1001 : s = true → ∀ (x : Pl), L[0]? = some x → 1000 < x.a) {P Q : PN} {m : Msg} (J : PrJ L s P) (G : Good P) (hm : m ∈ P.wire) (hA : After P Q m) : PrJ L s Q := by
  unfold PrJ at *
  cases s with
  | true => exact PrSh.step J H (h1001 rfl) G hm hA
  | false => exact PrOk.step J H (h250 rfl) G hm hA
theorem PrJ.steady {L : List Pl} {s : Bool} (H : Payable L) (h250 : s = false → ∀ (k : Nat) (x : Pl), L[k]? = some x → x.a ≤ 250) (h1001 : s = true → ∀ (x : Pl), L[0]? = some x → 1000 < x.a) : Steady (PrJ L s) :=
  fun Q m rest G J hq => J.step H h250 h1001 G (by rw [hq]; simp) (arrive_after hq)
theorem PrJ.c {L : List Pl} {s : Bool} {P : PN} (J : PrJ L s P) : PrC L P := by
  unfold PrJ at J
  split at J
  · exact J.c
  · exact J.c
/-- the end: how it stands; the balances -/
theorem PrJ.end_ {L : List Pl} {s : Bool} {P : PN} (H : Payable L) (J : PrJ L s P) (G : Good P) (hw : P.wire = []) :
    (stA P.A 9).1 = (if s then 3 else 2) ∧ doneTo P 9 12 = !s ∧ notTo P 9 12 = s ∧ ∀ b a, 1 ≤ b → b ≤ 3 → a < 3 → balOf a (P.E b) = if s then 1000 else 1000 + inTo L b a L.length - outTo L b a L.length := by
  unfold PrJ at J
  cases s with
  | true =>
    simp only [if_true] at J
    obtain ⟨h1, h2⟩ := J.end_ hw
    have he := ends_of J.c G H 4 h2
    refine ⟨h1, he.1, he.2, fun b a hb1 hb3 ha => ?_⟩
    exact (bal_still J.c G H 4294967296 (fun l x hx h => by rw [h2 l x hx] at h; omega) (J.none3 G) ⟨hb1, hb3⟩ ha).1
  | false =>
    simp only [Bool.false_eq_true, if_false] at J
    obtain ⟨h1, h2⟩ := J.end_ H G hw
    have he := ends_of J.c G H 3 h2
    exact ⟨h1, he.1, he.2, fun b a hb1 hb3 ha => bal_end J.c G h2 ⟨hb1, hb3⟩ ha⟩
theorem wrong_none {L : List Pl} (H : Payable L) (hx : ∀ x, x ∈ L → x.ok ∧ 1 ≤ x.a) (d : Nat) (la : Option Addr) (lc : Nat) : wrongOf ⟨9, d, [], L, la, lc⟩ = 0 := by
  have hl : ∀ L' : List Pl, (∀ x, x ∈ L' → 1 ≤ x.b ∧ x.b ≤ 3 ∧ 1 ≤ x.a) → legsErr L' = 0 := by
    intro L'
    induction L' with
    | nil => intro _; rfl
    | cons y r ih =>
      intro h
      have h1 := h y (by simp)
      have : plErr y = 0 := by unfold plErr; rw [if_neg (by omega), if_neg (by omega)]
      unfold legsErr
      rw [if_pos this]
      exact ih (fun x hx => h x (by simp [hx]))
  have hn := H.n
  have hmm : memoB [] = true := by decide
  have h0 : legsErr L = 0 := hl L (fun x hxx => by
    obtain ⟨k, hk, rfl⟩ := List.getElem_of_mem hxx
    have h1 := H.x k _ (List.getElem?_eq_getElem hk)
    exact ⟨h1.1, h1.2.1, (hx _ hxx).2⟩)
  have hne : ¬ (L.length = 0 ∨ 4 < L.length) := by omega
  simp only [wrongOf, if_neg hne, if_pos h0, hmm, if_true]
/-- the payment is taken in -/
theorem sub_first {L : List Pl} (H : Payable L) (hx : ∀ x, x ∈ L → x.ok ∧ 1 ≤ x.a) (d : Nat) (hd : 1 ≤ d) (la : Option Addr) (lc : Nat) :
    subErr ⟨9, d, [], L, la, lc⟩ [] = 0 ∧ subActs ⟨9, d, [], L, la, lc⟩ (core ⟨9, d, [], L, la, lc⟩) [] = [⟨-1, core ⟨9, d, [], L, la, lc⟩, zeroMsg⟩] ∧ subOuts ⟨9, d, [], L, la, lc⟩ [] = (asksM (core ⟨9, d, [], L, la, lc⟩) 1 0).map encOf ∧ subLog ⟨9, d, [], L, la, lc⟩ [] = subTextOf ⟨9, d, [], L, la, lc⟩ ∧ (asksM (core ⟨9, d, [], L, la, lc⟩) 1 0).length = L.length := by
  have hw := wrong_none H hx d la lc
  have hi : subIs ⟨9, d, [], L, la, lc⟩ [] := ⟨hw, rfl, by show 0 < d; omega, by show 0 < 32; omega⟩
  refine ⟨subIs_err hi, by unfold subActs; rw [if_pos hi]; rfl, ?_, by unfold subLog; rw [if_pos hi], ?_⟩
  · unfold subOuts
    rw [if_pos hi, asksM_map, core_asks]
  · unfold asksM
    have : ∀ n, n ≤ L.length → (askMs (core ⟨9, d, [], L, la, lc⟩) 1 0 n).length = n := by
      intro n
      induction n with
      | zero => intro _; rfl
      | succ n ih =>
        intro hn
        have hq : (core ⟨9, d, [], L, la, lc⟩).legs[n]? = some L[n] := List.getElem?_eq_getElem (show n < L.length by omega)
        have hne : ¬ withOf 0 n = 0 := by unfold withOf; simp
        simp only [askMs, if_neg hne, hq, List.length_append, ih (by omega), List.length_singleton]
    exact this L.length (Nat.le_refl _)
end Go.Proofs.Ytjkhbjgfoopomaa
/-
  Networks: how a payment stands; a bank's funds.
-/
namespace Go.Proofs.Ytjkhbjgfoopomaa
open Go.RowKit
set_option linter.unusedVariables false
set_option linter.unusedSimpArgs false
def stR (A : List Dt) (id : Nat) : Nat × Nat × Nat × Nat := if fnd A id then ((stA A id).1, (stA A id).2.1, (stA A id).2.2.1, 0) else (0, 0, 0, 13)
theorem stX_of {A : List Dt} {ck : Nat} {ps : List Xp} (hD : DRel A ck ps) (id : Nat) : stX id ps = stR A id := by
  unfold stX stR
  by_cases hx : findX id ps < ps.length
  · obtain ⟨h1, h2⟩ := hD.find_in id hx
    have hf : fnd A id = true := h1
    have hg := hD.good _ (List.getElem_mem hx)
    have e : stA A id = stOf ps[findX id ps].pm A := st_core h2 A
    rw [List.getElem?_eq_getElem hx, hf, e, ← hg.st, ← hg.held, ← hg.done]
    rfl
  · have h1 := hD.find_no id (by omega)
    have hf : fnd A id = false := h1
    rw [List.getElem?_eq_none (by omega), hf]
    rfl
theorem eStatusR_any (id : Nat) (hid : id < 4294967296) (w : World) (B ck : Nat) (ps : List Xp) (v : Value) (A : List Dt) (hX : XD w B ck ps v) (hD : DRel A ck ps) :
    Calls Try.prog 29 #[.pointer (some ⟨B, 0, none⟩), .int .u32 (id : Int)] w fun e w' => e = .returned (.tuple #[.agg #[.int .u8 ((stR A id).1 : Int), .int .u8 ((stR A id).2.1 : Int), .int .u8 ((stR A id).2.2.1 : Int)], .int .i64 ((stR A id).2.2.2 : Int)]) ∧ Below w.heap.size w w' := by
  have h := eStatus_any id hid w B ck ps v hX (fun y hy => (hD.good y hy).fine.ok) (by have := hD.len; omega)
  rw [stX_of hD id] at h
  exact h
theorem outTo_250 (L : List Pl) (b a : Nat) (h : ∀ (k : Nat) (x : Pl), L[k]? = some x → x.a ≤ 250) : ∀ n, outTo L b a n ≤ n * 250 ∧ inTo L b a n ≤ n * 250
  | 0 => ⟨Nat.zero_le _, Nat.zero_le _⟩
  | n + 1 => by
    obtain ⟨h1, h2⟩ := outTo_250 L b a h n
    have key : ∀ (c : Prop) [Decidable c] (y : Nat), y ≤ 250 → (if c then y else 0) ≤ 250 := fun c _ y hy => by
      split
      · exact hy
      · exact Nat.zero_le _
    rw [Nat.succ_mul]
    simp only [outTo, inTo]
    cases hx : L[n]? with
    | none => exact ⟨Nat.add_le_add h1 (Nat.zero_le _), Nat.add_le_add h2 (Nat.zero_le _)⟩
    | some x => exact ⟨Nat.add_le_add h1 (key _ _ (h n x hx)), Nat.add_le_add h2 (key _ _ (h n x hx))⟩
end Go.Proofs.Ytjkhbjgfoopomaa
/-
  The statement Prompt: what the walk uses.
-/
namespace Go.Proofs.Ytjkhbjgfoopomaa
open Go.RowKit
set_option linter.unusedVariables false
set_option linter.unusedSimpArgs false
/-- numbers that came in -/
structure IntsAt (w : World) (v : Value) (ts : List Int) : Prop where
  form : ∃ ad cap, v = .slice ad ts.length cap ∧ ∀ k (hk : k < ts.length), ∃ a : Addr, ad = some a ∧ a.block < w.heap.size ∧ w.cell? (a.add k) = some (.int .i64 ts[k])
  ok : ∀ x, x ∈ ts → i64ok x
  len : ts.length ≤ 1048576
/-- as the walk of Prompt goes on -/
structure PSt (w u : World) (nb : Nat) (lv : Value) (L : List Pl) (J : PN → Prop) (own : Nat → Nat) (M : NM) (P : PN) : Prop where
  net : NetAt u own nb 3 M P
  inv : NInv P
  pr : J P
  row : RowOf u 57 4 Pl.cells lv L
  lown : ∀ g, lv.ownBlock = some g → own g = 0
  zero : ∀ i, i < w.heap.size → own i = 0
  bel : Below w.heap.size w u
theorem PSt.go {w u u' : World} {nb : Nat} {lv : Value} {L : List Pl} {J J' : PN → Prop} {own own' : Nat → Nat} {M M' : NM} {P P' : PN} (S : PSt w u nb lv L J own M P) (hF : Frame u u' own own') (hN : NetAt u' own' nb 3 M' P') (hI : NInv P') (hJ : J' P') : PSt w u' nb lv L J' own' M' P' := by
  have hsz := S.bel.size
  refine ⟨hN, hI, hJ, S.row.kept hF.kept (fun g hg h => h (S.lown g hg)), fun g hg => (hF.old g (S.row.lt hg)).trans (S.lown g hg), fun i hi => (hF.old i (Nat.lt_of_lt_of_le hi hsz)).trans (S.zero i hi), S.bel.trans (hF.kept.below hsz (fun k hk => ?_))⟩
  rcases Nat.lt_or_ge k w.heap.size with h | h
  · exact absurd (S.zero k h) hk
  · exact h
theorem PSt.below {w u u' : World} {nb : Nat} {lv : Value} {L : List Pl} {J : PN → Prop} {own : Nat → Nat} {M : NM} {P : PN} (S : PSt w u nb lv L J own M P) (hb : Below u.heap.size u u') : PSt w u' nb lv L J own M P :=
  S.go (Frame.of_below hb) (S.net.below hb) S.inv S.pr
theorem wire_arrive {P : PN} (G : Good P) {m : Msg} (hm : OnW P m) : (arriveTo P m).wire.length ≤ P.wire.length + 4 := by
  obtain ⟨ck, ps, hd⟩ := G.dr
  unfold arriveTo
  split
  · simp
  · simp only [List.length_append]
    have := nOuts_len hd hm.2.1
    omega
theorem modify0 (L : List Pl) (f : Pl → Pl) (h : 0 < L.length) : L.set 0 (f L[0]) = L.modify 0 f := by
  cases L with
  | nil => simp at h
  | cons y r => simp
def mixL (L : List Pl) (k : Nat) : List Pl := (L.take k).map fewL ++ L.drop k
theorem mixL_len (L : List Pl) (k : Nat) (hk : k ≤ L.length) : (mixL L k).length = L.length := by simp [mixL]; omega
theorem mixL_at (L : List Pl) (k : Nat) (hk : k < L.length) : (mixL L k)[k]'(by rw [mixL_len _ _ (by omega)]; exact hk) = L[k] := by
  unfold mixL
  rw [List.getElem_append_right (by simp; omega)]
  simp
  congr 1
  omega
theorem mixL_step (L : List Pl) (k : Nat) (hk : k < L.length) : mixL L (k + 1) = (mixL L k).set k (fewL L[k]) := by
  unfold mixL
  rw [List.set_append, if_neg (by simp; omega), List.take_succ_eq_append_getElem hk, List.map_append, List.append_assoc]
  congr 1
  have : k - ((L.take k).map fewL).length = 0 := by simp; omega
  rw [this]
  rw [List.drop_eq_getElem_cons hk]
  rfl
end Go.Proofs.Ytjkhbjgfoopomaa
