import Derived.Test.YtjkhbjgfoopomaaG43
import Derived.Test.YtjkhbjgfoopomaaG44
/-
  Networks: a payment is submitted; funds; what legs move.
-/
namespace Go.Proofs.Ytjkhbjgfoopomaa
open Go.RowKit
set_option linter.unusedVariables false
set_option linter.unusedSimpArgs false
theorem leg_open (fs : List Int) (j n i l : Nat) : legOf i l (openE fs j n) = (0, noMsg, false) := by
  induction n with
  | zero => rfl
  | succ n ih =>
    rw [openE_succ, legOf_snoc, ih]
    unfold legStep
    exact if_pos rfl
theorem init_inv (fs : List Int) : NInv (initPN fs) := by
  refine ⟨fun i h => ?_, fun b i l _ _ h => ?_, fun b i l x _ _ h => ?_, fun i l x h => ?_, fun m hm => ?_⟩
  · cases h
  · exact absurd (by show (legOf i l (openE fs b _)).1 = 0; rw [leg_open]) h
  · have h' : (legOf i l (openE fs b (cntA 4 0 b))).2.2 = true := h
    rw [leg_open] at h'
    cases h'
  · cases h
  · cases hm
/-- the network behind the payment -/
def paidPN (p : Pm) : PN := ⟨(initPN []).E, [⟨-1, core p, zeroMsg⟩], asksM (core p) 1 0, (initPN []).lg, (initPN []).sm⟩
theorem paid_find (p : Pm) (h9 : p.id = 9) : fnd (paidPN p).A 9 = true ∧ payO (paidPN p).A 9 = core p ∧ (∀ i, fnd (paidPN p).A i = true → i = 9) ∧ stA (paidPN p).A 9 = (1, 0, 0, 0) := by
  have hn := fun i => find_new (A := []) (core p) i
  have e : ([] : List Dt) ++ [⟨-1, core p, zeroMsg⟩] = (paidPN p).A := rfl
  have hid : (core p).id = 9 := h9
  rw [e] at hn
  have hp : payO (paidPN p).A 9 = core p := by rw [(hn 9).2, if_pos hid]
  refine ⟨by rw [(hn 9).1]; simp [hid], hp, fun i h => ?_, ?_⟩
  · rw [(hn i).1] at h
    have h0 : fnd [] i = false := rfl
    rw [h0, Bool.or_false, hid] at h
    have := of_decide_eq_true h
    exact this.symm
  · unfold stA
    rw [hp]
    show stStep (core p) (0, 0, 0, 0) ⟨-1, core p, zeroMsg⟩ = _
    unfold stStep
    rw [if_neg (by show ¬ (-1 : Int) = 0; decide), if_pos rfl]
    simp
theorem paid_ls (p : Pm) (b l : Nat) : (legOf 9 l ((paidPN p).E b)).1 = 0 := by
  show (legOf 9 l (openE [] b _)).1 = 0
  rw [leg_open]
/-- a payment is submitted to the notary of a network -/
theorem sub_net (w : World) (own : Nat → Nat) (nb : Nat) (M : NM) (P : PN) (I : NetAt w own nb 3 M P) (p : Pm) (hp : p.ok) (hm : p.memo.length ≤ 1000000) (hll : p.legs.length ≤ 1000000) (hck : M.ck < 18446744073709551616) (hL : RowOf w 57 4 Pl.cells p.lv p.legs) (hlo : ∀ g, p.lv.ownBlock = some g → own g = 0) :
    Calls Try.prog 24 #[.pointer (some ⟨M.db, 0, none⟩), p.v] w fun e w' => ∃ lv own' M', e = .returned (.tuple #[lv, .string (bs (subLog p P.A)), .int .i64 (subErr p P.A : Int)]) ∧ NetAt w' own' nb 3 M' { P with A := subActs p (core p) P.A } ∧ Frame w w' own own' ∧ RowOf w' 9 1 txtCell lv (subOuts p P.A) ∧ (∀ g, lv.ownBlock = some g → own' g = 0) ∧ M'.ck = M.ck := by
  refine (eSub_any p hp (by omega) (by omega) w M.db M.ck M.ps M.xv I.deed.x I.deed.ap P.A I.deed.rel hck hL (fun g hg => ⟨fun e => ?_, fun e => ?_⟩)).mono ?_
  · have h1 := hlo g hg
    have h2 := I.deed.own g (.inl e)
    omega
  · have h1 := hlo g hg
    have h2 := I.deed.own g (.inr (.inl e))
    omega
  · rintro e w' ⟨lv, ps', v', rfl, hh, hr⟩
    have J := I.deedTo lv hh.to (hr (core p) rfl) hh.fresh
    exact ⟨lv, _, _, rfl, J.1, J.2, hh.row, fun g hg => by simp only [if_neg (Nat.not_lt.2 (hh.fresh g hg).1), if_pos hg], rfl⟩
end Go.Proofs.Ytjkhbjgfoopomaa
/-
  The statement Prompt: its steps.
-/
namespace Go.Proofs.Ytjkhbjgfoopomaa
open Go.RowKit
set_option linter.unusedVariables false
set_option linter.unusedSimpArgs false
/-- what holds in both cases -/
def PrJ (L : List Pl) (short : Bool) (P : PN) : Prop := if short then PrSh L P else PrOk L P
theorem PrJ.step {L : List Pl} {s : Bool} (H : Payable L) (h250 : s = false → ∀ (k : Nat) (x : Pl), L[k]? = some x → x.a ≤ 250) (h1001 : s = true → ∀ (x : Pl), L[0]? = some x → 1000 < x.a) {P Q : PN} {m : Msg} (J : PrJ L s P) (G : Good P) (hm : m ∈ P.wire) (hA : After P Q m) : PrJ L s Q := by
  unfold PrJ at *
  cases s with
  | true => exact PrSh.step J H (h1001 rfl) G hm hA
  | false => exact PrOk.step J H (h250 rfl) G hm hA
theorem PrJ.steady {L : List Pl} {s : Bool} (H : Payable L) (h250 : s = false → ∀ (k : Nat) (x : Pl), L[k]? = some x → x.a ≤ 250) (h1001 : s = true → ∀ (x : Pl), L[0]? = some x → 1000 < x.a) : Steady (PrJ L s) :=
  fun Q m rest G J hq => J.step H h250 h1001 G (by rw [hq]; simp) (arrive_after hq)
theorem PrJ.c {L : List Pl} {s : Bool} {P : PN} (J : PrJ L s P) : PrC L P := by
  unfold PrJ at J
  split at J
  · exact J.c
  · exact J.c
theorem wrong_none {L : List Pl} (H : Payable L) (hx : ∀ x, x ∈ L → x.ok ∧ 1 ≤ x.a) (d : Nat) (la : Option Addr) (lc : Nat) : wrongOf ⟨9, d, [], L, la, lc⟩ = 0 := by
  have hl : ∀ L' : List Pl, (∀ x, x ∈ L' → 1 ≤ x.b ∧ x.b ≤ 3 ∧ 1 ≤ x.a) → legsErr L' = 0 := by
    intro L'
    induction L' with
    | nil => intro _; rfl
    | cons y r ih =>
      intro h
      have h1 := h y (by simp)
      have : plErr y = 0 := by unfold plErr; rw [if_neg (by omega), if_neg (by omega)]
      unfold legsErr
      rw [if_pos this]
      exact ih (fun x hx => h x (by simp [hx]))
  have hn := H.n
  have hmm : memoB [] = true := by decide
  have h0 : legsErr L = 0 := hl L (fun x hxx => by
    obtain ⟨k, hk, rfl⟩ := List.getElem_of_mem hxx
    have h1 := H.x k _ (List.getElem?_eq_getElem hk)
    exact ⟨h1.1, h1.2.1, (hx _ hxx).2⟩)
  have hne : ¬ (L.length = 0 ∨ 4 < L.length) := by omega
  simp only [wrongOf, if_neg hne, if_pos h0, hmm, if_true]
/-- the payment is taken in -/
theorem sub_first {L : List Pl} (H : Payable L) (hx : ∀ x, x ∈ L → x.ok ∧ 1 ≤ x.a) (d : Nat) (hd : 1 ≤ d) (la : Option Addr) (lc : Nat) :
    subErr ⟨9, d, [], L, la, lc⟩ [] = 0 ∧ subActs ⟨9, d, [], L, la, lc⟩ (core ⟨9, d, [], L, la, lc⟩) [] = [⟨-1, core ⟨9, d, [], L, la, lc⟩, zeroMsg⟩] ∧ subOuts ⟨9, d, [], L, la, lc⟩ [] = (asksM (core ⟨9, d, [], L, la, lc⟩) 1 0).map encOf ∧ subLog ⟨9, d, [], L, la, lc⟩ [] = subTextOf ⟨9, d, [], L, la, lc⟩ ∧ (asksM (core ⟨9, d, [], L, la, lc⟩) 1 0).length = L.length := by
  have hw := wrong_none H hx d la lc
  have hi : subIs ⟨9, d, [], L, la, lc⟩ [] := ⟨hw, rfl, by show 0 < d; omega, by show 0 < 32; omega⟩
  refine ⟨subIs_err hi, by unfold subActs; rw [if_pos hi]; rfl, ?_, by unfold subLog; rw [if_pos hi], ?_⟩
  · unfold subOuts
    rw [if_pos hi, asksM_map, core_asks]
  · unfold asksM
    have : ∀ n, n ≤ L.length → (askMs (core ⟨9, d, [], L, la, lc⟩) 1 0 n).length = n := by
      intro n
      induction n with
      | zero => intro _; rfl
      | succ n ih =>
        intro hn
        have hq : (core ⟨9, d, [], L, la, lc⟩).legs[n]? = some L[n] := List.getElem?_eq_getElem (show n < L.length by omega)
        have hne : ¬ withOf 0 n = 0 := by unfold withOf; simp
        simp only [askMs, if_neg hne, hq, List.length_append, ih (by omega), List.length_singleton]
    exact this L.length (Nat.le_refl _)
end Go.Proofs.Ytjkhbjgfoopomaa
/-
  Networks: how a payment stands; a bank's funds.
-/
namespace Go.Proofs.Ytjkhbjgfoopomaa
open Go.RowKit
set_option linter.unusedVariables false
set_option linter.unusedSimpArgs false
def stR (A : List Dt) (id : Nat) : Nat × Nat × Nat × Nat := if fnd A id then ((stA A id).1, (stA A id).2.1, (stA A id).2.2.1, 0) else (0, 0, 0, 13)
theorem stX_of {A : List Dt} {ck : Nat} {ps : List Xp} (hD : DRel A ck ps) (id : Nat) : stX id ps = stR A id := by
  unfold stX stR
  by_cases hx : findX id ps < ps.length
  · obtain ⟨h1, h2⟩ := hD.find_in id hx
    have hf : fnd A id = true := h1
    have hg := hD.good _ (List.getElem_mem hx)
    have e : stA A id = stOf ps[findX id ps].pm A := st_core h2 A
    rw [List.getElem?_eq_getElem hx, hf, e, ← hg.st, ← hg.held, ← hg.done]
    rfl
  · have h1 := hD.find_no id (by omega)
    have hf : fnd A id = false := h1
    rw [List.getElem?_eq_none (by omega), hf]
    rfl
theorem eStatusR_any (id : Nat) (hid : id < 4294967296) (w : World) (B ck : Nat) (ps : List Xp) (v : Value) (A : List Dt) (hX : XD w B ck ps v) (hD : DRel A ck ps) :
    Calls Try.prog 29 #[.pointer (some ⟨B, 0, none⟩), .int .u32 (id : Int)] w fun e w' => e = .returned (.tuple #[.agg #[.int .u8 ((stR A id).1 : Int), .int .u8 ((stR A id).2.1 : Int), .int .u8 ((stR A id).2.2.1 : Int)], .int .i64 ((stR A id).2.2.2 : Int)]) ∧ Below w.heap.size w w' := by
  have h := eStatus_any id hid w B ck ps v hX (fun y hy => (hD.good y hy).fine.ok) (by have := hD.len; omega)
  rw [stX_of hD id] at h
  exact h
end Go.Proofs.Ytjkhbjgfoopomaa
/-
  The statement Prompt: what the walk uses.
-/
namespace Go.Proofs.Ytjkhbjgfoopomaa
open Go.RowKit
set_option linter.unusedVariables false
set_option linter.unusedSimpArgs false
/-- as the walk of Prompt goes on -/
structure PSt (w u : World) (nb : Nat) (lv : Value) (L : List Pl) (J : PN → Prop) (own : Nat → Nat) (M : NM) (P : PN) : Prop where
  net : NetAt u own nb 3 M P
  inv : NInv P
  pr : J P
  row : RowOf u 57 4 Pl.cells lv L
  lown : ∀ g, lv.ownBlock = some g → own g = 0
  zero : ∀ i, i < w.heap.size → own i = 0
  bel : Below w.heap.size w u
theorem PSt.go {w u u' : World} {nb : Nat} {lv : Value} {L : List Pl} {J J' : PN → Prop} {own own' : Nat → Nat} {M M' : NM} {P P' : PN} (S : PSt w u nb lv L J own M P) (hF : Frame u u' own own') (hN : NetAt u' own' nb 3 M' P') (hI : NInv P') (hJ : J' P') : PSt w u' nb lv L J' own' M' P' := by
  have hsz := S.bel.size
  refine ⟨hN, hI, hJ, S.row.kept hF.kept (fun g hg h => h (S.lown g hg)), fun g hg => (hF.old g (S.row.lt hg)).trans (S.lown g hg), fun i hi => (hF.old i (Nat.lt_of_lt_of_le hi hsz)).trans (S.zero i hi), S.bel.trans (hF.kept.below hsz (fun k hk => ?_))⟩
  rcases Nat.lt_or_ge k w.heap.size with h | h
  · exact absurd (S.zero k h) hk
  · exact h
theorem PSt.below {w u u' : World} {nb : Nat} {lv : Value} {L : List Pl} {J : PN → Prop} {own : Nat → Nat} {M : NM} {P : PN} (S : PSt w u nb lv L J own M P) (hb : Below u.heap.size u u') : PSt w u' nb lv L J own M P :=
  S.go (Frame.of_below hb) (S.net.below hb) S.inv S.pr
end Go.Proofs.Ytjkhbjgfoopomaa
/-
  The statement Late: what the walk uses.
-/
namespace Go.Proofs.Ytjkhbjgfoopomaa
open Go.RowKit
set_option linter.unusedVariables false
set_option linter.unusedSimpArgs false
theorem askMs_at (p : Pm) (k : Nat) : ∀ n, n ≤ p.legs.length → (askMs p k 0 n).length = n ∧ ∀ i, i < n → ∀ x, p.legs[i]? = some x → (askMs p k 0 n)[i]? = some (askMsg p x i k)
  | 0, _ => ⟨rfl, fun i hi => by omega⟩
  | n + 1, hn => by
    obtain ⟨h1, h2⟩ := askMs_at p k n (Nat.le_of_succ_le hn)
    have hlt : n < p.legs.length := hn
    have hq : p.legs[n]? = some p.legs[n] := List.getElem?_eq_getElem hlt
    have hne : ¬ withOf 0 n = 0 := by unfold withOf; simp
    simp only [askMs, if_neg hne, hq]
    refine ⟨by rw [List.length_append, h1]; rfl, fun i hi x hx => ?_⟩
    rcases Nat.lt_or_ge i n with h | h
    · rw [List.getElem?_append_left (by omega)]
      exact h2 i h x hx
    · obtain rfl : i = n := by omega
      rw [hq] at hx
      injection hx with hx
      rw [List.getElem?_append_right (by omega), h1, Nat.sub_self, hx]
      rfl
theorem asks_at (p : Pm) (k : Nat) : (asksM p k 0).length = p.legs.length ∧ ∀ i x, p.legs[i]? = some x → (asksM p k 0)[i]? = some (askMsg p x i k) :=
  ⟨(askMs_at p k _ (Nat.le_refl _)).1, fun i x hx => (askMs_at p k _ (Nat.le_refl _)).2 i (leg_lt hx).1 x hx⟩
/-- the network behind the payment, some of its frames on the wire -/
def lateP (p : Pm) (ws : List Msg) : PN := { paidPN p with wire := ws }
theorem late_start (p : Pm) (h9 : p.id = 9) (ms : Nat) (hms : ms < p.legs.length) (ws : List Msg) (hws : ∀ y, y ∈ ws → y.l ≠ ms) : LtC p.legs ms p.dl 0 (lateP p ws) := by
  obtain ⟨h1, h2, h3, h4⟩ := paid_find p h9
  refine ⟨h1, h3, by show (payO (paidPN p).A 9).legs = _; rw [h2]; rfl, by show (payO (paidPN p).A 9).dl = _; rw [h2]; rfl, rfl, ?_, ?_, fun x hx => .inl (paid_ls p x.b ms), fun y hy hl => absurd hl (hws y hy)⟩
  · show (stA (paidPN p).A 9).1 = 1 ∨ _
    rw [h4]; exact .inl rfl
  · show bitB (stA (paidPN p).A 9).2.1 ms = false
    rw [h4]
    simp [bitB]
theorem late_inv (p : Pm) (hb : ∀ (l : Nat) (x : Pl), p.legs[l]? = some x → 1 ≤ x.b ∧ x.b ≤ 3) (ws : List Msg) (hws : ∀ y, y ∈ ws → y ∈ asksM (core p) 1 0) {ck : Nat} {ps : List Xp} (hdr : DRel (paidPN p).A ck ps) : NInv (lateP p ws) := by
  have h : NInv (paidPN p) := NInv.submit (init_inv []) DRel.start (q := core p) rfl hb ⟨ck, ps, hdr⟩ rfl rfl (fun y hy => .inr hy)
  exact h.less rfl rfl hws
theorem shr_and (b l : Nat) (hb : b < 16) (hl : l < 4) : (b >>> l) &&& 1 = if bitB b l then 1 else 0 := by
  have : ∀ b : Fin 16, ∀ l : Fin 4, (b.val >>> l.val) &&& 1 = if bitB b.val l.val then 1 else 0 := by decide
  exact this ⟨b, hb⟩ ⟨l, hl⟩
theorem msg_one_row (m : Msg) (u : World) : RowOf (u.alloc (.cells #[.string (bs (encOf m))] 9)) 9 1 msgCell (.slice (some ⟨u.heap.size, 0, none⟩) 1 1) [m] := row_msgs (ms := [m]) (fun l => rfl) (lgOf_one u)
end Go.Proofs.Ytjkhbjgfoopomaa
/-
  The statement Late: the frames that are sent, but for one.
-/
namespace Go.Proofs.Ytjkhbjgfoopomaa
open Go.RowKit
set_option linter.unusedVariables false
set_option linter.unusedSimpArgs false
/-- k of the frames have been looked at -/
def LSend (w : World) (nb : Nat) (lv : Value) (p : Pm) (ov : Value) (ms : List Msg) (miss k : Nat) (u : World) : Prop :=
  ∃ own M ws, PSt w u nb lv p.legs (fun P => P = lateP p ws) own M (lateP p ws) ∧ RowOf u 9 1 msgCell ov ms ∧ (∀ g, ov.ownBlock = some g → own g = 0) ∧ (∀ y, y ∈ ws → y ∈ ms ∧ y.l ≠ miss) ∧ ws.length ≤ k
section
variable {w u u' : World} {nb : Nat} {lv ov : Value} {p : Pm} {ms : List Msg} {miss k : Nat}
theorem LSend.below (h : LSend w nb lv p ov ms miss k u) (hb : Below u.heap.size u u') : LSend w nb lv p ov ms miss k u' := by
  obtain ⟨own, M, ws, S, hr, ho, hw, hl⟩ := h
  exact ⟨own, M, ws, S.below hb, hr.below hb, ho, hw, hl⟩
theorem LSend.skip (h : LSend w nb lv p ov ms miss k u) : LSend w nb lv p ov ms miss (k + 1) u := by
  obtain ⟨own, M, ws, S, hr, ho, hw, hl⟩ := h
  exact ⟨own, M, ws, S, hr, ho, hw, by omega⟩
theorem LSend.send (h : LSend w nb lv p ov ms miss k u) (hk4 : k ≤ 4) (hb : ∀ (l : Nat) (x : Pl), p.legs[l]? = some x → 1 ≤ x.b ∧ x.b ≤ 3) (hms : ∀ y, y ∈ ms → y ∈ asksM (core p) 1 0) {m : Msg} (hm : m ∈ ms) (hl : m.l ≠ miss) :
    Calls Try.prog 25 #[.pointer (some ⟨nb, 0, none⟩), .slice (some ⟨u.heap.size, 0, none⟩) 1 1] (u.alloc (.cells #[.string (bs (encOf m))] 9)) fun e w' => e = .returned (.tuple #[]) ∧ LSend w nb lv p ov ms miss (k + 1) w' := by
  obtain ⟨own, M, ws, S, hr, ho, hw, hwl⟩ := h
  have hbl : Below u.heap.size u (u.alloc (.cells #[.string (bs (encOf m))] 9)) := (Below.refl _ _).alloc (Nat.le_refl _) _
  have S1 := S.go (J' := fun P => P = lateP p ws) (own' := fun i => if i < u.heap.size then own i else 0) ⟨Kept.of_below hbl, fun i hi => by simp [hi]⟩ (S.net.below0 hbl) S.inv rfl
  refine (send_any _ _ nb M _ S1.net _ [m] (msg_one_row m u) (by show ws.length + 1 ≤ _; omega)).mono ?_
  rintro e w' ⟨rfl, own', M', I', F', _⟩
  have hsub : ∀ y, y ∈ ws ++ [m] → y ∈ ms ∧ y.l ≠ miss := fun y hy => by
    rcases List.mem_append.1 hy with h | h
    · exact hw y h
    · rw [List.mem_singleton] at h
      subst h
      exact ⟨hm, hl⟩
  have hI' : NetAt w' own' nb 3 M' (lateP p (ws ++ [m])) := I'
  refine ⟨rfl, own', M', ws ++ [m], S1.go F' hI' (late_inv p hb _ (fun y hy => hms y (hsub y hy).1) I'.deed.rel) rfl, (hr.below hbl).kept F'.kept (fun g hg h => h ?_), fun g hg => ?_, hsub, by rw [List.length_append, List.length_singleton]; omega⟩
  · have := hr.lt hg
    show (if g < u.heap.size then own g else 0) = 0
    rw [if_pos this]
    exact ho g hg
  · have hg' := hr.lt hg
    rw [F'.old g (Nat.lt_of_lt_of_le hg' hbl.size)]
    show (if g < u.heap.size then own g else 0) = 0
    rw [if_pos hg']
    exact ho g hg
end
end Go.Proofs.Ytjkhbjgfoopomaa
/-
  The statement Late: a day.
-/
namespace Go.Proofs.Ytjkhbjgfoopomaa
open Go.RowKit
set_option linter.unusedVariables false
set_option linter.unusedSimpArgs false
theorem late_fair (p : Pm) (h9 : p.id = 9) {ck : Nat} {ps : List Xp} (hdr : DRel (paidPN p).A ck ps) {k : Nat} {x : Pl} (hx : p.legs[k]? = some x) : Fair (askMsg (core p) x k 1) := by
  obtain ⟨h1, h2, _, _⟩ := paid_find p h9
  have h := ask_fair (hdr.stand h1) (l := k) (x := x) (by rw [h2]; exact hx) 1
  rw [h2] at h
  exact h
/-- at the start of day i -/
def LDay (w : World) (nb : Nat) (lv : Value) (L : List Pl) (miss d i : Nat) (u : World) : Prop :=
  ∃ own M P, PSt w u nb lv L (LtC L miss d (i - 1)) own M P ∧ P.wire.length ≤ 4 ∧ (∀ q, (P.lg q).length ≤ 1000 + 5000 * i) ∧ (d < i → (stA P.A 9).1 = 3)
/-- the wire is empty; the notary's own block; how the payment stands -/
def LAt (w : World) (nb : Nat) (lv : Value) (L : List Pl) (miss d c b : Nat) (db st held dn : Nat) (u : World) : Prop :=
  ∃ own M P, PSt w u nb lv L (LtC L miss d c) own M P ∧ P.wire = [] ∧ (∀ q, (P.lg q).length ≤ b) ∧ M.db = db ∧ (stA P.A 9).1 = st ∧ (stA P.A 9).2.1 = held ∧ (stA P.A 9).2.2.1 = dn
section
variable {w u u' : World} {nb : Nat} {lv : Value} {L : List Pl} {miss d i c b db st held dn : Nat}
theorem LAt.below (h : LAt w nb lv L miss d c b db st held dn u) (hb : Below u.heap.size u u') : LAt w nb lv L miss d c b db st held dn u' := by
  obtain ⟨own, M, P, S, h⟩ := h
  exact ⟨own, M, P, S.below hb, h⟩
theorem LAt.cell (h : LAt w nb lv L miss d c b db st held dn u) : u.cell? ⟨nb, 4, none⟩ = some (.pointer (some ⟨db, 0, none⟩)) ∧ nb < u.heap.size := by
  obtain ⟨own, M, P, S, _, _, rfl, _⟩ := h
  exact ⟨by rw [cell_at S.net.blk 4]; rfl, S.net.lt⟩
theorem LAt.how (h : LAt w nb lv L miss d c b db st held dn u) (hms : miss < L.length) : (st = 1 ∨ st = 3) ∧ bitB held miss = false ∧ held < 16 ∧ dn < 16 ∧ L.length ≤ 4 := by
  obtain ⟨own, M, P, S, _, _, _, rfl, rfl, rfl⟩ := h
  have C := S.pr
  have hS := S.net.deed.rel.stand C.f9
  exact ⟨C.st, C.held, pow_16 hS.few hS.room, hS.done, by rw [← C.legs]; exact hS.few⟩
theorem LDay.flush (h : LDay w nb lv L miss d i u) (hi : i ≤ 100) (hms : miss < L.length) :
    Calls Try.prog 28 #[.pointer (some ⟨nb, 0, none⟩)] u fun e w' => e = .returned (.bool true) ∧ ∃ db st held dn, LAt w nb lv L miss d (i - 1) (1000 + 5000 * i + 4000) db st held dn w' := by
  obtain ⟨own, M, P, S, hw, hl, _⟩ := h
  refine (flush_any (LtC L miss d (i - 1)) (LtC.steady hms) u own nb M P S.net S.inv S.pr (by omega) (fun q => by have := hl q; omega)).mono ?_
  rintro e w' ⟨rfl, own', M', P', I', F', hI', hJ', hw', hl'⟩
  refine ⟨rfl, M'.db, _, _, _, own', M', P', S.go F' I' hI' hJ', hw', fun q => ?_, rfl, rfl, rfl, rfl⟩
  have h1 := hl q
  have h2 := hl' q
  omega
theorem LAt.status (h : LAt w nb lv L miss d c b db st held dn u) :
    Calls Try.prog 29 #[.pointer (some ⟨db, 0, none⟩), .int .u32 9] u fun e w' => e = .returned (.tuple #[.agg #[.int .u8 (st : Int), .int .u8 (held : Int), .int .u8 (dn : Int)], .int .i64 0]) ∧ LAt w nb lv L miss d c b db st held dn w' ∧ Below u.heap.size u w' := by
  have h0 := h
  obtain ⟨own, M, P, S, _, _, rfl, rfl, rfl, rfl⟩ := h
  refine (eStatusR_any 9 (by omega) u M.db M.ck M.ps M.xv P.A S.net.deed.x S.net.deed.rel).mono ?_
  rintro e w' ⟨he, hb⟩
  refine ⟨?_, h0.below hb, hb⟩
  rw [he]
  unfold stR
  rw [S.pr.f9]
  rfl
theorem LAt.tick (h : LAt w nb lv L miss d c b db st held dn u) (hc : c < 1000000) (hms : miss < L.length) :
    Calls Try.prog 33 #[.pointer (some ⟨db, 0, none⟩)] u fun e w' => ∃ ad n cap db' st' held' dn', e = .returned (.tuple #[.slice ad n cap, .string (bs [84]), .int .i64 0]) ∧ (st = 1 → n ≠ 0) ∧ n ≤ 128 ∧ LAt w nb lv L miss d (c + 1) b db' st' held' dn' w' ∧ (st = 1 → (st' = 3 ↔ d ≤ c + 1)) ∧ (st = 3 → st' = 3) := by
  obtain ⟨own, M, P, S, hw, hl, rfl, rfl, rfl, rfl⟩ := h
  have C := S.pr
  refine (tickD_net u own nb M P S.net (by rw [C.clk]; omega)).mono ?_
  rintro e w' ⟨lv', own', M', ms, rfl, hT, I', F', hr, ho⟩
  obtain ⟨ad, cap, hsl⟩ := hr.slice
  have hc' : ¬ 1000000 ≤ clockOf P.A := by rw [C.clk]; omega
  have eA : kActs P.A = P.A ++ [tickAct] := if_neg hc'
  rcases hT.2 with ⟨h1, _⟩ | ⟨_, qs, hP, hms'⟩
  · exact absurd h1 hc'
  have hN : NInv { P with A := kActs P.A } := by
    have h := tick_inv S.inv hT I'.deed.rel
    exact h.less rfl rfl (fun y hy => List.mem_append_left _ hy)
  obtain ⟨C', hst1, hst3⟩ := C.tick (Q := { P with A := kActs P.A }) rfl eA (fun y hy => by rw [show ({ P with A := kActs P.A } : PN).wire = [] from hw] at hy; cases hy)
  have S' := S.go F' I' hN C'
  refine ⟨ad, ms.length, cap, M'.db, _, _, _, ?_, fun h1 => ?_, hT.1, ⟨own', M', _, S', hw, hl, rfl, rfl, rfl, rfl⟩, hst1, hst3⟩
  · rw [hsl, show kLog P.A = [84] from if_neg hc', show kErr P.A = 0 from if_neg hc']; rfl
  · have G := I'.good hN
    obtain ⟨y, hy, _⟩ := says_leg C' hms G.dr (qs := qs) (by show Pays (kActs P.A) qs; rw [eA]; exact hP) (fun _ => by
      have hx : (payO P.A 9).legs[miss]? = some (L[miss]'hms) := by rw [C.legs]; exact List.getElem?_eq_getElem _
      have hLg := S.inv.leg 9 miss _ C.f9 hx
      show bitB (stA (kActs P.A) 9).2.2.1 miss = false
      rw [eA, tick_st]
      exact (hLg.1 h1).2.2)
    have hy' : y ∈ ms := by
      rw [hms', ← eA]
      exact hy
    intro e
    have : ms = [] := List.length_eq_zero_iff.1 e
    rw [this] at hy'
    cases hy'
theorem LSend.day {p : Pm} {ov : Value} {ms : List Msg} (h : LSend w nb lv p ov ms miss p.legs.length u) (h9 : p.id = 9) (hms : miss < p.legs.length) (hd : 1 ≤ p.dl) (h4 : p.legs.length ≤ 4) : LDay w nb lv p.legs miss p.dl 1 u := by
  obtain ⟨own, M, ws, S, _, _, hw, hl⟩ := h
  have C := late_start p h9 miss hms ws (fun y hy => (hw y hy).2)
  have hl2 : ∀ q, ((lateP p ws).lg q).length ≤ 1000 + 5000 * 1 := fun q => by
    show (openLg [] q (cntA 4 0 q)).length ≤ _
    rw [openLg_len]
    unfold cntA
    (repeat' split) <;> omega
  exact ⟨own, M, lateP p ws, S.go (Frame.refl _ _) S.net S.inv C, Nat.le_trans hl h4, hl2, fun h => by omega⟩
theorem LAt.day (h : LAt w nb lv L miss d i (1000 + 5000 * i + 4000) db st held dn u) (h3 : d < i + 1 → st = 3) : LDay w nb lv L miss d (i + 1) u := by
  obtain ⟨own, M, P, S, hw, hl, rfl, rfl, rfl, rfl⟩ := h
  have hl2 : ∀ q, (P.lg q).length ≤ 1000 + 5000 * (i + 1) := fun q => Nat.le_trans (hl q) (by omega)
  exact ⟨own, M, P, S, by rw [hw]; exact Nat.zero_le _, hl2, h3⟩
/-- the rounds behind -/
theorem LDay.rounds (h : LDay w nb lv L miss d (d + 1) u) (hd : d ≤ 30) (hms : miss < L.length) :
    Calls Try.prog 34 #[.pointer (some ⟨nb, 0, none⟩), .int .i64 2] u fun e w' => e = .returned (.bool true) ∧ ∃ own M P, PSt w w' nb lv L (LtC L miss d (d + 2)) own M P ∧ doneTo P 9 12 = false ∧ notTo P 9 12 = true ∧ M.ck = d + 2 := by
  obtain ⟨own, M, P, S, hw, hl, h3⟩ := h
  have hst := h3 (by omega)
  have hJ : LtJ L miss d 0 0 P := ⟨d, S.pr, hst, by omega, fun _ => by simp, fun h => by omega⟩
  have hl2 : ∀ q, (P.lg q).length ≤ 10000000000000000 + 20000000000000 * 0 + 0 := fun q => Nat.le_trans (hl q) (by omega)
  have hR : RSt u own nb (LtJ L miss d) 0 0 u := ⟨own, M, P, S.net, Frame.refl _ _, S.inv, hJ, Nat.le_trans hw (by omega), hl2, fun h => absurd h (Nat.lt_irrefl 0)⟩
  refine (rounds_any (late_rolls hms hd) u own nb 2 (by omega) u hR).mono ?_
  rintro e w' ⟨rfl, own', M', P', I', F', hI', ⟨c, C', hst', _, hc, hO⟩, _, _, hw'⟩
  have hc2 : c = d + 2 := by have := hc (by omega); simpa using this
  subst hc2
  have hE := late_ends C' hms hst' (I'.good hI') (hO (by omega)) (hw' (by omega) rfl)
  exact ⟨rfl, own', M', P', S.go F' I' hI' C', hE.1, hE.2, by rw [I'.deed.rel.clk, C'.clk]⟩
end
end Go.Proofs.Ytjkhbjgfoopomaa
