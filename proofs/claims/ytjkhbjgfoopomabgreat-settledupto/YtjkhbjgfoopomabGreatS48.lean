import Derived.Test.YtjkhbjgfoopomabGreatS47
import Derived.Test.YtjkhbjgfoopomabGreatS41
import Derived.Test.YtjkhbjgfoopomabGreatS36
import Derived.Test.YtjkhbjgfoopomabGreatS43
/-
  Networks: a frame arrives, but its node is restored from a log that is cut off.
-/
namespace Go.Proofs.YtjkhbjgfoopomabGreat
open Go.RowKit
set_option linter.unusedVariables false
set_option linter.unusedSimpArgs false
theorem upd_twice {α : Type} (f : Nat → α) (k : Nat) (x y : α) : upd (upd f k x) k y = upd f k y := by
  funext j
  unfold upd
  split <;> rfl
theorem lg_cell {w : World} {own : Nat → Nat} {nb : Nat} {M : NM} {P : PN} (I : NetAt w own nb 3 M P) {k : Nat} (hk : k ≤ 3) : w.cell? ⟨nb, 5 + k, none⟩ = some (.string (bs (P.lg k))) := by
  rw [cell_at I.blk (5 + k)]
  have hk4 : k = 0 ∨ k = 1 ∨ k = 2 ∨ k = 3 := by omega
  rcases hk4 with rfl | rfl | rfl | rfl <;> rfl
theorem lg_to {w : World} {own : Nat → Nat} {nb : Nat} {M : NM} {P : PN} (I : NetAt w own nb 3 M P) {k : Nat} (hk : k ≤ 3) (x : List UInt8) : NetAt (w.setCell ⟨nb, 5 + k, none⟩ (.string (bs x))) own nb 3 M { P with lg := upd P.lg k x } ∧ Frame w (w.setCell ⟨nb, 5 + k, none⟩ (.string (bs x))) own own :=
  I.cellTo (5 + k) (.string (bs x)) (P' := { P with lg := upd P.lg k x }) (by
    have hk4 : k = 0 ∨ k = 1 ∨ k = 2 ∨ k = 3 := by omega
    rcases hk4 with rfl | rfl | rfl | rfl <;> rfl) rfl rfl rfl
set_option maxRecDepth 100000 in
set_option maxHeartbeats 2000000 in
attribute [local go_sem] bs_append in
theorem broken_of (w : World) (own : Nat → Nat) (nb : Nat) (f : List UInt8) (c : Int) (hc : i64ok c) (k : Nat) (hk : k ≤ 3) (ms : List Msg) (lg : List UInt8) (P' : PN) (Q : Nat → PN) (hl2 : lg.length ≤ 1000) (hlgs : (P'.lg k).length + lg.length ≤ 1000000000000000000)
    (hT : Calls Tryz.prog 46 #[.pointer (some ⟨nb, 0, none⟩), .string (bs f)] w (Took w own nb k ms lg P'))
    (hR : ∀ u own1 M1 n, n ≤ lg.length → NetAt u own1 nb 3 M1 { P' with lg := upd P'.lg k (P'.lg k ++ lg.take n) } → Calls Tryz.prog 26 #[.pointer (some ⟨nb, 0, none⟩), .int .i64 (k : Int)] u fun e w' => e = .returned (.bool true) ∧ ∃ own' M', NetAt w' own' nb 3 M' { Q n with lg := upd P'.lg k (P'.lg k ++ lg.take n) } ∧ Frame u w' own1 own') :
    Calls Tryz.prog 29 #[.pointer (some ⟨nb, 0, none⟩), .string (bs f), .int .i64 c] w fun e w' => e = .returned (.bool true) ∧ ∃ own' M', NetAt w' own' nb 3 M' (if pickN c (lg.length + 1) < lg.length then { Q (pickN c (lg.length + 1)) with lg := P'.lg } else { Q lg.length with lg := upd P'.lg k (P'.lg k ++ lg) }) ∧ Frame w w' own own' := by
  have hpk := hide (fun u => kpick_any c hc (lg.length + 1) (by omega) (by omega) u)
  have hnl : pickN c (lg.length + 1) < lg.length + 1 := Nat.mod_lt _ (by omega)
  rw [show ((lg.length + 1 : Nat) : Int) = (lg.length : Int) + 1 by omega] at hpk
  generalize pickN c (lg.length + 1) = n at *
  replace hT := hide hT
  replace hR := hide hR
  have hkI : (k : Int) < 4 := by omega
  have hls := bs_size lg
  have hx : (bs lg).extract 0 n = bs (lg.take n) := by rw [bs_cut, cut_take]
  have hni : (n : Int) ≤ (lg.length : Int) := by omega
  go_enter Tryz.func29, Tryz.ntmps29
  go_wp2_with fail
  refine hT.out.mono ?_
  rintro e w1 ⟨lv, own1, M1, rfl, I1, F1, hrow, hlo⟩
  clear hT
  obtain ⟨ad, cap, hsl⟩ := hrow.slice
  subst hsl
  have hcl := lg_cell I1 hk
  have hfl := frozen_at I1.blk (5 + k)
  have hnb := I1.lt
  have hC := lg_to I1 hk (P'.lg k ++ lg.take n)
  have hbd : Below (w1.setCell ⟨nb, 5 + k, none⟩ (.string (bs (P'.lg k ++ lg.take n)))).heap.size (w1.setCell ⟨nb, 5 + k, none⟩ (.string (bs (P'.lg k ++ lg.take n)))) (w1.setCell ⟨nb, 5 + k, none⟩ (.string (bs (P'.lg k ++ lg.take n)))).drew := (Below.refl _ _).drew
  have hR0 := hide (hR.out _ own1 M1 n (by omega) hC.1)
  have hR1 := hide (hR.out _ own1 M1 n (by omega) (hC.1.below hbd))
  have hFr0 := hide (F1.trans hC.2)
  have hFr1 := hide ((F1.trans hC.2).trans (Frame.of_below hbd))
  have htk : (lg.take n).length = n := by rw [List.length_take]; omega
  have hsz : (9223372036854775807 < (bs (P'.lg k)).size + (bs (lg.take n)).size) = False := by rw [bs_size, bs_size]; simp; omega
  replace htk := hide htk
  clear hrow hlo hC hbd
  go_wp2_with fail
  refine (hpk.out _).mono ?_
  rintro e w9 ⟨rfl, hw9⟩
  obtain rfl : w1 = w9 := hw9.symm
  clear hpk hw9
  go_wp2_with fail
  first
    | go_region
    | skip
  all_goals (
    clear hcl hfl hnb I1 F1 hsz
    go_wp2_with fail
    first
      | refine hR1.out.mono ?_
      | refine hR0.out.mono ?_
    rintro e w3 ⟨rfl, own3, M3, I3, F3⟩
    have F4 : Frame w w3 own own3 := by first | exact hFr1.out.trans F3 | exact hFr0.out.trans F3
    clear hR hR0 hR1 hFr0 hFr1 F3
    by_cases hlt : n < lg.length
    · have d1 : decide ((n : Int) < (lg.length : Int)) = true := by simp; omega
      have hcl := lg_cell I3 hk
      have hfl := frozen_at I3.blk (5 + k)
      have hnb := I3.lt
      have hC := lg_to I3 hk (P'.lg k)
      have X : Hid (∃ own' M', NetAt (w3.setCell ⟨nb, 5 + k, none⟩ (.string (bs (P'.lg k)))) own' nb 3 M' (if n < lg.length then { Q n with lg := P'.lg } else { Q lg.length with lg := upd P'.lg k (P'.lg k ++ lg) }) ∧ Frame w (w3.setCell ⟨nb, 5 + k, none⟩ (.string (bs (P'.lg k)))) own own') := hide (by
        refine ⟨own3, M3, ?_, F4.trans hC.2⟩
        rw [if_pos hlt]
        have h := hC.1
        simp only at h
        rw [upd_twice, upd_same] at h
        exact h)
      clear hC I3 F4
      go_wp2
      go_ret
      exact ⟨rfl, by have h := X.out; simp only [if_pos hlt] at h; obtain ⟨o, m, h1, h2⟩ := h; exact ⟨o, ⟨m, h1⟩, h2⟩⟩
    · have d1 : decide ((n : Int) < (lg.length : Int)) = false := by simp; omega
      obtain rfl : n = lg.length := by omega
      have X : Hid (∃ own' M', NetAt w3 own' nb 3 M' (if lg.length < lg.length then { Q lg.length with lg := P'.lg } else { Q lg.length with lg := upd P'.lg k (P'.lg k ++ lg) }) ∧ Frame w w3 own own') := hide (by
        refine ⟨own3, M3, ?_, F4⟩
        rw [if_neg hlt]
        rw [List.take_length] at I3
        exact I3)
      clear I3 F4
      go_wp2
      go_ret
      exact ⟨rfl, by have h := X.out; simp only [if_neg hlt] at h; obtain ⟨o, m, h1, h2⟩ := h; exact ⟨o, ⟨m, h1⟩, h2⟩⟩)
end Go.Proofs.YtjkhbjgfoopomabGreat
/-
  Networks: broken, as a whole; a node is restored.
-/
namespace Go.Proofs.YtjkhbjgfoopomabGreat
open Go.RowKit
set_option linter.unusedVariables false
set_option linter.unusedSimpArgs false
/-- what the node that takes a frame in logs -/
def txtOf (P : PN) (m : Msg) : List UInt8 := if m.k ≤ 3 then bankLog m (P.E m.t) else actText P.A (msgAct m)
def brokenTo (P : PN) (m : Msg) (c : Int) : PN := if pickN c ((txtOf P m).length + 1) < (txtOf P m).length then P else takeTo P m
theorem pn_E (P : PN) (E : Nat → List Ev) (h : E = P.E) : { P with E := E } = P := by rw [h]
theorem bank_rest {P : PN} (h : LogInv P) {k : Nat} (h1 : 1 ≤ k) (h3 : k ≤ 3) {m : Msg} (hm : Fair m) (ht : m.t = k) (h0 : hErrOf m (P.E k) = 0) (n : Nat) (hn : n ≤ (bankLog m (P.E k)).length) :
    restB k (P.lg k ++ (bankLog m (P.E k)).take n) = some (if n < (bankLog m (P.E k)).length then P.E k else hEvsOf m (P.E k)) := by
  obtain ⟨b1, b2⟩ := h.bank k h1 h3
  by_cases hlt : n < (bankLog m (P.E k)).length
  · rw [if_pos hlt, b2]
    refine rest_texts b1 ?_
    rcases hEvs_one m (P.E k) with e | ⟨e, hk, he, hE⟩
    · have : bankLog m (P.E k) = [] := by unfold bankLog; rw [e, if_pos rfl]
      rw [this] at hlt
      simp at hlt
    · have hI : EvIs k (P.E k) e := .inr ⟨hk, by rw [he]; exact hm, by rw [he]; exact ht, by rw [he]; exact h0, by rw [he]; exact hE⟩
      have hL : bankLog m (P.E k) = evText e := by
        unfold bankLog evText
        rw [hE, if_neg (by simp), if_neg hk, he, hm.enc.2.2.2]
      rw [hL] at hlt ⊢
      exact evText_cut hI n hlt
  · rw [if_neg hlt, List.take_of_length_le (by omega), b2, ← texts_handle hm]
    have := rest_texts (b1.handle hm ht h0) (c := []) (.inl rfl)
    rwa [List.append_nil] at this
theorem note_rest {P : PN} (h : LogInv P) {m : Msg} (hm : Fair m) (ht : m.t = 0) (h0 : nErr m P.A = 0) (n : Nat) (hn : n ≤ (actText P.A (msgAct m)).length) :
    ∃ A0, restD (P.lg 0 ++ (actText P.A (msgAct m)).take n) = some A0 ∧ AlikeD (if n < (actText P.A (msgAct m)).length then P.A else P.A ++ [msgAct m]) A0 := by
  have hI : ActIs P.A (msgAct m) := .inr (.inr ⟨m, rfl, hm, ht, by rw [tErr_nErr hm]; exact h0⟩)
  by_cases hlt : n < (actText P.A (msgAct m)).length
  · rw [if_pos hlt, h.nlog]
    exact rest_acts h.note (act_cut hI n hlt)
  · rw [if_neg hlt, List.take_of_length_le (by omega), h.nlog, ← noteTexts_snoc]
    have := rest_acts (h.note.snoc hI) (c := []) (.inl rfl)
    rwa [List.append_nil] at this
theorem txt_len {P : PN} {m : Msg} (hm : OnW P m) : (txtOf P m).length ≤ 100 := by
  unfold txtOf
  split
  · exact bankLog_len hm.1 _
  · rename_i h
    exact actText_len hm.1 (by omega) _
theorem broken_any (w : World) (own : Nat → Nat) (nb : Nat) (M : NM) (P : PN) (I : NetAt w own nb 3 M P) (hI : NInv P) (hL : LogInv P) (m : Msg) (hm : OnW P m) (c : Int) (hc : i64ok c) (hlg : ∀ k, (P.lg k).length + 100 ≤ 140737488351232) :
    Calls Tryz.prog 29 #[.pointer (some ⟨nb, 0, none⟩), .string (bs (encOf m)), .int .i64 c] w fun e w' => e = .returned (.bool true) ∧ ∃ own' M', NetAt w' own' nb 3 M' (brokenTo P m c) ∧ Frame w w' own own' := by
  have hF := hm.1
  have hlen := txt_len hm
  unfold brokenTo
  by_cases hk : m.k ≤ 3
  · obtain ⟨h1, h3, h4⟩ := hI.bankOk I.deed.rel hm hk
    have h0 := h4 (I.bank m.t h1 h3).rel
    have ht : txtOf P m = bankLog m (P.E m.t) := if_pos hk
    have hto : takeTo P m = { P with E := upd P.E m.t (hEvsOf m (P.E m.t)), lg := upd P.lg m.t (P.lg m.t ++ bankLog m (P.E m.t)) } := if_pos hk
    rw [ht] at hlen ⊢
    rw [hto]
    refine (broken_of w own nb (encOf m) c hc m.t h3 _ _ _ (fun n => { P with E := upd P.E m.t (if n < (bankLog m (P.E m.t)).length then P.E m.t else hEvsOf m (P.E m.t)) }) (by omega) (by have := hlg m.t; simp only; omega) (take_bank w own nb M P I m hF m.t rfl ⟨h1, h3⟩ h0) (fun u own1 M1 n hn I1 => ?_)).mono ?_
    · refine (restore_bank u own1 nb M1 _ I1 m.t h1 h3 (if n < (bankLog m (P.E m.t)).length then P.E m.t else hEvsOf m (P.E m.t)) (by simp only [upd_self]; exact bank_rest hL h1 h3 hF rfl h0 n hn) (by simp only [upd_self]; rw [List.length_append, List.length_take]; have := hlg m.t; omega)).mono ?_
      rintro e w' ⟨rfl, own', M', I', F'⟩
      simp only [upd_twice] at I'
      exact ⟨rfl, own', M', I', F'⟩
    · rintro e w' ⟨rfl, own', M', I', F'⟩
      refine ⟨rfl, own', M', ?_, F'⟩
      split at I'
      · rename_i hlt
        rw [if_pos hlt]
        simp only [if_pos hlt, upd_same] at I'
        exact I'
      · rename_i hlt
        rw [if_neg hlt]
        simp only [Nat.lt_irrefl, if_false] at I'
        exact I'
  · obtain ⟨ht0, h0⟩ := hI.noteOk hm (by omega)
    have ht : txtOf P m = actText P.A (msgAct m) := if_neg hk
    have hto : takeTo P m = { P with A := P.A ++ [msgAct m], lg := upd P.lg 0 (P.lg 0 ++ actText P.A (msgAct m)) } := if_neg hk
    rw [ht] at hlen ⊢
    rw [hto]
    refine (broken_of w own nb (encOf m) c hc 0 (by omega) _ _ _ (fun n => { P with A := if n < (actText P.A (msgAct m)).length then P.A else P.A ++ [msgAct m] }) (by omega) (by have := hlg 0; simp only; omega) (take_note w own nb M P I m hF ht0 h0) (fun u own1 M1 n hn I1 => ?_)).mono ?_
    · obtain ⟨A0, r1, r2⟩ := note_rest hL hF ht0 h0 n hn
      refine (restore_note u own1 nb M1 _ I1 A0 (if n < (actText P.A (msgAct m)).length then P.A else P.A ++ [msgAct m]) (by simp only [upd_self]; exact r1) r2 (by simp only [upd_self]; rw [List.length_append, List.length_take]; have := hlg 0; omega)).mono ?_
      rintro e w' ⟨rfl, own', M', I', F'⟩
      exact ⟨rfl, own', M', I', F'⟩
    · rintro e w' ⟨rfl, own', M', I', F'⟩
      refine ⟨rfl, own', M', ?_, F'⟩
      split at I'
      · rename_i hlt
        rw [if_pos hlt]
        simp only [if_pos hlt] at I'
        exact I'
      · rename_i hlt
        rw [if_neg hlt]
        simp only [Nat.lt_irrefl, if_false] at I'
        exact I'
/-- a node is restored: the network is as it was -/
theorem restore_any (w : World) (own : Nat → Nat) (nb : Nat) (M : NM) (P : PN) (I : NetAt w own nb 3 M P) (hL : LogInv P) (k : Nat) (hk : k ≤ 3) (hlg : ∀ k, (P.lg k).length + 100 ≤ 140737488351232) :
    Calls Tryz.prog 26 #[.pointer (some ⟨nb, 0, none⟩), .int .i64 (k : Int)] w fun e w' => e = .returned (.bool true) ∧ ∃ own' M', NetAt w' own' nb 3 M' P ∧ Frame w w' own own' := by
  by_cases h0 : k = 0
  · subst h0
    obtain ⟨A0, r1, r2⟩ := rest_acts hL.note (c := []) (.inl rfl)
    rw [List.append_nil, ← hL.nlog] at r1
    refine (restore_note w own nb M P I A0 P.A r1 r2 (by have := hlg 0; omega)).mono ?_
    rintro e w' ⟨rfl, own', M', I', F'⟩
    exact ⟨rfl, own', M', I', F'⟩
  · obtain ⟨b1, b2⟩ := hL.bank k (by omega) hk
    have r1 := rest_texts b1 (c := []) (.inl rfl)
    rw [List.append_nil, ← b2] at r1
    refine (restore_bank w own nb M P I k (by omega) hk (P.E k) r1 (by have := hlg k; omega)).mono ?_
    rintro e w' ⟨rfl, own', M', I', F'⟩
    rw [pn_E P _ (upd_same P.E k)] at I'
    exact ⟨rfl, own', M', I', F'⟩
end Go.Proofs.YtjkhbjgfoopomabGreat
/-
  The statement Prompt: its steps.
-/
namespace Go.Proofs.YtjkhbjgfoopomabGreat
open Go.RowKit
set_option linter.unusedVariables false
set_option linter.unusedSimpArgs false
/-- what holds in both cases -/
def PrJ (L : List Pl) (short : Bool) (P : PN) : Prop := if short then PrSh L P else PrOk L P
theorem PrJ.step {L : List Pl} {s : Bool} (H : Payable L) (h250 : s = false → ∀ (k : Nat) (x : Pl), L[k]? = some x → x.a ≤ 250) (h1001 : s = true → ∀ (x : Pl), L[0]? = some x → 1000 < x.a) {P Q : PN} {m : Msg} (J : PrJ L s P) (G : Good P) (hm : m ∈ P.wire) (hA : After P Q m) : PrJ L s Q := by
  unfold PrJ at *
  cases s with
  | true => exact PrSh.step J H (h1001 rfl) G hm hA
  | false => exact PrOk.step J H (h250 rfl) G hm hA
theorem PrJ.steady {L : List Pl} {s : Bool} (H : Payable L) (h250 : s = false → ∀ (k : Nat) (x : Pl), L[k]? = some x → x.a ≤ 250) (h1001 : s = true → ∀ (x : Pl), L[0]? = some x → 1000 < x.a) : Steady (PrJ L s) :=
  fun Q m rest G J hq => J.step H h250 h1001 G (by rw [hq]; simp) (arrive_after hq)
theorem PrJ.c {L : List Pl} {s : Bool} {P : PN} (J : PrJ L s P) : PrC L P := by
  unfold PrJ at J
  split at J
  · exact J.c
  · exact J.c
/-- the end: how it stands; the balances -/
theorem PrJ.end_ {L : List Pl} {s : Bool} {P : PN} (H : Payable L) (J : PrJ L s P) (G : Good P) (hw : P.wire = []) :
    (stA P.A 9).1 = (if s then 3 else 2) ∧ doneTo P 9 12 = !s ∧ notTo P 9 12 = s ∧ ∀ b a, 1 ≤ b → b ≤ 3 → a < 3 → balOf a (P.E b) = if s then 1000 else 1000 + inTo L b a L.length - outTo L b a L.length := by
  unfold PrJ at J
  cases s with
  | true =>
    simp only [if_true] at J
    obtain ⟨h1, h2⟩ := J.end_ hw
    have he := ends_of J.c G H 4 h2
    refine ⟨h1, he.1, he.2, fun b a hb1 hb3 ha => ?_⟩
    exact (bal_still J.c G H 4294967296 (fun l x hx h => by rw [h2 l x hx] at h; omega) (J.none3 G) ⟨hb1, hb3⟩ ha).1
  | false =>
    simp only [Bool.false_eq_true, if_false] at J
    obtain ⟨h1, h2⟩ := J.end_ H G hw
    have he := ends_of J.c G H 3 h2
    exact ⟨h1, he.1, he.2, fun b a hb1 hb3 ha => bal_end J.c G h2 ⟨hb1, hb3⟩ ha⟩
theorem wrong_none {L : List Pl} (H : Payable L) (hx : ∀ x, x ∈ L → x.ok ∧ 1 ≤ x.a) (d : Nat) (la : Option Addr) (lc : Nat) : wrongOf ⟨9, d, [], L, la, lc⟩ = 0 := by
  have hl : ∀ L' : List Pl, (∀ x, x ∈ L' → 1 ≤ x.b ∧ x.b ≤ 3 ∧ 1 ≤ x.a) → legsErr L' = 0 := by
    intro L'
    induction L' with
    | nil => intro _; rfl
    | cons y r ih =>
      intro h
      have h1 := h y (by simp)
      have : plErr y = 0 := by unfold plErr; rw [if_neg (by omega), if_neg (by omega)]
      unfold legsErr
      rw [if_pos this]
      exact ih (fun x hx => h x (by simp [hx]))
  have hn := H.n
  have hmm : memoB [] = true := by decide
  have h0 : legsErr L = 0 := hl L (fun x hxx => by
    obtain ⟨k, hk, rfl⟩ := List.getElem_of_mem hxx
    have h1 := H.x k _ (List.getElem?_eq_getElem hk)
    exact ⟨h1.1, h1.2.1, (hx _ hxx).2⟩)
  have hne : ¬ (L.length = 0 ∨ 4 < L.length) := by omega
  simp only [wrongOf, if_neg hne, if_pos h0, hmm, if_true]
/-- the payment is taken in -/
theorem sub_first {L : List Pl} (H : Payable L) (hx : ∀ x, x ∈ L → x.ok ∧ 1 ≤ x.a) (d : Nat) (hd : 1 ≤ d) (la : Option Addr) (lc : Nat) :
    subErr ⟨9, d, [], L, la, lc⟩ [] = 0 ∧ subActs ⟨9, d, [], L, la, lc⟩ (core ⟨9, d, [], L, la, lc⟩) [] = [⟨-1, core ⟨9, d, [], L, la, lc⟩, zeroMsg⟩] ∧ subOuts ⟨9, d, [], L, la, lc⟩ [] = (asksM (core ⟨9, d, [], L, la, lc⟩) 1 0).map encOf ∧ subLog ⟨9, d, [], L, la, lc⟩ [] = subTextOf ⟨9, d, [], L, la, lc⟩ ∧ (asksM (core ⟨9, d, [], L, la, lc⟩) 1 0).length = L.length := by
  have hw := wrong_none H hx d la lc
  have hi : subIs ⟨9, d, [], L, la, lc⟩ [] := ⟨hw, rfl, by show 0 < d; omega, by show 0 < 32; omega⟩
  refine ⟨subIs_err hi, by unfold subActs; rw [if_pos hi]; rfl, ?_, by unfold subLog; rw [if_pos hi], ?_⟩
  · unfold subOuts
    rw [if_pos hi, asksM_map, core_asks]
  · unfold asksM
    have : ∀ n, n ≤ L.length → (askMs (core ⟨9, d, [], L, la, lc⟩) 1 0 n).length = n := by
      intro n
      induction n with
      | zero => intro _; rfl
      | succ n ih =>
        intro hn
        have hq : (core ⟨9, d, [], L, la, lc⟩).legs[n]? = some L[n] := List.getElem?_eq_getElem (show n < L.length by omega)
        have hne : ¬ withOf 0 n = 0 := by unfold withOf; simp
        simp only [askMs, if_neg hne, hq, List.length_append, ih (by omega), List.length_singleton]
    exact this L.length (Nat.le_refl _)
end Go.Proofs.YtjkhbjgfoopomabGreat
/-
  Networks: how a payment stands; a bank's funds.
-/
namespace Go.Proofs.YtjkhbjgfoopomabGreat
open Go.RowKit
set_option linter.unusedVariables false
set_option linter.unusedSimpArgs false
def stR (A : List Dt) (id : Nat) : Nat × Nat × Nat × Nat := if fnd A id then ((stA A id).1, (stA A id).2.1, (stA A id).2.2.1, 0) else (0, 0, 0, 13)
theorem stX_of {A : List Dt} {ck : Nat} {ps : List Xp} (hD : DRel A ck ps) (id : Nat) : stX id ps = stR A id := by
  unfold stX stR
  by_cases hx : findX id ps < ps.length
  · obtain ⟨h1, h2⟩ := hD.find_in id hx
    have hf : fnd A id = true := h1
    have hg := hD.good _ (List.getElem_mem hx)
    have e : stA A id = stOf ps[findX id ps].pm A := st_core h2 A
    rw [List.getElem?_eq_getElem hx, hf, e, ← hg.st, ← hg.held, ← hg.done]
    rfl
  · have h1 := hD.find_no id (by omega)
    have hf : fnd A id = false := h1
    rw [List.getElem?_eq_none (by omega), hf]
    rfl
theorem eStatusR_any (id : Nat) (hid : id < 4294967296) (w : World) (B ck : Nat) (ps : List Xp) (v : Value) (A : List Dt) (hX : XD w B ck ps v) (hD : DRel A ck ps) :
    Calls Tryz.prog 22 #[.pointer (some ⟨B, 0, none⟩), .int .u32 (id : Int)] w fun e w' => e = .returned (.tuple #[.agg #[.int .u8 ((stR A id).1 : Int), .int .u8 ((stR A id).2.1 : Int), .int .u8 ((stR A id).2.2.1 : Int)], .int .i64 ((stR A id).2.2.2 : Int)]) ∧ Below w.heap.size w w' := by
  have h := eStatus_any id hid w B ck ps v hX (fun y hy => (hD.good y hy).fine.ok) (by have := hD.len; omega)
  rw [stX_of hD id] at h
  exact h
end Go.Proofs.YtjkhbjgfoopomabGreat
/-
  The statement Prompt: what the walk uses.
-/
namespace Go.Proofs.YtjkhbjgfoopomabGreat
open Go.RowKit
set_option linter.unusedVariables false
set_option linter.unusedSimpArgs false
/-- numbers that came in -/
structure IntsAt (w : World) (v : Value) (ts : List Int) : Prop where
  form : ∃ ad cap, v = .slice ad ts.length cap ∧ ∀ k (hk : k < ts.length), ∃ a : Addr, ad = some a ∧ a.block < w.heap.size ∧ w.cell? (a.add k) = some (.int .i64 ts[k])
  ok : ∀ x, x ∈ ts → i64ok x
  len : ts.length ≤ 1048576
/-- as the walk of Prompt goes on -/
structure PSt (w u : World) (nb : Nat) (lv : Value) (L : List Pl) (J : PN → Prop) (own : Nat → Nat) (M : NM) (P : PN) : Prop where
  net : NetAt u own nb 3 M P
  inv : NInv P
  pr : J P
  row : RowOf u 67 4 Pl.cells lv L
  lown : ∀ g, lv.ownBlock = some g → own g = 0
  zero : ∀ i, i < w.heap.size → own i = 0
  bel : Below w.heap.size w u
theorem PSt.go {w u u' : World} {nb : Nat} {lv : Value} {L : List Pl} {J J' : PN → Prop} {own own' : Nat → Nat} {M M' : NM} {P P' : PN} (S : PSt w u nb lv L J own M P) (hF : Frame u u' own own') (hN : NetAt u' own' nb 3 M' P') (hI : NInv P') (hJ : J' P') : PSt w u' nb lv L J' own' M' P' := by
  have hsz := S.bel.size
  refine ⟨hN, hI, hJ, S.row.kept hF.kept (fun g hg h => h (S.lown g hg)), fun g hg => (hF.old g (S.row.lt hg)).trans (S.lown g hg), fun i hi => (hF.old i (Nat.lt_of_lt_of_le hi hsz)).trans (S.zero i hi), S.bel.trans (hF.kept.below hsz (fun k hk => ?_))⟩
  rcases Nat.lt_or_ge k w.heap.size with h | h
  · exact absurd (S.zero k h) hk
  · exact h
theorem PSt.below {w u u' : World} {nb : Nat} {lv : Value} {L : List Pl} {J : PN → Prop} {own : Nat → Nat} {M : NM} {P : PN} (S : PSt w u nb lv L J own M P) (hb : Below u.heap.size u u') : PSt w u' nb lv L J own M P :=
  S.go (Frame.of_below hb) (S.net.below hb) S.inv S.pr
theorem wire_arrive {P : PN} (G : Good P) {m : Msg} (hm : OnW P m) : (arriveTo P m).wire.length ≤ P.wire.length + 4 := by
  obtain ⟨ck, ps, hd⟩ := G.dr
  unfold arriveTo
  split
  · simp
  · simp only [List.length_append]
    have := nOuts_len hd hm.2.1
    omega
end Go.Proofs.YtjkhbjgfoopomabGreat
