import Derived.Test.YtjkhbjgfoopomabC36
import Derived.Test.YtjkhbjgfoopomabC28
import Derived.Test.YtjkhbjgfoopomabC32
/-
  Networks: a node ticks.
-/
namespace Go.Proofs.Ytjkhbjgfoopomab
open Go.RowKit
set_option linter.unusedVariables false
set_option linter.unusedSimpArgs false
/-- what the notary says when the clock goes on -/
def TickSays (A : List Dt) (ms : List Msg) : Prop :=
  ms.length ≤ 128 ∧ ((1000000 ≤ clockOf A ∧ ms = []) ∨ (clockOf A < 1000000 ∧ ∃ qs, Pays (A ++ [tickAct]) qs ∧ ms = saysM qs (A ++ [tickAct])))
theorem kOuts_says {A : List Dt} {ck : Nat} {ps : List Xp} (hD : DRel A ck ps) : ∃ ms, TickSays A ms ∧ ms.map encOf = kOuts ck ps := by
  have hck := hD.clk
  unfold kOuts
  by_cases h : 1000000 ≤ ck
  · rw [if_pos h]
    exact ⟨[], ⟨by simp, .inl ⟨by omega, rfl⟩⟩, rfl⟩
  · rw [if_neg h]
    have hT := hD.tick
    obtain ⟨qs, hP, hq, hs⟩ := hT.says
    have h1 := saysX_le _ (fun y hy => (hT.good y hy).fine)
    have h2 := hT.len
    have e : (saysM qs (A ++ [tickAct])).map encOf = saysX (ps.map (lateX (ck + 1))) := by rw [saysM_map]; exact hs
    refine ⟨saysM qs (A ++ [tickAct]), ⟨?_, .inr ⟨by omega, qs, hP, rfl⟩⟩, e⟩
    have := congrArg List.length e
    rw [List.length_map] at this
    omega
/-- the notary of a network ticks -/
theorem tickD_net (w : World) (own : Nat → Nat) (nb : Nat) (M : NM) (P : PN) (I : NetAt w own nb 3 M P) (hck : clockOf P.A < 18446744073709551616) :
    Calls Try.prog 32 #[.pointer (some ⟨M.db, 0, none⟩)] w fun e w' => ∃ lv own' M' ms, e = .returned (.tuple #[lv, .string (bs (kLog P.A)), .int .i64 (kErr P.A : Int)]) ∧ TickSays P.A ms ∧ NetAt w' own' nb 3 M' { P with A := kActs P.A } ∧ Frame w w' own own' ∧ RowOf w' 9 1 msgCell lv ms ∧ (∀ g, lv.ownBlock = some g → own' g = 0) := by
  have hD := I.deed.rel
  obtain ⟨ms, h1, h2⟩ := kOuts_says hD
  refine (eTickD_any w M.db M.ck M.ps M.xv I.deed.x I.deed.ap P.A hD (by rw [hD.clk]; exact hck)).mono ?_
  rintro e w' ⟨lv, ck', ps', v', rfl, hh, hr⟩
  have J := I.deedTo lv hh.to hr hh.fresh
  refine ⟨lv, _, _, ms, rfl, h1, J.1, J.2, row_msgs (ms := ms) (fun l => rfl) (by rw [h2]; exact hh.row), fun g hg => by simp only [if_neg (Nat.not_lt.2 (hh.fresh g hg).1), if_pos hg]⟩
theorem tickM_len (k : Nat) (ls : List Lg) : (tickM k ls).length ≤ ls.length := by
  unfold tickM
  rw [List.length_map]
  exact List.length_filter_le _ _
set_option maxRecDepth 100000 in
set_option maxHeartbeats 2000000 in
/-- a bank of a network ticks -/
theorem tick_bank (w : World) (own : Nat → Nat) (nb : Nat) (M : NM) (P : PN) (I : NetAt w own nb 3 M P) (k : Nat) (hk : 1 ≤ k ∧ k ≤ 3) (hlen : P.wire.length + 128 ≤ 8000000000000) :
    Calls Try.prog 18 #[.pointer (some ⟨nb, 0, none⟩), .int .i64 (k : Int)] w fun e w' => e = .returned (.bool true) ∧ ∃ own' M', NetAt w' own' nb 3 M' { P with wire := P.wire ++ tickM k (M.bk k).ls } ∧ Frame w w' own own' := by
  have B := I.bank k hk.1 hk.2
  have hR := B.rel
  have hT := hide (eTick_any w (M.bk k).b k ⟨hk.1, by omega⟩ (M.bk k).ac (M.bk k).ls (M.bk k).va (M.bk k).vl B.x hR.lok' (fun x hx => (hR.lok x hx).2) (by have := hR.llen; omega))
  have hcw := cell_at I.blk k
  rw [bank_ptr hk.1 hk.2 (Nat.le_refl 3)] at hcw
  have hnl := I.lt
  have hkI : (k : Int) < 4 := by omega
  have d0 : decide ((0 : Int) < (k : Int)) = true := by simp; omega
  have hk0 : 0 < k := by omega
  have hS : Hid (∀ u lv, Below w.heap.size w u → FreshL w (tickL k (M.bk k).ls) u lv → _) := hide (fun u lv hb hf => send_any u (fun i => if i < w.heap.size then own i else 0) nb M P (I.below0 hb) lv (tickM k (M.bk k).ls) (row_msgs (fun l => rfl) (by rw [tickM_map]; exact hf.1)) (by have := tickM_len k (M.bk k).ls; have := hR.llen; omega))
  have hFr : Hid (∀ u, Below w.heap.size w u → Frame w u own (fun i => if i < w.heap.size then own i else 0)) := hide (fun u hb => ⟨Kept.of_below hb, fun i hi => by simp [hi]⟩)
  generalize tickL k (M.bk k).ls = TL at *
  generalize tickM k (M.bk k).ls = MS at *
  generalize (M.bk k).b = bb at *
  clear B hR I hlen
  go_enter Try.func18, Try.ntmps18
  go_wp2_with fail
  refine hT.out.mono ?_
  rintro e u ⟨⟨lv, rfl, hf⟩, hb⟩
  have hS1 := hide (hS.out u lv hb hf)
  have hF1 := hide (hFr.out u hb)
  obtain ⟨ad, cap, hsl⟩ := hf.1.slice
  subst hsl
  clear hS hFr hT hcw hf
  go_wp2_with fail
  refine hS1.out.mono ?_
  rintro e u2 ⟨rfl, own2, M2, I2, F2, _⟩
  have X : Hid (∃ own' M', NetAt u2 own' nb 3 M' { P with wire := P.wire ++ MS } ∧ Frame w u2 own own') := hide ⟨own2, M2, I2, hF1.out.trans F2⟩
  clear hS1 hF1 I2 F2
  go_wp2
  go_ret
  exact ⟨rfl, X.out⟩
/-- the network behind a tick of the notary -/
def tickTo (P : PN) (ms : List Msg) : PN := { P with A := kActs P.A, wire := P.wire ++ ms, lg := upd P.lg 0 (P.lg 0 ++ kLog P.A) }
set_option maxRecDepth 100000 in
set_option maxHeartbeats 2000000 in
attribute [local go_sem] bs_append in
theorem tick_note (w : World) (own : Nat → Nat) (nb : Nat) (M : NM) (P : PN) (I : NetAt w own nb 3 M P) (hck : clockOf P.A ≤ 1000000) (hlen : P.wire.length + 128 ≤ 8000000000000) (hlg : (P.lg 0).length + 1 ≤ 1000000000000000000) :
    Calls Try.prog 18 #[.pointer (some ⟨nb, 0, none⟩), .int .i64 0] w fun e w' => e = .returned (.bool true) ∧ ∃ own' M' ms, TickSays P.A ms ∧ NetAt w' own' nb 3 M' (tickTo P ms) ∧ Frame w w' own own' := by
  have hC := hide (eClock_any w M.db M.ck M.ps M.xv I.deed.x)
  have hT := hide (tickD_net w own nb M P I (by omega))
  have hcd : w.cell? ⟨nb, 4, none⟩ = some (.pointer (some ⟨M.db, 0, none⟩)) := cell_at I.blk 4
  have hnl := I.lt
  have hclk := hide I.deed.rel.clk
  generalize M.db = db at *
  generalize M.ck = ck at *
  clear I
  go_enter Try.func18, Try.ntmps18
  go_wp2_with fail
  refine hC.out.mono ?_
  rintro e w1 ⟨rfl, hw1⟩
  obtain rfl : w = w1 := hw1.symm
  clear hC hw1
  go_wp2_with fail
  refine hT.out.mono ?_
  rintro e u ⟨lv, own1, M1, ms, rfl, hms, I1, F1, hrow, hlo⟩
  clear hT hcd
  obtain ⟨ad, cap, hsl⟩ := hrow.slice
  subst hsl
  have hml := hms.1
  have hcl : u.cell? ⟨nb, 5, none⟩ = some (.string (bs (P.lg 0))) := cell_at I1.blk 5
  have hfl := frozen_at I1.blk 5
  have hnl1 := I1.lt
  have hCt := I1.cellTo 5 (.string (bs (P.lg 0 ++ kLog P.A))) (P' := { P with A := kActs P.A, lg := upd P.lg 0 (P.lg 0 ++ kLog P.A) }) rfl rfl rfl rfl
  have hbd : Below (u.setCell ⟨nb, 5, none⟩ (.string (bs (P.lg 0 ++ kLog P.A)))).heap.size (u.setCell ⟨nb, 5, none⟩ (.string (bs (P.lg 0 ++ kLog P.A)))) (u.setCell ⟨nb, 5, none⟩ (.string (bs (P.lg 0 ++ kLog P.A)))).drew := (Below.refl _ _).drew
  have hr1 := hrow.kept (Kept.of_setCell u ⟨nb, 5, none⟩ (.string (bs (P.lg 0 ++ kLog P.A)))) (fun g hg e => by have e' : g = nb := e; have h := hlo g hg; rw [e', I1.nown] at h; omega)
  have hsd := hide (send_any _ own1 nb M1 _ (hCt.1.below hbd) (.slice ad ms.length cap) ms (hr1.below hbd) (by simp only; omega))
  have hsd0 := hide (send_any _ own1 nb M1 _ hCt.1 (.slice ad ms.length cap) ms hr1 (by simp only; omega))
  have hFr := hide ((F1.trans hCt.2).trans (Frame.of_below hbd))
  have hFr0 := hide (F1.trans hCt.2)
  have hkl : (kLog P.A).length ≤ 1 := by unfold kLog; split <;> simp
  have hsz : (9223372036854775807 < (bs (P.lg 0)).size + (bs (kLog P.A)).size) = False := by rw [bs_size, bs_size]; simp; omega
  have hcase : (ck < 1000000 ∧ kErr P.A = 0 ∧ kLog P.A = [84]) ∨ (¬ ck < 1000000 ∧ kErr P.A = 15 ∧ kLog P.A = [] ∧ ms = []) := by
    have hclk := hclk.out
    rcases hms.2 with ⟨h1, h2⟩ | ⟨h1, h2⟩
    · exact .inr ⟨by omega, if_pos h1, if_pos h1, h2⟩
    · exact .inl ⟨by omega, if_neg (by omega), if_neg (by omega)⟩
  have hE : Hid (∀ u2 own2 M2, NetAt u2 own2 nb 3 M2 { P with A := kActs P.A, lg := upd P.lg 0 (P.lg 0 ++ kLog P.A), wire := P.wire ++ ms } → NetAt u2 own2 nb 3 M2 (tickTo P ms)) := hide (fun u2 own2 M2 h => h)
  replace hms := hide hms
  go_wp2_with fail
  first
    | go_region
    | skip
  all_goals (
    clear hCt hcl hfl hrow hlo I1 F1 hbd hr1
    go_wp2_with fail
    first
      | refine hsd.out.mono ?_
      | refine hsd0.out.mono ?_
    rintro e w2 ⟨rfl, own2, M2, I2, F2, _⟩
    have X : Hid (∃ own' M' ms, TickSays P.A ms ∧ NetAt w2 own' nb 3 M' (tickTo P ms) ∧ Frame w w2 own own') := hide ⟨own2, M2, ms, hms.out, hE.out _ _ _ I2, by first | exact hFr.out.trans F2 | exact hFr0.out.trans F2⟩
    clear hsd hsd0 hFr hFr0 I2 F2 hE hms hclk hck hkl hsz hlg hlen hml
    generalize kErr P.A = er at *
    generalize kLog P.A = lg at *
    have hz : Hid (bs lg = bs lg) := hide rfl
    rcases hcase with ⟨hc1, rfl, hlg⟩ | ⟨hc1, rfl, hlg, rfl⟩
    · have d1 : decide ((1000000 : Int) ≤ (ck : Int)) = false := by simp; omega
      clear hc1 hlg hz
      generalize bs lg = Z at *
      go_wp2
      go_ret
      exact ⟨rfl, X.out⟩
    · have d1 : decide ((1000000 : Int) ≤ (ck : Int)) = true := by simp; omega
      have hZ : bs lg = ⟨#[]⟩ := by rw [hlg]; rfl
      clear hc1 hlg hz
      generalize bs lg = Z at *
      subst hZ
      go_wp2
      go_ret
      exact ⟨rfl, X.out⟩)
end Go.Proofs.Ytjkhbjgfoopomab
/-
  Networks: one is made.
-/
namespace Go.Proofs.Ytjkhbjgfoopomab
open Go.RowKit
set_option linter.unusedVariables false
set_option linter.unusedSimpArgs false
/-- what the accounts are opened with -/
def fundAt (fs : List Int) (k : Nat) : Nat := match fs[k]? with
  | none => 1000
  | some v => (v % 4294967296).toNat
theorem fundAt_lt (fs : List Int) (k : Nat) : fundAt fs k < 4294967296 := by
  unfold fundAt
  split <;> omega
def openE (fs : List Int) (i n : Nat) : List Ev := (List.range n).map fun c => openEv c (fundAt fs ((i - 1) * 3 + c))
def openLg (fs : List Int) (i : Nat) : Nat → List UInt8
  | 0 => []
  | n + 1 => openLg fs i n ++ openTextOf n (fundAt fs ((i - 1) * 3 + n))
def openSm (fs : List Int) (i : Nat) : Nat → Nat
  | 0 => 0
  | n + 1 => openSm fs i n + fundAt fs ((i - 1) * 3 + n)
theorem openE_succ (fs : List Int) (i n : Nat) : openE fs i (n + 1) = openE fs i n ++ [openEv n (fundAt fs ((i - 1) * 3 + n))] := by simp [openE, List.range_succ]
theorem openE_there (fs : List Int) (i n a : Nat) (h : n ≤ a) : (openedOf a (openE fs i n)).2.1 = false ∧ (openedOf a (openE fs i n)).2.2 = n := by
  induction n with
  | zero => exact ⟨rfl, rfl⟩
  | succ n ih =>
    obtain ⟨h1, h2⟩ := ih (by omega)
    rw [openE_succ, openedOf_snoc]
    unfold openedStep
    have e : ¬ (openEv n (fundAt fs ((i - 1) * 3 + n))).msg.p = a := by show ¬ n = a; omega
    rw [if_pos (show (openEv n (fundAt fs ((i - 1) * 3 + n))).kind = 0 from rfl), if_neg e]
    exact ⟨h1, by simp only; omega⟩
theorem openE_err (fs : List Int) (i n : Nat) (h : n < 16) : openErr n (openE fs i n) = 0 := by
  obtain ⟨h1, h2⟩ := openE_there fs i n n (Nat.le_refl _)
  unfold openErr
  rw [h1, h2]
  simp only [Bool.false_eq_true, if_false]
  rw [if_neg (by omega)]
/-- how many accounts each bank has when bank i has a -/
def cntA (i a k : Nat) : Nat := if k = 0 then 0 else if k < i then 3 else if k = i then a else 0
/-- a network with so many accounts -/
def initAt (fs : List Int) (c : Nat → Nat) : PN := ⟨fun k => openE fs k (c k), [], [], fun k => openLg fs k (c k), fun k => openSm fs k (c k)⟩
def initPN (fs : List Int) : PN := initAt fs (cntA 4 0)
theorem cnt_next (i : Nat) (h : 1 ≤ i) : cntA i 3 = cntA (i + 1) 0 := by
  funext k
  unfold cntA
  (repeat' split) <;> omega
theorem cnt_upd {α : Type} (f : Nat → Nat → α) (i a : Nat) (h : 1 ≤ i) : (fun k => f k (cntA i (a + 1) k)) = upd (fun k => f k (cntA i a k)) i (f i (a + 1)) := by
  funext k
  unfold upd
  split
  · rename_i e
    subst e
    have : cntA k (a + 1) k = a + 1 := by unfold cntA; rw [if_neg (by omega), if_neg (by omega), if_pos rfl]
    rw [this]
  · rename_i e
    have : cntA i (a + 1) k = cntA i a k := by unfold cntA; simp [e]
    rw [this]
theorem cnt_self (i a : Nat) (h : 1 ≤ i) : cntA i a i = a := by unfold cntA; rw [if_neg (by omega), if_neg (by omega), if_pos rfl]
theorem openSm_le (fs : List Int) (i n : Nat) : openSm fs i n ≤ n * 4294967296 := by
  induction n with
  | zero => simp [openSm]
  | succ n ih => have := fundAt_lt fs ((i - 1) * 3 + n); simp only [openSm]; omega
theorem openLg_len (fs : List Int) (i n : Nat) : (openLg fs i n).length = 7 * n := by
  induction n with
  | zero => rfl
  | succ n ih => simp only [openLg, List.length_append, ih, openTextOf, List.length_cons, be_length]; omega
/-- funds that came in -/
structure FundsAt (w : World) (v : Value) (fs : List Int) : Prop where
  form : ∃ ad cap, v = .slice ad fs.length cap ∧ ∀ k (hk : k < fs.length), ∃ a : Addr, ad = some a ∧ a.block < w.heap.size ∧ w.cell? (a.add k) = some (.int .i64 fs[k])
  len : fs.length ≤ 100000000000000
theorem FundsAt.nil (w : World) : FundsAt w (.slice none 0 0) [] := ⟨⟨none, 0, rfl, fun k hk => by simp at hk⟩, by simp⟩
theorem FundsAt.below {w u : World} {v : Value} {fs : List Int} (h : FundsAt w v fs) (hb : Below w.heap.size w u) : FundsAt u v fs := by
  obtain ⟨ad, cap, hv, hc⟩ := h.form
  refine ⟨⟨ad, cap, hv, fun k hk => ?_⟩, h.len⟩
  obtain ⟨a, e, hl, hx⟩ := hc k hk
  refine ⟨a, e, Nat.lt_of_lt_of_le hl hb.size, ?_⟩
  rw [← hx]
  exact World.cell?_of_block (by rw [addr_block]; exact hb.block _ hl)
/-- a bank more -/
theorem NetAt.bankNew {w w' : World} {own : Nat → Nat} {nb j : Nat} {M : NM} {P : PN} (I : NetAt w own nb j M P) (hj : j < 3) {B : Nat} (hB : w.heap.size ≤ B) (hb : Below w.heap.size w w') (hX : XB w' B (j + 1) [] [] (.slice none 0 0) (.slice none 0 0)) (hE : P.E (j + 1) = []) :
    w'.heap[nb]? = some (.cells (netCells j M P) 41 (0, 0)) ∧
    NetAt (w'.setCell ⟨nb, j + 1, none⟩ (.pointer (some ⟨B, 0, none⟩))) (fun i => if i < w.heap.size then own i else if i = B then 3 + (j + 1) else 0) nb (j + 1) { M with bk := upd M.bk (j + 1) ⟨B, [], [], .slice none 0 0, .slice none 0 0⟩ } P := by
  have hA : ∀ i, i < w.heap.size → (fun i => if i < w.heap.size then own i else if i = B then 3 + (j + 1) else 0) i = own i := fun i hi => by simp [hi]
  have hbl : w'.heap[nb]? = some (.cells (netCells j M P) 41 (0, 0)) := by rw [hb.block nb I.lt]; exact I.blk
  have hk : Kept (fun i => i = nb) w (w'.setCell ⟨nb, j + 1, none⟩ (.pointer (some ⟨B, 0, none⟩))) := (Kept.of_below hb).trans (Kept.of_setCell w' ⟨nb, j + 1, none⟩ _) (fun i h => .inl h)
  have hne : ∀ o, o ≠ 1 → ∀ i, i < w.heap.size → i = nb → own i ≠ o := fun o ho i _ e => by rw [e, I.nown]; exact fun h => ho h.symm
  have hX' : XB (w'.setCell ⟨nb, j + 1, none⟩ (.pointer (some ⟨B, 0, none⟩))) B (j + 1) [] [] (.slice none 0 0) (.slice none 0 0) := hX.keptS (Kept.of_setCell w' ⟨nb, j + 1, none⟩ _) (fun i hi e => by
    have e' : i = nb := e
    have hl := I.lt
    rcases hi with rfl | h | h
    · omega
    · simp [Value.ownBlock] at h
    · simp [Value.ownBlock] at h)
  refine ⟨hbl, ?_, (hA _ I.lt).trans I.nown, ?_, I.deed.kept hk (hne 2 (by omega)) hA, I.wrow.kept hk (fun g hg e => hne 3 (by omega) g (I.wrow.lt hg) e (I.wown g hg)), fun g hg => (hA g (I.wrow.lt hg)).trans (I.wown g hg)⟩
  · rw [heap_set_self hbl]
    have : j = 0 ∨ j = 1 ∨ j = 2 := by omega
    rcases this with rfl | rfl | rfl <;> simp [netCells, bankPtr, upd, ptrTo]
  · intro k h1 h2
    by_cases e : k = j + 1
    · subst e
      simp only [upd_self]
      refine ⟨hX', ⟨by simp [Value.ownBlock], by simp [Value.ownBlock], fun g hg => by simp [Value.ownBlock] at hg⟩, fun i hi => ?_, by rw [hE]; exact Rel.zero⟩
      rcases hi with rfl | h | h
      · show (if i < w.heap.size then own i else if i = i then 3 + (j + 1) else 0) = 3 + (j + 1)
        rw [if_neg (by omega), if_pos rfl]
      · simp [Value.ownBlock] at h
      · simp [Value.ownBlock] at h
    · simp only [upd_ne _ _ e]
      exact (I.bank k h1 (by omega)).kept hk (hne (3 + k) (by omega)) hA
end Go.Proofs.Ytjkhbjgfoopomab
/-
  Plain: a network's logs tell what has come to pass.
-/
namespace Go.Proofs.Ytjkhbjgfoopomab
set_option linter.unusedVariables false
set_option linter.unusedSimpArgs false
/-- each node's log tells its history -/
structure LogInv (P : PN) : Prop where
  bank : ∀ k, 1 ≤ k → k ≤ 3 → BHist k (P.E k) ∧ P.lg k = bankTexts (P.E k)
  note : DHist P.A
  nlog : P.lg 0 = noteTexts P.A
theorem LogInv.same {P Q : PN} (h : LogInv P) (hE : Q.E = P.E) (hA : Q.A = P.A) (hl : Q.lg = P.lg) : LogInv Q := by
  obtain ⟨E, A, wire, lg, sm⟩ := Q
  simp only at hE hA hl
  subst hE hA hl
  exact ⟨h.bank, h.note, h.nlog⟩
theorem open_hist (fs : List Int) (i n : Nat) (hn : n ≤ 16) : BHist i (openE fs i n) ∧ openLg fs i n = bankTexts (openE fs i n) := by
  induction n with
  | zero => exact ⟨BHist.nil i, rfl⟩
  | succ n ih =>
    obtain ⟨h1, h2⟩ := ih (by omega)
    rw [openE_succ]
    refine ⟨h1.snoc (.inl ⟨n, _, by omega, fundAt_lt _ _, rfl, openE_err fs i n (by omega)⟩), ?_⟩
    rw [bankTexts_snoc, ← h2]
    rfl
theorem LogInv.init (fs : List Int) : LogInv (initPN fs) := by
  refine ⟨fun k h1 h3 => open_hist fs k _ ?_, DHist.nil, rfl⟩
  unfold cntA
  (repeat' split) <;> omega
/-- a node takes a frame in; what it sends is lost -/
def takeTo (P : PN) (m : Msg) : PN :=
  if m.k ≤ 3 then { P with E := upd P.E m.t (hEvsOf m (P.E m.t)), lg := upd P.lg m.t (P.lg m.t ++ bankLog m (P.E m.t)) }
  else { P with A := P.A ++ [msgAct m], lg := upd P.lg 0 (P.lg 0 ++ actText P.A (msgAct m)) }
theorem take_arrive (P : PN) (m : Msg) : (takeTo P m).E = (arriveTo P m).E ∧ (takeTo P m).A = (arriveTo P m).A ∧ (takeTo P m).lg = (arriveTo P m).lg ∧ (takeTo P m).wire = P.wire ∧ (takeTo P m).sm = P.sm ∧ ∃ r, (arriveTo P m).wire = P.wire ++ r := by
  unfold takeTo arriveTo
  by_cases h : m.k ≤ 3
  · rw [if_pos h, if_pos h]; exact ⟨rfl, rfl, rfl, rfl, rfl, _, rfl⟩
  · rw [if_neg h, if_neg h]; exact ⟨rfl, rfl, rfl, rfl, rfl, _, rfl⟩
theorem tErr_nErr {m : Msg} (hm : Fair m) (A : List Dt) : tErr (encOf m) A = nErr m A := by
  obtain ⟨d1, d2, _⟩ := hm.enc
  unfold tErr nErr
  rw [d1, d2]
  by_cases h : m.t = 0 <;> simp [h]
theorem LogInv.take {P : PN} (h : LogInv P) (G : Good P) {m : Msg} (hm : OnW P m) : LogInv (takeTo P m) := by
  obtain ⟨ck, ps, hd⟩ := G.dr
  unfold takeTo
  by_cases hk : m.k ≤ 3
  · rw [if_pos hk]
    obtain ⟨h1, h2, h3⟩ := G.inv.bankOk hd hm hk
    obtain ⟨ac, ls, hr⟩ := G.rl m.t h1 h2
    have h0 := h3 hr
    refine ⟨fun k k1 k3 => ?_, h.note, by show upd P.lg m.t _ 0 = _; rw [upd_ne _ _ (by omega)]; exact h.nlog⟩
    by_cases e : k = m.t
    · subst e
      simp only [upd_self]
      obtain ⟨b1, b2⟩ := h.bank m.t k1 k3
      exact ⟨b1.handle hm.1 rfl h0, by rw [texts_handle hm.1, b2]⟩
    · simp only [upd_ne _ _ e]
      exact h.bank k k1 k3
  · rw [if_neg hk]
    obtain ⟨ht, h0⟩ := G.inv.noteOk hm (by omega)
    refine ⟨fun k k1 k3 => ?_, h.note.snoc (.inr (.inr ⟨m, rfl, hm.1, ht, by rw [tErr_nErr hm.1]; exact h0⟩)), ?_⟩
    · show BHist k (P.E k) ∧ upd P.lg 0 _ k = _
      rw [upd_ne _ _ (by omega)]
      exact h.bank k k1 k3
    · show upd P.lg 0 (P.lg 0 ++ actText P.A (msgAct m)) 0 = _
      rw [upd_self, noteTexts_snoc, h.nlog]
theorem LogInv.arrive {P : PN} (h : LogInv P) (G : Good P) {m : Msg} (hm : OnW P m) : LogInv (arriveTo P m) := by
  obtain ⟨e1, e2, e3, _⟩ := take_arrive P m
  exact (h.take G hm).same e1.symm e2.symm e3.symm
theorem LogInv.tick {P : PN} (h : LogInv P) (ms : List Msg) : LogInv (tickTo P ms) := by
  unfold tickTo
  by_cases hc : 1000000 ≤ clockOf P.A
  · rw [show kActs P.A = P.A from if_pos hc, show kLog P.A = [] from if_pos hc, List.append_nil, upd_same]
    exact ⟨h.bank, h.note, h.nlog⟩
  · rw [show kActs P.A = P.A ++ [tickAct] from if_neg hc, show kLog P.A = [84] from if_neg hc]
    refine ⟨fun k k1 k3 => ?_, h.note.snoc (.inl ⟨rfl, by omega⟩), ?_⟩
    · show BHist k (P.E k) ∧ upd P.lg 0 _ k = _
      rw [upd_ne _ _ (by omega)]
      exact h.bank k k1 k3
    · show upd P.lg 0 (P.lg 0 ++ [84]) 0 = _
      rw [upd_self, noteTexts_snoc, h.nlog]
      rfl
/-- what Submit sends -/
def subMs (p : Pm) (A : List Dt) : List Msg :=
  if subIs p A then asksM (core p) 1 0 else if wrongOf p = 0 ∧ (findOf p.id A).2.1 = true ∧ sameOf p (findOf p.id A).1 = true then remindM (findOf p.id A).1 A else []
theorem subMs_map (p : Pm) (A : List Dt) : (subMs p A).map encOf = subOuts p A := by
  unfold subMs subOuts
  split
  · rw [asksM_map, core_asks]
  · split
    · exact remindM_map _ _
    · rfl
def subTo (P : PN) (p : Pm) : PN := { P with A := subActs p (core p) P.A, wire := P.wire ++ subMs p P.A, lg := upd P.lg 0 (P.lg 0 ++ subLog p P.A) }
theorem LogInv.sub {P : PN} (h : LogInv P) {p : Pm} (hp : p.ok) : LogInv (subTo P p) := by
  unfold subTo
  by_cases hs : subIs p P.A
  · rw [show subActs p (core p) P.A = _ from if_pos hs, show subLog p P.A = _ from if_pos hs]
    refine ⟨fun k k1 k3 => ?_, h.note.snoc (.inr (.inl ⟨core p, rfl, hp, hs⟩)), ?_⟩
    · show BHist k (P.E k) ∧ upd P.lg 0 _ k = _
      rw [upd_ne _ _ (by omega)]
      exact h.bank k k1 k3
    · show upd P.lg 0 (P.lg 0 ++ subTextOf p) 0 = _
      rw [upd_self, noteTexts_snoc, h.nlog]
      rfl
  · rw [show subActs p (core p) P.A = _ from if_neg hs, show subLog p P.A = _ from if_neg hs, List.append_nil, upd_same]
    exact ⟨h.bank, h.note, h.nlog⟩
end Go.Proofs.Ytjkhbjgfoopomab
