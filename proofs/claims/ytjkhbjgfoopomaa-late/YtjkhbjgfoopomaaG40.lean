import Derived.Test.YtjkhbjgfoopomaaG39
import Derived.Test.YtjkhbjgfoopomaaG30
/-
  Plain: one payment that all can pay is paid.
-/
namespace Go.Proofs.Ytjkhbjgfoopomaa
set_option linter.unusedVariables false
set_option linter.unusedSimpArgs false
/-- legs of a payment that all can pay -/
structure Payable (L : List Pl) : Prop where
  n : 1 ≤ L.length ∧ L.length ≤ 4
  x : ∀ (l : Nat) (x : Pl), L[l]? = some x → 1 ≤ x.b ∧ x.b ≤ 3 ∧ x.p < 3 ∧ x.g < 3
section
variable {L : List Pl} {P Q : PN} {m : Msg}
/-- no leg has been carried out: the balances are what was opened; what is held is little -/
theorem bal_still (C : PrC L P) (G : Good P) (H : Payable L) (B : Nat) (hB : ∀ (l : Nat) (x : Pl), L[l]? = some x → (legOf 9 l (P.E x.b)).1 = 1 → x.a ≤ B) (hne : ∀ (l : Nat) (x : Pl), L[l]? = some x → (legOf 9 l (P.E x.b)).1 ≠ 3) {b : Nat} (hb : 1 ≤ b ∧ b ≤ 3) {a : Nat} (ha : a < 3) :
    balOf a (P.E b) = 1000 ∧ heldOf a (P.E b) ≤ (keysOf (P.E b)).length * B ∧ dueOf a (P.E b) ≤ (keysOf (P.E b)).length * B := by
  obtain ⟨hin, _⟩ := keys_few C G hb
  have ho := C.op b hb.1 hb.2 a ha
  have hst : ∀ x, x ∈ keysOf (P.E b) → (legOf x.1 x.2 (P.E b)).1 ≠ 3 := fun x hx => by
    obtain ⟨h9, y, hy, hyb⟩ := hin x hx
    have := hne x.2 y hy
    rw [hyb] at this
    rw [h9]
    exact this
  have hterm : ∀ x, x ∈ keysOf (P.E b) → (legOf x.1 x.2 (P.E b)).1 = 1 → (legOf x.1 x.2 (P.E b)).2.2 = true → (legOf x.1 x.2 (P.E b)).2.1.a ≤ B := fun x hx h1 hT => by
    obtain ⟨h9, y, hy, hyb⟩ := hin x hx
    have h2 := G.inv.terms b x.1 x.2 y hb.1 hb.2 hT (by rw [h9, C.legs]; exact hy)
    rw [h2]
    have h3 := hB x.2 y hy (by rw [hyb, ← h9]; exact h1)
    unfold askMsg
    simp only [if_true]
    exact h3
  have hout : outOf a (P.E b) (keysOf (P.E b)) = 0 := sumBy_zero _ _ (fun x hx => by unfold amtPay; rw [if_neg (fun c => hst x hx c.2.1)])
  have hinn : inOf a (P.E b) (keysOf (P.E b)) = 0 := sumBy_zero _ _ (fun x hx => by unfold amtGet; rw [if_neg (fun c => hst x hx c.2.1)])
  refine ⟨by unfold balOf; rw [hout, hinn, ho.1], sumBy_bd _ _ B (fun x hx => ?_), sumBy_bd _ _ B (fun x hx => ?_)⟩
  · unfold amtPay
    split
    · rename_i c; exact hterm x hx c.2.1 c.1
    · omega
  · unfold amtGet
    split
    · rename_i c; exact hterm x hx c.2.1 c.1
    · omega
theorem PrOk.step (J : PrOk L P) (H : Payable L) (h250 : ∀ (l : Nat) (x : Pl), L[l]? = some x → x.a ≤ 250) (G : Good P) (hm : m ∈ P.wire) (hA : After P Q m) : PrOk L Q := by
  have hw := G.inv.wire m hm
  have C := J.c
  have hC := C.step G hw hA
  obtain ⟨ck, ps, hd⟩ := G.dr
  have hkk := hw.1.kinds
  have hold : ∀ y, y ∈ P.wire → y.k ≠ m.k ∨ y.l ≠ m.l → y ∈ Q.wire := fun y hy h => by
    rcases hA.wire.old y hy with e | e
    · subst e; rcases h with h | h <;> exact absurd rfl h
    · exact e
  by_cases hk : m.k ≤ 3
  · obtain ⟨x0, hx0, hb0, hi9, h1, h2, hme, h0⟩ := leg_kinds C G hw hk
    obtain ⟨hE, hAA⟩ := hA.bank hk
    have hans : bankAns m.t m (P.E m.t) ∈ Q.wire := hA.wire.new _ (by unfold arrOuts; rw [if_pos hk]; simp)
    have hL0 := leg_of C G hx0
    rw [hb0] at hL0
    have hnd0 := J.nd m.l x0 hx0
    rw [hb0] at hnd0
    obtain ⟨a1, a2, a3⟩ := leg_after h0 ⟨hkk.1, hk⟩
    rw [hi9] at a1 a2 a3
    have hst := J.st
    -- which kinds there are
    have hk12 : m.k = 1 ∨ m.k = 2 := by
      have : m.k = 1 ∨ m.k = 2 ∨ m.k = 3 := by omega
      rcases this with h | h | h
      · exact .inl h
      · exact .inr h
      · obtain ⟨x, hx, hs⟩ := hw.2.2
        rcases hs with ⟨_, _, _, h3⟩ | ⟨h4, _⟩
        · have := h3 h
          rw [hi9] at this
          omega
        · omega
    -- the leg behind it
    have hls : (legOf 9 m.l (hEvsOf m (P.E m.t))).1 ≠ 2 ∧ (m.k = 1 → (stA P.A 9).1 = 1 → (legOf 9 m.l (hEvsOf m (P.E m.t))).1 = 1) ∧ (m.k = 2 → (legOf 9 m.l (hEvsOf m (P.E m.t))).1 = 3) ∧ ((legOf 9 m.l (P.E m.t)).1 = 3 → (legOf 9 m.l (hEvsOf m (P.E m.t))).1 = 3) := by
      rcases hk12 with h | h
      · have hv := a1 h
        by_cases hz : (legOf 9 m.l (P.E m.t)).1 = 0
        · have hcan : canB m (P.E m.t) = true := by
            have hst1 : (stA P.A 9).1 = 1 := by
              rcases hst with e | e
              · exact e
              · have := (hL0.2.1 e).1; omega
            have hne3 : ∀ (l : Nat) (x : Pl), L[l]? = some x → (legOf 9 l (P.E x.b)).1 ≠ 3 := fun l x hx => by
              have := (leg_of C G hx).1 hst1
              omega
            obtain ⟨_, _, hp3, hg3⟩ := H.x m.l x0 hx0
            have hmp : m.p = x0.p ∧ m.g = x0.g ∧ m.a = x0.a := by
              rw [hme, h]
              unfold askMsg
              simp
            have hkl := (keys_few C G ⟨h1, h2⟩).2 m.l (List.getElem?_eq_some_iff.1 hx0).1 H.n.2 hz
            have b1 := bal_still C G H 250 (fun l x hx _ => h250 l x hx) hne3 ⟨h1, h2⟩ hp3
            have b2 := bal_still C G H 250 (fun l x hx _ => h250 l x hx) hne3 ⟨h1, h2⟩ hg3
            have o1 := C.op m.t h1 h2 x0.p hp3
            have o2 := C.op m.t h1 h2 x0.g hg3
            have ha := h250 m.l x0 hx0
            have hb1 : heldOf x0.p (P.E m.t) ≤ 3 * 250 := Nat.le_trans b1.2.1 (Nat.mul_le_mul_right _ hkl)
            have hb2 : dueOf x0.g (P.E m.t) ≤ 3 * 250 := Nat.le_trans b2.2.2 (Nat.mul_le_mul_right _ hkl)
            unfold canB
            rw [hmp.1, hmp.2.1, hmp.2.2, o1.2, o2.2, b1.1, b2.1]
            simp
            omega
          rw [if_pos hz, hcan] at hv
          rw [hv]
          exact ⟨by simp, fun _ _ => rfl, fun e => by omega, fun e => by omega⟩
        · rw [if_neg hz] at hv
          rw [hv]
          refine ⟨hnd0, fun _ e => ?_, fun e => by omega, fun e => e⟩
          have := (hL0.1 e).1
          omega
      · have hv := (a2 h).2
        rw [hv]
        exact ⟨by simp, fun e => by omega, fun _ => rfl, fun _ => rfl⟩
    have hlegs : ∀ l x, L[l]? = some x → (legOf 9 l (Q.E x.b)).1 = if l = m.l then (legOf 9 m.l (hEvsOf m (P.E m.t))).1 else (legOf 9 l (P.E x.b)).1 := fun l x hx => by
      rw [ls_bank hA hk]
      by_cases e : l = m.l
      · subst e
        have : x = x0 := by rw [hx0] at hx; injection hx with hx; exact hx.symm
        subst this
        rw [if_pos ⟨hb0, hi9.symm, rfl⟩, if_pos rfl, hi9]
      · rw [if_neg (fun c => e c.2.2), if_neg e]
    have ek : (bankAns m.t m (P.E m.t)).k = kindFor (legOf 9 m.l (hEvsOf m (P.E m.t))).1 := by
      show kindFor (legOf m.i m.l (hEvsOf m (P.E m.t))).1 = _
      rw [hi9]
    have el : (bankAns m.t m (P.E m.t)).l = m.l := rfl
    refine ⟨hC, by rw [hAA]; exact J.st, fun l x hx => ?_, fun e l x hx => ?_, fun e l x hx => ?_⟩
    · rw [hlegs l x hx]
      split
      · exact hls.1
      · exact J.nd l x hx
    · rw [hAA] at e ⊢
      rcases J.ob1 e l x hx with h | ⟨y, hy, hyl, hyk⟩
      · exact .inl h
      · by_cases hym : y.l = m.l
        · right
          have h1k : m.k = 1 := by
            rcases hk12 with h | h
            · exact h
            · obtain ⟨x', hx', hs⟩ := hw.2.2
              rcases hs with ⟨_, _, h2', _⟩ | ⟨h4, _⟩
              · have := h2' h
                rw [hi9] at this
                omega
              · omega
          refine ⟨_, hans, by rw [el, ← hym, hyl], .inr ?_⟩
          rw [ek, hls.2.1 h1k e]
          rfl
        · exact .inr ⟨y, hold y hy (.inr hym), hyl, hyk⟩
    · rw [hAA] at e
      rw [hlegs l x hx]
      by_cases elm : l = m.l
      · rw [if_pos elm]
        subst elm
        rcases hk12 with h | h
        · rcases J.ob2 e m.l x hx with h3 | ⟨y, hy, hyl, hyk⟩
          · have hxx : x = x0 := by rw [hx0] at hx; injection hx with hx; exact hx.symm
            subst hxx
            rw [hb0] at h3
            exact .inl (hls.2.2.2 h3)
          · exact .inr ⟨y, hold y hy (.inl (by omega)), hyl, hyk⟩
        · exact .inl (hls.2.2.1 h)
      · rw [if_neg elm]
        rcases J.ob2 e l x hx with h3 | ⟨y, hy, hyl, hyk⟩
        · exact .inl h3
        · exact .inr ⟨y, hold y hy (.inr (by omega)), hyl, hyk⟩
  · obtain ⟨hE, hAA⟩ := hA.note hk
    have hn : (msgAct m).kind ≠ -1 := by show ((m.k : Int)) ≠ -1; omega
    have hp := fun i => pay_other (A := P.A) hn i
    have hi9 : m.i = 9 := C.only m.i hw.2.1
    obtain ⟨s4, s5, s6⟩ := note_st hd hw.2.1 (m := m) ⟨by omega, hkk.2.1⟩
    have hsay := fun h1 h2 h6 l x hx => says_all (A := P.A) (m := m) h1 h2 (hp m.i).2 h6 (l := l) (x := x) hx
    rw [hi9] at s4 s5 s6 hsay
    obtain ⟨xm, hxm, hside⟩ := hw.2.2
    rw [hi9, C.legs] at hxm
    have a5 : m.k ≠ 5 := fun h5 => by
      rcases hside with ⟨h3, _⟩ | ⟨_, _, _, a5, _⟩
      · omega
      · have h := a5 h5
        rw [hi9] at h
        have h2 := J.nd m.l xm hxm
        have hL := leg_of C G hxm
        rcases J.st with e | e
        · have := (hL.1 e).1; omega
        · have := (hL.2.1 e).1; omega
    have hk46 : m.k = 4 ∨ m.k = 6 := by omega
    have hS := hd.stand C.f9
    have hfew : L.length ≤ 4 := H.n.2
    have hh16 := pow_16 hS.few hS.room
    have hl4 := hkk.2.2.1
    have hnew : ∀ l x, L[l]? = some x → (stA P.A 9).1 = 1 → (stA (P.A ++ [msgAct m]) 9).1 = 2 → ∃ y, y ∈ Q.wire ∧ y.l = l ∧ y.k = 2 := fun l x hx e1 e2 => by
      have h6 : m.k ≠ 6 := fun h6 => by rw [s6 h6] at e2; simp only at e2; omega
      have h := hsay e1 (by omega) h6 l x (by rw [C.legs]; exact hx)
      have hq := ask_parts (payO P.A 9) x l (askKind (stA (P.A ++ [msgAct m]) 9).1)
      refine ⟨_, hA.wire.new _ (by unfold arrOuts; rw [if_neg hk]; exact h), hq.2.2.2.2, ?_⟩
      rw [hq.1, e2]
      rfl
    refine ⟨hC, ?_, by rw [hE]; exact J.nd, fun e l x hx => ?_, fun e l x hx => ?_⟩
    · rw [hAA]
      rcases hk46 with h | h
      · rw [s4 h]
        split
        · simp only
          split
          · exact .inr rfl
          · exact .inl rfl
        · exact J.st
      · rw [s6 h]; exact J.st
    · rw [hAA] at e ⊢
      have hll : l < 4 := by have := (List.getElem?_eq_some_iff.1 hx).1; omega
      rcases hk46 with h | h
      · have e1 : (stA P.A 9).1 = 1 := by
          rcases J.st with h1 | h1
          · exact h1
          · rw [s4 h, if_neg (by omega)] at e; omega
        have hbits : (stA (P.A ++ [msgAct m]) 9).2.1 = withOf (stA P.A 9).2.1 m.l := by rw [s4 h, if_pos e1]
        rw [hbits, bit_with _ _ _ hh16 hl4 hll]
        by_cases hlm : l = m.l
        · left; simp [hlm]
        · rcases J.ob1 e1 l x hx with hb | ⟨y, hy, hyl, hyk⟩
          · left; simp [hb]
          · right
            exact ⟨y, hold y hy (.inr (by omega)), hyl, hyk⟩
      · have e1 : (stA P.A 9).1 = 1 := by rw [s6 h] at e; exact e
        have hbits : (stA (P.A ++ [msgAct m]) 9).2.1 = (stA P.A 9).2.1 := by rw [s6 h]
        rw [hbits]
        rcases J.ob1 e1 l x hx with hb | ⟨y, hy, hyl, hyk⟩
        · exact .inl hb
        · exact .inr ⟨y, hold y hy (.inl (by omega)), hyl, hyk⟩
    · rw [hAA] at e
      rw [hE]
      rcases J.st with e1 | e2
      · exact .inr (hnew l x hx e1 e)
      · rcases J.ob2 e2 l x hx with h3 | ⟨y, hy, hyl, hyk⟩
        · exact .inl h3
        · exact .inr ⟨y, hold y hy (.inl (by omega)), hyl, hyk⟩
end
end Go.Proofs.Ytjkhbjgfoopomaa
/-
  Networks: one is made.
-/
namespace Go.Proofs.Ytjkhbjgfoopomaa
open Go.RowKit
set_option linter.unusedVariables false
set_option linter.unusedSimpArgs false
/-- what the accounts are opened with -/
def fundAt (fs : List Int) (k : Nat) : Nat := match fs[k]? with
  | none => 1000
  | some v => (v % 4294967296).toNat
theorem fundAt_lt (fs : List Int) (k : Nat) : fundAt fs k < 4294967296 := by
  unfold fundAt
  split <;> omega
def openE (fs : List Int) (i n : Nat) : List Ev := (List.range n).map fun c => openEv c (fundAt fs ((i - 1) * 3 + c))
def openLg (fs : List Int) (i : Nat) : Nat → List UInt8
  | 0 => []
  | n + 1 => openLg fs i n ++ openTextOf n (fundAt fs ((i - 1) * 3 + n))
def openSm (fs : List Int) (i : Nat) : Nat → Nat
  | 0 => 0
  | n + 1 => openSm fs i n + fundAt fs ((i - 1) * 3 + n)
theorem openE_succ (fs : List Int) (i n : Nat) : openE fs i (n + 1) = openE fs i n ++ [openEv n (fundAt fs ((i - 1) * 3 + n))] := by simp [openE, List.range_succ]
theorem openE_there (fs : List Int) (i n a : Nat) (h : n ≤ a) : (openedOf a (openE fs i n)).2.1 = false ∧ (openedOf a (openE fs i n)).2.2 = n := by
  induction n with
  | zero => exact ⟨rfl, rfl⟩
  | succ n ih =>
    obtain ⟨h1, h2⟩ := ih (by omega)
    rw [openE_succ, openedOf_snoc]
    unfold openedStep
    have e : ¬ (openEv n (fundAt fs ((i - 1) * 3 + n))).msg.p = a := by show ¬ n = a; omega
    rw [if_pos (show (openEv n (fundAt fs ((i - 1) * 3 + n))).kind = 0 from rfl), if_neg e]
    exact ⟨h1, by simp only; omega⟩
theorem openE_err (fs : List Int) (i n : Nat) (h : n < 16) : openErr n (openE fs i n) = 0 := by
  obtain ⟨h1, h2⟩ := openE_there fs i n n (Nat.le_refl _)
  unfold openErr
  rw [h1, h2]
  simp only [Bool.false_eq_true, if_false]
  rw [if_neg (by omega)]
/-- how many accounts each bank has when bank i has a -/
def cntA (i a k : Nat) : Nat := if k = 0 then 0 else if k < i then 3 else if k = i then a else 0
/-- a network with so many accounts -/
def initAt (fs : List Int) (c : Nat → Nat) : PN := ⟨fun k => openE fs k (c k), [], [], fun k => openLg fs k (c k), fun k => openSm fs k (c k)⟩
def initPN (fs : List Int) : PN := initAt fs (cntA 4 0)
theorem cnt_next (i : Nat) (h : 1 ≤ i) : cntA i 3 = cntA (i + 1) 0 := by
  funext k
  unfold cntA
  (repeat' split) <;> omega
theorem cnt_upd {α : Type} (f : Nat → Nat → α) (i a : Nat) (h : 1 ≤ i) : (fun k => f k (cntA i (a + 1) k)) = upd (fun k => f k (cntA i a k)) i (f i (a + 1)) := by
  funext k
  unfold upd
  split
  · rename_i e
    subst e
    have : cntA k (a + 1) k = a + 1 := by unfold cntA; rw [if_neg (by omega), if_neg (by omega), if_pos rfl]
    rw [this]
  · rename_i e
    have : cntA i (a + 1) k = cntA i a k := by unfold cntA; simp [e]
    rw [this]
theorem cnt_self (i a : Nat) (h : 1 ≤ i) : cntA i a i = a := by unfold cntA; rw [if_neg (by omega), if_neg (by omega), if_pos rfl]
theorem openSm_le (fs : List Int) (i n : Nat) : openSm fs i n ≤ n * 4294967296 := by
  induction n with
  | zero => simp [openSm]
  | succ n ih => have := fundAt_lt fs ((i - 1) * 3 + n); simp only [openSm]; omega
theorem openLg_len (fs : List Int) (i n : Nat) : (openLg fs i n).length = 7 * n := by
  induction n with
  | zero => rfl
  | succ n ih => simp only [openLg, List.length_append, ih, openTextOf, List.length_cons, be_length]; omega
/-- funds that came in -/
structure FundsAt (w : World) (v : Value) (fs : List Int) : Prop where
  form : ∃ ad cap, v = .slice ad fs.length cap ∧ ∀ k (hk : k < fs.length), ∃ a : Addr, ad = some a ∧ a.block < w.heap.size ∧ w.cell? (a.add k) = some (.int .i64 fs[k])
  len : fs.length ≤ 100000000000000
theorem FundsAt.nil (w : World) : FundsAt w (.slice none 0 0) [] := ⟨⟨none, 0, rfl, fun k hk => by simp at hk⟩, by simp⟩
theorem FundsAt.below {w u : World} {v : Value} {fs : List Int} (h : FundsAt w v fs) (hb : Below w.heap.size w u) : FundsAt u v fs := by
  obtain ⟨ad, cap, hv, hc⟩ := h.form
  refine ⟨⟨ad, cap, hv, fun k hk => ?_⟩, h.len⟩
  obtain ⟨a, e, hl, hx⟩ := hc k hk
  refine ⟨a, e, Nat.lt_of_lt_of_le hl hb.size, ?_⟩
  rw [← hx]
  exact World.cell?_of_block (by rw [addr_block]; exact hb.block _ hl)
/-- a bank more -/
theorem NetAt.bankNew {w w' : World} {own : Nat → Nat} {nb j : Nat} {M : NM} {P : PN} (I : NetAt w own nb j M P) (hj : j < 3) {B : Nat} (hB : w.heap.size ≤ B) (hb : Below w.heap.size w w') (hX : XB w' B (j + 1) [] [] (.slice none 0 0) (.slice none 0 0)) (hE : P.E (j + 1) = []) :
    w'.heap[nb]? = some (.cells (netCells j M P) 67 (0, 0)) ∧
    NetAt (w'.setCell ⟨nb, j + 1, none⟩ (.pointer (some ⟨B, 0, none⟩))) (fun i => if i < w.heap.size then own i else if i = B then 3 + (j + 1) else 0) nb (j + 1) { M with bk := upd M.bk (j + 1) ⟨B, [], [], .slice none 0 0, .slice none 0 0⟩ } P := by
  have hA : ∀ i, i < w.heap.size → (fun i => if i < w.heap.size then own i else if i = B then 3 + (j + 1) else 0) i = own i := fun i hi => by simp [hi]
  have hbl : w'.heap[nb]? = some (.cells (netCells j M P) 67 (0, 0)) := by rw [hb.block nb I.lt]; exact I.blk
  have hk : Kept (fun i => i = nb) w (w'.setCell ⟨nb, j + 1, none⟩ (.pointer (some ⟨B, 0, none⟩))) := (Kept.of_below hb).trans (Kept.of_setCell w' ⟨nb, j + 1, none⟩ _) (fun i h => .inl h)
  have hne : ∀ o, o ≠ 1 → ∀ i, i < w.heap.size → i = nb → own i ≠ o := fun o ho i _ e => by rw [e, I.nown]; exact fun h => ho h.symm
  have hX' : XB (w'.setCell ⟨nb, j + 1, none⟩ (.pointer (some ⟨B, 0, none⟩))) B (j + 1) [] [] (.slice none 0 0) (.slice none 0 0) := hX.keptS (Kept.of_setCell w' ⟨nb, j + 1, none⟩ _) (fun i hi e => by
    have e' : i = nb := e
    have hl := I.lt
    rcases hi with rfl | h | h
    · omega
    · simp [Value.ownBlock] at h
    · simp [Value.ownBlock] at h)
  refine ⟨hbl, ?_, (hA _ I.lt).trans I.nown, ?_, I.deed.kept hk (hne 2 (by omega)) hA, I.wrow.kept hk (fun g hg e => hne 3 (by omega) g (I.wrow.lt hg) e (I.wown g hg)), fun g hg => (hA g (I.wrow.lt hg)).trans (I.wown g hg)⟩
  · rw [heap_set_self hbl]
    have : j = 0 ∨ j = 1 ∨ j = 2 := by omega
    rcases this with rfl | rfl | rfl <;> simp [netCells, bankPtr, upd, ptrTo]
  · intro k h1 h2
    by_cases e : k = j + 1
    · subst e
      simp only [upd_self]
      refine ⟨hX', ⟨by simp [Value.ownBlock], by simp [Value.ownBlock], fun g hg => by simp [Value.ownBlock] at hg⟩, fun i hi => ?_, by rw [hE]; exact Rel.zero⟩
      rcases hi with rfl | h | h
      · show (if i < w.heap.size then own i else if i = i then 3 + (j + 1) else 0) = 3 + (j + 1)
        rw [if_neg (by omega), if_pos rfl]
      · simp [Value.ownBlock] at h
      · simp [Value.ownBlock] at h
    · simp only [upd_ne _ _ e]
      exact (I.bank k h1 (by omega)).kept hk (hne (3 + k) (by omega)) hA
end Go.Proofs.Ytjkhbjgfoopomaa
