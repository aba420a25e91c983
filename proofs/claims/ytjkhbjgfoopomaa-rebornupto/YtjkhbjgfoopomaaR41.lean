import Derived.Test.YtjkhbjgfoopomaaR40
/-
  Plain: one payment that an account cannot pay is let go; the balances in the end.
-/
namespace Go.Proofs.Ytjkhbjgfoopomaa
set_option linter.unusedVariables false
set_option linter.unusedSimpArgs false
structure PrSh (L : List Pl) (P : PN) : Prop where
  c : PrC L P
  st : (stA P.A 9).1 = 1 ∨ (stA P.A 9).1 = 3
  l0 : ∀ x, L[0]? = some x → (legOf 9 0 (P.E x.b)).1 ≠ 1
  ob1 : (stA P.A 9).1 = 1 → ∃ y, y ∈ P.wire ∧ y.l = 0 ∧ (y.k = 1 ∨ y.k = 5)
  ob3 : (stA P.A 9).1 = 3 → ∀ l x, L[l]? = some x → (legOf 9 l (P.E x.b)).1 = 4 ∨ ∃ y, y ∈ P.wire ∧ y.l = l ∧ y.k = 3
section
variable {L : List Pl} {P Q : PN} {m : Msg}
theorem PrSh.none3 (J : PrSh L P) (G : Good P) : ∀ (l : Nat) (x : Pl), L[l]? = some x → (legOf 9 l (P.E x.b)).1 ≠ 3 := fun l x hx => by
  have hL := leg_of J.c G hx
  rcases J.st with e | e
  · have := (hL.1 e).1; omega
  · exact (hL.2.2 e).1
theorem PrSh.step (J : PrSh L P) (H : Payable L) (h1001 : ∀ (x : Pl), L[0]? = some x → 1000 < x.a) (G : Good P) (hm : m ∈ P.wire) (hA : After P Q m) : PrSh L Q := by
  have hw := G.inv.wire m hm
  have C := J.c
  have hC := C.step G hw hA
  obtain ⟨ck, ps, hd⟩ := G.dr
  have hkk := hw.1.kinds
  have hold : ∀ y, y ∈ P.wire → y.k ≠ m.k ∨ y.l ≠ m.l → y ∈ Q.wire := fun y hy h => by
    rcases hA.wire.old y hy with e | e
    · subst e; rcases h with h | h <;> exact absurd rfl h
    · exact e
  by_cases hk : m.k ≤ 3
  · obtain ⟨x0, hx0, hb0, hi9, h1, h2, hme, h0⟩ := leg_kinds C G hw hk
    obtain ⟨hE, hAA⟩ := hA.bank hk
    have hans : bankAns m.t m (P.E m.t) ∈ Q.wire := hA.wire.new _ (by unfold arrOuts; rw [if_pos hk]; simp)
    have hL0 := leg_of C G hx0
    rw [hb0] at hL0
    obtain ⟨a1, a2, a3⟩ := leg_after h0 ⟨hkk.1, hk⟩
    rw [hi9] at a1 a2 a3
    have hside := hw.2.2
    have hk13 : m.k = 1 ∨ (m.k = 3 ∧ (stA P.A 9).1 = 3) := by
      have : m.k = 1 ∨ m.k = 2 ∨ m.k = 3 := by omega
      obtain ⟨x, hx, hs⟩ := hside
      rcases hs with ⟨_, _, h2', h3'⟩ | ⟨h4, _⟩
      · rcases this with h | h | h
        · exact .inl h
        · have := h2' h
          rw [hi9] at this
          have := J.st
          omega
        · have := h3' h
          rw [hi9] at this
          exact .inr ⟨h, this⟩
      · omega
    have hls : (m.l = 0 → (legOf 9 m.l (hEvsOf m (P.E m.t))).1 ≠ 1) ∧ (m.k = 1 → m.l = 0 → (stA P.A 9).1 = 1 → (legOf 9 m.l (hEvsOf m (P.E m.t))).1 = 2) ∧ (m.k = 3 → (legOf 9 m.l (hEvsOf m (P.E m.t))).1 = 4) ∧ ((legOf 9 m.l (P.E m.t)).1 = 4 → (legOf 9 m.l (hEvsOf m (P.E m.t))).1 = 4) := by
      rcases hk13 with h | ⟨h, e3⟩
      · have hv := a1 h
        by_cases hz : (legOf 9 m.l (P.E m.t)).1 = 0
        · rw [if_pos hz] at hv
          by_cases hl0 : m.l = 0
          · have hcan : canB m (P.E m.t) = false := by
              obtain ⟨_, _, hp3, hg3⟩ := H.x m.l x0 hx0
              have hmp : m.p = x0.p ∧ m.a = x0.a := by
                rw [hme, h]
                unfold askMsg
                simp
              have b1 := bal_still C G H (x0.a + 4294967296) (fun l x hx _ => ?_) (J.none3 G) ⟨h1, h2⟩ hp3
              · have ha := h1001 x0 (by rw [← hl0]; exact hx0)
                unfold canB
                rw [hmp.1, hmp.2, b1.1]
                have : decide (heldOf x0.p (P.E m.t) + x0.a ≤ 1000) = false := by simp; omega
                rw [this]
                simp
              · have hok := (hd.stand C.f9).ok.2.2 x (by rw [C.legs]; exact List.mem_of_getElem? hx)
                have := hok.2.2.2
                omega
            rw [hcan] at hv
            rw [hv]
            exact ⟨fun _ => by simp, fun _ _ _ => rfl, fun e => by omega, fun e => by omega⟩
          · rw [hv]
            exact ⟨fun e => absurd e hl0, fun _ e => absurd e hl0, fun e => by omega, fun e => by omega⟩
        · rw [if_neg hz] at hv
          rw [hv]
          refine ⟨fun e => ?_, fun _ e e1 => ?_, fun e => by omega, fun e => e⟩
          · have := J.l0 x0 (by rw [← e]; exact hx0)
            rw [hb0, ← e] at this
            exact this
          · have h3 := J.l0 x0 (by rw [← e]; exact hx0)
            rw [hb0, ← e] at h3
            have := (hL0.1 e1).1
            omega
      · have hv := (a3 h).2
        rw [hv]
        exact ⟨fun _ => by simp, fun e => by omega, fun _ => rfl, fun _ => rfl⟩
    have hlegs : ∀ l x, L[l]? = some x → (legOf 9 l (Q.E x.b)).1 = if l = m.l then (legOf 9 m.l (hEvsOf m (P.E m.t))).1 else (legOf 9 l (P.E x.b)).1 := fun l x hx => by
      rw [ls_bank hA hk]
      by_cases e : l = m.l
      · subst e
        have : x = x0 := by rw [hx0] at hx; injection hx with hx; exact hx.symm
        subst this
        rw [if_pos ⟨hb0, hi9.symm, rfl⟩, if_pos rfl, hi9]
      · rw [if_neg (fun c => e c.2.2), if_neg e]
    have ek : (bankAns m.t m (P.E m.t)).k = kindFor (legOf 9 m.l (hEvsOf m (P.E m.t))).1 := by
      show kindFor (legOf m.i m.l (hEvsOf m (P.E m.t))).1 = _
      rw [hi9]
    have el : (bankAns m.t m (P.E m.t)).l = m.l := rfl
    refine ⟨hC, by rw [hAA]; exact J.st, fun x hx => ?_, fun e => ?_, fun e l x hx => ?_⟩
    · rw [hlegs 0 x hx]
      split
      · rename_i e; exact hls.1 e.symm
      · exact J.l0 x hx
    · rw [hAA] at e
      obtain ⟨y, hy, hyl, hyk⟩ := J.ob1 e
      have h1k : m.k = 1 := by
        rcases hk13 with h | ⟨_, h⟩
        · exact h
        · omega
      by_cases hym : m.l = 0
      · refine ⟨_, hans, by rw [el, hym], .inr ?_⟩
        rw [ek, hls.2.1 h1k hym e]
        rfl
      · exact ⟨y, hold y hy (.inr (by omega)), hyl, hyk⟩
    · rw [hAA] at e
      rw [hlegs l x hx]
      by_cases elm : l = m.l
      · rw [if_pos elm]
        subst elm
        have hxx : x = x0 := by rw [hx0] at hx; injection hx with hx; exact hx.symm
        subst hxx
        rcases hk13 with h | ⟨h, _⟩
        · rcases J.ob3 e m.l x hx with h3 | ⟨y, hy, hyl, hyk⟩
          · rw [hb0] at h3
            exact .inl (hls.2.2.2 h3)
          · exact .inr ⟨y, hold y hy (.inl (by omega)), hyl, hyk⟩
        · exact .inl (hls.2.2.1 h)
      · rw [if_neg elm]
        rcases J.ob3 e l x hx with h3 | ⟨y, hy, hyl, hyk⟩
        · exact .inl h3
        · exact .inr ⟨y, hold y hy (.inr (by omega)), hyl, hyk⟩
  · obtain ⟨hE, hAA⟩ := hA.note hk
    have hn : (msgAct m).kind ≠ -1 := by show ((m.k : Int)) ≠ -1; omega
    have hp := fun i => pay_other (A := P.A) hn i
    have hi9 : m.i = 9 := C.only m.i hw.2.1
    obtain ⟨s4, s5, s6⟩ := note_st hd hw.2.1 (m := m) ⟨by omega, hkk.2.1⟩
    have hsay := fun h1 h2 h6 l x hx => says_all (A := P.A) (m := m) h1 h2 (hp m.i).2 h6 (l := l) (x := x) hx
    rw [hi9] at s4 s5 s6 hsay
    obtain ⟨xm, hxm, hside⟩ := hw.2.2
    rw [hi9, C.legs] at hxm
    obtain ⟨a4, a6⟩ : (m.k = 4 → (legOf 9 m.l (P.E xm.b)).1 = 1 ∨ (legOf 9 m.l (P.E xm.b)).1 = 3 ∨ (legOf 9 m.l (P.E xm.b)).1 = 4) ∧ (m.k = 6 → (legOf 9 m.l (P.E xm.b)).1 = 3 ∨ (legOf 9 m.l (P.E xm.b)).1 = 4) := by
      rcases hside with ⟨h3, _⟩ | ⟨_, _, a4, _, a6⟩
      · omega
      · rw [hi9] at a4 a6; exact ⟨a4, a6⟩
    have hk3 : m.k = 4 ∨ m.k = 5 ∨ m.k = 6 := by omega
    have hS := hd.stand C.f9
    have hh16 := pow_16 hS.few hS.room
    have hl4 := hkk.2.2.1
    have hLm := leg_of C G hxm
    have hx00 : ∃ x00, L[0]? = some x00 := ⟨L[0]'(by have := H.n.1; omega), List.getElem?_eq_getElem _⟩
    obtain ⟨x00, hx00⟩ := hx00
    have hL00 := leg_of C G hx00
    -- a Prepared never makes it whole
    have hnf : m.k = 4 → (stA P.A 9).1 = 1 → withOf (stA P.A 9).2.1 m.l ≠ fullOf (payO P.A 9).legs.length := fun h4 e1 hfull => by
      have hb : bitB (withOf (stA P.A 9).2.1 m.l) 0 = true := by
        rw [hfull, C.legs]
        exact bit_full _ _ H.n.2 (by have := H.n.1; omega)
      rw [bit_with _ _ _ hh16 hl4 (by omega)] at hb
      by_cases hml : m.l = 0
      · have hxx : xm = x00 := by rw [hml, hx00] at hxm; injection hxm with hxm; exact hxm.symm
        subst hxx
        have h1 := J.l0 xm hx00
        have h2 := (hLm.1 e1).1
        have h3 := a4 h4
        rw [hml] at h2 h3
        omega
      · have hb0 : bitB (stA P.A 9).2.1 0 = true := by
          have : decide (0 = m.l) = false := by simp; omega
          rw [this] at hb
          simpa using hb
        exact J.l0 x00 hx00 ((hL00.1 e1).2.1 hb0)
    have h61 : m.k = 6 → (stA P.A 9).1 ≠ 1 := fun h e => by
      have := (hLm.1 e).1
      have := a6 h
      omega
    refine ⟨hC, ?_, by rw [hE]; exact J.l0, fun e => ?_, fun e l x hx => ?_⟩
    · rw [hAA]
      rcases hk3 with h | h | h
      · rw [s4 h]
        split
        · rename_i e1
          simp only
          rw [if_neg (hnf h e1)]
          exact .inl rfl
        · exact J.st
      · rw [s5 h]
        split
        · exact .inr rfl
        · exact J.st
      · rw [s6 h]; exact J.st
    · rw [hAA] at e
      have e1 : (stA P.A 9).1 = 1 := by
        rcases J.st with h1 | h1
        · exact h1
        · rcases hk3 with h | h | h
          · rw [s4 h, if_neg (by omega)] at e; omega
          · rw [s5 h, if_neg (by omega)] at e; omega
          · rw [s6 h] at e; exact e
      have h5 : m.k ≠ 5 := fun h => by rw [s5 h, if_pos e1] at e; simp at e
      obtain ⟨y, hy, hyl, hyk⟩ := J.ob1 e1
      exact ⟨y, hold y hy (.inl (by omega)), hyl, hyk⟩
    · rw [hAA] at e
      rw [hE]
      rcases J.st with e1 | e3
      · have h5 : m.k = 5 := by
          rcases hk3 with h | h | h
          · rw [s4 h, if_pos e1] at e
            simp only at e
            rw [if_neg (hnf h e1)] at e
            omega
          · exact h
          · exact absurd e1 (h61 h)
        have h := hsay e1 (by omega) (by omega) l x (by rw [C.legs]; exact hx)
        have hq := ask_parts (payO P.A 9) x l (askKind (stA (P.A ++ [msgAct m]) 9).1)
        refine .inr ⟨_, hA.wire.new _ (by unfold arrOuts; rw [if_neg hk]; exact h), hq.2.2.2.2, ?_⟩
        rw [hq.1, e]
        rfl
      · rcases J.ob3 e3 l x hx with h3 | ⟨y, hy, hyl, hyk⟩
        · exact .inl h3
        · exact .inr ⟨y, hold y hy (.inl (by omega)), hyl, hyk⟩
theorem PrSh.end_ (J : PrSh L P) (hw : P.wire = []) : (stA P.A 9).1 = 3 ∧ ∀ l x, L[l]? = some x → (legOf 9 l (P.E x.b)).1 = 4 := by
  have hno : ∀ y, y ∉ P.wire := fun y hy => by rw [hw] at hy; cases hy
  have h3 : (stA P.A 9).1 = 3 := by
    rcases J.st with e | e
    · obtain ⟨y, hy, _⟩ := J.ob1 e
      exact absurd hy (hno y)
    · exact e
  refine ⟨h3, fun l x hx => ?_⟩
  rcases J.ob3 h3 l x hx with h | ⟨y, hy, _⟩
  · exact h
  · exact absurd hy (hno y)
/-- which ends a payment has come to -/
theorem ends_of (C : PrC L P) (G : Good P) (H : Payable L) (s : Nat) (hs : ∀ l x, L[l]? = some x → (legOf 9 l (P.E x.b)).1 = s) :
    (doneTo P 9 12 = decide (s = 3)) ∧ (notTo P 9 12 = (decide (s = 2) || decide (s = 4))) := by
  have hx00 : L[0]? = some (L[0]'(by have := H.n.1; omega)) := List.getElem?_eq_getElem _
  have hb := H.x 0 _ hx00
  have h0 := hs 0 _ hx00
  have hst : ∀ k, k < 12 → stE P 9 k = 0 ∨ stE P 9 k = s := fun k hk => by
    by_cases hz : stE P 9 k = 0
    · exact .inl hz
    · right
      obtain ⟨hf, x, hx, hxb⟩ := G.inv.kept (1 + k / 4) 9 (k % 4) (by omega) (by omega) hz
      rw [C.legs] at hx
      have := hs (k % 4) x hx
      rw [hxb] at this
      exact this
  have hat : stE P 9 (((L[0]'(by have := H.n.1; omega)).b - 1) * 4) = s := by
    unfold stE
    rw [show (((L[0]'(by have := H.n.1; omega)).b - 1) * 4) % 4 = 0 by omega, show 1 + (((L[0]'(by have := H.n.1; omega)).b - 1) * 4) / 4 = (L[0]'(by have := H.n.1; omega)).b by omega]
    exact h0
  constructor
  · cases hd : decide (s = 3) with
    | true =>
      refine (anyTo_iff _ _).2 ⟨((L[0]'(by have := H.n.1; omega)).b - 1) * 4, by omega, ?_⟩
      rw [hat]
      exact hd
    | false =>
      cases hx : doneTo P 9 12 with
      | false => rfl
      | true =>
        obtain ⟨k, hk, h⟩ := (anyTo_iff _ _).1 hx
        have h' : stE P 9 k = 3 := by simpa using h
        have hd' : ¬ s = 3 := by simpa using hd
        rcases hst k hk with e | e <;> omega
  · cases hd : (decide (s = 2) || decide (s = 4)) with
    | true =>
      refine (anyTo_iff _ _).2 ⟨((L[0]'(by have := H.n.1; omega)).b - 1) * 4, by omega, ?_⟩
      simp only [hat]
      exact hd
    | false =>
      cases hx : notTo P 9 12 with
      | false => rfl
      | true =>
        obtain ⟨k, hk, h⟩ := (anyTo_iff _ _).1 hx
        have h' : stE P 9 k = 2 ∨ stE P 9 k = 4 := by simpa using h
        have hd' : ¬ s = 2 ∧ ¬ s = 4 := by simpa using hd
        rcases hst k hk with e | e <;> omega
end
/-- what the legs of a payment take from an account, and bring it -/
def outTo (L : List Pl) (b a : Nat) : Nat → Nat
  | 0 => 0
  | n + 1 => outTo L b a n + match L[n]? with
    | none => 0
    | some x => if x.b = b ∧ x.p = a then x.a else 0
def inTo (L : List Pl) (b a : Nat) : Nat → Nat
  | 0 => 0
  | n + 1 => inTo L b a n + match L[n]? with
    | none => 0
    | some x => if x.b = b ∧ x.g = a then x.a else 0
def keysN (L : List Pl) (b : Nat) : Nat → List (Nat × Nat)
  | 0 => []
  | n + 1 => keysN L b n ++ match L[n]? with
    | none => []
    | some x => if x.b = b then [(9, n)] else []
theorem keysN_mem (L : List Pl) (b : Nat) (y : Nat × Nat) : ∀ n, y ∈ keysN L b n ↔ y.1 = 9 ∧ y.2 < n ∧ ∃ x, L[y.2]? = some x ∧ x.b = b
  | 0 => by simp [keysN]
  | n + 1 => by
    simp only [keysN, List.mem_append, keysN_mem L b y n]
    constructor
    · rintro (⟨h1, h2, h3⟩ | h)
      · exact ⟨h1, by omega, h3⟩
      · cases hx : L[n]? with
        | none => rw [hx] at h; simp at h
        | some x =>
          rw [hx] at h
          simp only at h
          split at h
          · rename_i hb
            rw [List.mem_singleton] at h
            subst h
            exact ⟨rfl, by simp, x, hx, hb⟩
          · simp at h
    · rintro ⟨h1, h2, x, hx, hb⟩
      by_cases h : y.2 < n
      · exact .inl ⟨h1, h, x, hx, hb⟩
      · have e : y.2 = n := by omega
        right
        rw [e] at hx
        rw [hx]
        simp only [if_pos hb, List.mem_singleton]
        rw [← h1, ← e]
theorem keysN_nodup (L : List Pl) (b : Nat) : ∀ n, (keysN L b n).Pairwise (· ≠ ·)
  | 0 => List.Pairwise.nil
  | n + 1 => by
    simp only [keysN]
    refine List.pairwise_append.2 ⟨keysN_nodup L b n, ?_, fun x hx y hy e => ?_⟩
    · cases L[n]? with
      | none => simp
      | some x => simp only; split <;> simp
    · subst e
      have h1 := (keysN_mem L b x n).1 hx
      cases hq : L[n]? with
      | none => rw [hq] at hy; simp at hy
      | some z =>
        rw [hq] at hy
        simp only at hy
        split at hy
        · rw [List.mem_singleton] at hy
          subst hy
          omega
        · simp at hy
theorem sumBy_perm (g : Nat × Nat → Nat) : ∀ (ks S : List (Nat × Nat)), ks.Pairwise (· ≠ ·) → S.Pairwise (· ≠ ·) → (∀ x, x ∈ ks ↔ x ∈ S) → sumBy ks g = sumBy S g
  | [], S, _, _, h => by
    have : S = [] := List.eq_nil_iff_forall_not_mem.2 (fun x hx => by have := (h x).2 hx; simp at this)
    rw [this]
  | x :: r, S, hn, hS, h => by
    have hx := (h x).1 (by simp)
    have hp := List.perm_cons_erase hx
    have e1 : sumBy S g = g x + sumBy (S.erase x) g := by
      unfold sumBy
      rw [(hp.map g).sum_nat]
      simp
    have hn' := List.pairwise_cons.1 hn
    have hS' : (x :: S.erase x).Pairwise (· ≠ ·) := (hp.pairwise_iff (fun {a b} h => Ne.symm h)).1 hS
    have hS2 := List.pairwise_cons.1 hS'
    have e2 := sumBy_perm g r (S.erase x) hn'.2 hS2.2 (fun y => by
      constructor
      · intro hy
        exact (List.mem_erase_of_ne (hn'.1 y hy).symm).2 ((h y).1 (by simp [hy]))
      · intro hy
        have h1 := (h y).2 (List.mem_of_mem_erase hy)
        rcases List.mem_cons.1 h1 with e | e
        · exact absurd e.symm (hS2.1 y hy)
        · exact e)
    rw [e1, ← e2]
    simp [sumBy]
/-- all is carried out: the balances -/
theorem bal_end {L : List Pl} {P : PN} (C : PrC L P) (G : Good P) (hs : ∀ l x, L[l]? = some x → (legOf 9 l (P.E x.b)).1 = 3) {b : Nat} (hb : 1 ≤ b ∧ b ≤ 3) {a : Nat} (ha : a < 3) :
    balOf a (P.E b) = 1000 + inTo L b a L.length - outTo L b a L.length := by
  obtain ⟨ac, ls, hr⟩ := G.rl b hb.1 hb.2
  obtain ⟨hin, _⟩ := keys_few C G hb
  have hn : (keysOf (P.E b)).Pairwise (· ≠ ·) := (hr.keys.pairwise_iff (fun {a b} h => Ne.symm h)).1 (keys_nodup hr.sort)
  have hiff : ∀ x, x ∈ keysOf (P.E b) ↔ x ∈ keysN L b L.length := fun x => by
    rw [keysN_mem]
    constructor
    · intro hx
      obtain ⟨h9, y, hy, hyb⟩ := hin x hx
      exact ⟨h9, (List.getElem?_eq_some_iff.1 hy).1, y, hy, hyb⟩
    · rintro ⟨h9, hl, y, hy, hyb⟩
      have h3 := hs x.2 y hy
      rw [hyb] at h3
      have hj : findB 9 x.2 ls < ls.length := by
        rcases Nat.lt_or_ge (findB 9 x.2 ls) ls.length with h | h
        · exact h
        · rw [hr.no 9 x.2 h] at h3; simp at h3
      have hk := findB_lt 9 x.2 ls hj
      refine (hr.keys.mem_iff).1 (List.mem_map.2 ⟨_, List.getElem_mem hj, ?_⟩)
      unfold keyL
      rw [hk.1, hk.2, ← h9]
  have hterm : ∀ l x, L[l]? = some x → x.b = b → (legOf 9 l (P.E b)).2.2 = true ∧ (legOf 9 l (P.E b)).1 = 3 ∧ (legOf 9 l (P.E b)).2.1.p = x.p ∧ (legOf 9 l (P.E b)).2.1.g = x.g ∧ (legOf 9 l (P.E b)).2.1.a = x.a := fun l x hx hxb => by
    have h3 := hs l x hx
    rw [hxb] at h3
    have hj : findB 9 l ls < ls.length := by
      rcases Nat.lt_or_ge (findB 9 l ls) ls.length with h | h
      · exact h
      · rw [hr.no 9 l h] at h3; simp at h3
    have hI := hr.at 9 l hj
    unfold LegIs at hI
    have ht : (legOf 9 l (P.E b)).2.2 = true := by
      rcases hI.2.2.2 with h | h
      · exact h.1
      · have := hI.1; omega
    have hq := G.inv.terms b 9 l x hb.1 hb.2 ht (by rw [C.legs]; exact hx)
    rw [hq]
    refine ⟨ht, h3, ?_⟩
    unfold askMsg
    simp
  have ho := C.op b hb.1 hb.2 a ha
  have hout : ∀ n, n ≤ L.length → sumBy (keysN L b n) (fun x => amtPay 3 a (legOf x.1 x.2 (P.E b))) = outTo L b a n := by
    intro n
    induction n with
    | zero => intro _; rfl
    | succ n ih =>
      intro hnl
      have hx : L[n]? = some L[n] := List.getElem?_eq_getElem (by omega)
      simp only [keysN, outTo, hx]
      by_cases hxb : L[n].b = b
      · rw [if_pos hxb, sumBy_snoc, ih (by omega)]
        obtain ⟨t1, t2, t3, t4, t5⟩ := hterm n _ hx hxb
        unfold amtPay
        simp only [t1, t2, t3, t5]
        simp [hxb]
      · rw [if_neg hxb, List.append_nil, ih (by omega), if_neg (fun c => hxb c.1)]
        simp
  have hinn : ∀ n, n ≤ L.length → sumBy (keysN L b n) (fun x => amtGet 3 a (legOf x.1 x.2 (P.E b))) = inTo L b a n := by
    intro n
    induction n with
    | zero => intro _; rfl
    | succ n ih =>
      intro hnl
      have hx : L[n]? = some L[n] := List.getElem?_eq_getElem (by omega)
      simp only [keysN, inTo, hx]
      by_cases hxb : L[n].b = b
      · rw [if_pos hxb, sumBy_snoc, ih (by omega)]
        obtain ⟨t1, t2, t3, t4, t5⟩ := hterm n _ hx hxb
        unfold amtGet
        simp only [t1, t2, t4, t5]
        simp [hxb]
      · rw [if_neg hxb, List.append_nil, ih (by omega), if_neg (fun c => hxb c.1)]
        simp
  unfold balOf outOf inOf
  rw [sumBy_perm _ _ _ hn (keysN_nodup L b L.length) hiff, sumBy_perm _ _ _ hn (keysN_nodup L b L.length) hiff, hout _ (Nat.le_refl _), hinn _ (Nat.le_refl _), ho.1]
end Go.Proofs.Ytjkhbjgfoopomaa
/-
  Networks: a payment is submitted; funds; what legs move.
-/
namespace Go.Proofs.Ytjkhbjgfoopomaa
open Go.RowKit
set_option linter.unusedVariables false
set_option linter.unusedSimpArgs false
theorem leg_open (fs : List Int) (j n i l : Nat) : legOf i l (openE fs j n) = (0, noMsg, false) := by
  induction n with
  | zero => rfl
  | succ n ih =>
    rw [openE_succ, legOf_snoc, ih]
    unfold legStep
    exact if_pos rfl
theorem init_inv (fs : List Int) : NInv (initPN fs) := by
  refine ⟨fun i h => ?_, fun b i l _ _ h => ?_, fun b i l x _ _ h => ?_, fun i l x h => ?_, fun m hm => ?_⟩
  · cases h
  · exact absurd (by show (legOf i l (openE fs b _)).1 = 0; rw [leg_open]) h
  · have h' : (legOf i l (openE fs b (cntA 4 0 b))).2.2 = true := h
    rw [leg_open] at h'
    cases h'
  · cases h
  · cases hm
theorem init_cnt (b : Nat) (h1 : 1 ≤ b) (h3 : b ≤ 3) : cntA 4 0 b = 3 := by
  unfold cntA
  rw [if_neg (by omega), if_pos (by omega)]
theorem init_opened (b a : Nat) (h1 : 1 ≤ b) (h3 : b ≤ 3) (ha : a < 3) : (openedOf a ((initPN []).E b)).1 = 1000 ∧ (openedOf a ((initPN []).E b)).2.1 = true := by
  have e : (initPN []).E b = openE [] b 3 := by show openE [] b (cntA 4 0 b) = _; rw [init_cnt b h1 h3]
  rw [e]
  have hb : b = 1 ∨ b = 2 ∨ b = 3 := by omega
  have haa : a = 0 ∨ a = 1 ∨ a = 2 := by omega
  rcases hb with rfl | rfl | rfl <;> rcases haa with rfl | rfl | rfl <;> exact ⟨rfl, rfl⟩
/-- the network behind the payment -/
def paidPN (p : Pm) : PN := ⟨(initPN []).E, [⟨-1, core p, zeroMsg⟩], asksM (core p) 1 0, (initPN []).lg, (initPN []).sm⟩
theorem paid_find (p : Pm) (h9 : p.id = 9) : fnd (paidPN p).A 9 = true ∧ payO (paidPN p).A 9 = core p ∧ (∀ i, fnd (paidPN p).A i = true → i = 9) ∧ stA (paidPN p).A 9 = (1, 0, 0, 0) := by
  have hn := fun i => find_new (A := []) (core p) i
  have e : ([] : List Dt) ++ [⟨-1, core p, zeroMsg⟩] = (paidPN p).A := rfl
  have hid : (core p).id = 9 := h9
  rw [e] at hn
  have hp : payO (paidPN p).A 9 = core p := by rw [(hn 9).2, if_pos hid]
  refine ⟨by rw [(hn 9).1]; simp [hid], hp, fun i h => ?_, ?_⟩
  · rw [(hn i).1] at h
    have h0 : fnd [] i = false := rfl
    rw [h0, Bool.or_false, hid] at h
    have := of_decide_eq_true h
    exact this.symm
  · unfold stA
    rw [hp]
    show stStep (core p) (0, 0, 0, 0) ⟨-1, core p, zeroMsg⟩ = _
    unfold stStep
    rw [if_neg (by show ¬ (-1 : Int) = 0; decide), if_pos rfl]
    simp
theorem paid_c (p : Pm) (h9 : p.id = 9) (hn : 1 ≤ p.legs.length) : PrC p.legs (paidPN p) := by
  obtain ⟨h1, h2, h3, h4⟩ := paid_find p h9
  refine ⟨h1, h3, by rw [h2]; rfl, fun b hb1 hb3 a ha => init_opened b a hb1 hb3 ha, fun _ => ?_⟩
  rw [h4]
  unfold fullOf
  have : 2 ≤ 2 ^ p.legs.length := by
    calc 2 = 2 ^ 1 := rfl
      _ ≤ 2 ^ p.legs.length := Nat.pow_le_pow_right (by omega) hn
  simp only
  omega
theorem paid_ls (p : Pm) (b l : Nat) : (legOf 9 l ((paidPN p).E b)).1 = 0 := by
  show (legOf 9 l (openE [] b _)).1 = 0
  rw [leg_open]
theorem paid_wire (p : Pm) {l : Nat} {x : Pl} (hx : p.legs[l]? = some x) : askMsg (core p) x l 1 ∈ (paidPN p).wire := by
  refine (asksM_mem _ _ _ _).2 ⟨l, x, ?_, hx, rfl⟩
  unfold withOf
  simp
theorem paid_ok (p : Pm) (h9 : p.id = 9) (hn : 1 ≤ p.legs.length) : PrOk p.legs (paidPN p) := by
  have h4 := (paid_find p h9).2.2.2
  refine ⟨paid_c p h9 hn, by rw [h4]; exact .inl rfl, fun l x _ => by rw [paid_ls]; omega, fun _ l x hx => .inr ⟨_, paid_wire p hx, (ask_parts _ _ _ _).2.2.2.2, .inl (ask_parts _ _ _ _).1⟩, fun e => by rw [h4] at e; simp at e⟩
/-- a payment is submitted to the notary of a network -/
theorem sub_net (w : World) (own : Nat → Nat) (nb : Nat) (M : NM) (P : PN) (I : NetAt w own nb 3 M P) (p : Pm) (hp : p.ok) (hm : p.memo.length ≤ 1000000) (hll : p.legs.length ≤ 1000000) (hck : M.ck < 18446744073709551616) (hL : RowOf w 57 4 Pl.cells p.lv p.legs) (hlo : ∀ g, p.lv.ownBlock = some g → own g = 0) :
    Calls Try.prog 24 #[.pointer (some ⟨M.db, 0, none⟩), p.v] w fun e w' => ∃ lv own' M', e = .returned (.tuple #[lv, .string (bs (subLog p P.A)), .int .i64 (subErr p P.A : Int)]) ∧ NetAt w' own' nb 3 M' { P with A := subActs p (core p) P.A } ∧ Frame w w' own own' ∧ RowOf w' 9 1 txtCell lv (subOuts p P.A) ∧ (∀ g, lv.ownBlock = some g → own' g = 0) ∧ M'.ck = M.ck := by
  refine (eSub_any p hp (by omega) (by omega) w M.db M.ck M.ps M.xv I.deed.x I.deed.ap P.A I.deed.rel hck hL (fun g hg => ⟨fun e => ?_, fun e => ?_⟩)).mono ?_
  · have h1 := hlo g hg
    have h2 := I.deed.own g (.inl e)
    omega
  · have h1 := hlo g hg
    have h2 := I.deed.own g (.inr (.inl e))
    omega
  · rintro e w' ⟨lv, ps', v', rfl, hh, hr⟩
    have J := I.deedTo lv hh.to (hr (core p) rfl) hh.fresh
    exact ⟨lv, _, _, rfl, J.1, J.2, hh.row, fun g hg => by simp only [if_neg (Nat.not_lt.2 (hh.fresh g hg).1), if_pos hg], rfl⟩
/-- Funds, by what has changed the bank -/
theorem eFundsR_any (a : Nat) (ha : a < 65536) (w : World) (B node : Nat) (ac : List Ac) (ls : List Lg) (va vl : Value) (E : List Ev) (hX : XB w B node ac ls va vl) (hr : Rel E ac ls) (hop : (openedOf a E).2.1 = true) :
    Calls Try.prog 31 #[.pointer (some ⟨B, 0, none⟩), .int .u16 (a : Int)] w fun e w' => e = .returned (.tuple #[.agg #[.int .u32 (balOf a E : Int), .int .u32 (heldOf a E : Int), .int .u32 (dueOf a E : Int)], .int .i64 0]) ∧ Below w.heap.size w w' := by
  have hm := hr.money a
  have hb := hr.bd a
  have hh := hr.hb a
  refine (eFunds_any a ha w B node ac ls va vl hX hr.aok (fun x hx => (hr.lok x hx).1) (by have := hr.alen; omega) (by have := hr.llen; omega) (by omega) (by omega)).mono ?_
  rintro e w' ⟨he, hbl⟩
  refine ⟨?_, hbl⟩
  rw [he, ← hr.has a, hop, hm.1, hm.2.1, hm.2.2]
  rfl
end Go.Proofs.Ytjkhbjgfoopomaa
