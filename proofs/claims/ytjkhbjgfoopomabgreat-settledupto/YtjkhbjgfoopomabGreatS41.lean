import Derived.Test.YtjkhbjgfoopomabGreatS38
import Derived.Test.YtjkhbjgfoopomabGreatS40
/-
  Plain: a step of a script, and what every step keeps.
-/
namespace Go.Proofs.YtjkhbjgfoopomabGreat
set_option linter.unusedVariables false
set_option linter.unusedSimpArgs false
/-- the notary tells again how a payment stands -/
theorem NInv.says {P Q : PN} (I : NInv P) {ck : Nat} {ps : List Xp} (hd : DRel P.A ck ps) (hE : Q.E = P.E) (hA : Q.A = P.A)
    (hw : ∀ m, m ∈ Q.wire → m ∈ P.wire ∨ ∃ i l x, fnd P.A i = true ∧ (payO P.A i).legs[l]? = some x ∧ m = askMsg (payO P.A i) x l (askKind (stA P.A i).1)) : NInv Q := by
  obtain ⟨E, A, wire, lg, sm⟩ := Q
  simp only at hE hA hw
  subst hE hA
  refine ⟨I.b3, I.kept, I.terms, I.leg, fun m hm => ?_⟩
  rcases hw m hm with h | ⟨i, l, x, hf, hx, rfl⟩
  · exact I.wire m h
  · have hS := hd.stand hf
    have hF := ask_fair hS hx (stA P.A i).1
    have hq := ask_parts (payO P.A i) x l (askKind (stA P.A i).1)
    have ei : (askMsg (payO P.A i) x l (askKind (stA P.A i).1)).i = i := by rw [hq.2.2.2.1, hS.id]
    have el := hq.2.2.2.2
    have ek := hq.1
    refine ⟨hF, by rw [ei]; exact hf, x, by rw [ei, el]; exact hx, .inl ?_⟩
    rw [ei, el, ek]
    have hkk := askKind_of (stA P.A i).1
    have hlo := hS.lo
    have hhi := hS.hi
    exact ⟨by omega, rfl, fun e => by show (stA P.A i).1 = 2; omega, fun e => by show (stA P.A i).1 = 3; omega⟩
/-- what every step of a script keeps -/
structure Sound (fs : List Int) (P : PN) : Prop where
  inv : NInv P
  log : LogInv P
  clk : clockOf P.A ≤ 1000000
  six : ∀ i, fnd P.A i = true → 1 ≤ i ∧ i ≤ 6
  acc : ∀ i, fnd P.A i = true → ∀ (l : Nat) (x : Pl), (payO P.A i).legs[l]? = some x → x.p < 3 ∧ x.g < 3
  opn : ∀ b, 1 ≤ b → b ≤ 3 → ∀ a, openedOf a (P.E b) = openedOf a ((initPN fs).E b)
  sums : P.sm = (initPN fs).sm
theorem Sound.init (fs : List Int) (h : NInv (initPN fs)) : Sound fs (initPN fs) :=
  ⟨h, LogInv.init fs, by show (0 : Nat) ≤ _; omega, fun i hi => (by cases hi), fun i hi => (by cases hi), fun b _ _ a => rfl, rfl⟩
theorem msg_kind {m : Msg} (h : 4 ≤ m.k) : (msgAct m).kind ≠ -1 ∧ (msgAct m).kind ≠ 0 := by
  constructor
  · show ((m.k : Nat) : Int) ≠ -1; omega
  · show ((m.k : Nat) : Int) ≠ 0; omega
theorem clock_other {A : List Dt} {x : Dt} (h : x.kind ≠ 0) : clockOf (A ++ [x]) = clockOf A := by
  rw [clockOf_snoc]
  unfold clockStep
  rw [if_neg h]
theorem Sound.wire {fs : List Int} {P Q : PN} (h : Sound fs P) (hI : NInv Q) (hE : Q.E = P.E) (hA : Q.A = P.A) (hl : Q.lg = P.lg) (hs : Q.sm = P.sm) : Sound fs Q := by
  have hL := h.log.same hE hA hl
  obtain ⟨E, A, wire, lg, sm⟩ := Q
  simp only at hE hA hl hs
  subst hE hA hl hs
  exact ⟨hI, hL, h.clk, h.six, h.acc, h.opn, h.sums⟩
theorem Sound.lose {fs : List Int} {P Q : PN} (h : Sound fs P) (hE : Q.E = P.E) (hA : Q.A = P.A) (hl : Q.lg = P.lg) (hs : Q.sm = P.sm) (hw : ∀ m, m ∈ Q.wire → m ∈ P.wire) : Sound fs Q :=
  h.wire (h.inv.less hE hA hw) hE hA hl hs
theorem Sound.arrive {fs : List Int} {P : PN} (h : Sound fs P) (G : Good P) {m : Msg} (hm : OnW P m) (hI : NInv (arriveTo P m)) : Sound fs (arriveTo P m) := by
  have hL := h.log.arrive G hm
  unfold arriveTo at hI hL ⊢
  by_cases hk : m.k ≤ 3
  · rw [if_pos hk] at hI hL ⊢
    refine ⟨hI, hL, h.clk, h.six, h.acc, fun b b1 b3 a => ?_, h.sums⟩
    show openedOf a (upd P.E m.t (hEvsOf m (P.E m.t)) b) = _
    by_cases e : b = m.t
    · rw [e, upd_self, opened_after, ← e]; exact h.opn b b1 b3 a
    · rw [upd_ne _ _ e]; exact h.opn b b1 b3 a
  · rw [if_neg hk] at hI hL ⊢
    obtain ⟨k1, k2⟩ := msg_kind (m := m) (by omega)
    refine ⟨hI, hL, by show clockOf (P.A ++ [msgAct m]) ≤ _; rw [clock_other k2]; exact h.clk, fun i hi => ?_, fun i hi l x hx => ?_, h.opn, h.sums⟩
    · have hi' : fnd (P.A ++ [msgAct m]) i = true := hi
      rw [(pay_other k1 i).1] at hi'
      exact h.six i hi'
    · have hi' : fnd (P.A ++ [msgAct m]) i = true := hi
      have hx' : (payO (P.A ++ [msgAct m]) i).legs[l]? = some x := hx
      rw [(pay_other k1 i).1] at hi'
      rw [(pay_other k1 i).2] at hx'
      exact h.acc i hi' l x hx'
theorem Sound.take {fs : List Int} {P : PN} (h : Sound fs P) (G : Good P) {m : Msg} (hm : OnW P m) (hI : NInv (arriveTo P m)) : Sound fs (takeTo P m) := by
  obtain ⟨e1, e2, e3, e4, e5, r, e6⟩ := take_arrive P m
  have hs : (arriveTo P m).sm = P.sm := by unfold arriveTo; split <;> rfl
  exact (h.arrive G hm hI).lose e1 e2 e3 (by rw [e5, hs]) (fun y hy => by rw [e6]; rw [e4] at hy; exact List.mem_append_left _ hy)
theorem Sound.tick {fs : List Int} {P : PN} (h : Sound fs P) {ms : List Msg} (hT : TickSays P.A ms) {ck : Nat} {ps : List Xp} (hd : DRel (kActs P.A) ck ps) : Sound fs (tickTo P ms) := by
  have hI := tick_inv h.inv hT hd
  have hL := h.log.tick ms
  by_cases hc : 1000000 ≤ clockOf P.A
  · have e : kActs P.A = P.A := if_pos hc
    unfold tickTo at hI hL ⊢
    rw [e] at hI hL ⊢
    exact ⟨hI, hL, h.clk, h.six, h.acc, h.opn, h.sums⟩
  · have e : kActs P.A = P.A ++ [tickAct] := if_neg hc
    unfold tickTo at hI hL ⊢
    rw [e] at hI hL ⊢
    have k1 : tickAct.kind ≠ -1 := by show (0 : Int) ≠ -1; omega
    refine ⟨hI, hL, ?_, fun i hi => ?_, fun i hi l x hx => ?_, h.opn, h.sums⟩
    · show clockOf (P.A ++ [tickAct]) ≤ _
      rw [clockOf_snoc]
      unfold clockStep
      split <;> omega
    · have hi' : fnd (P.A ++ [tickAct]) i = true := hi
      rw [(pay_other k1 i).1] at hi'
      exact h.six i hi'
    · have hi' : fnd (P.A ++ [tickAct]) i = true := hi
      have hx' : (payO (P.A ++ [tickAct]) i).legs[l]? = some x := hx
      rw [(pay_other k1 i).1] at hi'
      rw [(pay_other k1 i).2] at hx'
      exact h.acc i hi' l x hx'
theorem Sound.tickB {fs : List Int} {P : PN} (h : Sound fs P) {ck : Nat} {ps : List Xp} (hd : DRel P.A ck ps) {b : Nat} (hb : 1 ≤ b ∧ b ≤ 3) {ac : List Ac} {ls : List Lg} (hr : Rel (P.E b) ac ls) : Sound fs { P with wire := P.wire ++ tickM b ls } :=
  h.wire (h.inv.tickB hd hb hr rfl rfl (fun y hy => List.mem_append.1 hy)) rfl rfl rfl rfl
/-! a step -/
structure Stp where
  k : Int
  a : Int
  b : Int
  legs : List Pl
def memoF : List UInt8 := [102, 195, 188, 114, 32, 100, 105, 99, 104]
def stepPm (P : PN) (s : Stp) : Pm := ⟨1 + pickN s.a 6, clockOf P.A + 1 + pickN s.b 9, memoF, legsOf s.legs, none, 0⟩
theorem memoF_ok : memoB memoF = true := by decide
theorem legs_right {L : List Pl} (hn : 1 ≤ L.length ∧ L.length ≤ 4) (hx : ∀ x, x ∈ L → 1 ≤ x.b ∧ x.b ≤ 3 ∧ 1 ≤ x.a) {id d lc : Nat} {la : Option Addr} {m : List UInt8} (hm : memoB m = true) : wrongOf ⟨id, d, m, L, la, lc⟩ = 0 := by
  have hl : ∀ L' : List Pl, (∀ x, x ∈ L' → 1 ≤ x.b ∧ x.b ≤ 3 ∧ 1 ≤ x.a) → legsErr L' = 0 := by
    intro L'
    induction L' with
    | nil => intro _; rfl
    | cons y r ih =>
      intro h
      have h1 := h y (by simp)
      have : plErr y = 0 := by unfold plErr; rw [if_neg (by omega), if_neg (by omega)]
      unfold legsErr
      rw [if_pos this]
      exact ih (fun x hx => h x (by simp [hx]))
  have h0 : legsErr L = 0 := hl L hx
  have hne : ¬ (L.length = 0 ∨ 4 < L.length) := by omega
  simp only [wrongOf, if_neg hne, if_pos h0, hm, if_true]
theorem step_right (P : PN) (s : Stp) (hs : ∀ x, x ∈ s.legs → x.ok) : wrongOf (stepPm P s) = 0 := by
  obtain ⟨h1, h2, h3⟩ := legsOf_ok hs
  exact legs_right ⟨h2, h3⟩ (fun x hx => ⟨(h1 x hx).2.1, (h1 x hx).2.2.1, (h1 x hx).2.2.2.2.2⟩) memoF_ok
theorem step_ok (P : PN) (s : Stp) (hs : ∀ x, x ∈ s.legs → x.ok) (hc : clockOf P.A ≤ 1000000) : (stepPm P s).ok := by
  have h6 : pickN s.a 6 < 6 := Nat.mod_lt _ (by omega)
  have h9 : pickN s.b 9 < 9 := Nat.mod_lt _ (by omega)
  exact ⟨by show 1 + pickN s.a 6 < 4294967296; omega, by show clockOf P.A + 1 + pickN s.b 9 < 18446744073709551616; omega, fun x hx => ((legsOf_ok hs).1 x hx).1⟩
/-- at most six payments -/
theorem six_few {fs : List Int} {P : PN} (h : Sound fs P) {ck : Nat} {ps : List Xp} (hd : DRel P.A ck ps) : ps.length ≤ 6 := by
  have h1 : (ps.map fun y => y.pm.id).Pairwise (· ≠ ·) := by
    rw [List.pairwise_map]
    rw [List.pairwise_iff_getElem]
    intro i j hi hj hij
    have := hd.sort i j hi hj hij
    omega
  have h2 : ∀ x, x ∈ (ps.map fun y => y.pm.id) → x ∈ [1, 2, 3, 4, 5, 6] := by
    intro x hx
    obtain ⟨y, hy, rfl⟩ := List.mem_map.1 hx
    have hf : findX y.pm.id ps < ps.length := by
      rcases Nat.lt_or_ge (findX y.pm.id ps) ps.length with h | h
      · exact h
      · exact absurd rfl ((findX_none _ _).1 h y hy)
    have h6 := h.six y.pm.id (hd.find_in _ hf).1
    have : y.pm.id = 1 ∨ y.pm.id = 2 ∨ y.pm.id = 3 ∨ y.pm.id = 4 ∨ y.pm.id = 5 ∨ y.pm.id = 6 := by omega
    simpa using this
  have := nodup_le _ _ h1 h2
  simpa using this
/-- Submit: a new one, or one that is there -/
theorem step_sub {fs : List Int} {P : PN} (h : Sound fs P) {ck : Nat} {ps : List Xp} (hd : DRel P.A ck ps) (s : Stp) (hs : ∀ x, x ∈ s.legs → x.ok) :
    (fnd P.A (stepPm P s).id = false ∧ subIs (stepPm P s) P.A) ∨ (fnd P.A (stepPm P s).id = true ∧ ¬ subIs (stepPm P s) P.A) := by
  have hw := step_right P s hs
  cases hf : fnd P.A (stepPm P s).id with
  | false =>
    refine .inl ⟨rfl, hw, hf, by show clockOf P.A < clockOf P.A + 1 + pickN s.b 9; omega, ?_⟩
    rw [hd.cnt]
    have := six_few h hd
    omega
  | true => exact .inr ⟨rfl, fun e => by have := e.2.1; rw [show (findOf (stepPm P s).id P.A).2.1 = fnd P.A (stepPm P s).id from rfl, hf] at this; cases this⟩
theorem step_err {fs : List Int} {P : PN} (h : Sound fs P) {ck : Nat} {ps : List Xp} (hd : DRel P.A ck ps) (s : Stp) (hs : ∀ x, x ∈ s.legs → x.ok) : subErr (stepPm P s) P.A = 0 ∨ subErr (stepPm P s) P.A = 11 := by
  rcases step_sub h hd s hs with ⟨_, hi⟩ | ⟨hf, _⟩
  · exact .inl (subIs_err hi)
  · unfold subErr
    rw [if_pos (step_right P s hs), if_pos (show (findOf (stepPm P s).id P.A).2.1 = true from hf)]
    split
    · exact .inl rfl
    · exact .inr rfl
theorem Sound.sub {fs : List Int} {P : PN} (h : Sound fs P) {ck : Nat} {ps : List Xp} (hd : DRel P.A ck ps) (s : Stp) (hs : ∀ x, x ∈ s.legs → x.ok) : Sound fs (subTo P (stepPm P s)) := by
  have hok := step_ok P s hs h.clk
  have hL := h.log.sub hok
  obtain ⟨l1, l2, l3⟩ := legsOf_ok hs
  have hleg : ∀ (l : Nat) (x : Pl), (core (stepPm P s)).legs[l]? = some x → 1 ≤ x.b ∧ x.b ≤ 3 ∧ x.p < 3 ∧ x.g < 3 := fun l x hx => by
    have := l1 x (List.mem_of_getElem? (show (legsOf s.legs)[l]? = some x from hx))
    exact ⟨this.2.1, this.2.2.1, this.2.2.2.1, this.2.2.2.2.1⟩
  have h6 : pickN s.a 6 < 6 := Nat.mod_lt _ (by omega)
  rcases step_sub h hd s hs with ⟨hf, hi⟩ | ⟨hf, hi⟩
  · have e1 : subActs (stepPm P s) (core (stepPm P s)) P.A = P.A ++ [⟨-1, core (stepPm P s), zeroMsg⟩] := if_pos hi
    have e2 : subMs (stepPm P s) P.A = asksM (core (stepPm P s)) 1 0 := if_pos hi
    obtain ⟨c, qs, r1, _⟩ := ((AlikeD.refl hd).sub hok hi (q := core (stepPm P s)) (q' := core (stepPm P s)) rfl rfl).2
    have hI : NInv (subTo P (stepPm P s)) := by
      refine h.inv.submit hd (q := core (stepPm P s)) hf (fun l x hx => ⟨(hleg l x hx).1, (hleg l x hx).2.1⟩) ⟨c, qs, r1⟩ rfl e1 (fun y hy => ?_)
      have hy' : y ∈ P.wire ++ subMs (stepPm P s) P.A := hy
      rw [e2] at hy'
      exact List.mem_append.1 hy'
    have hfn := fun i => find_new (A := P.A) (core (stepPm P s)) i
    refine ⟨hI, hL, ?_, fun i hi' => ?_, fun i hi' l x hx => ?_, h.opn, h.sums⟩
    · show clockOf (subActs (stepPm P s) (core (stepPm P s)) P.A) ≤ _
      rw [e1, clock_other (by show (-1 : Int) ≠ 0; omega)]
      exact h.clk
    · have hi2 : fnd (subActs (stepPm P s) (core (stepPm P s)) P.A) i = true := hi'
      rw [e1, (hfn i).1] at hi2
      by_cases e : (core (stepPm P s)).id = i
      · rw [← e]
        show 1 ≤ 1 + pickN s.a 6 ∧ 1 + pickN s.a 6 ≤ 6
        omega
      · exact h.six i (by simpa [e] using hi2)
    · have hi2 : fnd (subActs (stepPm P s) (core (stepPm P s)) P.A) i = true := hi'
      have hx2 : (payO (subActs (stepPm P s) (core (stepPm P s)) P.A) i).legs[l]? = some x := hx
      rw [e1, (hfn i).1] at hi2
      rw [e1, (hfn i).2] at hx2
      by_cases e : (core (stepPm P s)).id = i
      · rw [if_pos e] at hx2
        exact ⟨(hleg l x hx2).2.2.1, (hleg l x hx2).2.2.2⟩
      · rw [if_neg e] at hx2
        exact h.acc i (by simpa [e] using hi2) l x hx2
  · have e1 : subActs (stepPm P s) (core (stepPm P s)) P.A = P.A := if_neg hi
    have e3 : subLog (stepPm P s) P.A = [] := if_neg hi
    have e4 : (subTo P (stepPm P s)).lg = P.lg := by
      show upd P.lg 0 (P.lg 0 ++ subLog (stepPm P s) P.A) = P.lg
      rw [e3, List.append_nil, upd_same]
    refine h.wire (h.inv.says hd rfl e1 (fun m hm => ?_)) rfl e1 e4 rfl
    have hm' : m ∈ P.wire ++ subMs (stepPm P s) P.A := hm
    rcases List.mem_append.1 hm' with hm' | hm'
    · exact .inl hm'
    · right
      unfold subMs at hm'
      rw [if_neg hi] at hm'
      split at hm'
      · obtain ⟨l, x, hx, he⟩ := remindM_mem _ _ _ hm'
        exact ⟨(stepPm P s).id, l, x, hf, hx, he⟩
      · cases hm'
end Go.Proofs.YtjkhbjgfoopomabGreat
/-
  Plain: one payment that all can pay is paid.
-/
namespace Go.Proofs.YtjkhbjgfoopomabGreat
set_option linter.unusedVariables false
set_option linter.unusedSimpArgs false
/-- legs of a payment that all can pay -/
structure Payable (L : List Pl) : Prop where
  n : 1 ≤ L.length ∧ L.length ≤ 4
  x : ∀ (l : Nat) (x : Pl), L[l]? = some x → 1 ≤ x.b ∧ x.b ≤ 3 ∧ x.p < 3 ∧ x.g < 3
section
variable {L : List Pl} {P Q : PN} {m : Msg}
/-- no leg has been carried out: the balances are what was opened; what is held is little -/
theorem bal_still (C : PrC L P) (G : Good P) (H : Payable L) (B : Nat) (hB : ∀ (l : Nat) (x : Pl), L[l]? = some x → (legOf 9 l (P.E x.b)).1 = 1 → x.a ≤ B) (hne : ∀ (l : Nat) (x : Pl), L[l]? = some x → (legOf 9 l (P.E x.b)).1 ≠ 3) {b : Nat} (hb : 1 ≤ b ∧ b ≤ 3) {a : Nat} (ha : a < 3) :
    balOf a (P.E b) = 1000 ∧ heldOf a (P.E b) ≤ (keysOf (P.E b)).length * B ∧ dueOf a (P.E b) ≤ (keysOf (P.E b)).length * B := by
  obtain ⟨hin, _⟩ := keys_few C G hb
  have ho := C.op b hb.1 hb.2 a ha
  have hst : ∀ x, x ∈ keysOf (P.E b) → (legOf x.1 x.2 (P.E b)).1 ≠ 3 := fun x hx => by
    obtain ⟨h9, y, hy, hyb⟩ := hin x hx
    have := hne x.2 y hy
    rw [hyb] at this
    rw [h9]
    exact this
  have hterm : ∀ x, x ∈ keysOf (P.E b) → (legOf x.1 x.2 (P.E b)).1 = 1 → (legOf x.1 x.2 (P.E b)).2.2 = true → (legOf x.1 x.2 (P.E b)).2.1.a ≤ B := fun x hx h1 hT => by
    obtain ⟨h9, y, hy, hyb⟩ := hin x hx
    have h2 := G.inv.terms b x.1 x.2 y hb.1 hb.2 hT (by rw [h9, C.legs]; exact hy)
    rw [h2]
    have h3 := hB x.2 y hy (by rw [hyb, ← h9]; exact h1)
    unfold askMsg
    simp only [if_true]
    exact h3
  have hout : outOf a (P.E b) (keysOf (P.E b)) = 0 := sumBy_zero _ _ (fun x hx => by unfold amtPay; rw [if_neg (fun c => hst x hx c.2.1)])
  have hinn : inOf a (P.E b) (keysOf (P.E b)) = 0 := sumBy_zero _ _ (fun x hx => by unfold amtGet; rw [if_neg (fun c => hst x hx c.2.1)])
  refine ⟨by unfold balOf; rw [hout, hinn, ho.1], sumBy_bd _ _ B (fun x hx => ?_), sumBy_bd _ _ B (fun x hx => ?_)⟩
  · unfold amtPay
    split
    · rename_i c; exact hterm x hx c.2.1 c.1
    · omega
  · unfold amtGet
    split
    · rename_i c; exact hterm x hx c.2.1 c.1
    · omega
theorem PrOk.step (J : PrOk L P) (H : Payable L) (h250 : ∀ (l : Nat) (x : Pl), L[l]? = some x → x.a ≤ 250) (G : Good P) (hm : m ∈ P.wire) (hA : After P Q m) : PrOk L Q := by
  have hw := G.inv.wire m hm
  have C := J.c
  have hC := C.step G hw hA
  obtain ⟨ck, ps, hd⟩ := G.dr
  have hkk := hw.1.kinds
  have hold : ∀ y, y ∈ P.wire → y.k ≠ m.k ∨ y.l ≠ m.l → y ∈ Q.wire := fun y hy h => by
    rcases hA.wire.old y hy with e | e
    · subst e; rcases h with h | h <;> exact absurd rfl h
    · exact e
  by_cases hk : m.k ≤ 3
  · obtain ⟨x0, hx0, hb0, hi9, h1, h2, hme, h0⟩ := leg_kinds C G hw hk
    obtain ⟨hE, hAA⟩ := hA.bank hk
    have hans : bankAns m.t m (P.E m.t) ∈ Q.wire := hA.wire.new _ (by unfold arrOuts; rw [if_pos hk]; simp)
    have hL0 := leg_of C G hx0
    rw [hb0] at hL0
    have hnd0 := J.nd m.l x0 hx0
    rw [hb0] at hnd0
    obtain ⟨a1, a2, a3⟩ := leg_after h0 ⟨hkk.1, hk⟩
    rw [hi9] at a1 a2 a3
    have hst := J.st
    -- which kinds there are
    have hk12 : m.k = 1 ∨ m.k = 2 := by
      have : m.k = 1 ∨ m.k = 2 ∨ m.k = 3 := by omega
      rcases this with h | h | h
      · exact .inl h
      · exact .inr h
      · obtain ⟨x, hx, hs⟩ := hw.2.2
        rcases hs with ⟨_, _, _, h3⟩ | ⟨h4, _⟩
        · have := h3 h
          rw [hi9] at this
          omega
        · omega
    -- the leg behind it
    have hls : (legOf 9 m.l (hEvsOf m (P.E m.t))).1 ≠ 2 ∧ (m.k = 1 → (stA P.A 9).1 = 1 → (legOf 9 m.l (hEvsOf m (P.E m.t))).1 = 1) ∧ (m.k = 2 → (legOf 9 m.l (hEvsOf m (P.E m.t))).1 = 3) ∧ ((legOf 9 m.l (P.E m.t)).1 = 3 → (legOf 9 m.l (hEvsOf m (P.E m.t))).1 = 3) := by
      rcases hk12 with h | h
      · have hv := a1 h
        by_cases hz : (legOf 9 m.l (P.E m.t)).1 = 0
        · have hcan : canB m (P.E m.t) = true := by
            have hst1 : (stA P.A 9).1 = 1 := by
              rcases hst with e | e
              · exact e
              · have := (hL0.2.1 e).1; omega
            have hne3 : ∀ (l : Nat) (x : Pl), L[l]? = some x → (legOf 9 l (P.E x.b)).1 ≠ 3 := fun l x hx => by
              have := (leg_of C G hx).1 hst1
              omega
            obtain ⟨_, _, hp3, hg3⟩ := H.x m.l x0 hx0
            have hmp : m.p = x0.p ∧ m.g = x0.g ∧ m.a = x0.a := by
              rw [hme, h]
              unfold askMsg
              simp
            have hkl := (keys_few C G ⟨h1, h2⟩).2 m.l (List.getElem?_eq_some_iff.1 hx0).1 H.n.2 hz
            have b1 := bal_still C G H 250 (fun l x hx _ => h250 l x hx) hne3 ⟨h1, h2⟩ hp3
            have b2 := bal_still C G H 250 (fun l x hx _ => h250 l x hx) hne3 ⟨h1, h2⟩ hg3
            have o1 := C.op m.t h1 h2 x0.p hp3
            have o2 := C.op m.t h1 h2 x0.g hg3
            have ha := h250 m.l x0 hx0
            have hb1 : heldOf x0.p (P.E m.t) ≤ 3 * 250 := Nat.le_trans b1.2.1 (Nat.mul_le_mul_right _ hkl)
            have hb2 : dueOf x0.g (P.E m.t) ≤ 3 * 250 := Nat.le_trans b2.2.2 (Nat.mul_le_mul_right _ hkl)
            unfold canB
            rw [hmp.1, hmp.2.1, hmp.2.2, o1.2, o2.2, b1.1, b2.1]
            simp
            omega
          rw [if_pos hz, hcan] at hv
          rw [hv]
          exact ⟨by simp, fun _ _ => rfl, fun e => by omega, fun e => by omega⟩
        · rw [if_neg hz] at hv
          rw [hv]
          refine ⟨hnd0, fun _ e => ?_, fun e => by omega, fun e => e⟩
          have := (hL0.1 e).1
          omega
      · have hv := (a2 h).2
        rw [hv]
        exact ⟨by simp, fun e => by omega, fun _ => rfl, fun _ => rfl⟩
    have hlegs : ∀ l x, L[l]? = some x → (legOf 9 l (Q.E x.b)).1 = if l = m.l then (legOf 9 m.l (hEvsOf m (P.E m.t))).1 else (legOf 9 l (P.E x.b)).1 := fun l x hx => by
      rw [ls_bank hA hk]
      by_cases e : l = m.l
      · subst e
        have : x = x0 := by rw [hx0] at hx; injection hx with hx; exact hx.symm
        subst this
        rw [if_pos ⟨hb0, hi9.symm, rfl⟩, if_pos rfl, hi9]
      · rw [if_neg (fun c => e c.2.2), if_neg e]
    have ek : (bankAns m.t m (P.E m.t)).k = kindFor (legOf 9 m.l (hEvsOf m (P.E m.t))).1 := by
      show kindFor (legOf m.i m.l (hEvsOf m (P.E m.t))).1 = _
      rw [hi9]
    have el : (bankAns m.t m (P.E m.t)).l = m.l := rfl
    refine ⟨hC, by rw [hAA]; exact J.st, fun l x hx => ?_, fun e l x hx => ?_, fun e l x hx => ?_⟩
    · rw [hlegs l x hx]
      split
      · exact hls.1
      · exact J.nd l x hx
    · rw [hAA] at e ⊢
      rcases J.ob1 e l x hx with h | ⟨y, hy, hyl, hyk⟩
      · exact .inl h
      · by_cases hym : y.l = m.l
        · right
          have h1k : m.k = 1 := by
            rcases hk12 with h | h
            · exact h
            · obtain ⟨x', hx', hs⟩ := hw.2.2
              rcases hs with ⟨_, _, h2', _⟩ | ⟨h4, _⟩
              · have := h2' h
                rw [hi9] at this
                omega
              · omega
          refine ⟨_, hans, by rw [el, ← hym, hyl], .inr ?_⟩
          rw [ek, hls.2.1 h1k e]
          rfl
        · exact .inr ⟨y, hold y hy (.inr hym), hyl, hyk⟩
    · rw [hAA] at e
      rw [hlegs l x hx]
      by_cases elm : l = m.l
      · rw [if_pos elm]
        subst elm
        rcases hk12 with h | h
        · rcases J.ob2 e m.l x hx with h3 | ⟨y, hy, hyl, hyk⟩
          · have hxx : x = x0 := by rw [hx0] at hx; injection hx with hx; exact hx.symm
            subst hxx
            rw [hb0] at h3
            exact .inl (hls.2.2.2 h3)
          · exact .inr ⟨y, hold y hy (.inl (by omega)), hyl, hyk⟩
        · exact .inl (hls.2.2.1 h)
      · rw [if_neg elm]
        rcases J.ob2 e l x hx with h3 | ⟨y, hy, hyl, hyk⟩
        · exact .inl h3
        · exact .inr ⟨y, hold y hy (.inr (by omega)), hyl, hyk⟩
  · obtain ⟨hE, hAA⟩ := hA.note hk
    have hn : (msgAct m).kind ≠ -1 := by show ((m.k : Int)) ≠ -1; omega
    have hp := fun i => pay_other (A := P.A) hn i
    have hi9 : m.i = 9 := C.only m.i hw.2.1
    obtain ⟨s4, s5, s6⟩ := note_st hd hw.2.1 (m := m) ⟨by omega, hkk.2.1⟩
    have hsay := fun h1 h2 h6 l x hx => says_all (A := P.A) (m := m) h1 h2 (hp m.i).2 h6 (l := l) (x := x) hx
    rw [hi9] at s4 s5 s6 hsay
    obtain ⟨xm, hxm, hside⟩ := hw.2.2
    rw [hi9, C.legs] at hxm
    have a5 : m.k ≠ 5 := fun h5 => by
      rcases hside with ⟨h3, _⟩ | ⟨_, _, _, a5, _⟩
      · omega
      · have h := a5 h5
        rw [hi9] at h
        have h2 := J.nd m.l xm hxm
        have hL := leg_of C G hxm
        rcases J.st with e | e
        · have := (hL.1 e).1; omega
        · have := (hL.2.1 e).1; omega
    have hk46 : m.k = 4 ∨ m.k = 6 := by omega
    have hS := hd.stand C.f9
    have hfew : L.length ≤ 4 := H.n.2
    have hh16 := pow_16 hS.few hS.room
    have hl4 := hkk.2.2.1
    have hnew : ∀ l x, L[l]? = some x → (stA P.A 9).1 = 1 → (stA (P.A ++ [msgAct m]) 9).1 = 2 → ∃ y, y ∈ Q.wire ∧ y.l = l ∧ y.k = 2 := fun l x hx e1 e2 => by
      have h6 : m.k ≠ 6 := fun h6 => by rw [s6 h6] at e2; simp only at e2; omega
      have h := hsay e1 (by omega) h6 l x (by rw [C.legs]; exact hx)
      have hq := ask_parts (payO P.A 9) x l (askKind (stA (P.A ++ [msgAct m]) 9).1)
      refine ⟨_, hA.wire.new _ (by unfold arrOuts; rw [if_neg hk]; exact h), hq.2.2.2.2, ?_⟩
      rw [hq.1, e2]
      rfl
    refine ⟨hC, ?_, by rw [hE]; exact J.nd, fun e l x hx => ?_, fun e l x hx => ?_⟩
    · rw [hAA]
      rcases hk46 with h | h
      · rw [s4 h]
        split
        · simp only
          split
          · exact .inr rfl
          · exact .inl rfl
        · exact J.st
      · rw [s6 h]; exact J.st
    · rw [hAA] at e ⊢
      have hll : l < 4 := by have := (List.getElem?_eq_some_iff.1 hx).1; omega
      rcases hk46 with h | h
      · have e1 : (stA P.A 9).1 = 1 := by
          rcases J.st with h1 | h1
          · exact h1
          · rw [s4 h, if_neg (by omega)] at e; omega
        have hbits : (stA (P.A ++ [msgAct m]) 9).2.1 = withOf (stA P.A 9).2.1 m.l := by rw [s4 h, if_pos e1]
        rw [hbits, bit_with _ _ _ hh16 hl4 hll]
        by_cases hlm : l = m.l
        · left; simp [hlm]
        · rcases J.ob1 e1 l x hx with hb | ⟨y, hy, hyl, hyk⟩
          · left; simp [hb]
          · right
            exact ⟨y, hold y hy (.inr (by omega)), hyl, hyk⟩
      · have e1 : (stA P.A 9).1 = 1 := by rw [s6 h] at e; exact e
        have hbits : (stA (P.A ++ [msgAct m]) 9).2.1 = (stA P.A 9).2.1 := by rw [s6 h]
        rw [hbits]
        rcases J.ob1 e1 l x hx with hb | ⟨y, hy, hyl, hyk⟩
        · exact .inl hb
        · exact .inr ⟨y, hold y hy (.inl (by omega)), hyl, hyk⟩
    · rw [hAA] at e
      rw [hE]
      rcases J.st with e1 | e2
      · exact .inr (hnew l x hx e1 e)
      · rcases J.ob2 e2 l x hx with h3 | ⟨y, hy, hyl, hyk⟩
        · exact .inl h3
        · exact .inr ⟨y, hold y hy (.inl (by omega)), hyl, hyk⟩
/-- nothing is on the wire any more: it is carried out -/
theorem PrOk.end_ (J : PrOk L P) (H : Payable L) (G : Good P) (hw : P.wire = []) : (stA P.A 9).1 = 2 ∧ ∀ l x, L[l]? = some x → (legOf 9 l (P.E x.b)).1 = 3 := by
  have C := J.c
  obtain ⟨ck, ps, hd⟩ := G.dr
  have hS := hd.stand C.f9
  have hno : ∀ y, y ∉ P.wire := fun y hy => by rw [hw] at hy; cases hy
  have h2 : (stA P.A 9).1 = 2 := by
    rcases J.st with e | e
    · exfalso
      refine C.nf e ?_
      have hroom := hS.room
      rw [C.legs] at hroom
      have hall : ∀ n, n ≤ L.length → allTo (stA P.A 9).2.1 n = true := by
        intro n
        induction n with
        | zero => intro _; rfl
        | succ n ih =>
          intro hn
          have hx : L[n]? = some L[n] := List.getElem?_eq_getElem (by omega)
          rcases J.ob1 e n _ hx with hb | ⟨y, hy, _⟩
          · simp only [allTo, ih (by omega), hb, Bool.and_self]
          · exact absurd hy (hno y)
      have h := full_all (stA P.A 9).2.1 L.length H.n.2 hroom
      rw [hall L.length (Nat.le_refl _)] at h
      simpa using h.symm
    · exact e
  refine ⟨h2, fun l x hx => ?_⟩
  rcases J.ob2 h2 l x hx with h | ⟨y, hy, _⟩
  · exact h
  · exact absurd hy (hno y)
end
end Go.Proofs.YtjkhbjgfoopomabGreat
