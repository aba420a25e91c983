import Derived.Test.YtjkhbjgfoopomabGreatS31
/-
  Plain: two histories of a notary that stand alike.
-/
namespace Go.Proofs.YtjkhbjgfoopomabGreat
set_option linter.unusedVariables false
set_option linter.unusedSimpArgs false
/-- a payment as the notary keeps it, wherever its legs lie -/
def xcore (y : Xp) : Xp := ⟨core y.pm, y.st, y.held, y.done⟩
def Twin (ps qs : List Xp) : Prop := ps.map xcore = qs.map xcore
theorem sorted_same : ∀ (a b : List Pm), a.Pairwise (fun x y => x.id < y.id) → b.Pairwise (fun x y => x.id < y.id) → (∀ p, p ∈ a ↔ p ∈ b) → a = b
  | [], [], _, _, _ => rfl
  | [], y :: b, _, _, h => by have := (h y).2 (by simp); simp at this
  | x :: a, [], _, _, h => by have := (h x).1 (by simp); simp at this
  | x :: a, y :: b, ha, hb, h => by
    rw [List.pairwise_cons] at ha hb
    have e : x = y := by
      rcases List.mem_cons.1 ((h x).1 (by simp)) with h1 | h1
      · exact h1
      · rcases List.mem_cons.1 ((h y).2 (by simp)) with h2 | h2
        · exact h2.symm
        · have h3 := ha.1 y h2
          have h4 := hb.1 x h1
          omega
    subst e
    congr 1
    refine sorted_same a b ha.2 hb.2 (fun p => ⟨fun hp => ?_, fun hp => ?_⟩)
    · rcases List.mem_cons.1 ((h p).1 (by simp [hp])) with h1 | h1
      · subst h1
        have := ha.1 p hp
        omega
      · exact h1
    · rcases List.mem_cons.1 ((h p).2 (by simp [hp])) with h1 | h1
      · subst h1
        have := hb.1 p hp
        omega
      · exact h1
theorem Pays.uniq {A : List Dt} {qs rs : List Pm} (h : Pays A qs) (h2 : Pays A rs) : qs = rs :=
  sorted_same qs rs h.sort h2.sort (fun p => by rw [h.mem, h2.mem])
theorem map_get {α β γ : Type} {f : α → β} {g : α → γ} : ∀ {l r : List α}, (l.map f = r.map f) → (∀ x y, x ∈ l → y ∈ r → f x = f y → g x = g y) → l.map g = r.map g
  | [], [], _, _ => rfl
  | [], _ :: _, h, _ => by simp at h
  | _ :: _, [], h, _ => by simp at h
  | x :: l, y :: r, h, hg => by
    simp only [List.map_cons, List.cons.injEq] at h ⊢
    exact ⟨hg x y (by simp) (by simp) h.1, map_get h.2 (fun a b ha hb => hg a b (by simp [ha]) (by simp [hb]))⟩
/-- what a history says is one thing -/
theorem DRel.uniq {A : List Dt} {ck ck' : Nat} {ps qs : List Xp} (h : DRel A ck ps) (h2 : DRel A ck' qs) : ck = ck' ∧ Twin ps qs := by
  refine ⟨h.clk.trans h2.clk.symm, ?_⟩
  obtain ⟨a, ha, ea⟩ := h.pays
  obtain ⟨b, hb, eb⟩ := h2.pays
  have e := ha.uniq hb
  subst e
  show ps.map xcore = qs.map xcore
  refine map_get (f := fun y : Xp => core y.pm) (ea.symm.trans eb) (fun x y hx hy hc => ?_)
  have g1 := h.good x hx
  have g2 := h2.good y hy
  have hc' : core x.pm = core y.pm := hc
  have es : stOf x.pm A = stOf y.pm A := by rw [← core_st x.pm, ← core_st y.pm, hc']
  unfold xcore
  rw [hc', g1.st, g1.held, g1.done, g2.st, g2.held, g2.done, es]
theorem wrong_cores (p : Pm) : wrongOf (core p) = wrongOf p := rfl
theorem Twin.mem {ps qs : List Xp} (h : Twin ps qs) {y : Xp} (hy : y ∈ qs) : ∃ x, x ∈ ps ∧ xcore x = xcore y := by
  have : xcore y ∈ qs.map xcore := List.mem_map_of_mem hy
  rw [← (show ps.map xcore = qs.map xcore from h)] at this
  obtain ⟨x, hx, e⟩ := List.mem_map.1 this
  exact ⟨x, hx, e⟩
theorem Twin.len {ps qs : List Xp} (h : Twin ps qs) : ps.length = qs.length := by
  have := congrArg List.length (show ps.map xcore = qs.map xcore from h)
  simpa using this
theorem xcore_parts {x y : Xp} (h : xcore x = xcore y) : core x.pm = core y.pm ∧ x.st = y.st ∧ x.held = y.held ∧ x.done = y.done := by
  unfold xcore at h
  simp only [Xp.mk.injEq] at h
  exact h
theorem DRel.recore {A : List Dt} {ck : Nat} {ps qs : List Xp} (h : DRel A ck ps) (hT : Twin ps qs) (hf : ∀ y, y ∈ qs → y.fine) : DRel A ck qs := by
  have hlen := hT.len
  refine ⟨h.clk, h.ok, h.few, h.pay, fun y hy => ?_, ?_, fun id => by rw [← hlen]; exact h.cnt id, by rw [← hlen]; exact h.len, fun p hp => h.new p (fun y hy e => ?_)⟩
  · obtain ⟨x, hx, e⟩ := hT.mem hy
    obtain ⟨hc, e1, e2, e3⟩ := xcore_parts e
    have g := h.good x hx
    have es : stOf x.pm A = stOf y.pm A := by rw [← core_st x.pm, ← core_st y.pm, hc]
    have ew : wrongOf y.pm = 0 := by rw [← wrong_cores, ← hc, wrong_cores]; exact g.right
    have el : x.pm.legs = y.pm.legs := legs_core hc
    exact ⟨hf y hy, ew, by rw [← e1, g.st, es], by rw [← e2, g.held, es], by rw [← e3, g.done, es], by rw [← e2, ← el]; exact g.room⟩
  · obtain ⟨a, ha, ea⟩ := h.pays
    refine ⟨a, ha, ea.trans ?_⟩
    refine map_get (f := xcore) (g := fun y : Xp => core y.pm) hT (fun x y _ _ e => (xcore_parts e).1)
  · obtain ⟨x, hx, e'⟩ := Twin.mem (ps := qs) (qs := ps) (by exact (Eq.symm hT : qs.map xcore = ps.map xcore)) hy
    exact hp x hx ((core_id (xcore_parts e').1).trans e)
/-- two histories that say the same of a notary -/
def AlikeD (A A' : List Dt) : Prop := ∃ ck ps, DRel A ck ps ∧ DRel A' ck ps
theorem AlikeD.refl {A : List Dt} {ck : Nat} {ps : List Xp} (h : DRel A ck ps) : AlikeD A A := ⟨ck, ps, h, h⟩
theorem AlikeD.to {A A' : List Dt} (h : AlikeD A A') {ck : Nat} {ps : List Xp} (hD : DRel A' ck ps) : DRel A ck ps := by
  obtain ⟨c, qs, h1, h2⟩ := h
  obtain ⟨rfl, hT⟩ := h2.uniq hD
  exact h1.recore hT (fun y hy => (hD.good y hy).fine)
theorem AlikeD.tick {A A' : List Dt} (h : AlikeD A A') : AlikeD (A ++ [tickAct]) (A' ++ [tickAct]) := by
  obtain ⟨c, qs, h1, h2⟩ := h
  exact ⟨c + 1, _, h1.tick, h2.tick⟩
theorem AlikeD.clock {A A' : List Dt} (h : AlikeD A A') : clockOf A' = clockOf A := by
  obtain ⟨c, qs, h1, h2⟩ := h
  rw [← h1.clk, ← h2.clk]
/-- a frame that is taken in, by what is kept -/
theorem DRel.heard {A : List Dt} {ck : Nat} {ps : List Xp} (h : DRel A ck ps) {m : Msg} (hm : Fair m) (ht : m.t = 0) :
    (ps.length ≤ findX m.i ps → tErr (encOf m) A = 13) ∧
    ∀ hj : findX m.i ps < ps.length, (hasLegB ps[findX m.i ps].pm m.l m.f = false → tErr (encOf m) A = 13) ∧
      (hasLegB ps[findX m.i ps].pm m.l m.f = true → tErr (encOf m) A = (hearX ps[findX m.i ps] m.k m.l).2.2 ∧
        ((hearX ps[findX m.i ps] m.k m.l).2.2 = 0 → actText A (msgAct m) = (if sameSt (hearX ps[findX m.i ps] m.k m.l).1 ps[findX m.i ps] then [] else frameOf m) ∧ DRel (A ++ [msgAct m]) ck (ps.set (findX m.i ps) (hearX ps[findX m.i ps] m.k m.l).1))) := by
  obtain ⟨d1, d2, _, _⟩ := hm.enc
  have hte : tErr (encOf m) A = nErr m A := by
    unfold tErr nErr
    rw [d1, d2]
    simp [ht]
  have hfn := fault_notary hm.2 ht
  refine ⟨fun hj => ?_, fun hj => ⟨fun hl => ?_, fun hl => ?_⟩⟩
  · rw [hte]
    unfold nErr
    rw [if_neg (by simp [ht]), if_pos (by rw [h.find_no _ hj, Bool.false_and])]
  · obtain ⟨hf, hc⟩ := h.find_in m.i hj
    rw [hte]
    unfold nErr
    rw [if_neg (by simp [ht]), if_pos (by rw [hasLeg_core hc, hl, Bool.and_false])]
  · obtain ⟨hf, hc⟩ := h.find_in m.i hj
    have g := h.good _ (List.getElem_mem hj)
    have hat := findX_at _ ps hj
    obtain ⟨hll, _⟩ := hasLegB_at hl
    refine ⟨?_, fun hz => ⟨take_text g hc hfn.1 hat.symm hll hz, h.take hm.1 hfn.1 hfn.2.1 hj hl hz⟩⟩
    rw [hte, hear_err g hfn.1]
    unfold nErr
    rw [if_neg (by simp [ht]), if_neg (by rw [hf, hasLeg_core hc, hl]; decide), st_core hc]
/-- the same frame, of two that stand alike -/
theorem AlikeD.take {A A' : List Dt} (h : AlikeD A A') {m : Msg} (hm : Fair m) (ht : m.t = 0) (h0 : tErr (encOf m) A = 0) :
    tErr (encOf m) A' = 0 ∧ actText A' (msgAct m) = actText A (msgAct m) ∧ AlikeD (A ++ [msgAct m]) (A' ++ [msgAct m]) ∧ (actText A (msgAct m) = [] → AlikeD (A ++ [msgAct m]) A') := by
  obtain ⟨c, ps, h1, h2⟩ := h
  obtain ⟨a1, a2⟩ := h1.heard hm ht
  obtain ⟨b1, b2⟩ := h2.heard hm ht
  rcases Nat.lt_or_ge (findX m.i ps) ps.length with hj | hj
  · cases hl : hasLegB ps[findX m.i ps].pm m.l m.f with
    | false => rw [(a2 hj).1 hl] at h0; omega
    | true =>
      obtain ⟨e1, f1⟩ := (a2 hj).2 hl
      obtain ⟨e2, f2⟩ := (b2 hj).2 hl
      have hz : (hearX ps[findX m.i ps] m.k m.l).2.2 = 0 := by rw [← e1, h0]
      obtain ⟨t1, r1⟩ := f1 hz
      obtain ⟨t2, r2⟩ := f2 hz
      refine ⟨by rw [e2, hz], by rw [t1, t2], ⟨c, _, r1, r2⟩, fun hn => ⟨c, ps, r1.recore ?_ (fun y hy => (h2.good y hy).fine), h2⟩⟩
      have hs : sameSt (hearX ps[findX m.i ps] m.k m.l).1 ps[findX m.i ps] := by
        rw [t1] at hn
        by_cases hs : sameSt (hearX ps[findX m.i ps] m.k m.l).1 ps[findX m.i ps]
        · exact hs
        · rw [if_neg hs] at hn
          have := congrArg List.length hn
          rw [(dec_frame hm.1 hm.2 (fault_zero_memo hm.2)).2.2.1] at this
          simp at this
      have hp := (hearX_fine (h1.good _ (List.getElem_mem hj)).fine m.k (l := m.l) (hm.kinds.2.2.1)).2
      have hx : xcore (hearX ps[findX m.i ps] m.k m.l).1 = xcore ps[findX m.i ps] := by
        unfold xcore
        rw [hp, hs.1, hs.2.1, hs.2.2]
      show (ps.set _ _).map xcore = ps.map xcore
      rw [List.map_set, hx]
      have : xcore ps[findX m.i ps] = (ps.map xcore)[findX m.i ps]'(by simpa using hj) := by simp
      rw [this, List.set_getElem_self]
  · rw [a1 hj] at h0; omega
/-- the place of a new payment -/
theorem ins_place {A : List Dt} {ck : Nat} {ps : List Xp} (h : DRel A ck ps) {p : Pm} (hno : ∀ y, y ∈ ps → y.pm.id ≠ p.id) : ∃ k, k ≤ ps.length ∧ (∀ q (hq : q < ps.length), k ≤ q → p.id < ps[q].pm.id) ∧ ∀ j (hj : j < ps.length), k = j + 1 → ¬ p.id < ps[j].pm.id := by
  refine ⟨ps.findIdx (fun y => decide (p.id < y.pm.id)), List.findIdx_le_length, fun q hq hk => ?_, fun j hj hk => ?_⟩
  · have hl : ps.findIdx (fun y => decide (p.id < y.pm.id)) < ps.length := Nat.lt_of_le_of_lt hk hq
    have h1 := List.findIdx_getElem (w := hl)
    simp only [decide_eq_true_eq] at h1
    rcases Nat.lt_or_ge (ps.findIdx (fun y => decide (p.id < y.pm.id))) q with h2 | h2
    · have := h.sort _ _ hl hq h2
      omega
    · have e : ps.findIdx (fun y => decide (p.id < y.pm.id)) = q := by omega
      simpa [e] using h1
  · have := List.not_of_lt_findIdx (p := fun y : Xp => decide (p.id < y.pm.id)) (xs := ps) (i := j) (by omega)
    simpa using this
theorem AlikeD.sub {A A' : List Dt} (h : AlikeD A A') {p : Pm} (hp : p.ok) (hs : subIs p A) {q q' : Pm} (hq : core q = core p) (hq' : core q' = core p) : subIs p A' ∧ AlikeD (A ++ [⟨-1, q, zeroMsg⟩]) (A' ++ [⟨-1, q', zeroMsg⟩]) := by
  obtain ⟨c, ps, h1, h2⟩ := h
  obtain ⟨hw, hf, hd, h32⟩ := hs
  have hj : ps.length ≤ findX p.id ps := by
    rcases Nat.lt_or_ge (findX p.id ps) ps.length with hj | hj
    · rw [(h1.find_in p.id hj).1] at hf; exact absurd hf (by decide)
    · exact hj
  have hno := (findX_none _ _).1 hj
  have hl : ps.length < 32 := by rw [← h1.cnt p.id]; exact h32
  obtain ⟨k, k1, k2, k3⟩ := ins_place h1 hno
  exact ⟨⟨hw, h2.find_no _ hj, by rw [← h2.clk, h1.clk]; exact hd, by rw [h2.cnt]; exact hl⟩, c, insX ⟨p, 1, 0, 0⟩ k ps, h1.add hp hw hno hl k1 k2 k3 hq rfl, h2.add hp hw hno hl k1 k2 k3 hq' rfl⟩
end Go.Proofs.YtjkhbjgfoopomabGreat
/-
  Plain: what a notary is restored from.
-/
namespace Go.Proofs.YtjkhbjgfoopomabGreat
set_option linter.unusedVariables false
set_option linter.unusedSimpArgs false
def noteGo (pre : List Dt) : List Dt → List UInt8
  | [] => []
  | x :: r => actText pre x ++ noteGo (pre ++ [x]) r
/-- the texts, one behind another -/
def noteTexts (A : List Dt) : List UInt8 := noteGo [] A
theorem noteGo_snoc (x : Dt) : ∀ (l pre : List Dt), noteGo pre (l ++ [x]) = noteGo pre l ++ actText (pre ++ l) x
  | [], pre => by simp [noteGo]
  | y :: r, pre => by
    simp only [List.cons_append, noteGo]
    rw [noteGo_snoc x r (pre ++ [y])]
    simp only [List.append_assoc, List.cons_append, List.nil_append]
theorem noteTexts_snoc (A : List Dt) (x : Dt) : noteTexts (A ++ [x]) = noteTexts A ++ actText A x := by
  unfold noteTexts
  rw [noteGo_snoc]
  rfl
/-- what Tick, Submit or Handle has added to what was there -/
def ActIs (pre : List Dt) (x : Dt) : Prop :=
  (x = tickAct ∧ clockOf pre < 1000000) ∨ (∃ p, x = ⟨-1, p, zeroMsg⟩ ∧ p.ok ∧ subIs p pre) ∨ (∃ m, x = msgAct m ∧ Fair m ∧ m.t = 0 ∧ tErr (encOf m) pre = 0)
def DHist (A : List Dt) : Prop := ∀ pre x suf, A = pre ++ x :: suf → ActIs pre x
theorem DHist.nil : DHist [] := fun pre x suf h => by simp at h
theorem DHist.snoc {A : List Dt} {x : Dt} (h : DHist A) (he : ActIs A x) : DHist (A ++ [x]) := by
  intro pre y suf hx
  rcases List.eq_nil_or_concat suf with rfl | ⟨s, z, rfl⟩
  · have := List.append_inj' hx rfl
    obtain ⟨rfl, h2⟩ := this
    injection h2 with h2
    subst h2
    exact he
  · have h1 : pre ++ y :: (s ++ [z]) = (pre ++ y :: s) ++ [z] := by simp
    rw [List.concat_eq_append, h1] at hx
    have := List.append_inj' hx rfl
    exact h _ _ _ this.1
theorem DHist.left {A F : List Dt} (h : DHist (A ++ F)) : DHist A := fun pre e suf hx => h pre e (suf ++ F) (by rw [hx]; simp)
/-- how many bytes the text has that a log begins with -/
def subSize (l : List UInt8) : Nat := if l.length < 15 then 15 else 15 + at8 l 13 * 9 + at8 l 14
def tsizeD (l : List UInt8) : Nat := if l = [] then 0 else if at8 l 0 = 84 then 1 else if at8 l 0 = 83 then subSize l else if at8 l 0 = 69 then frSize l else 0
/-- a leg that a Submit's text tells -/
def plOf (r : List UInt8) : Pl := ⟨at8 r 0, val (cut r 1 3), val (cut r 3 5), val (cut r 5 9)⟩
def plsOf (r : List UInt8) (n : Nat) : List Pl := (List.range n).map fun i => plOf (r.drop (9 * i))
def payOf (t : List UInt8) : Pm := ⟨val (cut t 1 5), val (cut t 5 13), t.drop (15 + 9 * at8 t 13), plsOf (t.drop 15) (at8 t 13), none, 0⟩
/-- the call that has logged a text, once more -/
def redoD (t : List UInt8) (A : List Dt) : Option (List Dt) :=
  if t = [84] then (if clockOf A < 1000000 then some (A ++ [tickAct]) else none)
  else if at8 t 0 = 83 then (if subErr (payOf t) A = 0 ∧ subLog (payOf t) A = t then some (subActs (payOf t) (payOf t) A) else none)
  else if tErr t A = 0 ∧ tLog t A = t then some (tActs t A) else none
def replayD : Nat → List UInt8 → List Dt → Option (List Dt)
  | 0, _, A => some A
  | f + 1, l, A => if l = [] then some A else if tsizeD l = 0 then none else if l.length < tsizeD l then some A else
    match redoD (l.take (tsizeD l)) A with
    | none => none
    | some A' => replayD f (l.drop (tsizeD l)) A'
theorem replayD_more : ∀ (f : Nat) (l : List UInt8) (A : List Dt), l.length ≤ f → replayD f l A = replayD l.length l A := by
  intro f
  induction f using Nat.strongRecOn with
  | ind f ih =>
    intro l E hl
    cases f with
    | zero =>
      have : l.length = 0 := by omega
      rw [this]
    | succ f =>
      by_cases h0 : l = []
      · subst h0; rfl
      · obtain ⟨n, hn⟩ : ∃ n, l.length = n + 1 := ⟨l.length - 1, by have : l.length ≠ 0 := fun e => h0 (List.length_eq_zero_iff.1 e); omega⟩
        rw [hn]
        simp only [replayD]
        rw [if_neg h0, if_neg h0]
        by_cases h1 : tsizeD l = 0
        · rw [if_pos h1, if_pos h1]
        · rw [if_neg h1, if_neg h1]
          by_cases h2 : l.length < tsizeD l
          · rw [if_pos h2, if_pos h2]
          · rw [if_neg h2, if_neg h2]
            cases redoD (l.take (tsizeD l)) E with
            | none => rfl
            | some E' =>
              have hd : (l.drop (tsizeD l)).length = l.length - tsizeD l := List.length_drop
              show replayD f _ E' = replayD n _ E'
              rw [ih f (by omega) _ _ (by omega)]
              by_cases hfn : n = f
              · subst hfn
                rw [ih n (by omega) _ _ (by omega)]
              · rw [ih n (by omega) _ _ (by omega)]
def restD (l : List UInt8) : Option (List Dt) := replayD l.length l []
/-! a Submit's text tells the payment -/
theorem drop_flat9 (l : List Pl) (r : List UInt8) : ∀ i, i ≤ l.length → (l.flatMap legTextOf ++ r).drop (9 * i) = (l.drop i).flatMap legTextOf ++ r := by
  intro i
  induction i generalizing l with
  | zero => intro _; simp
  | succ i ih =>
    intro hi
    cases l with
    | nil => simp at hi
    | cons x l =>
      have e : 9 * (i + 1) = (legTextOf x).length + 9 * i := by rw [legText_length]; omega
      rw [List.flatMap_cons, List.append_assoc, e, List.drop_length_add_append, ih l (by simpa using hi), List.drop_succ_cons]
theorem plOf_text (x : Pl) (hx : x.ok) (r : List UInt8) : plOf (legTextOf x ++ r) = x := by
  obtain ⟨b, p, g, a⟩ := x
  obtain ⟨h1, h2, h3, h4⟩ := hx
  simp only at h1 h2 h3 h4
  obtain ⟨p0, p1, ep⟩ := be2_list p
  obtain ⟨g0, g1, eg⟩ := be2_list g
  obtain ⟨a0, a1, a2, a3, ea⟩ := be4_list a
  have vp := val_be (n := 2) (v := p) (by omega)
  have vg := val_be (n := 2) (v := g) (by omega)
  have va := val_be (n := 4) (v := a) (by omega)
  rw [ep] at vp
  rw [eg] at vg
  rw [ea] at va
  unfold plOf legTextOf cut at8
  simp only [ep, eg, ea, List.cons_append, List.nil_append, List.append_assoc, List.getD_cons_zero, List.drop_succ_cons, List.drop_zero, Nat.reduceSub, List.take_succ_cons, List.take_zero]
  rw [vp, vg, va, ofNat_toNat8 h1]
theorem plsOf_text (l : List Pl) (hl : ∀ x, x ∈ l → x.ok) (r : List UInt8) : plsOf (l.flatMap legTextOf ++ r) l.length = l := by
  unfold plsOf
  apply List.ext_getElem
  · simp
  · intro i h1 h2
    rw [List.getElem_map, List.getElem_range, drop_flat9 l r i (by omega)]
    have e : l.drop i = l[i] :: l.drop (i + 1) := List.drop_eq_getElem_cons h2
    rw [e, List.flatMap_cons, List.append_assoc]
    exact plOf_text _ (hl _ (List.getElem_mem h2)) _
theorem be8_list (v : Nat) : ∃ a b c d e f g h, be 8 v = [a, b, c, d, e, f, g, h] := ⟨_, _, _, _, _, _, _, _, rfl⟩
theorem subText_parts (p : Pm) (hp : p.ok) (hm : p.memo.length ≤ 64) (h4 : p.legs.length ≤ 4) (r : List UInt8) :
    (subTextOf p).length = 15 + 9 * p.legs.length + p.memo.length ∧ at8 (subTextOf p ++ r) 0 = 83 ∧ at8 (subTextOf p ++ r) 13 = p.legs.length ∧ at8 (subTextOf p ++ r) 14 = p.memo.length := by
  obtain ⟨i0, i1, i2, i3, ei⟩ := be4_list p.id
  obtain ⟨d0, d1, d2, d3, d4, d5, d6, d7, ed⟩ := be8_list p.dl
  have l9 := flat9 p.legs
  unfold subTextOf at8
  rw [ei, ed]
  refine ⟨by simp [l9]; omega, rfl, ?_, ?_⟩
  · simp only [List.cons_append, List.nil_append, List.getD_cons_succ, List.getD_cons_zero]
    exact ofNat_toNat8 (by omega)
  · simp only [List.cons_append, List.nil_append, List.getD_cons_succ, List.getD_cons_zero]
    exact ofNat_toNat8 (by omega)
theorem payOf_text (p : Pm) (hp : p.ok) (hm : p.memo.length ≤ 64) (h4 : p.legs.length ≤ 4) : payOf (subTextOf p) = core p := by
  obtain ⟨_, _, h13, _⟩ := subText_parts p hp hm h4 []
  rw [List.append_nil] at h13
  unfold payOf
  rw [h13]
  obtain ⟨id, dl, memo, legs, la, lc⟩ := p
  obtain ⟨q1, q2, q3⟩ := hp
  simp only at q1 q2 q3 hm h4
  obtain ⟨i0, i1, i2, i3, ei⟩ := be4_list id
  obtain ⟨d0, d1, d2, d3, d4, d5, d6, d7, ed⟩ := be8_list dl
  have vi := val_be (n := 4) (v := id) (by omega)
  have vd := val_be (n := 8) (v := dl) (by omega)
  rw [ei] at vi
  rw [ed] at vd
  have hd15 : (subTextOf ⟨id, dl, memo, legs, la, lc⟩).drop 15 = legs.flatMap legTextOf ++ memo := by
    unfold subTextOf
    simp only [ei, ed, List.cons_append, List.nil_append, List.drop_succ_cons, List.drop_zero]
  have hdm : (subTextOf ⟨id, dl, memo, legs, la, lc⟩).drop (15 + 9 * legs.length) = memo := by
    rw [← List.drop_drop, hd15, drop_flat9 legs memo _ (Nat.le_refl _), List.drop_length]
    rfl
  have c1 : cut (subTextOf ⟨id, dl, memo, legs, la, lc⟩) 1 5 = [i0, i1, i2, i3] := by
    unfold subTextOf cut
    simp only [ei, ed, List.cons_append, List.nil_append, List.drop_succ_cons, List.drop_zero, Nat.reduceSub, List.take_succ_cons, List.take_zero]
  have c2 : cut (subTextOf ⟨id, dl, memo, legs, la, lc⟩) 5 13 = [d0, d1, d2, d3, d4, d5, d6, d7] := by
    unfold subTextOf cut
    simp only [ei, ed, List.cons_append, List.nil_append, List.drop_succ_cons, List.drop_zero, Nat.reduceSub, List.take_succ_cons, List.take_zero]
  simp only
  rw [hdm, hd15, plsOf_text legs q3, c1, c2, vi, vd]
  rfl
/-! what is left behind is told again -/
theorem actText_tick (A : List Dt) : actText A tickAct = [84] := rfl
theorem actText_sub (A : List Dt) (p : Pm) : actText A ⟨-1, p, zeroMsg⟩ = subTextOf p := rfl
theorem act_frame {A : List Dt} {m : Msg} (hk : m.k = 4 ∨ m.k = 5 ∨ m.k = 6) : actText A (msgAct m) = [] ∨ actText A (msgAct m) = frameOf m := by
  unfold actText msgAct
  have h1 : ¬ ((m.k : Int) = 0) := by omega
  have h2 : ¬ ((m.k : Int) = -1) := by omega
  simp only [if_neg h1, if_neg h2]
  split
  · exact .inl rfl
  · exact .inr rfl
/-- one text, whole or not -/
theorem act_size {pre : List Dt} {x : Dt} (h : ActIs pre x) (hn : actText pre x ≠ []) (r : List UInt8) : tsizeD (actText pre x ++ r) = (actText pre x).length := by
  have hne : ∀ l : List UInt8, l ≠ [] → l ++ r ≠ [] := fun l hl e => hl (List.append_eq_nil_iff.1 e).1
  rcases h with ⟨rfl, _⟩ | ⟨p, rfl, hp, hs⟩ | ⟨m, rfl, hm, ht, h0⟩
  · rw [actText_tick]
    unfold tsizeD
    rw [if_neg (hne _ (by simp)), if_pos (by rfl)]
    rfl
  · rw [actText_sub]
    obtain ⟨h1, h2, h3, h4⟩ := subText_parts p hp (wrong_memo hs.1) (wrongOf_few hs.1) r
    unfold tsizeD subSize
    rw [if_neg (hne _ (by simp [subTextOf])), h2, if_neg (by omega), if_pos rfl, if_neg (by rw [List.length_append]; omega), h3, h4, h1]
    omega
  · rcases act_frame (A := pre) (fault_notary hm.2 ht).1 with e | e
    · exact absurd e hn
    · rw [e]
      obtain ⟨_, _, h3, h4, h5, _⟩ := dec_frame hm.1 hm.2 (fault_zero_memo hm.2)
      unfold tsizeD frSize
      rw [if_neg (hne _ (fun e => by have := congrArg List.length e; rw [h3] at this; simp at this)), at8_append (by omega), h4, if_neg (by omega), if_neg (by omega), if_pos rfl, if_neg (by rw [List.length_append]; omega), at8_append (by omega), h5, h3]
def CutD (c : List UInt8) : Prop := c = [] ∨ (tsizeD c ≠ 0 ∧ c.length < tsizeD c)
theorem act_cut {pre : List Dt} {x : Dt} (h : ActIs pre x) (n : Nat) (hn : n < (actText pre x).length) : CutD ((actText pre x).take n) := by
  by_cases h0 : n = 0
  · left; rw [h0]; rfl
  · right
    have hl : ((actText pre x).take n).length = n := by rw [List.length_take]; omega
    have hne : (actText pre x).take n ≠ [] := fun e => by rw [e] at hl; simp at hl; omega
    rcases h with ⟨rfl, _⟩ | ⟨p, rfl, hp, hs⟩ | ⟨m, rfl, hm, ht, h9⟩
    · rw [actText_tick] at hn
      simp at hn
      omega
    · rw [actText_sub] at hl hn hne ⊢
      obtain ⟨h1, h2, h3, h4⟩ := subText_parts p hp (wrong_memo hs.1) (wrongOf_few hs.1) []
      rw [List.append_nil] at h2 h3 h4
      unfold tsizeD subSize
      rw [if_neg hne, at8_take (by omega), h2, if_neg (by omega), if_pos rfl, hl]
      by_cases h15 : n < 15
      · rw [if_pos h15]; omega
      · rw [if_neg h15, at8_take (by omega), at8_take (by omega), h3, h4]; omega
    · rcases act_frame (A := pre) (fault_notary hm.2 ht).1 with e | e
      · rw [e] at hn; simp at hn
      · rw [e] at hl hn hne ⊢
        obtain ⟨_, _, h3, h4, h5, _⟩ := dec_frame hm.1 hm.2 (fault_zero_memo hm.2)
        unfold tsizeD frSize
        rw [if_neg hne, at8_take (by omega), h4, if_neg (by omega), if_neg (by omega), if_pos rfl, hl]
        by_cases h17 : n ≤ 17
        · rw [if_pos h17]; omega
        · rw [if_neg h17, at8_take (by omega), h5]; omega
/-- told again to one that stands alike -/
theorem redo_act {pre A' : List Dt} {x : Dt} (h : ActIs pre x) (ha : AlikeD pre A') (hn : actText pre x ≠ []) : ∃ B', redoD (actText pre x) A' = some B' ∧ AlikeD (pre ++ [x]) B' := by
  rcases h with ⟨rfl, hc⟩ | ⟨p, rfl, hp, hs⟩ | ⟨m, rfl, hm, ht, h0⟩
  · refine ⟨A' ++ [tickAct], ?_, ha.tick⟩
    unfold redoD
    rw [actText_tick, if_pos rfl, ha.clock, if_pos hc]
  · rw [actText_sub]
    obtain ⟨h1, h2, h3, h4⟩ := subText_parts p hp (wrong_memo hs.1) (wrongOf_few hs.1) []
    rw [List.append_nil] at h2
    have hpay := payOf_text p hp (wrong_memo hs.1) (wrongOf_few hs.1)
    obtain ⟨hs', ha'⟩ := ha.sub hp hs (q := p) (q' := core p) rfl rfl
    have hsc : subIs (core p) A' := hs'
    refine ⟨A' ++ [⟨-1, core p, zeroMsg⟩], ?_, ha'⟩
    unfold redoD
    rw [if_neg (fun e => by have := congrArg List.length e; rw [h1] at this; simp at this; omega), if_pos h2, hpay, if_pos ⟨subIs_err hsc, by rw [show subLog (core p) A' = _ from if_pos hsc]; rfl⟩]
    rw [show subActs (core p) (core p) A' = _ from if_pos hsc]
  · rcases act_frame (A := pre) (fault_notary hm.2 ht).1 with e | e
    · exact absurd e hn
    · obtain ⟨b1, b2, b3, _⟩ := ha.take hm ht h0
      obtain ⟨d1, d2, _, d4⟩ := hm.enc
      obtain ⟨_, _, l3, l4, _⟩ := dec_frame hm.1 hm.2 (fault_zero_memo hm.2)
      refine ⟨A' ++ [msgAct m], ?_, b3⟩
      unfold redoD
      have hx : tLog (encOf m) A' = encOf m := by
        rw [show tLog (encOf m) A' = _ from if_pos b1, d2]
        have : actText A' (msgAct m) = frameOf m := by rw [b2, e]
        rw [show (⟨(m.k : Int), noPm, m⟩ : Dt) = msgAct m from rfl, this, d4]
      have ht' : tActs (encOf m) A' = A' ++ [msgAct m] := by
        rw [show tActs (encOf m) A' = _ from if_pos b1, d2]
        rfl
      rw [e, if_neg (fun e => by have := congrArg List.length e; rw [l3] at this; simp at this; omega), if_neg (by omega), ← d4, if_pos ⟨b1, hx⟩, ht']
theorem skip_act {pre A' : List Dt} {x : Dt} (h : ActIs pre x) (ha : AlikeD pre A') (hn : actText pre x = []) : AlikeD (pre ++ [x]) A' := by
  rcases h with ⟨rfl, hc⟩ | ⟨p, rfl, hp, hs⟩ | ⟨m, rfl, hm, ht, h0⟩
  · rw [actText_tick] at hn; simp at hn
  · rw [actText_sub] at hn; simp [subTextOf] at hn
  · exact (ha.take hm ht h0).2.2.2 hn
theorem replay_acts (c : List UInt8) (hc : CutD c) : ∀ (suf pre A' : List Dt), DHist (pre ++ suf) → AlikeD pre A' → ∀ f, (noteGo pre suf ++ c).length ≤ f → ∃ B', replayD f (noteGo pre suf ++ c) A' = some B' ∧ AlikeD (pre ++ suf) B'
  | [], pre, A', h, ha, f, hf => by
    have e : noteGo pre [] ++ c = c := rfl
    rw [e] at hf ⊢
    rw [List.append_nil]
    refine ⟨A', ?_, ha⟩
    cases f with
    | zero => rfl
    | succ f =>
      simp only [replayD]
      rcases hc with rfl | ⟨h1, h2⟩
      · rfl
      · rw [if_neg (fun e => by rw [e] at h1; exact h1 rfl), if_neg h1, if_pos h2]
  | x :: suf, pre, A', h, ha, f, hf => by
    have hI := h pre x suf rfl
    have h' : DHist ((pre ++ [x]) ++ suf) := by simpa using h
    have e1 : noteGo pre (x :: suf) ++ c = actText pre x ++ (noteGo (pre ++ [x]) suf ++ c) := by simp [noteGo]
    have e2 : pre ++ x :: suf = (pre ++ [x]) ++ suf := by simp
    rw [e1] at hf ⊢
    rw [e2]
    by_cases hn : actText pre x = []
    · rw [hn, List.nil_append] at hf ⊢
      exact replay_acts c hc suf (pre ++ [x]) A' h' (skip_act hI ha hn) f hf
    · have s1 := act_size hI hn (noteGo (pre ++ [x]) suf ++ c)
      obtain ⟨B', hB, haB⟩ := redo_act hI ha hn
      have hp : 1 ≤ (actText pre x).length := by
        rcases Nat.eq_zero_or_pos (actText pre x).length with h | h
        · exact absurd (List.length_eq_zero_iff.1 h) hn
        · exact h
      rw [List.length_append] at hf
      cases f with
      | zero => omega
      | succ f =>
        simp only [replayD]
        rw [if_neg (fun e => hn (List.append_eq_nil_iff.1 e).1), s1, if_neg (by omega), if_neg (by rw [List.length_append]; omega), List.take_left, List.drop_left, hB]
        exact replay_acts c hc suf (pre ++ [x]) B' h' haB f (by omega)
/-- a notary is restored from what it has left behind -/
theorem rest_acts {A : List Dt} (h : DHist A) {c : List UInt8} (hc : CutD c) : ∃ B', restD (noteTexts A ++ c) = some B' ∧ AlikeD A B' := by
  obtain ⟨B', h1, h2⟩ := replay_acts c hc A [] [] h ⟨0, [], DRel.start, DRel.start⟩ _ (Nat.le_refl _)
  exact ⟨B', h1, h2⟩
end Go.Proofs.YtjkhbjgfoopomabGreat
