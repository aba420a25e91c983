import Derived.Test.YtjkhbjgfoopomaaGreatG23
import Derived.Test.YtjkhbjgfoopomaaGreatRefTaken3
import Derived.Test.YtjkhbjgfoopomaaGreatRefTaken4
import Derived.Test.YtjkhbjgfoopomaaGreatXText
import Derived.Test.YtjkhbjgfoopomaaGreatG4
/-
  The document's notary: Submit, Handle, Tick, each as a whole.
-/
namespace Go.Proofs.YtjkhbjgfoopomaaGreat
open Go.RowKit
set_option linter.unusedVariables false
set_option linter.unusedSimpArgs false
/-- is the payment taken in anew? -/
def subIs (p : Pm) (acts : List Dt) : Prop := wrongOf p = 0 ∧ (findOf p.id acts).2.1 = false ∧ clockOf acts < p.dl ∧ (findOf p.id acts).2.2 < 32
instance (p : Pm) (acts : List Dt) : Decidable (subIs p acts) := inferInstanceAs (Decidable (_ ∧ _ ∧ _ ∧ _))
def subActs (p q : Pm) (acts : List Dt) : List Dt := if subIs p acts then acts ++ [⟨-1, q, zeroMsg⟩] else acts
def subOuts (p : Pm) (acts : List Dt) : List (List UInt8) :=
  if subIs p acts then asksOf p 1 0 else if wrongOf p = 0 ∧ (findOf p.id acts).2.1 = true ∧ sameOf p (findOf p.id acts).1 = true then remindsOf (findOf p.id acts).1 acts else []
theorem subIs_err {p : Pm} {acts : List Dt} (h : subIs p acts) : subErr p acts = 0 := by
  obtain ⟨h1, h2, h3, h4⟩ := h
  unfold subErr
  rw [if_pos h1, h2, if_neg (by simp), if_neg (by omega), if_neg (by omega)]
theorem DHanded.nil {w u : World} {B : Nat} {acts acts' : List Dt} {v v' : Value} (h : RDTo w u B acts acts' v v') : DHanded w u B acts acts' v v' (.slice none 0 0) [] :=
  ⟨h, RowOf.nil _ _, fun g hg => by simp [Value.ownBlock] at hg⟩
def SubR (w : World) (B : Nat) (acts : List Dt) (v : Value) (p : Pm) (e : Ending) (w' : World) : Prop :=
  ∃ lv la lc v', e = .returned (.tuple #[lv, .int .i64 (subErr p acts : Int)]) ∧ DHanded w w' B acts (subActs p ⟨p.id, p.dl, p.memo, p.legs, la, lc⟩ acts) v v' lv (subOuts p acts)
theorem refSub_any (p : Pm) (hp : p.ok) (hm : p.memo.length ≤ 140737488351232) (hll : p.legs.length ≤ 11728124029269) (w : World) (B : Nat) (acts : List Dt) (v : Value) (hR : RD w B acts v) (hap : RDap B acts v) (hok : ∀ x, x ∈ acts → x.ok) (h4 : ∀ x, x ∈ acts → few4 x) (hpay : ∀ x, x ∈ acts → PayOk x) (hlen : acts.length ≤ 999999999999) (hL : LegsAt w p.la p.legs) :
    Calls Tryz.prog 70 #[.pointer (some ⟨B, 0, none⟩), p.v] w (SubR w B acts v p) := by
  by_cases hw : wrongOf p = 0
  · cases hf : (findOf p.id acts).2.1 with
    | true =>
      refine (submit_there p hp hm w B acts v hR hok h4 hpay (by omega) hL hw hf).mono ?_
      rintro e w' ⟨⟨lv, rfl, hr, hfr⟩, hb⟩
      have hn : ¬ subIs p acts := fun h => by rw [h.2.1] at hf; exact absurd hf (by decide)
      refine ⟨lv, none, 0, v, rfl, ?_⟩
      rw [show subActs p _ acts = acts from if_neg hn]
      have ho : subOuts p acts = if sameOf p (findOf p.id acts).1 then remindsOf (findOf p.id acts).1 acts else [] := by
        unfold subOuts
        rw [if_neg hn]
        by_cases hs : sameOf p (findOf p.id acts).1 = true
        · rw [if_pos ⟨hw, hf, hs⟩, if_pos hs]
        · rw [if_neg (fun h => hs h.2.2), if_neg hs]
      rw [ho]
      exact ⟨RDTo.same hR hap hb, hr, fun g hg => ⟨hfr g hg, fun hk => by have := hR.foot_lt hk; have := hfr g hg; omega⟩⟩
    | false =>
      by_cases hd : p.dl ≤ clockOf acts ∨ 32 ≤ (findOf p.id acts).2.2
      · refine (submit_late p hp hm w B acts v hR hok (by omega) hL hw hf hd).mono ?_
        rintro e w' ⟨rfl, hb⟩
        have hn : ¬ subIs p acts := fun h => by have h3 := h.2.2.1; have h5 := h.2.2.2; omega
        refine ⟨_, none, 0, v, rfl, ?_⟩
        rw [show subActs p _ acts = acts from if_neg hn, show subOuts p acts = [] by unfold subOuts; rw [if_neg hn, if_neg (fun h => by rw [hf] at h; exact absurd h.2.1 (by decide))]]
        exact DHanded.nil (RDTo.same hR hap hb)
      · have hd1 : clockOf acts < p.dl := by omega
        have hd2 : (findOf p.id acts).2.2 < 32 := by omega
        have hi : subIs p acts := ⟨hw, hf, hd1, hd2⟩
        refine (submit_new p hp hm w B acts v hR hap hok (by omega) hL hw hf hd1 hd2).mono ?_
        rintro e w' ⟨lv, la, lc, v', rfl, hH⟩
        refine ⟨lv, la, lc, v', ?_, ?_⟩
        · rw [subIs_err hi]; rfl
        · rw [show subActs p _ acts = _ from if_pos hi, show subOuts p acts = _ from if_pos hi]
          exact hH
  · refine (submit_wrong p hp hm hll w B hL hw).mono ?_
    rintro e w' ⟨rfl, hb⟩
    have hn : ¬ subIs p acts := fun h => hw h.1
    refine ⟨.slice none 0 0, none, 0, v, ?_, ?_⟩
    · rw [show subErr p acts = wrongOf p from if_neg hw]
    · rw [show subActs p _ acts = acts from if_neg hn, show subOuts p acts = [] by unfold subOuts; rw [if_neg hn, if_neg (fun h => hw h.1)]]
      exact DHanded.nil (RDTo.same hR hap hb)
def TakeR (w : World) (B : Nat) (acts : List Dt) (v : Value) (l : List UInt8) (e : Ending) (w' : World) : Prop :=
  ∃ lv v', e = .returned (.tuple #[lv, .int .i64 (tErr l acts : Int)]) ∧ DHanded w w' B acts (tActs l acts) v v' lv (tOuts l acts)
theorem TakeR.err {w w' : World} {B : Nat} {acts : List Dt} {v : Value} {l : List UInt8} {er : Nat} (hR : RD w B acts v) (hap : RDap B acts v) (he : tErr l acts = er) (h0 : er ≠ 0) (hb : Below w.heap.size w w') : TakeR w B acts v l (.returned (.tuple #[.slice none 0 0, .int .i64 (er : Int)])) w' := by
  subst he
  refine ⟨_, v, rfl, ?_⟩
  rw [show tActs l acts = acts from if_neg h0, show tOuts l acts = [] from if_neg h0]
  exact DHanded.nil (RDTo.same hR hap hb)
theorem refTake_any (s : ByteArray) (hs : s.size ≤ 140737488351232) (w : World) (B : Nat) (acts : List Dt) (v : Value) (hR : RD w B acts v) (hap : RDap B acts v) (hok : ∀ x, x ∈ acts → x.ok) (h4 : ∀ x, x ∈ acts → few4 x) (hpay : ∀ x, x ∈ acts → PayOk x) (hlen : acts.length ≤ 999999999999) (her : decErr s.data.toList < 100) :
    Calls Tryz.prog 40 #[.pointer (some ⟨B, 0, none⟩), .string s] w (TakeR w B acts v s.data.toList) := by
  by_cases he0 : decErr s.data.toList = 0
  · by_cases ht0 : (decMsg s.data.toList).t = 0
    · cases hun : ((findOf (decMsg s.data.toList).i acts).2.1 && hasLegB (findOf (decMsg s.data.toList).i acts).1 (decMsg s.data.toList).l (decMsg s.data.toList).f) with
      | false =>
        refine (taken_unknown s hs w B acts v hR hok hpay (by omega) he0 ht0 hun).mono ?_
        rintro e w' ⟨rfl, hb⟩
        exact TakeR.err (er := 13) hR hap (by unfold tErr; rw [if_neg (by omega), if_neg (by omega), if_pos hun]) (by omega) hb
      | true =>
        have hth : (findOf (decMsg s.data.toList).i acts).2.1 = true := by rw [Bool.and_eq_true] at hun; exact hun.1
        have hhl := by rw [Bool.and_eq_true] at hun; exact hun.2
        have hu' : ¬ ((findOf (decMsg s.data.toList).i acts).2.1 && hasLegB (findOf (decMsg s.data.toList).i acts).1 (decMsg s.data.toList).l (decMsg s.data.toList).f) = false := by rw [hun]; decide
        by_cases hst : ((decMsg s.data.toList).k = 5 ∧ (stOf (findOf (decMsg s.data.toList).i acts).1 acts).1 = 2) ∨ ((decMsg s.data.toList).k = 6 ∧ (stOf (findOf (decMsg s.data.toList).i acts).1 acts).1 = 1)
        · refine (taken_state s hs w B acts v hR hok h4 hpay hlen he0 ht0 hth hhl hst).mono ?_
          rintro e w' ⟨rfl, hb⟩
          exact TakeR.err (er := 14) hR hap (by unfold tErr; rw [if_neg (by omega), if_neg (by omega), if_neg hu', if_pos hst]) (by omega) hb
        · have h0 : tErr s.data.toList acts = 0 := by unfold tErr; rw [if_neg (by omega), if_neg (by omega), if_neg hu', if_neg hst]
          have hfn := fault_notary (decMsg_fault _ he0) ht0
          have ha : tActs s.data.toList acts = _ := if_pos h0
          have main : ∀ e w', (∃ lv v', e = .returned (.tuple #[lv, .int .i64 0]) ∧ DHanded w w' B acts (acts ++ [⟨((decMsg s.data.toList).k : Int), noPm, decMsg s.data.toList⟩]) v v' lv (tSay (findOf (decMsg s.data.toList).i acts).1 (decMsg s.data.toList) (stOf (findOf (decMsg s.data.toList).i acts).1 acts).1 (stOf (findOf (decMsg s.data.toList).i acts).1 (acts ++ [⟨((decMsg s.data.toList).k : Int), noPm, decMsg s.data.toList⟩])).1)) → TakeR w B acts v s.data.toList e w' := by
            rintro e w' ⟨lv, v', rfl, hH⟩
            refine ⟨lv, v', by rw [h0]; rfl, ?_⟩
            rw [show tOuts s.data.toList acts = _ from if_pos h0, ha]
            exact hH
          rcases hfn.1 with hk | hk | hk
          · exact (taken_ok4 s hs w B acts v hR hap hok h4 hpay hlen he0 ht0 hth hhl hk hst).mono main
          · exact (taken_ok5 s hs w B acts v hR hap hok h4 hpay hlen he0 ht0 hth hhl hk hst).mono main
          · exact (taken_ok6 s hs w B acts v hR hap hok h4 hpay hlen he0 ht0 hth hhl hk hst).mono main
    · refine (taken_node s hs w B acts v hR he0 ht0).mono ?_
      rintro e w' ⟨rfl, hb⟩
      exact TakeR.err (er := 4) hR hap (by unfold tErr; rw [if_neg (by omega), if_pos ht0]) (by omega) hb
  · refine (taken_dec s hs w B acts v hR he0 her).mono ?_
    rintro e w' ⟨rfl, hb⟩
    exact TakeR.err hR hap (by unfold tErr; rw [if_pos he0]) he0 hb
/-- P11 -/
def kErr (acts : List Dt) : Nat := if 1000000 ≤ clockOf acts then 15 else 0
def kActs (acts : List Dt) : List Dt := if 1000000 ≤ clockOf acts then acts else acts ++ [tickAct]
def kOuts (ck : Nat) (ps : List Xp) : List (List UInt8) := if 1000000 ≤ ck then [] else saysX (ps.map (lateX (ck + 1)))
theorem says_of {acts : List Dt} {qs : List Pm} {ps : List Xp} (hm : qs.map core = ps.map (fun y => core y.pm)) (hg : ∀ y, y ∈ ps → Stands acts y) : saysOf qs acts = saysX ps := by
  have e1 : saysOf qs acts = (qs.map core).flatMap (fun p => remindsOf p acts) := by
    simp only [saysOf, List.flatMap_map, core_rem]
  rw [e1, hm]
  simp only [saysX, List.flatMap_map, core_rem]
  clear hm e1
  induction ps with
  | nil => rfl
  | cons y r ih =>
    simp only [List.flatMap_cons]
    rw [ih (fun z hz => hg z (List.mem_cons_of_mem _ hz)), (hg y (List.mem_cons_self ..)).rem]
def TickR (w : World) (B : Nat) (acts : List Dt) (v : Value) (ck : Nat) (ps : List Xp) (e : Ending) (w' : World) : Prop :=
  ∃ lv v', e = .returned (.tuple #[lv, .int .i64 (kErr acts : Int)]) ∧ DHanded w w' B acts (kActs acts) v v' lv (kOuts ck ps)
theorem refTick_join (w : World) (B : Nat) (acts : List Dt) (v : Value) (ck : Nat) (ps : List Xp) (hR : RD w B acts v) (hap : RDap B acts v) (hD : DRel acts ck ps) (hlen : acts.length ≤ 999999999999) :
    Calls Tryz.prog 42 #[.pointer (some ⟨B, 0, none⟩)] w (TickR w B acts v ck ps) := by
  have hck := hD.clk
  by_cases h1 : 1000000 ≤ clockOf acts
  · refine (deedTick_end w B acts v hR hD.ok hlen h1).mono ?_
    rintro e w' ⟨rfl, hb⟩
    refine ⟨.slice none 0 0, v, by rw [show kErr acts = 15 from if_pos h1]; rfl, ?_⟩
    rw [show kActs acts = acts from if_pos h1, show kOuts ck ps = [] from if_pos (by omega)]
    exact DHanded.nil (RDTo.same hR hap hb)
  · obtain ⟨qs, hP, hm⟩ := hD.pays
    have hl : qs.length ≤ 1000 := by
      have := congrArg List.length hm
      simp only [List.length_map] at this
      have := hD.len; omega
    have hT := hD.tick
    have hs : saysOf qs (acts ++ [tickAct]) = saysX (ps.map (lateX (ck + 1))) := by
      refine says_of ?_ hT.good
      rw [hm, List.map_map]
      apply List.map_congr_left
      intro y _
      simp [lateX_pm]
    refine (deedTick_any w B acts v hR hap hD.ok hD.few hD.pay hlen qs hP hl (by omega)).mono ?_
    rintro e w' ⟨lv, v', rfl, hH⟩
    refine ⟨lv, v', by rw [show kErr acts = 0 from if_neg h1]; rfl, ?_⟩
    rw [show kActs acts = _ from if_neg h1, show kOuts ck ps = _ from if_neg (by omega), ← hs]
    exact hH
end Go.Proofs.YtjkhbjgfoopomaaGreat
/-
  Plain: what a notary logs.
-/
namespace Go.Proofs.YtjkhbjgfoopomaaGreat
open Go.RowKit
set_option linter.unusedVariables false
set_option linter.unusedSimpArgs false
/-- does a payment stand as it did? -/
def unturned (q : Pm) (a b : List Dt) : Prop := (stOf q a).1 = (stOf q b).1 ∧ (stOf q a).2.1 = (stOf q b).2.1 ∧ (stOf q a).2.2.1 = (stOf q b).2.2.1
instance (q : Pm) (a b : List Dt) : Decidable (unturned q a b) := inferInstanceAs (Decidable (_ ∧ _ ∧ _))
/-- what is logged of an act -/
def actText (pre : List Dt) (x : Dt) : List UInt8 :=
  if x.kind = 0 then [84] else if x.kind = -1 then subTextOf x.pay else if unturned (findOf x.msg.i pre).1 pre (pre ++ [x]) then [] else frameOf x.msg
def dlogGo (pre : List Dt) : List Dt → List (List UInt8 × Nat)
  | [] => []
  | x :: r => (if actText pre x = [] then [] else [(actText pre x, pre.length)]) ++ dlogGo (pre ++ [x]) r
/-- a notary's log -/
def dlogOf (acts : List Dt) : List (List UInt8 × Nat) := dlogGo [] acts
theorem dlogGo_snoc (x : Dt) : ∀ (l pre : List Dt), dlogGo pre (l ++ [x]) = dlogGo pre l ++ (if actText (pre ++ l) x = [] then [] else [(actText (pre ++ l) x, (pre ++ l).length)])
  | [], pre => by simp [dlogGo]
  | y :: r, pre => by
    simp only [List.cons_append, dlogGo]
    rw [dlogGo_snoc x r (pre ++ [y])]
    simp only [List.append_assoc, List.cons_append, List.nil_append]
theorem dlogOf_snoc (acts : List Dt) (x : Dt) : dlogOf (acts ++ [x]) = heardOf (dlogOf acts) (actText acts x) acts.length := by
  unfold dlogOf heardOf
  rw [dlogGo_snoc]
  simp only [List.nil_append]
  split <;> simp
theorem dlogGo_le : ∀ (l pre : List Dt), (dlogGo pre l).length ≤ l.length
  | [], pre => Nat.le_refl _
  | y :: r, pre => by
    have := dlogGo_le r (pre ++ [y])
    simp only [dlogGo, List.length_append, List.length_cons]
    split <;> simp <;> omega
theorem dlogOf_le (acts : List Dt) : (dlogOf acts).length ≤ acts.length := dlogGo_le acts []
def subLog (p : Pm) (acts : List Dt) : List UInt8 := if subIs p acts then subTextOf p else []
def tLog (l : List UInt8) (acts : List Dt) : List UInt8 := if tErr l acts = 0 then actText acts ⟨((decMsg l).k : Int), noPm, decMsg l⟩ else []
def kLog (acts : List Dt) : List UInt8 := if 1000000 ≤ clockOf acts then [] else [84]
theorem subText_core {p q : Pm} (h : core p = core q) : subTextOf p = subTextOf q := by
  have : subTextOf (core p) = subTextOf (core q) := by rw [h]
  exact this
theorem subLog_log (p q : Pm) (acts : List Dt) (hq : core q = core p) : heardOf (dlogOf acts) (subLog p acts) acts.length = dlogOf (subActs p q acts) := by
  unfold subLog subActs
  split
  · rw [dlogOf_snoc]
    have : actText acts ⟨-1, q, zeroMsg⟩ = subTextOf p := by
      rw [← subText_core hq]; rfl
    rw [this]
  · simp [heardOf]
theorem subLog_told (p q : Pm) (acts : List Dt) : (subActs p q acts).length = acts.length ∨ subLog p acts ≠ [] := by
  unfold subActs subLog
  split
  · exact .inr (by simp [subTextOf])
  · exact .inl rfl
theorem tLog_log (l : List UInt8) (acts : List Dt) : heardOf (dlogOf acts) (tLog l acts) acts.length = dlogOf (tActs l acts) := by
  unfold tLog tActs
  split
  · rw [dlogOf_snoc]
  · simp [heardOf]
theorem kLog_log (acts : List Dt) : heardOf (dlogOf acts) (kLog acts) acts.length = dlogOf (kActs acts) := by
  unfold kLog kActs
  split
  · simp [heardOf]
  · rw [dlogOf_snoc]; rfl
theorem kLog_told (acts : List Dt) : (kActs acts).length = acts.length ∨ kLog acts ≠ [] := by
  unfold kActs kLog
  split
  · exact .inl rfl
  · exact .inr (by simp)
theorem subActs_le (p q : Pm) (acts : List Dt) : (subActs p q acts).length ≤ acts.length + 1 := by unfold subActs; split <;> simp
theorem tActs_le (l : List UInt8) (acts : List Dt) : (tActs l acts).length ≤ acts.length + 1 := by unfold tActs; split <;> simp
theorem kActs_le (acts : List Dt) : (kActs acts).length ≤ acts.length + 1 := by unfold kActs; split <;> simp
end Go.Proofs.YtjkhbjgfoopomaaGreat
