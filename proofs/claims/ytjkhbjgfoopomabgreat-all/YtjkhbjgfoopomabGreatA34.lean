import Derived.Test.YtjkhbjgfoopomabGreatA33
import Derived.Test.YtjkhbjgfoopomabGreatA31
namespace Go.Proofs.YtjkhbjgfoopomabGreat
open Go.RowKit
set_option linter.unusedVariables false
set_option linter.unusedSimpArgs false
def subIs (p : Pm) (acts : List Dt) : Prop := wrongOf p = 0 ∧ (findOf p.id acts).2.1 = false ∧ clockOf acts < p.dl ∧ (findOf p.id acts).2.2 < 32
instance (p : Pm) (acts : List Dt) : Decidable (subIs p acts) := inferInstanceAs (Decidable (_ ∧ _ ∧ _ ∧ _))
def subActs (p q : Pm) (acts : List Dt) : List Dt := if subIs p acts then acts ++ [⟨-1, q, zeroMsg⟩] else acts
def subOuts (p : Pm) (acts : List Dt) : List (List UInt8) :=
 if subIs p acts then asksOf p 1 0 else if wrongOf p = 0 ∧ (findOf p.id acts).2.1 = true ∧ sameOf p (findOf p.id acts).1 = true then remindsOf (findOf p.id acts).1 acts else []
theorem subIs_err {p : Pm} {acts : List Dt} (h : subIs p acts) : subErr p acts = 0 := by
 obtain ⟨h1, h2, h3, h4⟩ := h
 unfold subErr
 rw [if_pos h1, h2, if_neg (by simp), if_neg (by omega), if_neg (by omega)]
theorem DHanded.nil {w u : World} {B : Nat} {acts acts' : List Dt} {v v' : Value} (h : RDTo w u B acts acts' v v') : DHanded w u B acts acts' v v' (.slice none 0 0) [] :=
 ⟨h, RowOf.nil _ _, fun g hg => by simp [Value.ownBlock] at hg⟩
def SubR (w : World) (B : Nat) (acts : List Dt) (v : Value) (p : Pm) (e : Ending) (w' : World) : Prop :=
 ∃ lv la lc v', e = .returned (.tuple #[lv, .int .i64 (subErr p acts : Int)]) ∧ DHanded w w' B acts (subActs p ⟨p.id, p.dl, p.memo, p.legs, la, lc⟩ acts) v v' lv (subOuts p acts)
theorem refSub_any (p : Pm) (hp : p.ok) (hm : p.memo.length ≤ 140737488351232) (hll : p.legs.length ≤ 11728124029269) (w : World) (B : Nat) (acts : List Dt) (v : Value) (hR : RD w B acts v) (hap : RDap B acts v) (hok : ∀ x, x ∈ acts → x.ok) (h4 : ∀ x, x ∈ acts → few4 x) (hpay : ∀ x, x ∈ acts → PayOk x) (hlen : acts.length ≤ 999999999999) (hL : LegsAt w p.la p.legs) :
  Calls Tryz.prog 123 #[.pointer (some ⟨B, 0, none⟩), p.v] w (SubR w B acts v p) := by
 by_cases hw : wrongOf p = 0
 ·cases hf : (findOf p.id acts).2.1 with
  | true =>
   refine (submit_there p hp hm w B acts v hR hok h4 hpay (by omega) hL hw hf).mono ?_;rintro e w' ⟨⟨lv, rfl, hr, hfr⟩, hb⟩;have hn : ¬ subIs p acts := fun h => by rw [h.2.1] at hf; exact absurd hf (by decide)
   refine ⟨lv, none, 0, v, rfl, ?_⟩;rw [show subActs p _ acts = acts from if_neg hn]
   have ho : subOuts p acts = if sameOf p (findOf p.id acts).1 then remindsOf (findOf p.id acts).1 acts else [] := by
    unfold subOuts;rw [if_neg hn];by_cases hs : sameOf p (findOf p.id acts).1 = true
    ·rw [if_pos ⟨hw, hf, hs⟩, if_pos hs]
    ·rw [if_neg (fun h => hs h.2.2), if_neg hs]
   rw [ho];exact ⟨RDTo.same hR hap hb, hr, fun g hg => ⟨hfr g hg, fun hk => by have := hR.foot_lt hk; have := hfr g hg; omega⟩⟩
  | false =>
   by_cases hd : p.dl ≤ clockOf acts ∨ 32 ≤ (findOf p.id acts).2.2
   ·refine (submit_late p hp hm w B acts v hR hok (by omega) hL hw hf hd).mono ?_;rintro e w' ⟨rfl, hb⟩;have hn : ¬ subIs p acts := fun h => by have h3 := h.2.2.1; have h5 := h.2.2.2; omega
    refine ⟨_, none, 0, v, rfl, ?_⟩;rw [show subActs p _ acts = acts from if_neg hn, show subOuts p acts = [] by unfold subOuts; rw [if_neg hn, if_neg (fun h => by rw [hf] at h; exact absurd h.2.1 (by decide))]];exact DHanded.nil (RDTo.same hR hap hb)
   ·have hd1 : clockOf acts < p.dl := by omega
    have hd2 : (findOf p.id acts).2.2 < 32 := by omega
    have hi : subIs p acts := ⟨hw, hf, hd1, hd2⟩;refine (submit_new p hp hm w B acts v hR hap hok (by omega) hL hw hf hd1 hd2).mono ?_;rintro e w' ⟨lv, la, lc, v', rfl, hH⟩;refine ⟨lv, la, lc, v', ?_, ?_⟩
    ·rw [subIs_err hi]; rfl
    ·rw [show subActs p _ acts = _ from if_pos hi, show subOuts p acts = _ from if_pos hi];exact hH
 ·refine (submit_wrong p hp hm hll w B hL hw).mono ?_;rintro e w' ⟨rfl, hb⟩;have hn : ¬ subIs p acts := fun h => hw h.1;refine ⟨.slice none 0 0, none, 0, v, ?_, ?_⟩
  ·rw [show subErr p acts = wrongOf p from if_neg hw]
  ·rw [show subActs p _ acts = acts from if_neg hn, show subOuts p acts = [] by unfold subOuts; rw [if_neg hn, if_neg (fun h => hw h.1)]];exact DHanded.nil (RDTo.same hR hap hb)
def TakeR (w : World) (B : Nat) (acts : List Dt) (v : Value) (l : List UInt8) (e : Ending) (w' : World) : Prop :=
 ∃ lv v', e = .returned (.tuple #[lv, .int .i64 (tErr l acts : Int)]) ∧ DHanded w w' B acts (tActs l acts) v v' lv (tOuts l acts)
theorem TakeR.err {w w' : World} {B : Nat} {acts : List Dt} {v : Value} {l : List UInt8} {er : Nat} (hR : RD w B acts v) (hap : RDap B acts v) (he : tErr l acts = er) (h0 : er ≠ 0) (hb : Below w.heap.size w w') : TakeR w B acts v l (.returned (.tuple #[.slice none 0 0, .int .i64 (er : Int)])) w' := by
 subst he
 refine ⟨_, v, rfl, ?_⟩
 rw [show tActs l acts = acts from if_neg h0, show tOuts l acts = [] from if_neg h0]
 exact DHanded.nil (RDTo.same hR hap hb)
theorem refTake_any (s : ByteArray) (hs : s.size ≤ 140737488351232) (w : World) (B : Nat) (acts : List Dt) (v : Value) (hR : RD w B acts v) (hap : RDap B acts v) (hok : ∀ x, x ∈ acts → x.ok) (h4 : ∀ x, x ∈ acts → few4 x) (hpay : ∀ x, x ∈ acts → PayOk x) (hlen : acts.length ≤ 999999999999) (her : decErr s.data.toList < 100) :
  Calls Tryz.prog 91 #[.pointer (some ⟨B, 0, none⟩), .string s] w (TakeR w B acts v s.data.toList) := by
 by_cases he0 : decErr s.data.toList = 0
 ·by_cases ht0 : (decMsg s.data.toList).t = 0
  ·cases hun : ((findOf (decMsg s.data.toList).i acts).2.1 && hasLegB (findOf (decMsg s.data.toList).i acts).1 (decMsg s.data.toList).l (decMsg s.data.toList).f) with
   | false =>
    refine (taken_unknown s hs w B acts v hR hok hpay (by omega) he0 ht0 hun).mono ?_;rintro e w' ⟨rfl, hb⟩;exact TakeR.err (er := 13) hR hap (by unfold tErr; rw [if_neg (by omega), if_neg (by omega), if_pos hun]) (by omega) hb
   | true =>
    have hth : (findOf (decMsg s.data.toList).i acts).2.1 = true := by rw [Bool.and_eq_true] at hun; exact hun.1
    have hhl := by rw [Bool.and_eq_true] at hun; exact hun.2
    have hu' : ¬ ((findOf (decMsg s.data.toList).i acts).2.1 && hasLegB (findOf (decMsg s.data.toList).i acts).1 (decMsg s.data.toList).l (decMsg s.data.toList).f) = false := by rw [hun]; decide
    by_cases hst : ((decMsg s.data.toList).k = 5 ∧ (stOf (findOf (decMsg s.data.toList).i acts).1 acts).1 = 2) ∨ ((decMsg s.data.toList).k = 6 ∧ (stOf (findOf (decMsg s.data.toList).i acts).1 acts).1 = 1)
    ·refine (taken_state s hs w B acts v hR hok h4 hpay hlen he0 ht0 hth hhl hst).mono ?_;rintro e w' ⟨rfl, hb⟩;exact TakeR.err (er := 14) hR hap (by unfold tErr; rw [if_neg (by omega), if_neg (by omega), if_neg hu', if_pos hst]) (by omega) hb
    ·have h0 : tErr s.data.toList acts = 0 := by unfold tErr; rw [if_neg (by omega), if_neg (by omega), if_neg hu', if_neg hst]
     have hfn := fault_notary (decMsg_fault _ he0) ht0;have ha : tActs s.data.toList acts = _ := if_pos h0
     have main : ∀ e w', (∃ lv v', e = .returned (.tuple #[lv, .int .i64 0]) ∧ DHanded w w' B acts (acts ++ [⟨((decMsg s.data.toList).k : Int), noPm, decMsg s.data.toList⟩]) v v' lv (tSay (findOf (decMsg s.data.toList).i acts).1 (decMsg s.data.toList) (stOf (findOf (decMsg s.data.toList).i acts).1 acts).1 (stOf (findOf (decMsg s.data.toList).i acts).1 (acts ++ [⟨((decMsg s.data.toList).k : Int), noPm, decMsg s.data.toList⟩])).1)) → TakeR w B acts v s.data.toList e w' := by
      rintro e w' ⟨lv, v', rfl, hH⟩;refine ⟨lv, v', by rw [h0]; rfl, ?_⟩;rw [show tOuts s.data.toList acts = _ from if_pos h0, ha];exact hH
     rcases hfn.1 with hk | hk | hk
     ·exact (taken_ok4 s hs w B acts v hR hap hok h4 hpay hlen he0 ht0 hth hhl hk hst).mono main
     ·exact (taken_ok5 s hs w B acts v hR hap hok h4 hpay hlen he0 ht0 hth hhl hk hst).mono main
     ·exact (taken_ok6 s hs w B acts v hR hap hok h4 hpay hlen he0 ht0 hth hhl hk hst).mono main
  ·refine (taken_node s hs w B acts v hR he0 ht0).mono ?_;rintro e w' ⟨rfl, hb⟩;exact TakeR.err (er := 4) hR hap (by unfold tErr; rw [if_neg (by omega), if_pos ht0]) (by omega) hb
 ·refine (taken_dec s hs w B acts v hR he0 her).mono ?_;rintro e w' ⟨rfl, hb⟩;exact TakeR.err hR hap (by unfold tErr; rw [if_pos he0]) he0 hb
def kErr (acts : List Dt) : Nat := if 1000000 ≤ clockOf acts then 15 else 0
def kActs (acts : List Dt) : List Dt := if 1000000 ≤ clockOf acts then acts else acts ++ [tickAct]
def kOuts (ck : Nat) (ps : List Xp) : List (List UInt8) := if 1000000 ≤ ck then [] else saysX (ps.map (lateX (ck + 1)))
theorem says_of {acts : List Dt} {qs : List Pm} {ps : List Xp} (hm : qs.map core = ps.map (fun y => core y.pm)) (hg : ∀ y, y ∈ ps → Stands acts y) : saysOf qs acts = saysX ps := by
 have e1 : saysOf qs acts = (qs.map core).flatMap (fun p => remindsOf p acts) := by
  simp only [saysOf, List.flatMap_map, core_rem]
 rw [e1, hm]
 simp only [saysX, List.flatMap_map, core_rem]
 clear hm e1
 induction ps with
 | nil => rfl
 | cons y r ih =>
  simp only [List.flatMap_cons];rw [ih (fun z hz => hg z (List.mem_cons_of_mem _ hz)), (hg y (List.mem_cons_self ..)).rem]
def TickR (w : World) (B : Nat) (acts : List Dt) (v : Value) (ck : Nat) (ps : List Xp) (e : Ending) (w' : World) : Prop :=
 ∃ lv v', e = .returned (.tuple #[lv, .int .i64 (kErr acts : Int)]) ∧ DHanded w w' B acts (kActs acts) v v' lv (kOuts ck ps)
theorem refTick_join (w : World) (B : Nat) (acts : List Dt) (v : Value) (ck : Nat) (ps : List Xp) (hR : RD w B acts v) (hap : RDap B acts v) (hD : DRel acts ck ps) (hlen : acts.length ≤ 999999999999) :
  Calls Tryz.prog 92 #[.pointer (some ⟨B, 0, none⟩)] w (TickR w B acts v ck ps) := by
 have hck := hD.clk
 by_cases h1 : 1000000 ≤ clockOf acts
 ·refine (deedTick_end w B acts v hR hD.ok hlen h1).mono ?_;rintro e w' ⟨rfl, hb⟩;refine ⟨.slice none 0 0, v, by rw [show kErr acts = 15 from if_pos h1]; rfl, ?_⟩;rw [show kActs acts = acts from if_pos h1, show kOuts ck ps = [] from if_pos (by omega)];exact DHanded.nil (RDTo.same hR hap hb)
 ·obtain ⟨qs, hP, hm⟩ := hD.pays
  have hl : qs.length ≤ 1000 := by
   have := congrArg List.length hm;simp only [List.length_map] at this;have := hD.len; omega
  have hT := hD.tick
  have hs : saysOf qs (acts ++ [tickAct]) = saysX (ps.map (lateX (ck + 1))) := by
   refine says_of ?_ hT.good;rw [hm, List.map_map];apply List.map_congr_left;intro y _;simp [lateX_pm]
  refine (deedTick_any w B acts v hR hap hD.ok hD.few hD.pay hlen qs hP hl (by omega)).mono ?_;rintro e w' ⟨lv, v', rfl, hH⟩;refine ⟨lv, v', by rw [show kErr acts = 0 from if_neg h1]; rfl, ?_⟩;rw [show kActs acts = _ from if_neg h1, show kOuts ck ps = _ from if_neg (by omega), ← hs];exact hH
def unturned (q : Pm) (a b : List Dt) : Prop := (stOf q a).1 = (stOf q b).1 ∧ (stOf q a).2.1 = (stOf q b).2.1 ∧ (stOf q a).2.2.1 = (stOf q b).2.2.1
instance (q : Pm) (a b : List Dt) : Decidable (unturned q a b) := inferInstanceAs (Decidable (_ ∧ _ ∧ _))
def actText (pre : List Dt) (x : Dt) : List UInt8 :=
 if x.kind = 0 then [84] else if x.kind = -1 then subTextOf x.pay else if unturned (findOf x.msg.i pre).1 pre (pre ++ [x]) then [] else frameOf x.msg
def dlogGo (pre : List Dt) : List Dt → List (List UInt8 × Nat)
 | [] => []
 | x :: r => (if actText pre x = [] then [] else [(actText pre x, pre.length)]) ++ dlogGo (pre ++ [x]) r
def dlogOf (acts : List Dt) : List (List UInt8 × Nat) := dlogGo [] acts
theorem dlogGo_snoc (x : Dt) : ∀ (l pre : List Dt), dlogGo pre (l ++ [x]) = dlogGo pre l ++ (if actText (pre ++ l) x = [] then [] else [(actText (pre ++ l) x, (pre ++ l).length)])
 | [], pre => by simp [dlogGo]
 | y :: r, pre => by
  simp only [List.cons_append, dlogGo];rw [dlogGo_snoc x r (pre ++ [y])];simp only [List.append_assoc, List.cons_append, List.nil_append]
theorem dlogOf_snoc (acts : List Dt) (x : Dt) : dlogOf (acts ++ [x]) = heardOf (dlogOf acts) (actText acts x) acts.length := by
 unfold dlogOf heardOf
 rw [dlogGo_snoc]
 simp only [List.nil_append]
 split <;> simp
theorem dlogGo_le : ∀ (l pre : List Dt), (dlogGo pre l).length ≤ l.length
 | [], pre => Nat.le_refl _
 | y :: r, pre => by
  have := dlogGo_le r (pre ++ [y]);simp only [dlogGo, List.length_append, List.length_cons];split <;> simp <;> omega
theorem dlogOf_le (acts : List Dt) : (dlogOf acts).length ≤ acts.length := dlogGo_le acts []
def subLog (p : Pm) (acts : List Dt) : List UInt8 := if subIs p acts then subTextOf p else []
def tLog (l : List UInt8) (acts : List Dt) : List UInt8 := if tErr l acts = 0 then actText acts ⟨((decMsg l).k : Int), noPm, decMsg l⟩ else []
def kLog (acts : List Dt) : List UInt8 := if 1000000 ≤ clockOf acts then [] else [84]
theorem subText_core {p q : Pm} (h : core p = core q) : subTextOf p = subTextOf q := by
 have : subTextOf (core p) = subTextOf (core q) := by rw [h]
 exact this
theorem subLog_log (p q : Pm) (acts : List Dt) (hq : core q = core p) : heardOf (dlogOf acts) (subLog p acts) acts.length = dlogOf (subActs p q acts) := by
 unfold subLog subActs
 split
 ·rw [dlogOf_snoc]
  have : actText acts ⟨-1, q, zeroMsg⟩ = subTextOf p := by
   rw [← subText_core hq]; rfl
  rw [this]
 ·simp [heardOf]
theorem subLog_told (p q : Pm) (acts : List Dt) : (subActs p q acts).length = acts.length ∨ subLog p acts ≠ [] := by
 unfold subActs subLog
 split
 ·exact .inr (by simp [subTextOf])
 ·exact .inl rfl
theorem tLog_log (l : List UInt8) (acts : List Dt) : heardOf (dlogOf acts) (tLog l acts) acts.length = dlogOf (tActs l acts) := by
 unfold tLog tActs
 split
 ·rw [dlogOf_snoc]
 ·simp [heardOf]
theorem kLog_log (acts : List Dt) : heardOf (dlogOf acts) (kLog acts) acts.length = dlogOf (kActs acts) := by
 unfold kLog kActs
 split
 ·simp [heardOf]
 ·rw [dlogOf_snoc]; rfl
theorem kLog_told (acts : List Dt) : (kActs acts).length = acts.length ∨ kLog acts ≠ [] := by
 unfold kActs kLog
 split
 ·exact .inl rfl
 ·exact .inr (by simp)
theorem subActs_le (p q : Pm) (acts : List Dt) : (subActs p q acts).length ≤ acts.length + 1 := by unfold subActs; split <;> simp
theorem tActs_le (l : List UInt8) (acts : List Dt) : (tActs l acts).length ≤ acts.length + 1 := by unfold tActs; split <;> simp
theorem kActs_le (acts : List Dt) : (kActs acts).length ≤ acts.length + 1 := by unfold kActs; split <;> simp
theorem take_text {acts : List Dt} {y : Xp} (g : Stands acts y) {x : Msg} (hc : core (findOf x.i acts).1 = core y.pm) (hk : x.k = 4 ∨ x.k = 5 ∨ x.k = 6) (hi : x.i = y.pm.id) (hl : x.l < y.pm.legs.length) (he : (hearX y x.k x.l).2.2 = 0) : actText acts ⟨(x.k : Int), noPm, x⟩ = if sameSt (hearX y x.k x.l).1 y then [] else frameOf x := by
 have hst := hear_st g hk hi hl he
 obtain ⟨_, hpm⟩ := hearX_fine g.fine x.k (l := x.l) (by have := wrongOf_few g.right; omega)
 unfold actText
 rw [if_neg (by show ¬ (x.k : Int) = 0; omega), if_neg (by show ¬ (x.k : Int) = -1; omega)]
 have e : unturned (findOf x.i acts).1 acts (acts ++ [⟨(x.k : Int), noPm, x⟩]) ↔ sameSt (hearX y x.k x.l).1 y := by
  unfold unturned sameSt;rw [st_core hc, st_core hc, ← g.st, ← g.held, ← g.done];have h1 := hst.st;have h2 := hst.held;have h3 := hst.done;rw [hpm] at h1 h2 h3;rw [← h1, ← h2, ← h3];constructor
  ·rintro ⟨a, b, c⟩; exact ⟨a.symm, b.symm, c.symm⟩
  ·rintro ⟨a, b, c⟩; exact ⟨a.symm, b.symm, c.symm⟩
 by_cases h : sameSt (hearX y x.k x.l).1 y
 ·rw [if_pos h, if_pos (e.2 h)]
 ·rw [if_neg h, if_neg (fun c => h (e.1 c))]
def SubX (w : World) (B ck : Nat) (ps : List Xp) (v : Value) (p : Pm) (acts : List Dt) (e : Ending) (w' : World) : Prop :=
 ∃ lv ps' v', e = .returned (.tuple #[lv, .string (bs (subLog p acts)), .int .i64 (subErr p acts : Int)]) ∧ XDHanded w w' B ck ps ps' v v' lv (subOuts p acts) ∧ ∀ q, core q = core p → DRel (subActs p q acts) ck ps'
theorem xSub_any (p : Pm) (hp : p.ok) (hm : p.memo.length ≤ 140737488351232) (hll : p.legs.length ≤ 11728124029269) (w : World) (B ck : Nat) (ps : List Xp) (v : Value) (hX : XD w B ck ps v) (hap : XDap B ps v) (acts : List Dt) (hD : DRel acts ck ps) (hcl : ck < 18446744073709551616) (hL : RowOf w 67 4 Pl.cells p.lv p.legs) (hLd : ∀ g, p.lv.ownBlock = some g → g ≠ B ∧ v.ownBlock ≠ some g) :
  Calls Tryz.prog 39 #[.pointer (some ⟨B, 0, none⟩), p.v] w (SubX w B ck ps v p acts) := by
 have hfine : ∀ y, y ∈ ps → y.fine := fun y hy => (hD.good y hy).fine
 have hlen := hD.len
 by_cases hw : wrongOf p = 0
 ·rcases Nat.lt_or_ge (findX p.id ps) ps.length with hj | hj
  ·obtain ⟨hf, hc⟩ := hD.find_in p.id hj;have hn : ¬ subIs p acts := fun h => by rw [h.2.1] at hf; exact absurd hf (by decide)
   have g := hD.good _ (List.getElem_mem hj);have es : sameOf p (findOf p.id acts).1 = sameOf ps[findX p.id ps].pm p := by rw [same_core hc, sameOf_comm]
   refine (xSubmit_there p hp hm w B ck ps v hX hfine (by omega) hL hw hj).mono ?_;rintro e w' ⟨⟨lv, rfl, hr, hfr⟩, hb⟩
   have ee : subErr p acts = if sameOf ps[findX p.id ps].pm p then 0 else 11 := by
    unfold subErr;rw [if_pos hw, if_pos hf, es]
   have eo : subOuts p acts = if sameOf ps[findX p.id ps].pm p then remX ps[findX p.id ps] else [] := by
    unfold subOuts;rw [if_neg hn, es, g.rem];by_cases hs : sameOf ps[findX p.id ps].pm p = true
    ·rw [if_pos ⟨hw, hf, hs⟩, if_pos hs, rem_core hc]
    ·rw [if_neg (fun h => hs h.2.2), if_neg hs]
   refine ⟨lv, ps, v, ?_, ?_, ?_⟩
   ·rw [ee, show subLog p acts = [] from if_neg hn];split <;> rfl
   ·rw [eo];exact ⟨XDTo.same hX hap hb, hr, fun g hg => ⟨hfr g hg, fun hk => by have := hX.foot_lt hk; have := hfr g hg; omega⟩⟩
   ·intro q _;rw [show subActs p q acts = acts from if_neg hn];exact hD
  ·have hf := hD.find_no p.id hj;have hcn := hD.cnt p.id;have hck := hD.clk;by_cases hd : p.dl ≤ clockOf acts ∨ 32 ≤ (findOf p.id acts).2.2
   ·have hn : ¬ subIs p acts := fun h => by have h3 := h.2.2.1; have h5 := h.2.2.2; omega
    have he : ∃ er, subErr p acts = er ∧ er ≠ 0 ∧ ((p.dl ≤ ck ∧ er = 12) ∨ (ck < p.dl ∧ 32 ≤ ps.length ∧ er = 10)) := by
     refine ⟨subErr p acts, rfl, ?_⟩;unfold subErr;rw [if_pos hw, hf, if_neg (by decide)];by_cases h1 : p.dl ≤ clockOf acts
     ·rw [if_pos h1]; exact ⟨by omega, .inl ⟨by omega, rfl⟩⟩
     ·rw [if_neg h1, if_pos (by omega)]; exact ⟨by omega, .inr ⟨by omega, by omega, rfl⟩⟩
    obtain ⟨er, he1, he2, he3⟩ := he;refine (xSubmit_late p hp hm w B ck ps v hX (fun y hy => (hfine y hy).ok) (by omega) hL.legsAt hw hj hcl er he3).mono ?_;rintro e w' ⟨rfl, hb⟩;refine ⟨.slice none 0 0, ps, v, by rw [he1, show subLog p acts = [] from if_neg hn]; rfl, ?_, ?_⟩
    ·rw [show subOuts p acts = [] by unfold subOuts; rw [if_neg hn, if_neg (fun h => by rw [hf] at h; exact absurd h.2.1 (by decide))]];exact XDHanded.nil (XDTo.same hX hap hb)
    ·intro q _;rw [show subActs p q acts = acts from if_neg hn];exact hD
   ·have hd1 : ck < p.dl := by omega
    have hd2 : ps.length < 32 := by omega
    have hi : subIs p acts := ⟨hw, hf, by omega, by omega⟩;refine (xSubmit_new p hp hm w B ck ps v hX hap (fun y hy => (hfine y hy).ok) hL hw (wrong_memo hw) hj hd1 hd2 hLd).mono ?_;rintro e w' ⟨lv, la, lc, k, v', rfl, hk, hk1, hk2, hH⟩;refine ⟨lv, insX ⟨⟨p.id, p.dl, p.memo, p.legs, la, lc⟩, 1, 0, 0⟩ k ps, v', by rw [subIs_err hi, show subLog p acts = _ from if_pos hi]; rfl, ?_, ?_⟩;rotate_left
    ·intro q hq;rw [show subActs p q acts = _ from if_pos hi];exact hD.add hp hw ((findX_none _ _).1 hj) hd2 hk hk1 hk2 hq rfl
    ·rw [show subOuts p acts = _ from if_pos hi];have := say_asks hw 1 0 (by omega);rw [show askKind 1 = 1 from rfl] at this;rw [← this];exact hH
 ·have hn : ¬ subIs p acts := fun h => hw h.1;refine (xSubmit_wrong p hp hm hll w B hL.legsAt hw).mono ?_;rintro e w' ⟨rfl, hb⟩;refine ⟨.slice none 0 0, ps, v, ?_, ?_, ?_⟩
  ·rw [show subErr p acts = wrongOf p from if_neg hw, show subLog p acts = [] from if_neg hn]; rfl
  ·rw [show subOuts p acts = [] by unfold subOuts; rw [if_neg hn, if_neg (fun h => hw h.1)]];exact XDHanded.nil (XDTo.same hX hap hb)
  ·intro q _;rw [show subActs p q acts = acts from if_neg hn];exact hD
def TakeX (w : World) (B ck : Nat) (ps : List Xp) (v : Value) (l : List UInt8) (acts : List Dt) (e : Ending) (w' : World) : Prop :=
 ∃ lv ps' v', e = .returned (.tuple #[lv, .string (bs (tLog l acts)), .int .i64 (tErr l acts : Int)]) ∧ XDHanded w w' B ck ps ps' v v' lv (tOuts l acts) ∧ DRel (tActs l acts) ck ps'
theorem TakeX.err {w w' : World} {B ck : Nat} {ps : List Xp} {v : Value} {l : List UInt8} {acts : List Dt} {er : Nat} (hX : XDTo w w' B ck ps ps v v) (hD : DRel acts ck ps) (he : tErr l acts = er) (h0 : er ≠ 0) : TakeX w B ck ps v l acts (.returned (.tuple #[.slice none 0 0, .string ⟨#[]⟩, .int .i64 (er : Int)])) w' := by
 subst he
 refine ⟨.slice none 0 0, ps, v, by rw [show tLog l acts = [] from if_neg h0]; rfl, ?_, ?_⟩
 ·rw [show tOuts l acts = [] from if_neg h0];exact XDHanded.nil hX
 ·rw [show tActs l acts = acts from if_neg h0]; exact hD
theorem hasLeg_core {p q : Pm} (h : core p = core q) (l f : Nat) : hasLegB p l f = hasLegB q l f := by
 unfold hasLegB
 rw [legs_core h]
theorem xTake_any (s : ByteArray) (hs : s.size ≤ maxLen) (w : World) (B ck : Nat) (ps : List Xp) (v : Value) (hX : XD w B ck ps v) (hap : XDap B ps v) (acts : List Dt) (hD : DRel acts ck ps) (her : decErr s.data.toList < 100) :
  Calls Tryz.prog 113 #[.pointer (some ⟨B, 0, none⟩), .string s] w (TakeX w B ck ps v s.data.toList acts) := by
 have hfine : ∀ y, y ∈ ps → y.fine := fun y hy => (hD.good y hy).fine
 have hlen := hD.len
 by_cases he0 : decErr s.data.toList = 0
 ·by_cases ht0 : (decMsg s.data.toList).t = 0
  ·rcases Nat.lt_or_ge (findX (decMsg s.data.toList).i ps) ps.length with hj | hj
   ·obtain ⟨hf, hc⟩ := hD.find_in (decMsg s.data.toList).i hj;have g := hD.good _ (List.getElem_mem hj);have eh := hasLeg_core hc (decMsg s.data.toList).l (decMsg s.data.toList).f;cases hhl : hasLegB ps[findX (decMsg s.data.toList).i ps].pm (decMsg s.data.toList).l (decMsg s.data.toList).f with
    | false =>
     refine (xTaken_leg s hs w B ck ps v hX hfine (by omega) he0 ht0 hj hhl).mono ?_;rintro e w' ⟨rfl, hb⟩;exact TakeX.err (er := 13) (XDTo.same hX hap hb) hD (by unfold tErr; rw [if_neg (by omega), if_neg (by omega), if_pos (by rw [eh, hhl, Bool.and_false])]) (by omega)
    | true =>
     have hfn := fault_notary (decMsg_fault _ he0) ht0;have hxok := decMsg_ok s.data.toList;have hat := findX_at _ ps hj;obtain ⟨hl, _⟩ := hasLegB_at hhl;have hu' : ¬ ((findOf (decMsg s.data.toList).i acts).2.1 && hasLegB (findOf (decMsg s.data.toList).i acts).1 (decMsg s.data.toList).l (decMsg s.data.toList).f) = false := by rw [hf, eh, hhl]; decide
     have hte : tErr s.data.toList acts = (hearX ps[findX (decMsg s.data.toList).i ps] (decMsg s.data.toList).k (decMsg s.data.toList).l).2.2 := by
      rw [hear_err g hfn.1];unfold tErr;rw [if_neg (by omega), if_neg (by omega), if_neg hu', st_core hc]
     refine (xTaken_hear s hs w B ck ps v hX hap hfine (by omega) he0 ht0 hj hhl).mono ?_;intro e w' hT;unfold TakenX at hT;by_cases hz : (hearX ps[findX (decMsg s.data.toList).i ps] (decMsg s.data.toList).k (decMsg s.data.toList).l).2.2 = 0
     ·rw [if_pos hz] at hT;obtain ⟨lv, rfl, hH⟩ := hT;have h0 : tErr s.data.toList acts = 0 := by rw [hte, hz]
      have hx : tLog s.data.toList acts = if sameSt (hearX ps[findX (decMsg s.data.toList).i ps] (decMsg s.data.toList).k (decMsg s.data.toList).l).1 ps[findX (decMsg s.data.toList).i ps] then [] else frameOf (decMsg s.data.toList) := by
       rw [show tLog s.data.toList acts = _ from if_pos h0];exact take_text g hc hfn.1 hat.symm hl hz
      refine ⟨lv, ps.set (findX (decMsg s.data.toList).i ps) (hearX ps[findX (decMsg s.data.toList).i ps] (decMsg s.data.toList).k (decMsg s.data.toList).l).1, v, by rw [h0, hx]; rfl, ?_, ?_⟩;rotate_left
      ·rw [show tActs s.data.toList acts = _ from if_pos h0];exact hD.take hxok hfn.1 hfn.2.1 hj hhl hz
      ·rw [show tOuts s.data.toList acts = _ from if_pos h0, show tActs s.data.toList acts = _ from if_pos h0, ← hear_outs g hc hfn.1 hat.symm hl hz];exact hH
     ·rw [if_neg hz] at hT;obtain ⟨rfl, hH⟩ := hT;exact TakeX.err hH hD hte hz
   ·have hf := hD.find_no (decMsg s.data.toList).i hj;refine (xTaken_none s hs w B ck ps v hX (fun y hy => (hfine y hy).ok) (by omega) he0 ht0 hj).mono ?_;rintro e w' ⟨rfl, hb⟩;exact TakeX.err (er := 13) (XDTo.same hX hap hb) hD (by unfold tErr; rw [if_neg (by omega), if_neg (by omega), if_pos (by rw [hf, Bool.false_and])]) (by omega)
  ·refine (xTaken_node s hs w B he0 ht0).mono ?_;rintro e w' ⟨rfl, hb⟩;exact TakeX.err (er := 4) (XDTo.same hX hap hb) hD (by unfold tErr; rw [if_neg (by omega), if_pos ht0]) (by omega)
 ·refine (xTaken_dec s hs w B he0 her).mono ?_;rintro e w' ⟨rfl, hb⟩;exact TakeX.err (XDTo.same hX hap hb) hD (by unfold tErr; rw [if_pos he0]) he0
def TickX (w : World) (B ck : Nat) (ps : List Xp) (v : Value) (acts : List Dt) (e : Ending) (w' : World) : Prop :=
 ∃ lv ck' ps' v', e = .returned (.tuple #[lv, .string (bs (kLog acts)), .int .i64 (kErr acts : Int)]) ∧ XDHanded w w' B ck' ps ps' v v' lv (kOuts ck ps) ∧ DRel (kActs acts) ck' ps'
theorem xTick_join (w : World) (B ck : Nat) (ps : List Xp) (v : Value) (hX : XD w B ck ps v) (hap : XDap B ps v) (acts : List Dt) (hD : DRel acts ck ps) (hcl : ck < 18446744073709551616) :
  Calls Tryz.prog 69 #[.pointer (some ⟨B, 0, none⟩)] w (TickX w B ck ps v acts) := by
 have hck := hD.clk
 have hfine : ∀ y, y ∈ ps → y.fine := fun y hy => (hD.good y hy).fine
 by_cases h1 : 1000000 ≤ ck
 ·refine (xTickD_end w B ck ps v hX h1 hcl).mono ?_;rintro e w' ⟨rfl, rfl⟩;refine ⟨.slice none 0 0, ck, ps, v, by rw [show kErr acts = 15 from if_pos (by omega), show kLog acts = [] from if_pos (by omega)]; rfl, ?_, ?_⟩
  ·rw [show kOuts ck ps = [] from if_pos h1];exact XDHanded.nil (XDTo.same hX hap (Below.refl _ _))
  ·rw [show kActs acts = acts from if_pos (by omega)]; exact hD
 ·refine (xTickD_any w B ck ps v hX hap hfine (by have := hD.len; omega) (by omega)).mono ?_;rintro e w' ⟨lv, rfl, hH⟩;have h0 : kErr acts = 0 := if_neg (by omega);refine ⟨lv, ck + 1, ps.map (lateX (ck + 1)), v, by rw [h0, show kLog acts = [84] from if_neg (by omega)]; rfl, ?_, ?_⟩;rotate_left
  ·rw [show kActs acts = _ from if_neg (by omega)]; exact hD.tick
  ·rw [show kOuts ck ps = _ from if_neg h1]; exact hH
end Go.Proofs.YtjkhbjgfoopomabGreat
