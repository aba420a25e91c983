import Derived.Test.YtjkhbjgfoopomaaR21
import Derived.Test.YtjkhbjgfoopomaaR17
import Derived.Test.YtjkhbjgfoopomaaR16
/-
  The program's notary: Submit, Handle, Tick, each as a whole, by the document's acts.
-/
namespace Go.Proofs.Ytjkhbjgfoopomaa
open Go.RowKit
set_option linter.unusedVariables false
set_option linter.unusedSimpArgs false
theorem take_text {acts : List Dt} {y : Xp} (g : Stands acts y) {x : Msg} (hc : core (findOf x.i acts).1 = core y.pm) (hk : x.k = 4 ∨ x.k = 5 ∨ x.k = 6) (hi : x.i = y.pm.id) (hl : x.l < y.pm.legs.length) (he : (hearX y x.k x.l).2.2 = 0) : actText acts ⟨(x.k : Int), noPm, x⟩ = if sameSt (hearX y x.k x.l).1 y then [] else frameOf x := by
  have hst := hear_st g hk hi hl he
  obtain ⟨_, hpm⟩ := hearX_fine g.fine x.k (l := x.l) (by have := wrongOf_few g.right; omega)
  unfold actText
  rw [if_neg (by show ¬ (x.k : Int) = 0; omega), if_neg (by show ¬ (x.k : Int) = -1; omega)]
  have e : unturned (findOf x.i acts).1 acts (acts ++ [⟨(x.k : Int), noPm, x⟩]) ↔ sameSt (hearX y x.k x.l).1 y := by
    unfold unturned sameSt
    rw [st_core hc, st_core hc, ← g.st, ← g.held, ← g.done]
    have h1 := hst.st
    have h2 := hst.held
    have h3 := hst.done
    rw [hpm] at h1 h2 h3
    rw [← h1, ← h2, ← h3]
    constructor
    · rintro ⟨a, b, c⟩; exact ⟨a.symm, b.symm, c.symm⟩
    · rintro ⟨a, b, c⟩; exact ⟨a.symm, b.symm, c.symm⟩
  by_cases h : sameSt (hearX y x.k x.l).1 y
  · rw [if_pos h, if_pos (e.2 h)]
  · rw [if_neg h, if_neg (fun c => h (e.1 c))]
def SubX (w : World) (B ck : Nat) (ps : List Xp) (v : Value) (p : Pm) (acts : List Dt) (e : Ending) (w' : World) : Prop :=
  ∃ lv ps' v', e = .returned (.tuple #[lv, .string (bs (subLog p acts)), .int .i64 (subErr p acts : Int)]) ∧ XDHanded w w' B ck ps ps' v v' lv (subOuts p acts) ∧ ∀ q, core q = core p → DRel (subActs p q acts) ck ps'
theorem xSub_any (p : Pm) (hp : p.ok) (hm : p.memo.length ≤ 140737488351232) (hll : p.legs.length ≤ 11728124029269) (w : World) (B ck : Nat) (ps : List Xp) (v : Value) (hX : XD w B ck ps v) (hap : XDap B ps v) (acts : List Dt) (hD : DRel acts ck ps) (hcl : ck < 18446744073709551616) (hL : RowOf w 57 4 Pl.cells p.lv p.legs) (hLd : ∀ g, p.lv.ownBlock = some g → g ≠ B ∧ v.ownBlock ≠ some g) :
    Calls Try.prog 51 #[.pointer (some ⟨B, 0, none⟩), p.v] w (SubX w B ck ps v p acts) := by
  have hfine : ∀ y, y ∈ ps → y.fine := fun y hy => (hD.good y hy).fine
  have hlen := hD.len
  by_cases hw : wrongOf p = 0
  · rcases Nat.lt_or_ge (findX p.id ps) ps.length with hj | hj
    · obtain ⟨hf, hc⟩ := hD.find_in p.id hj
      have hn : ¬ subIs p acts := fun h => by rw [h.2.1] at hf; exact absurd hf (by decide)
      have g := hD.good _ (List.getElem_mem hj)
      have es : sameOf p (findOf p.id acts).1 = sameOf ps[findX p.id ps].pm p := by rw [same_core hc, sameOf_comm]
      refine (xSubmit_there p hp hm w B ck ps v hX hfine (by omega) hL hw hj).mono ?_
      rintro e w' ⟨⟨lv, rfl, hr, hfr⟩, hb⟩
      have ee : subErr p acts = if sameOf ps[findX p.id ps].pm p then 0 else 11 := by
        unfold subErr
        rw [if_pos hw, if_pos hf, es]
      have eo : subOuts p acts = if sameOf ps[findX p.id ps].pm p then remX ps[findX p.id ps] else [] := by
        unfold subOuts
        rw [if_neg hn, es, g.rem]
        by_cases hs : sameOf ps[findX p.id ps].pm p = true
        · rw [if_pos ⟨hw, hf, hs⟩, if_pos hs, rem_core hc]
        · rw [if_neg (fun h => hs h.2.2), if_neg hs]
      refine ⟨lv, ps, v, ?_, ?_, ?_⟩
      · rw [ee, show subLog p acts = [] from if_neg hn]
        split <;> rfl
      · rw [eo]
        exact ⟨XDTo.same hX hap hb, hr, fun g hg => ⟨hfr g hg, fun hk => by have := hX.foot_lt hk; have := hfr g hg; omega⟩⟩
      · intro q _
        rw [show subActs p q acts = acts from if_neg hn]
        exact hD
    · have hf := hD.find_no p.id hj
      have hcn := hD.cnt p.id
      have hck := hD.clk
      by_cases hd : p.dl ≤ clockOf acts ∨ 32 ≤ (findOf p.id acts).2.2
      · have hn : ¬ subIs p acts := fun h => by have h3 := h.2.2.1; have h5 := h.2.2.2; omega
        have he : ∃ er, subErr p acts = er ∧ er ≠ 0 ∧ ((p.dl ≤ ck ∧ er = 12) ∨ (ck < p.dl ∧ 32 ≤ ps.length ∧ er = 10)) := by
          refine ⟨subErr p acts, rfl, ?_⟩
          unfold subErr
          rw [if_pos hw, hf, if_neg (by decide)]
          by_cases h1 : p.dl ≤ clockOf acts
          · rw [if_pos h1]; exact ⟨by omega, .inl ⟨by omega, rfl⟩⟩
          · rw [if_neg h1, if_pos (by omega)]; exact ⟨by omega, .inr ⟨by omega, by omega, rfl⟩⟩
        obtain ⟨er, he1, he2, he3⟩ := he
        refine (xSubmit_late p hp hm w B ck ps v hX (fun y hy => (hfine y hy).ok) (by omega) hL.legsAt hw hj hcl er he3).mono ?_
        rintro e w' ⟨rfl, hb⟩
        refine ⟨.slice none 0 0, ps, v, by rw [he1, show subLog p acts = [] from if_neg hn]; rfl, ?_, ?_⟩
        · rw [show subOuts p acts = [] by unfold subOuts; rw [if_neg hn, if_neg (fun h => by rw [hf] at h; exact absurd h.2.1 (by decide))]]
          exact XDHanded.nil (XDTo.same hX hap hb)
        · intro q _
          rw [show subActs p q acts = acts from if_neg hn]
          exact hD
      · have hd1 : ck < p.dl := by omega
        have hd2 : ps.length < 32 := by omega
        have hi : subIs p acts := ⟨hw, hf, by omega, by omega⟩
        refine (xSubmit_new p hp hm w B ck ps v hX hap (fun y hy => (hfine y hy).ok) hL hw (wrong_memo hw) hj hd1 hd2 hLd).mono ?_
        rintro e w' ⟨lv, la, lc, k, v', rfl, hk, hk1, hk2, hH⟩
        refine ⟨lv, insX ⟨⟨p.id, p.dl, p.memo, p.legs, la, lc⟩, 1, 0, 0⟩ k ps, v', by rw [subIs_err hi, show subLog p acts = _ from if_pos hi]; rfl, ?_, ?_⟩
        rotate_left
        · intro q hq
          rw [show subActs p q acts = _ from if_pos hi]
          exact hD.add hp hw ((findX_none _ _).1 hj) hd2 hk hk1 hk2 hq rfl
        · rw [show subOuts p acts = _ from if_pos hi]
          have := say_asks hw 1 0 (by omega)
          rw [show askKind 1 = 1 from rfl] at this
          rw [← this]
          exact hH
  · have hn : ¬ subIs p acts := fun h => hw h.1
    refine (xSubmit_wrong p hp hm hll w B hL.legsAt hw).mono ?_
    rintro e w' ⟨rfl, hb⟩
    refine ⟨.slice none 0 0, ps, v, ?_, ?_, ?_⟩
    · rw [show subErr p acts = wrongOf p from if_neg hw, show subLog p acts = [] from if_neg hn]; rfl
    · rw [show subOuts p acts = [] by unfold subOuts; rw [if_neg hn, if_neg (fun h => hw h.1)]]
      exact XDHanded.nil (XDTo.same hX hap hb)
    · intro q _
      rw [show subActs p q acts = acts from if_neg hn]
      exact hD
def TakeX (w : World) (B ck : Nat) (ps : List Xp) (v : Value) (l : List UInt8) (acts : List Dt) (e : Ending) (w' : World) : Prop :=
  ∃ lv ps' v', e = .returned (.tuple #[lv, .string (bs (tLog l acts)), .int .i64 (tErr l acts : Int)]) ∧ XDHanded w w' B ck ps ps' v v' lv (tOuts l acts) ∧ DRel (tActs l acts) ck ps'
theorem TakeX.err {w w' : World} {B ck : Nat} {ps : List Xp} {v : Value} {l : List UInt8} {acts : List Dt} {er : Nat} (hX : XDTo w w' B ck ps ps v v) (hD : DRel acts ck ps) (he : tErr l acts = er) (h0 : er ≠ 0) : TakeX w B ck ps v l acts (.returned (.tuple #[.slice none 0 0, .string ⟨#[]⟩, .int .i64 (er : Int)])) w' := by
  subst he
  refine ⟨.slice none 0 0, ps, v, by rw [show tLog l acts = [] from if_neg h0]; rfl, ?_, ?_⟩
  · rw [show tOuts l acts = [] from if_neg h0]
    exact XDHanded.nil hX
  · rw [show tActs l acts = acts from if_neg h0]; exact hD
theorem hasLeg_core {p q : Pm} (h : core p = core q) (l f : Nat) : hasLegB p l f = hasLegB q l f := by
  unfold hasLegB
  rw [legs_core h]
theorem xTake_any (s : ByteArray) (hs : s.size ≤ maxLen) (w : World) (B ck : Nat) (ps : List Xp) (v : Value) (hX : XD w B ck ps v) (hap : XDap B ps v) (acts : List Dt) (hD : DRel acts ck ps) (her : decErr s.data.toList < 100) :
    Calls Try.prog 103 #[.pointer (some ⟨B, 0, none⟩), .string s] w (TakeX w B ck ps v s.data.toList acts) := by
  have hfine : ∀ y, y ∈ ps → y.fine := fun y hy => (hD.good y hy).fine
  have hlen := hD.len
  by_cases he0 : decErr s.data.toList = 0
  · by_cases ht0 : (decMsg s.data.toList).t = 0
    · rcases Nat.lt_or_ge (findX (decMsg s.data.toList).i ps) ps.length with hj | hj
      · obtain ⟨hf, hc⟩ := hD.find_in (decMsg s.data.toList).i hj
        have g := hD.good _ (List.getElem_mem hj)
        have eh := hasLeg_core hc (decMsg s.data.toList).l (decMsg s.data.toList).f
        cases hhl : hasLegB ps[findX (decMsg s.data.toList).i ps].pm (decMsg s.data.toList).l (decMsg s.data.toList).f with
        | false =>
          refine (xTaken_leg s hs w B ck ps v hX hfine (by omega) he0 ht0 hj hhl).mono ?_
          rintro e w' ⟨rfl, hb⟩
          exact TakeX.err (er := 13) (XDTo.same hX hap hb) hD (by unfold tErr; rw [if_neg (by omega), if_neg (by omega), if_pos (by rw [eh, hhl, Bool.and_false])]) (by omega)
        | true =>
          have hfn := fault_notary (decMsg_fault _ he0) ht0
          have hxok := decMsg_ok s.data.toList
          have hat := findX_at _ ps hj
          obtain ⟨hl, _⟩ := hasLegB_at hhl
          have hu' : ¬ ((findOf (decMsg s.data.toList).i acts).2.1 && hasLegB (findOf (decMsg s.data.toList).i acts).1 (decMsg s.data.toList).l (decMsg s.data.toList).f) = false := by rw [hf, eh, hhl]; decide
          have hte : tErr s.data.toList acts = (hearX ps[findX (decMsg s.data.toList).i ps] (decMsg s.data.toList).k (decMsg s.data.toList).l).2.2 := by
            rw [hear_err g hfn.1]
            unfold tErr
            rw [if_neg (by omega), if_neg (by omega), if_neg hu', st_core hc]
          refine (xTaken_hear s hs w B ck ps v hX hap hfine (by omega) he0 ht0 hj hhl).mono ?_
          intro e w' hT
          unfold TakenX at hT
          by_cases hz : (hearX ps[findX (decMsg s.data.toList).i ps] (decMsg s.data.toList).k (decMsg s.data.toList).l).2.2 = 0
          · rw [if_pos hz] at hT
            obtain ⟨lv, rfl, hH⟩ := hT
            have h0 : tErr s.data.toList acts = 0 := by rw [hte, hz]
            have hx : tLog s.data.toList acts = if sameSt (hearX ps[findX (decMsg s.data.toList).i ps] (decMsg s.data.toList).k (decMsg s.data.toList).l).1 ps[findX (decMsg s.data.toList).i ps] then [] else frameOf (decMsg s.data.toList) := by
              rw [show tLog s.data.toList acts = _ from if_pos h0]
              exact take_text g hc hfn.1 hat.symm hl hz
            refine ⟨lv, ps.set (findX (decMsg s.data.toList).i ps) (hearX ps[findX (decMsg s.data.toList).i ps] (decMsg s.data.toList).k (decMsg s.data.toList).l).1, v, by rw [h0, hx]; rfl, ?_, ?_⟩
            rotate_left
            · rw [show tActs s.data.toList acts = _ from if_pos h0]
              exact hD.take hxok hfn.1 hfn.2.1 hj hhl hz
            · rw [show tOuts s.data.toList acts = _ from if_pos h0, show tActs s.data.toList acts = _ from if_pos h0, ← hear_outs g hc hfn.1 hat.symm hl hz]
              exact hH
          · rw [if_neg hz] at hT
            obtain ⟨rfl, hH⟩ := hT
            exact TakeX.err hH hD hte hz
      · have hf := hD.find_no (decMsg s.data.toList).i hj
        refine (xTaken_none s hs w B ck ps v hX (fun y hy => (hfine y hy).ok) (by omega) he0 ht0 hj).mono ?_
        rintro e w' ⟨rfl, hb⟩
        exact TakeX.err (er := 13) (XDTo.same hX hap hb) hD (by unfold tErr; rw [if_neg (by omega), if_neg (by omega), if_pos (by rw [hf, Bool.false_and])]) (by omega)
    · refine (xTaken_node s hs w B he0 ht0).mono ?_
      rintro e w' ⟨rfl, hb⟩
      exact TakeX.err (er := 4) (XDTo.same hX hap hb) hD (by unfold tErr; rw [if_neg (by omega), if_pos ht0]) (by omega)
  · refine (xTaken_dec s hs w B he0 her).mono ?_
    rintro e w' ⟨rfl, hb⟩
    exact TakeX.err (XDTo.same hX hap hb) hD (by unfold tErr; rw [if_pos he0]) he0
def TickX (w : World) (B ck : Nat) (ps : List Xp) (v : Value) (acts : List Dt) (e : Ending) (w' : World) : Prop :=
  ∃ lv ck' ps' v', e = .returned (.tuple #[lv, .string (bs (kLog acts)), .int .i64 (kErr acts : Int)]) ∧ XDHanded w w' B ck' ps ps' v v' lv (kOuts ck ps) ∧ DRel (kActs acts) ck' ps'
theorem xTick_join (w : World) (B ck : Nat) (ps : List Xp) (v : Value) (hX : XD w B ck ps v) (hap : XDap B ps v) (acts : List Dt) (hD : DRel acts ck ps) (hcl : ck < 18446744073709551616) :
    Calls Try.prog 56 #[.pointer (some ⟨B, 0, none⟩)] w (TickX w B ck ps v acts) := by
  have hck := hD.clk
  have hfine : ∀ y, y ∈ ps → y.fine := fun y hy => (hD.good y hy).fine
  by_cases h1 : 1000000 ≤ ck
  · refine (xTickD_end w B ck ps v hX h1 hcl).mono ?_
    rintro e w' ⟨rfl, rfl⟩
    refine ⟨.slice none 0 0, ck, ps, v, by rw [show kErr acts = 15 from if_pos (by omega), show kLog acts = [] from if_pos (by omega)]; rfl, ?_, ?_⟩
    · rw [show kOuts ck ps = [] from if_pos h1]
      exact XDHanded.nil (XDTo.same hX hap (Below.refl _ _))
    · rw [show kActs acts = acts from if_pos (by omega)]; exact hD
  · refine (xTickD_any w B ck ps v hX hap hfine (by have := hD.len; omega) (by omega)).mono ?_
    rintro e w' ⟨lv, rfl, hH⟩
    have h0 : kErr acts = 0 := if_neg (by omega)
    refine ⟨lv, ck + 1, ps.map (lateX (ck + 1)), v, by rw [h0, show kLog acts = [84] from if_neg (by omega)]; rfl, ?_, ?_⟩
    rotate_left
    · rw [show kActs acts = _ from if_neg (by omega)]; exact hD.tick
    · rw [show kOuts ck ps = _ from if_neg h1]; exact hH
end Go.Proofs.Ytjkhbjgfoopomaa
