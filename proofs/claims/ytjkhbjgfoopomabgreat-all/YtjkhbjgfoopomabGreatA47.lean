import Derived.Test.YtjkhbjgfoopomabGreatA43
import Derived.Test.YtjkhbjgfoopomabGreatA42
namespace Go.Proofs.YtjkhbjgfoopomabGreat
open Go.RowKit
set_option maxRecDepth 100000
set_option maxHeartbeats 4000000
set_option linter.unusedVariables false
set_option linter.unusedSimpArgs false
theorem stX_rel {acts : List Dt} {ck : Nat} {ps : List Xp} (hD : DRel acts ck ps) (id : Nat) :
  ((findOf id acts).2.1 = true ∧ stX id ps = ((stOf (findOf id acts).1 acts).1, (stOf (findOf id acts).1 acts).2.1, (stOf (findOf id acts).1 acts).2.2.1, 0)) ∨ ((findOf id acts).2.1 = false ∧ stX id ps = (0, 0, 0, 13)) := by
 rcases Nat.lt_or_ge (findX id ps) ps.length with hj | hj
 ·obtain ⟨hf, hc⟩ := hD.find_in id hj;have g := hD.good _ (List.getElem_mem hj);refine .inl ⟨hf, ?_⟩;unfold stX;rw [List.getElem?_eq_getElem hj, st_core hc, ← g.st, ← g.held, ← g.done]
 ·refine .inr ⟨hD.find_no id hj, ?_⟩;unfold stX;rw [List.getElem?_eq_none hj]
theorem two_call {u u' : World} {pB hb : Nat} {cs : Array Value} {x : Value} (h1 : pB < u.heap.size) (h2 : hb < u.heap.size) (hp : ∀ o, u.drew.cell? ⟨pB, o, none⟩ = cs[o]?) (hr : u.drew.cell? ⟨hb, 1, none⟩ = some x) (hb9 : Below u.drew.heap.size u.drew u') : (∀ o, u'.cell? ⟨pB, o, none⟩ = cs[o]?) ∧ u'.cell? ⟨hb, 1, none⟩ = some x :=
 ⟨fun o => (hb9.cell (p := ⟨pB, o, none⟩) h1).trans (hp o), (hb9.cell (p := ⟨hb, 1, none⟩) h2).trans hr⟩
theorem deed_status (w0 : DBase) (N : Nat) (hN : N ≤ 999999999999) (w : World) (Wb : Nat) (own : Nat → Nat) (hs : List Office) (ll : List (Value × Nat)) (vd vl : Value) (i : Nat) (hi : i < hs.length) (hb xb rb ck : Nat) (acts : List Dt) (ps : List Xp) (xv v : Value) (lgs : List (List UInt8 × Nat)) (vg : Value)
  (I : DInv w0 w Wb own (hs.set i ⟨hb, xb, rb, ck, acts, ps, xv, v, lgs, vg⟩) ll vd vl) (hok : ∀ h, h ∈ hs → h.ok N) (hR : DRel acts ck ps) (hlg : LgD acts lgs) (hlen : acts.length ≤ N)
  (at_ n : Int) (s : List UInt8) (k f t mi l p g a : Nat) (m : List UInt8) (pid dead : Int) (memo : List UInt8) (legs : Option Addr) (llen lcap acc amt : Nat) (hmi : mi < 4294967296) :
  Calls Tryz.prog 52 #[.pointer (some ⟨Wb, 0, none⟩), .pointer (some ⟨hb, 0, none⟩), (⟨12, at_, n, s, ⟨k, f, t, mi, l, p, g, a, m⟩, pid, dead, memo, legs, llen, lcap, acc, amt⟩ : Opr).v] w (DeedSays w0 N Wb hs ll vd i hb) := by
 have H := DInv.at hi I
 have hc : ∀ o, w.cell? ⟨hb, o, none⟩ = (#[.pointer (some ⟨xb, 0, none⟩), .pointer (some ⟨rb, 0, none⟩), vg] : Array Value)[o]? := fun o => cell_at H.blk o
 have hl1 : hb < w.heap.size := block_lt H.blk
 have hl2 : rb < w.heap.size := H.r.lt
 obtain ⟨rad, rcap, hv, _⟩ := H.r.row.form Dt.cells_length
 have hcr : ∀ o, w.cell? ⟨rb, o, none⟩ = (#[.slice rad acts.length rcap] : Array Value)[o]? := fun o => by rw [← (show v = _ from hv)]; exact cell_at H.r.blk o
 obtain ⟨W1, hW1⟩ : ∃ W1, W1 = (w.alloc (.cells (⟨12, at_, n, s, ⟨k, f, t, mi, l, p, g, a, m⟩, pid, dead, memo, legs, llen, lcap, acc, amt⟩ : Opr).cells 104)) := ⟨_, rfl⟩
 have hbW : Below w.heap.size w W1 := by rw [hW1]; exact (Below.refl w.heap.size w).alloc (Nat.le_refl _) _
 have hlW : w.heap.size < W1.heap.size := by rw [hW1]; simp
 have I1 := I.below hbW
 have H1 := DInv.at hi I1
 have e0 : W1.cell? ⟨hb, 0, none⟩ = some (.pointer (some ⟨xb, 0, none⟩)) := cell_at H1.blk 0
 have e0' : W1.cell? ⟨hb, 1, none⟩ = some (.pointer (some ⟨rb, 0, none⟩)) := cell_at H1.blk 1
 have hlb : hb < W1.heap.size := by omega
 have e1 : W1.cell? ⟨w.heap.size, 7, none⟩ = some (.int .u32 (mi : Int)) := by rw [hW1]; simp [Opr.cells]
 have hX := fun u (hu : (u.cell? ⟨hb, 0, none⟩ = some (.pointer (some ⟨xb, 0, none⟩)) ∧ u.cell? ⟨w.heap.size, 7, none⟩ = some (.int .u32 (mi : Int)) ∧ u.cell? ⟨w.heap.size, 7, none⟩ = some (.int .u32 (mi : Int))) ∧ Below W1.heap.size W1 u) => eStatus_any mi hmi u xb ck ps xv (H1.x.below hu.2) (fun y hy => (hR.good y hy).fine.ok) (by have := hR.len; omega)
 have hY := fun u (hu : (u.cell? ⟨hb, 1, none⟩ = some (.pointer (some ⟨rb, 0, none⟩)) ∧ u.cell? ⟨w.heap.size, 7, none⟩ = some (.int .u32 (mi : Int)) ∧ u.cell? ⟨w.heap.size, 7, none⟩ = some (.int .u32 (mi : Int))) ∧ Below W1.heap.size W1 u) => find_pay mi hmi u rb acts v (H1.r.below hu.2) hR.ok (by omega)
 have hrel := stX_rel hR mi
 have hbd := stOf_bd (findOf mi acts).1 acts hR.few
 have hZ := fun (ht : (findOf mi acts).2.1 = true) u (hu : Below W1.heap.size W1 u) => (by
  obtain ⟨x, hx, _, _, hp⟩ := findOf_mem ht
  exact status_any (findOf mi acts).1 (by rw [hp]; exact (hR.ok x hx).2.2.1) (by rw [hp]; exact (hR.pay x hx).1) u rb acts v (H1.r.below hu) hR.ok hR.few (by omega) : Calls Tryz.prog 94 #[.pointer (some ⟨rb, 0, none⟩), (findOf mi acts).1.v] u fun e w' => e = .returned (.tuple #[.int .i64 ((stOf (findOf mi acts).1 acts).1 : Int), .int .i64 ((stOf (findOf mi acts).1 acts).2.1 : Int), .int .i64 ((stOf (findOf mi acts).1 acts).2.2.1 : Int)]) ∧ Below u.heap.size u w')
 generalize stX mi ps = Z at *
 generalize stOf (findOf mi acts).1 acts = SS at *
 generalize findOf mi acts = FF at *
 obtain ⟨⟨qi, qd, qm, ql, qa, qc⟩, th, cnt⟩ := FF
 obtain ⟨s1, s2, s3, s4⟩ := SS
 obtain ⟨z1, z2, z3, z4⟩ := Z
 simp only [Pm.v, Pm.lv] at hX hY hZ hrel hbd
 replace hX := hide hX
 replace hY := hide hY
 replace hZ := hide hZ
 replace hrel := hide hrel
 replace I1 := hide I1
 replace hok := hide hok
 replace hlg := hide hlg
 clear H H1 I hv
 simp only [Opr.v, Opr.cells] at *
 replace hW1 := hide hW1
 go_enter Tryz.func52, Tryz.ntmps52
 go_wp2_with fail
 rw [← hW1.out]
 go_region_held3 (fun u => (u.cell? ⟨hb, 0, none⟩ = some (.pointer (some ⟨xb, 0, none⟩)) ∧ u.cell? ⟨w.heap.size, 7, none⟩ = some (.int .u32 (mi : Int)) ∧ u.cell? ⟨w.heap.size, 7, none⟩ = some (.int .u32 (mi : Int))) ∧ Below W1.heap.size W1 u)
  (first
   | (with_reducible refine keep3_set hlb hlW hlW (by assumption) ?_; repeat (first | with_reducible exact Below.refl _ _ | with_reducible refine setHere ?_ (Nat.le_refl _)))
   | with_reducible exact keep3_drew ⟨e0, e1, e1⟩
   | with_reducible exact keep3_start hlb hlW hlW ⟨e0, e1, e1⟩ _
   | with_reducible exact keep3_alloc hlb hlW hlW (by assumption) _
   | with_reducible exact keep3_call hlb hlW hlW (by assumption) hb9
   | with_reducible exact keep3_again hlb hlW hlW hs9 _ (by assumption)
   | fail)
  (first
   | (go_at_call 22; refine (hX.out _ ?_).mono ?_; assumption; rintro e u2 ⟨rfl, hb9⟩; (try have hf9 : ∀ o, u2.frozen? ⟨W1.heap.size, o, none⟩ = false := fun o => fro_kept (undrew hb9) o); (try have hc9 : ∀ o, u2.cell? ⟨W1.heap.size, o, none⟩ = _ := fun o => cel_kept (undrew hb9) o); have hs9 : W1.heap.size ≤ u2.heap.size := (by first | exact hb9.size | exact Nat.le_of_lt (lt_kept (undrew hb9)))))
 all_goals first
  | (
    have hk9 := putL_kept [.int .u8 (z1 : Int), .int .u8 (z2 : Int), .int .u8 (z3 : Int)] u2 W1.heap.size 0;have hB3 := (all_kept (undrew hb9)).trans (hk9.below hs9 (fun i e => by omega));have hP := putL_whole [.int .u8 (z1 : Int), .int .u8 (z2 : Int), .int .u8 (z3 : Int)] (blk_kept (undrew hb9)) rfl;have hm := fun o => cell_at hP o;have hmL := block_lt hP;clear hb9 hs9 hk9 hf9 hc9 hP;simp only [putL] at hm hB3 hmL;generalize World.setCell _ _ _ = u3 at hB3 hm hmL ⊢;generalize hgen : W1.heap.size = mB at hm hmL ⊢;have hmB : W1.heap.size ≤ mB := by omega
    clear hgen)
  | (
    have hB3 := (undrew hb9).alloc hs9 (.cells #[.int .u8 (z1 : Int), .int .u8 (z2 : Int), .int .u8 (z3 : Int)] 73);have hm : ∀ o, (u2.alloc (.cells #[.int .u8 (z1 : Int), .int .u8 (z2 : Int), .int .u8 (z3 : Int)] 73)).cell? ⟨u2.heap.size, o, none⟩ = (#[.int .u8 (z1 : Int), .int .u8 (z2 : Int), .int .u8 (z3 : Int)] : Array Value)[o]? := fun o => World.cell?_alloc_new ..;have hmB : W1.heap.size ≤ u2.heap.size := hs9;have hmL : u2.heap.size < (u2.alloc (.cells #[.int .u8 (z1 : Int), .int .u8 (z2 : Int), .int .u8 (z3 : Int)] 73)).heap.size := by simp
    clear hb9 hs9;generalize u2.alloc _ = u3 at hB3 hm hmL ⊢
    generalize u2.heap.size = mB at hm hmB hmL ⊢)
 all_goals (
  have q0 : u3.cell? ⟨hb, 1, none⟩ = some (.pointer (some ⟨rb, 0, none⟩)) := (hB3.cell (p := ⟨hb, 1, none⟩) hlb).trans e0';have q1 : u3.cell? ⟨w.heap.size, 7, none⟩ = some (.int .u32 (mi : Int)) := (hB3.cell (p := ⟨w.heap.size, 7, none⟩) hlW).trans e1;have hlb3 : hb < u3.heap.size := Nat.lt_of_lt_of_le hlb hB3.size;have hlw3 : w.heap.size < u3.heap.size := Nat.lt_of_lt_of_le hlW hB3.size;have hY3 := hide (fun u (hu : (u.cell? ⟨hb, 1, none⟩ = some (.pointer (some ⟨rb, 0, none⟩)) ∧ u.cell? ⟨w.heap.size, 7, none⟩ = some (.int .u32 (mi : Int)) ∧ u.cell? ⟨w.heap.size, 7, none⟩ = some (.int .u32 (mi : Int))) ∧ Below u3.heap.size u3 u) => hY.out u ⟨hu.1, hB3.trans (hu.2.mono hB3.size)⟩);clear hX hY hc hcr;go_wp2_with fail
  go_region_held3 (fun u => (u.cell? ⟨hb, 1, none⟩ = some (.pointer (some ⟨rb, 0, none⟩)) ∧ u.cell? ⟨w.heap.size, 7, none⟩ = some (.int .u32 (mi : Int)) ∧ u.cell? ⟨w.heap.size, 7, none⟩ = some (.int .u32 (mi : Int))) ∧ Below u3.heap.size u3 u)
   (first
    | (with_reducible refine keep3_set hlb3 hlw3 hlw3 (by assumption) ?_; repeat (first | with_reducible exact Below.refl _ _ | with_reducible refine setHere ?_ (Nat.le_refl _)))
    | with_reducible exact keep3_drew ⟨q0, q1, q1⟩
    | with_reducible exact keep3_start hlb3 hlw3 hlw3 ⟨q0, q1, q1⟩ _
    | with_reducible exact keep3_alloc hlb3 hlw3 hlw3 (by assumption) _
    | with_reducible exact keep3_call hlb3 hlw3 hlw3 (by assumption) hb9
    | with_reducible exact keep3_again hlb3 hlw3 hlw3 hs9 _ (by assumption)
    | fail)
   (first
    | (go_at_call 93; refine (hY3.out _ ?_).mono ?_; assumption; rintro e u4 ⟨rfl, hb9⟩; (try have hf9 : ∀ o, u4.frozen? ⟨u3.heap.size, o, none⟩ = false := fun o => fro_kept (undrew hb9) o); (try have hc9 : ∀ o, u4.cell? ⟨u3.heap.size, o, none⟩ = _ := fun o => cel_kept (undrew hb9) o); have hs9 : u3.heap.size ≤ u4.heap.size := (by first | exact hb9.size | exact Nat.le_of_lt (lt_kept (undrew hb9))))))
 all_goals first
  | (
    have hk9 := putL_kept [.int .u32 (qi : Int), .int .u64 (qd : Int), .string (bs qm), .slice qa ql.length qc] u4 u3.heap.size 0;have hB5 := (all_kept (undrew hb9)).trans (hk9.below hs9 (fun i e => by omega));have hP := putL_whole [.int .u32 (qi : Int), .int .u64 (qd : Int), .string (bs qm), .slice qa ql.length qc] (blk_kept (undrew hb9)) rfl;have hp := fun o => cell_at hP o;have hpL := block_lt hP;clear hb9 hs9 hk9 hf9 hc9 hP;simp only [putL] at hp hB5 hpL;generalize World.setCell _ _ _ = u5 at hB5 hp hpL ⊢;generalize hgen : u3.heap.size = pB at hp hpL ⊢;have hpB : u3.heap.size ≤ pB := by omega
    clear hgen)
  | (
    have hB5 := (undrew hb9).alloc hs9 (.cells #[.int .u32 (qi : Int), .int .u64 (qd : Int), .string (bs qm), .slice qa ql.length qc] 69);have hp : ∀ o, (u4.alloc (.cells #[.int .u32 (qi : Int), .int .u64 (qd : Int), .string (bs qm), .slice qa ql.length qc] 69)).cell? ⟨u4.heap.size, o, none⟩ = (#[.int .u32 (qi : Int), .int .u64 (qd : Int), .string (bs qm), .slice qa ql.length qc] : Array Value)[o]? := fun o => World.cell?_alloc_new ..;have hpB : u3.heap.size ≤ u4.heap.size := hs9;have hpL : u4.heap.size < (u4.alloc (.cells #[.int .u32 (qi : Int), .int .u64 (qd : Int), .string (bs qm), .slice qa ql.length qc] 69)).heap.size := by simp
    clear hb9 hs9;generalize u4.alloc _ = u5 at hB5 hp hpL ⊢
    generalize u4.heap.size = pB at hp hpB hpL ⊢)
 all_goals (
  have hm5 : ∀ o, u5.cell? ⟨mB, o, none⟩ = (#[.int .u8 (z1 : Int), .int .u8 (z2 : Int), .int .u8 (z3 : Int)] : Array Value)[o]? := fun o => (hB5.cell (p := ⟨mB, o, none⟩) hmL).trans (hm o);have hmL5 : mB < u5.heap.size := Nat.lt_of_lt_of_le hmL hB5.size;have r0 : u5.cell? ⟨hb, 1, none⟩ = some (.pointer (some ⟨rb, 0, none⟩)) := (hB5.cell (p := ⟨hb, 1, none⟩) hlb3).trans q0;have hlb5 : hb < u5.heap.size := Nat.lt_of_lt_of_le hlb3 hB5.size;have hB15 := hB3.trans (hB5.mono hB3.size);clear hY3 q0 q1 hm hmL hB3 hB5;rcases hrel.out with ⟨rfl, hz⟩ | ⟨rfl, hz⟩
  ·simp only [Prod.mk.injEq] at hz;obtain ⟨rfl, rfl, rfl, rfl⟩ := hz;have hZ5 := hide (fun u (hu : Below u5.heap.size u5 u) => hZ.out rfl u (hB15.trans (hu.mono hB15.size)));have hp' : ∀ o, u5.drew.cell? ⟨pB, o, none⟩ = (#[.int .u32 (qi : Int), .int .u64 (qd : Int), .string (bs qm), .slice qa ql.length qc] : Array Value)[o]? := hp;have r0' : u5.drew.cell? ⟨hb, 1, none⟩ = some (.pointer (some ⟨rb, 0, none⟩)) := r0;have hW8 : ∀ x : Nat, x < 256 → IntKind.i64.wrap (x : Int) = (x : Int) := fun x hx => by rw [IntKind.wrap_i64]; omega
   have w1 := hW8 z1 (by omega);have w2 := hW8 z2 (by omega);have w3 := hW8 z3 (by omega);clear hW8;go_wp2_with fail
   go_region_held3 (fun u => (∀ o, u.cell? ⟨pB, o, none⟩ = (#[.int .u32 (qi : Int), .int .u64 (qd : Int), .string (bs qm), .slice qa ql.length qc] : Array Value)[o]?) ∧ u.cell? ⟨hb, 1, none⟩ = some (.pointer (some ⟨rb, 0, none⟩)))
    (first
     | (with_reducible exact ⟨hp', r0'⟩)
     | (with_reducible exact two_call hpL hlb5 hp' r0' hb9))
    (first
     | (go_at_call 94; refine (hZ5.out _ ((Below.refl _ _).drew)).mono ?_; rintro e w4 ⟨rfl, hb9⟩))
   have hB14 := hB15.trans ((undrew hb9).mono hB15.size);have I5 := hide (I1.out.below hB14);have hm4 : ∀ o, w4.cell? ⟨mB, o, none⟩ = (#[.int .u8 (z1 : Int), .int .u8 (z2 : Int), .int .u8 (z3 : Int)] : Array Value)[o]? := fun o => (hb9.cell (p := ⟨mB, o, none⟩) hmL5).trans (hm5 o);have hmL4 : mB < w4.heap.size := Nat.lt_of_lt_of_le hmL5 hb9.size;clear hp hp' r0 r0' hm5 hZ5 hb9;go_wp2_with fail
   refine (num_any _ _).mono ?_;rintro e w5 ⟨rfl, rfl⟩;go_wp2;go_ret;exact ⟨rfl, dgoes_of I5.out hok.out ⟨hR, hlg.out, Nat.le_succ_of_le hlen⟩ (Nat.le_add_right _ _)⟩
  ·simp only [Prod.mk.injEq] at hz;obtain ⟨rfl, rfl, rfl, rfl⟩ := hz;have I5 := hide (I1.out.below hB15);go_wp2_with fail
   refine (num_any _ _).mono ?_;rintro e w5 ⟨rfl, rfl⟩;go_wp2;go_ret
   exact ⟨rfl, dgoes_of I5.out hok.out ⟨hR, hlg.out, Nat.le_succ_of_le hlen⟩ (Nat.le_add_right _ _)⟩)
theorem subOuts_le (p : Pm) {acts : List Dt} (hpay : ∀ x, x ∈ acts → PayOk x) : (subOuts p acts).length ≤ 4 := by
 unfold subOuts
 split
 ·rename_i h;exact Nat.le_trans (asksTo_le _ _ _ _) (wrongOf_few h.1)
 ·split
  ·rename_i h;obtain ⟨x, hx, _, _, hp⟩ := findOf_mem h.2.1;have h4 := (hpay x hx).1;rw [← hp] at h4;exact remindsOf_le _ _ h4
  ·simp
theorem subBare (p : Pm) (acts : List Dt) : subErr p acts = 0 ∨ ((subOuts p acts).length = 0 ∧ subLog p acts = []) := by
 by_cases h : subIs p acts
 ·exact .inl (subIs_err h)
 ·by_cases h0 : subErr p acts = 0
  ·exact .inl h0
  ·refine .inr ⟨?_, by unfold subLog; rw [if_neg h]⟩;unfold subOuts;rw [if_neg h, if_neg (fun c => h0 (by unfold subErr; rw [if_pos c.1, if_pos c.2.1, if_pos c.2.2]))];rfl
theorem subOuts_core {p q : Pm} (h : core p = core q) (acts : List Dt) : subOuts p acts = subOuts q acts := by
 have h1 : subOuts (core p) acts = subOuts (core q) acts := by rw [h]
 have h2 : ∀ r : Pm, subOuts (core r) acts = subOuts r acts := by
  intro r;show (if subIs (core r) acts then asksOf (core r) 1 0 else _) = (if subIs r acts then asksOf r 1 0 else _);rw [core_asks];rfl
 rw [← h2 p, h1, h2]
theorem subActs_core {p q : Pm} (h : core p = core q) (r : Pm) (acts : List Dt) : subActs p r acts = subActs q r acts := by
 have : subActs (core p) r acts = subActs (core q) r acts := by rw [h]
 exact this
theorem DHanded.back {w w1 u : World} {B : Nat} {acts acts' : List Dt} {v v' lv : Value} {outs : List (List UInt8)} (h : DHanded w1 u B acts acts' v v' lv outs) (hb : Below w.heap.size w w1) : DHanded w u B acts acts' v v' lv outs :=
 ⟨⟨h.to.rd, (Kept.of_below hb).trans h.to.kept (fun i hi => .inl hi), fun k hk => (h.to.own k hk).imp_right (fun x => Nat.le_trans hb.size x), h.to.ap⟩, h.row, fun g hg => ⟨Nat.le_trans hb.size (h.fresh g hg).1, (h.fresh g hg).2⟩⟩
theorem two_kept {S : Nat → Prop} {u u' : World} {pB hb o1 : Nat} {cs : Array Value} {x : Value} (h1 : pB < u.heap.size ∧ ¬ S pB) (h2 : hb < u.heap.size ∧ ¬ S hb) (hp : ∀ o, u.drew.cell? ⟨pB, o, none⟩ = cs[o]?) (hr : u.drew.cell? ⟨hb, o1, none⟩ = some x) (hk : Kept S u.drew u') : (∀ o, u'.cell? ⟨pB, o, none⟩ = cs[o]?) ∧ u'.cell? ⟨hb, o1, none⟩ = some x :=
 ⟨fun o => (hk.cell (p := ⟨pB, o, none⟩) h1.1 h1.2).trans (hp o), (hk.cell (p := ⟨hb, o1, none⟩) h2.1 h2.2).trans hr⟩
theorem submit_any (w0 : DBase) (N : Nat) (hN : N ≤ 999999999999) (w : World) (Wb : Nat) (own : Nat → Nat) (hs : List Office) (ll : List (Value × Nat)) (vd vl : Value) (i : Nat) (hi : i < hs.length) (hb xb rb ck : Nat) (acts : List Dt) (ps : List Xp) (xv v : Value) (lgs : List (List UInt8 × Nat)) (vg : Value)
  (I : DInv w0 w Wb own (hs.set i ⟨hb, xb, rb, ck, acts, ps, xv, v, lgs, vg⟩) ll vd vl) (hok : ∀ h, h ∈ hs → h.ok N) (hR : DRel acts ck ps) (hlg : LgD acts lgs) (hlen : acts.length ≤ N)
  (kind at_ n : Int) (s : List UInt8) (k f t mi l p g a : Nat) (m : List UInt8) (pi pd : Nat) (memo : List UInt8) (la : Option Addr) (legs : List Pl) (lcap acc amt : Nat) (hll : ll.length ≤ 3999999999000)
  (hpok : (⟨pi, pd, memo, legs, la, lcap⟩ : Pm).ok) (hmm : memo.length ≤ 140737488351232) (hlgs : legs.length ≤ 11728124029269) (hSt : Stays w0 la legs) :
  Calls Tryz.prog 90 #[.pointer (some ⟨Wb, 0, none⟩), .pointer (some ⟨hb, 0, none⟩), (⟨kind, at_, n, s, ⟨k, f, t, mi, l, p, g, a, m⟩, (pi : Int), (pd : Int), memo, la, legs.length, lcap, acc, amt⟩ : Opr).v, .int .i64 (acts.length : Int)] w (DeedSays w0 N Wb hs ll vd i hb) := by
 have H := DInv.at hi I
 have hl1 : hb < w.heap.size := block_lt H.blk
 obtain ⟨W1, hW1⟩ : ∃ W1, W1 = (w.alloc (.cells (⟨kind, at_, n, s, ⟨k, f, t, mi, l, p, g, a, m⟩, (pi : Int), (pd : Int), memo, la, legs.length, lcap, acc, amt⟩ : Opr).cells 104)) := ⟨_, rfl⟩
 have hB1 : Box w (⟨kind, at_, n, s, ⟨k, f, t, mi, l, p, g, a, m⟩, (pi : Int), (pd : Int), memo, la, legs.length, lcap, acc, amt⟩ : Opr).cells W1 := by rw [hW1]; exact Box.mk0 _ _ _
 have hL0 := hSt.legsAt I.bel
 have hLe := hide (fun u (hu : Below w.heap.size w u) => lent_any la lcap legs hlgs u (hL0.below hu))
 replace hok := hide hok
 replace hlg := hide hlg
 replace I := hide I
 replace H := hide H
 replace hpok := hide hpok
 simp only [Opr.v, Opr.cells] at *
 have hcO := hB1.cell
 have hlO := hB1.lt
 replace hW1 := hide hW1
 go_enter Tryz.func90, Tryz.ntmps90
 go_wp2_with fail
 rw [← hW1.out]
 have hsz1 : W1.heap.size = w.heap.size + 1 := by rw [hW1.out]; simp
 have B2 := Box.mk0 W1 #[Value.int .u32 (pi : Int), .int .u64 (pd : Int), .string (bs memo), .slice la legs.length lcap] 69
 have hk2 := heap_alloc_self W1 (.cells #[Value.int .u32 (pi : Int), .int .u64 (pd : Int), .string (bs memo), .slice la legs.length lcap] 69)
 have hb2 := hB1.bel.trans (B2.bel.mono hB1.bel.size)
 have hcO2 := cells_below B2.bel hlO hcO
 have hlO2 : w.heap.size < (W1.alloc (.cells #[Value.int .u32 (pi : Int), .int .u64 (pd : Int), .string (bs memo), .slice la legs.length lcap] 69)).heap.size := by simp; omega
 rw [hsz1] at hk2
 refine (hLe.out _ hb2).mono ?_
 rintro e w3 ⟨gl, rfl, hgl, hrow3, hb3⟩
 clear hW1 hLe hcO
 generalize W1.alloc (.cells #[Value.int .u32 (pi : Int), .int .u64 (pd : Int), .string (bs memo), .slice la legs.length lcap] 69) = W2 at *
 have hk3 : w3.heap[w.heap.size + 1]? = some (.cells #[.int .u32 (pi : Int), .int .u64 (pd : Int), .string (bs memo), .slice la legs.length lcap] 69 (0, 0)) := by rw [hb3.block _ (block_lt hk2)]; exact hk2
 have hcO3 := cells_below hb3 hlO2 hcO2
 have hlO3 := Nat.lt_of_lt_of_le hlO2 hb3.size
 have hcP3 : ∀ o, _ = _ := fun o => cell_at hk3 o
 have hfP3 : ∀ o, _ = _ := fun o => frozen_at hk3 o
 have hlP3 := block_lt hk3
 have hbw3 := hb2.trans (hb3.mono hb2.size)
 have hgln8 : Hid (¬ (w.heap.size + 1 = gl)) := hide (fun e => by have := block_lt hk2; omega)
 have hk4 := heap_set_self hk3 3 (.slice (some ⟨gl, 0, none⟩) legs.length (legs.length + 8))
 have hkp := Kept.of_setCell w3 ⟨w.heap.size + 1, 3, none⟩ (.slice (some ⟨gl, 0, none⟩) legs.length (legs.length + 8))
 have hgln : ¬ gl = w.heap.size + 1 := fun e => by have := block_lt hk2; omega
 have hglO : ¬ gl = w.heap.size := fun e => by omega
 have hrow4 := hrow3.kept hkp (fun q hq e => hgln ((show gl = q by simpa [Value.ownBlock] using hq).trans e))
 have hcO4 := cells_kept hkp hlO3 (by show ¬ w.heap.size = w.heap.size + 1; omega) hcO3
 have hbw4 := hbw3.trans (hkp.below hbw3.size (fun q e => by have e' : q = w.heap.size + 1 := e; omega))
 have hcP4 : ∀ o, _ = _ := fun o => cell_at hk4 o
 have hlP4 := block_lt hk4
 have hlO4 := Nat.lt_of_lt_of_le hlO3 hkp.size
 have hgl4 := hrow4.lt (g := gl) rfl
 clear hkp hk4 hcO2 hb2 hb3 hrow3
 go_wp2_with fail
 generalize w3.setCell ⟨w.heap.size + 1, 3, none⟩ (.slice (some ⟨gl, 0, none⟩) legs.length (legs.length + 8)) = W4 at *
 have hgw : w.heap.size ≤ gl := by omega
 clear hcO3 hlO3 hcP3 hfP3 hlP3 hk3 hk2 hbw3 hsz1 hlO2
 have I4 := I.out.below0 hbw4
 have hO4 : (fun k => if k < w.heap.size then own k else 0) w.heap.size = 0 := by simp
 have hP4 : (fun k => if k < w.heap.size then own k else 0) (w.heap.size + 1) = 0 := by
  show (if w.heap.size + 1 < w.heap.size then own (w.heap.size + 1) else 0) = 0;rw [if_neg (by omega)]
 have hG4 : (fun k => if k < w.heap.size then own k else 0) gl = 0 := by simp only [if_neg (Nat.not_lt.2 hgw)]
 have hF4 : ¬ w0.F gl := fun hF => by have h1 := w0.lt gl hF; have h2 : w0.w.heap.size ≤ w.heap.size := I.out.bel.size; omega
 generalize (fun k => if k < w.heap.size then own k else 0) = own4 at *
 have H4 := DInv.at hi I4
 have hch4 : W4.drew.cell? ⟨hb, 0, none⟩ = some (.pointer (some ⟨xb, 0, none⟩)) := cell_at H4.blk 0
 have hlb4 : hb < W4.heap.size := block_lt H4.blk
 have hckl : ck < 18446744073709551616 := by have h1 := hR.clk; have h2 := clockOf_le acts; omega
 have hfx : ∀ q, own4 q = 0 → ¬ (q = xb ∨ xv.ownBlock = some q) := fun q h0 hx => by
  have h1 := H4.xown q (hx.imp_right .inl);omega
 have hfh : ¬ (hb = xb ∨ xv.ownBlock = some hb) := fun hx => by
  have h1 := H4.xown hb (hx.imp_right .inl);have h2 : own4 hb = 10 + 8 * i := H4.hown;omega
 have hcut : RowOf W4 67 4 Pl.cells (.slice (some ⟨gl, 0, none⟩) legs.length (legs.length + 8)) legs := by
  have h9 : RowOf W4 67 4 Pl.cells (.slice (some ⟨gl, 0, none⟩) (legs ++ List.replicate 8 leg77).length (legs.length + 8)) (legs ++ List.replicate 8 leg77) := by
   rw [show (legs ++ List.replicate 8 leg77).length = legs.length + 8 by simp];exact hrow4
  exact h9.cut Pl.cells_length
 have hX := hide (eSub_any ⟨pi, pd, memo, legs, some ⟨gl, 0, none⟩, legs.length + 8⟩ hpok.out hmm hlgs W4.drew xb ck ps xv (H4.x.below ((Below.refl _ _).drew)) H4.xap acts hR hckl (hcut.below ((Below.refl _ _).drew)) (fun q hq => by
  obtain rfl : gl = q := by simpa [Pm.lv, Value.ownBlock] using hq
  have h1 := hfx gl hG4
  exact ⟨fun e => h1 (.inl e), fun e => h1 (.inr e)⟩))
 simp only [Pm.v, Pm.lv] at hX
 have hcP4' : ∀ o, W4.drew.cell? ⟨w.heap.size + 1, o, none⟩ = (#[.int .u32 (pi : Int), .int .u64 (pd : Int), .string (bs memo), .slice (some ⟨gl, 0, none⟩) legs.length (legs.length + 8)] : Array Value)[o]? := fun o => by rw [show W4.drew.cell? ⟨w.heap.size + 1, o, none⟩ = W4.cell? ⟨w.heap.size + 1, o, none⟩ from rfl, hcP4 o]; rfl
 have hnP := hide (hfx _ hP4)
 have hnh := hide hfh
 have hcut' := hide hcut
 replace I4 := hide I4
 replace hrow4 := hide hrow4
 have hfx' := hide hfx
 clear hcP4 H4 hcut hfx hfh
 go_region_held3 (fun u => (∀ o, u.cell? ⟨w.heap.size + 1, o, none⟩ = (#[.int .u32 (pi : Int), .int .u64 (pd : Int), .string (bs memo), .slice (some ⟨gl, 0, none⟩) legs.length (legs.length + 8)] : Array Value)[o]?) ∧ u.cell? ⟨hb, 0, none⟩ = some (.pointer (some ⟨xb, 0, none⟩)))
  (first
   | (with_reducible exact ⟨hcP4', hch4⟩)
   | (with_reducible exact two_kept ⟨hlP4, hnP.out⟩ ⟨hlb4, hnh.out⟩ hcP4' hch4 hH.to.kept))
  (first
   | (go_at_call 20; refine (hX.out).mono ?_; rintro e w5 ⟨lv, ps', xv', rfl, hH, hR'⟩))
 replace hH := hH.back ((Below.refl W4.heap.size W4).drew)
 have I5 := I4.out.xstepS hi lv ck ps' xv' hH.to hH.fresh
 have hlo5 : ∀ g, lv.ownBlock = some g → (fun k => if k < W4.heap.size then own4 k else if lv.ownBlock = some k then 4 else 11 + 8 * i) g = 4 := fun g hg => by have := (hH.fresh g hg).1; simp only [if_neg (Nat.not_lt.2 this), if_pos hg]
 have hO5 : (fun k => if k < W4.heap.size then own4 k else if lv.ownBlock = some k then 4 else 11 + 8 * i) w.heap.size = 0 := by simp only [if_pos hlO4]; exact hO4
 have hP5 : (fun k => if k < W4.heap.size then own4 k else if lv.ownBlock = some k then 4 else 11 + 8 * i) (w.heap.size + 1) = 0 := by simp only [if_pos hlP4]; exact hP4
 have hG5 : (fun k => if k < W4.heap.size then own4 k else if lv.ownBlock = some k then 4 else 11 + 8 * i) gl = 0 := by simp only [if_pos hgl4]; exact hG4
 have hap := hide (I4.out.apartL (lv := lv) (fun g hg => (hH.fresh g hg).1))
 generalize (fun k => if k < W4.heap.size then own4 k else if lv.ownBlock = some k then 4 else 11 + 8 * i) = own5 at *
 have H5 := DInv.at hi I5
 have hrow5 := hrow4.out.kept hH.to.kept (fun q hq => by
  obtain rfl : gl = q := by simpa [Value.ownBlock] using hq
  exact hfx'.out gl hG4)
 have hcO5 := cells_kept hH.to.kept hlO4 (hfx'.out _ hO4) hcO4
 have hcP5 := cells_kept hH.to.kept hlP4 hnP.out (fun o => hcP4' o)
 have hlO5 := Nat.lt_of_lt_of_le hlO4 hH.to.kept.size
 have hlP5 := Nat.lt_of_lt_of_le hlP4 hH.to.kept.size
 have hgl5 := hrow5.lt (g := gl) rfl
 have hlv5 := hide hH.row
 have hLa5 := hSt.legsAt I5.bel
 have hfr : ∀ q, own5 q = 0 ∨ own5 q = 4 → ¬ (q = rb ∨ v.ownBlock = some q) := fun q h0 hx => by
  have h1 := H5.rown q (hx.imp_right .inl);omega
 have hfh : ¬ (hb = rb ∨ v.ownBlock = some hb) := fun hx => by
  have h1 := H5.rown hb (hx.imp_right .inl);have h2 : own5 hb = 10 + 8 * i := H5.hown;omega
 have hch5 : w5.drew.cell? ⟨hb, 1, none⟩ = some (.pointer (some ⟨rb, 0, none⟩)) := cell_at H5.blk 1
 have hlb5 : hb < w5.heap.size := block_lt H5.blk
 have hX2 := hide (refSub_any ⟨pi, pd, memo, legs, la, lcap⟩ hpok.out hmm hlgs w5.drew rb acts v (H5.r.below ((Below.refl _ _).drew)) H5.rap hR.ok hR.few hR.pay (by omega) (hLa5.below ((Below.refl _ _).drew)))
 simp only [Pm.v, Pm.lv] at hX2
 have hcO5' : ∀ o, w5.drew.cell? ⟨w.heap.size, o, none⟩ = _ := hcO5
 have hnO := hide (hfr _ (.inl hO5))
 have hnh2 := hide hfh
 have hR5 := hide (hR' ⟨pi, pd, memo, legs, la, lcap⟩ rfl)
 have hfr' := hide hfr
 replace I5 := hide I5
 replace hrow5 := hide hrow5
 replace hlo5 := hide hlo5
 clear hX H5 hH I4 hrow4 hcO4 hcP4' hch4 hfr hfh hnP hnh hcut' hfx' hlO4 hlP4 hgl4 hlb4 hcO5
 replace hR' := hide hR'
 go_wp2_with fail
 go_region_held3 (fun u => (∀ o, u.cell? ⟨w.heap.size, o, none⟩ = (#[.int .i64 kind, .int .i64 at_, .int .i64 n, .string (bs s), .int .u8 (k : Int), .int .u8 (f : Int), .int .u8 (t : Int), .int .u32 (mi : Int), .int .u8 (l : Int), .int .u16 (p : Int), .int .u16 (g : Int), .int .u32 (a : Int), .string (bs m), .int .u32 (pi : Int), .int .u64 (pd : Int), .string (bs memo), .slice la legs.length lcap, .int .u16 (acc : Int), .int .u32 (amt : Int)] : Array Value)[o]?) ∧ u.cell? ⟨hb, 1, none⟩ = some (.pointer (some ⟨rb, 0, none⟩)))
  (first
   | (with_reducible exact ⟨hcO5', hch5⟩)
   | (with_reducible exact two_kept ⟨hlO5, hnO.out⟩ ⟨hlb5, hnh2.out⟩ hcO5' hch5 hHd.to.kept))
  (first
   | (go_at_call 123; refine (hX2.out).mono ?_; rintro e w6 ⟨mv, ra, rc, v', rfl, hHd⟩))
 replace hHd := hHd.back ((Below.refl w5.heap.size w5).drew)
 have I6 := I5.out.rstepS hi _ v' hHd.to
 have hlv6 : RowOf w6 9 1 txtCell lv (subOuts ⟨pi, pd, memo, legs, la, lcap⟩ acts) := by
  have h9 := hlv5.out.kept hHd.to.kept (fun g hg => hfr'.out g (.inr (hlo5.out g hg)))
  rwa [subOuts_core (p := ⟨pi, pd, memo, legs, some ⟨gl, 0, none⟩, legs.length + 8⟩) (q := ⟨pi, pd, memo, legs, la, lcap⟩) rfl] at h9
 have hlo6 : ∀ g, lv.ownBlock = some g → (fun k => if k < w5.heap.size then own5 k else 12 + 8 * i) g = 4 := fun g hg => by have := hlv5.out.lt hg; simp only [if_pos this]; exact hlo5.out g hg
 have hG6 : (fun k => if k < w5.heap.size then own5 k else 12 + 8 * i) gl = 0 := by simp only [if_pos hgl5]; exact hG5
 have hP6 : (fun k => if k < w5.heap.size then own5 k else 12 + 8 * i) (w.heap.size + 1) = 0 := by simp only [if_pos hlP5]; exact hP5
 generalize (fun k => if k < w5.heap.size then own5 k else 12 + 8 * i) = own6 at *
 have hcO6 := cells_kept hHd.to.kept hlO5 hnO.out (fun o => hcO5' o)
 have hcP6 := cells_kept hHd.to.kept hlP5 (hfr'.out _ (.inl hP5)) hcP5
 have hlO6 := Nat.lt_of_lt_of_le hlO5 hHd.to.kept.size
 have hlP6 := Nat.lt_of_lt_of_le hlP5 hHd.to.kept.size
 have hrow6 := hrow5.out.kept hHd.to.kept (fun q hq => by
  obtain rfl : gl = q := by simpa [Value.ownBlock] using hq
  exact hfr'.out gl (.inl hG5))
 obtain ⟨mad, mcap, hmv⟩ := hHd.row.slice
 have hmr := hHd.row
 have hol := subOuts_le ⟨pi, pd, memo, legs, la, lcap⟩ hR.pay
 have hbr := subBare ⟨pi, pd, memo, legs, la, lcap⟩ acts
 have hRn := hide (hR'.out ⟨pi, pd, memo, legs, ra, rc⟩ rfl)
 rw [subActs_core (p := ⟨pi, pd, memo, legs, some ⟨gl, 0, none⟩, legs.length + 8⟩) (q := ⟨pi, pd, memo, legs, la, lcap⟩) rfl] at hRn
 have hlw : Hid (heardOf lgs (subLog ⟨pi, pd, memo, legs, la, lcap⟩ acts) acts.length = dlogOf (subActs ⟨pi, pd, memo, legs, la, lcap⟩ ⟨pi, pd, memo, legs, ra, rc⟩ acts)) := hide (by rw [hlg.out.eq]; exact subLog_log _ _ acts rfl)
 have hHi : Hid (DHist (subActs ⟨pi, pd, memo, legs, la, lcap⟩ ⟨pi, pd, memo, legs, ra, rc⟩ acts)) := hide (hlg.out.hist.subs _ _ hpok.out id)
 have htold : Hid (w0.lg = true → (subActs ⟨pi, pd, memo, legs, la, lcap⟩ ⟨pi, pd, memo, legs, ra, rc⟩ acts).length = acts.length ∨ subLog ⟨pi, pd, memo, legs, la, lcap⟩ acts ≠ []) := hide (fun _ => subLog_told _ _ acts)
 have hS := hide (sameList_any (subOuts ⟨pi, pd, memo, legs, la, lcap⟩ acts) lv mv (by omega) w6 hlv6 hmr)
 subst hmv
 have hbare := hide (fun u => bare_any mad (subOuts ⟨pi, pd, memo, legs, la, lcap⟩ acts).length mcap (subErr ⟨pi, pd, memo, legs, la, lcap⟩ acts) (subLog ⟨pi, pd, memo, legs, la, lcap⟩ acts) u hbr)
 have hal := subActs_le ⟨pi, pd, memo, legs, la, lcap⟩ ⟨pi, pd, memo, legs, ra, rc⟩ acts
 have eErr : subErr ⟨pi, pd, memo, legs, some ⟨gl, 0, none⟩, legs.length + 8⟩ acts = subErr ⟨pi, pd, memo, legs, la, lcap⟩ acts := rfl
 have eLog : subLog ⟨pi, pd, memo, legs, some ⟨gl, 0, none⟩, legs.length + 8⟩ acts = subLog ⟨pi, pd, memo, legs, la, lcap⟩ acts := rfl
 simp only [eErr, eLog]
 generalize subErr ⟨pi, pd, memo, legs, la, lcap⟩ acts = er at *
 generalize subLog ⟨pi, pd, memo, legs, la, lcap⟩ acts = tx at *
 generalize subActs ⟨pi, pd, memo, legs, la, lcap⟩ ⟨pi, pd, memo, legs, ra, rc⟩ acts = acts' at *
 generalize subOuts ⟨pi, pd, memo, legs, la, lcap⟩ acts = OU at *
 replace hlv6 := hide hlv6
 replace I6 := hide I6
 replace hlo6 := hide hlo6
 replace hrow6 := hide hrow6
 clear hX2 hlv5 hlo5 hHd hmr I5 hbr hfr' hrow5 hcO5' hcP5 hch5 hnO hnh2 hlO5 hlP5 hgl5 hlb5 hR5 hR' eErr eLog hLa5
 go_wp2_with fail
 refine (hS.out).mono ?_
 rintro e w7 ⟨rfl, hb7⟩
 have I7 := I6.out.below hb7
 have hlv7 := hlv6.out.below hb7
 have hrow7 := hrow6.out.below hb7
 have hcO7 := cells_below hb7 hlO6 hcO6
 have hcP7 := cells_below hb7 hlP6 hcP6
 have hlO7 := Nat.lt_of_lt_of_le hlO6 hb7.size
 have hlP7 := Nat.lt_of_lt_of_le hlP6 hb7.size
 have hKp := hide (keptL_any gl la lcap legs hlgs w7 (hSt.legsAt I7.bel) hrow7)
 replace I7 := hide I7
 replace hlv7 := hide hlv7
 replace hrow7 := hide hrow7
 clear hS hb7 I6 hlv6 hrow6 hcO6 hcP6 hlO6 hlP6
 go_wp2_with fail
 refine (hKp.out).mono ?_
 rintro e w8 ⟨rfl, hb8⟩
 have I8 := hide (I7.out.below hb8)
 have hlv8 := hide (hlv7.out.below hb8)
 have hrow8 := hide (hrow7.out.below hb8)
 have hcP8 := cells_below hb8 hlP7 hcP7
 have hlP8 := Nat.lt_of_lt_of_le hlP7 hb8.size
 clear hKp hb8 I7 hlv7 hrow7 hcO7 hcP7 hlO7 hlP7
 go_wp2_with fail
 go_loopw [17] (fun c u => ∃ j : Nat, j ≤ legs.length ∧ c = .int .i64 j ∧ ∃ xs : List Pl, xs.length = legs.length + 8 ∧ RowOf u 67 4 Pl.cells (.slice (some ⟨gl, 0, none⟩) (legs.length + 8) (legs.length + 8)) xs ∧ Kept (fun k => k = gl) w8 u) (fun c _ => legs.length - (intOf c).toNat)
 case atStart => exact ⟨0, Nat.zero_le _, rfl, lent8 legs, lent8_length legs, hrow8.out, ⟨rfl, rfl, rfl, Nat.le_refl _, fun _ _ _ => rfl⟩⟩
 case round =>
  obtain ⟨j, hj, rfl, xs, hxs, hr, hk⟩ := hrel;have hcP := cells_kept hk hlP8 hgln8.out hcP8;have hlP := Nat.lt_of_lt_of_le hlP8 hk.size;by_cases hlt : j < legs.length
  ·have dl : decide ((j : Int) < (legs.length : Int)) = true := by simp; omega
   have hjl : (j : Int) < (legs.length : Int) := by omega
   have hl2 : j < xs.length := by omega
   have hgl9 : gl < wr.heap.size := hr.lt rfl;obtain ⟨ad', cap', hv', hev'⟩ := hr.form Pl.cells_length;obtain ⟨g2, hg, hcell, hfro⟩ := hev' j hl2;have eg : gl = g2 := by rw [hg] at hv'; injection hv' with h1; injection h1 with h1; injection h1 with h1
   subst eg;have c0 := hcell 0 (by decide);have c1 := hcell 1 (by decide);have c2 := hcell 2 (by decide);have c3 := hcell 3 (by decide);simp only [Pl.cells, List.getElem?_cons_zero, List.getElem?_cons_succ, Nat.add_zero] at c0 c1 c2 c3;have hput := hr.put Pl.cells_length (g := gl) rfl j hl2 leg99;have hkp := putL_kept leg99.cells wr gl (j * 4);have hk9 := hk.trans hkp (fun q e => .inl e);simp only [putL, Pl.cells, leg99, Nat.add_assoc, Nat.reduceAdd] at hput hk9;replace hput := hide hput;replace hk9 := hide hk9;have W1 : IntKind.i64.wrap ((j : Int) + 1) = ((j + 1 : Nat) : Int) := by rw [IntKind.wrap_i64]; omega
   generalize xs[j] = E at *;clear hcell hev' hv' hg hkp hcP8 hlP8;go_wp2;exact ⟨⟨j + 1, hlt, by go_num, xs.set j leg99, by rw [List.length_set]; exact hxs, hput.out, hk9.out⟩, by simp [intOf]; omega⟩
  ·have dl : decide ((j : Int) < (legs.length : Int)) = false := by simp; omega
   have I9 := I8.out.free hk (fun q hq e => by
    have e' : q = gl := e;rw [e']
    exact ⟨hG6, hF4⟩)
   have hlv9 := hlv8.out.kept hk (fun q hq e => by
    have e' : q = gl := e;have h1 := hlo6.out q hq;rw [e', hG6] at h1
    omega)
   have sp := I9.sep hlo6.out;have hK := hide (keep4_any wr Wb w0.lg w0.vb vd vl ll I9.wblk I9.lrow hll lv OU (by omega) hlv9 sp.1 sp.2.1 sp.2.2);have hG := hide (fun w6 (hB : Booked wr w6 Wb w0.lg w0.vb vd vl ll lv OU.length) => I9.keeps lv OU (by omega) hlv9 hlo6.out hap.out hB);clear hlv9 I9 sp hlv8 I8 hrow8 hr hk hcP8 hlP8;go_wp2_with fail
   refine (hK.out).mono ?_;rintro e w6 ⟨rfl, hB⟩;obtain ⟨own6, ll6, vl6, I6, h6⟩ := hG.out w6 hB;have H6 := DInv.at hi I6;have hc6 : ∀ o, w6.cell? ⟨hb, o, none⟩ = (#[.pointer (some ⟨xb, 0, none⟩), .pointer (some ⟨rb, 0, none⟩), vg] : Array Value)[o]? := fun o => cell_at H6.blk o;have hf6 : ∀ o, w6.frozen? ⟨hb, o, none⟩ = false := fun o => frozen_at H6.blk o;have hlb6 : hb < w6.heap.size := block_lt H6.blk;obtain ⟨rad6, rcap6, hv6, _⟩ := H6.r.row.form Dt.cells_length;have hcr6 : ∀ o, w6.cell? ⟨rb, o, none⟩ = (#[.slice rad6 acts'.length rcap6] : Array Value)[o]? := fun o => by rw [← (show v' = _ from hv6)]; exact cell_at H6.r.blk o
   have hlr6 : rb < w6.heap.size := H6.r.lt;have hg6 : ∀ k, vg.ownBlock = some k → k ≠ rb := fun k hk e => by have h1 := H6.gown k hk; have h2 := H6.rown rb (.inl rfl); rw [e] at h1; omega
   have hHe := hide (heard_any lgs vg tx acts.length w6 H6.grow (by rw [hlg.out.eq]; have := dlogOf_le acts; omega));replace I6 := hide I6;clear hK hG hB H6 hv6;go_wp2_with fail
   refine (hHe.out).mono ?_;rintro e w7 ⟨vg', rfl, hr7, hk7, ho7⟩;obtain ⟨gad, gcap, hvg⟩ := hr7.slice;subst hvg;obtain ⟨hb7, I7⟩ := I6.out.log hi _ _ hk7 hr7 ho7;have hc7 : ∀ o, w7.cell? ⟨hb, o, none⟩ = (#[.pointer (some ⟨xb, 0, none⟩), .pointer (some ⟨rb, 0, none⟩), vg] : Array Value)[o]? := fun o => cell_at hb7 o;have hf7 : ∀ o, w7.frozen? ⟨hb, o, none⟩ = false := fun o => frozen_at hb7 o;have hlb7 : hb < w7.heap.size := block_lt hb7;have hcr7 : ∀ o, w7.cell? ⟨rb, o, none⟩ = (#[.slice rad6 acts'.length rcap6] : Array Value)[o]? := fun o => (hk7.cell (p := ⟨rb, o, none⟩) hlr6 (fun h => hg6 _ h rfl)).trans (hcr6 o);have hlr7 : rb < w7.heap.size := Nat.lt_of_lt_of_le hlr6 hk7.size;have hbl7 := hide (I7.wblk);replace I7 := hide I7;clear hHe hr7 hk7 ho7 hb7 I6 hc6 hf6 hcr6 hg6;go_wp2_with fail
   refine (logged_any tx acts.length acts'.length _ Wb w0.lg _ _ _ hbl7.out htold.out).mono ?_;rintro e w8 ⟨rfl, hb8⟩;have I8 := hide (I7.out.below hb8);clear I7 hb8 hbl7 hc7 hf7 hcr7;go_wp2_with fail
   refine (num_any _ _).mono ?_;rintro e w9 ⟨rfl, rfl⟩;go_wp2_with fail
   refine (hbare.out _).mono ?_;rintro e w10 ⟨rfl, rfl⟩;go_wp2;go_ret;exact ⟨rfl, dgoes_of I8.out hok.out ⟨hRn.out, ⟨hlw.out, hHi.out⟩, by show acts'.length ≤ N + 1; omega⟩ (by omega)⟩
end Go.Proofs.YtjkhbjgfoopomabGreat
