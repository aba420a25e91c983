import Derived.Test.YtjkhbjgfoopomaaGreatG26
/-
  A step of the statement Deeds: Status.
-/
namespace Go.Proofs.YtjkhbjgfoopomaaGreat
open Go.RowKit
set_option linter.unusedVariables false
set_option linter.unusedSimpArgs false
theorem stX_rel {acts : List Dt} {ck : Nat} {ps : List Xp} (hD : DRel acts ck ps) (id : Nat) :
    ((findOf id acts).2.1 = true ∧ stX id ps = ((stOf (findOf id acts).1 acts).1, (stOf (findOf id acts).1 acts).2.1, (stOf (findOf id acts).1 acts).2.2.1, 0)) ∨ ((findOf id acts).2.1 = false ∧ stX id ps = (0, 0, 0, 13)) := by
  rcases Nat.lt_or_ge (findX id ps) ps.length with hj | hj
  · obtain ⟨hf, hc⟩ := hD.find_in id hj
    have g := hD.good _ (List.getElem_mem hj)
    refine .inl ⟨hf, ?_⟩
    unfold stX
    rw [List.getElem?_eq_getElem hj, st_core hc, ← g.st, ← g.held, ← g.done]
  · refine .inr ⟨hD.find_no id hj, ?_⟩
    unfold stX
    rw [List.getElem?_eq_none hj]
theorem two_call {u u' : World} {pB hb : Nat} {cs : Array Value} {x : Value} (h1 : pB < u.heap.size) (h2 : hb < u.heap.size) (hp : ∀ o, u.drew.cell? ⟨pB, o, none⟩ = cs[o]?) (hr : u.drew.cell? ⟨hb, 1, none⟩ = some x) (hb9 : Below u.drew.heap.size u.drew u') : (∀ o, u'.cell? ⟨pB, o, none⟩ = cs[o]?) ∧ u'.cell? ⟨hb, 1, none⟩ = some x :=
  ⟨fun o => (hb9.cell (p := ⟨pB, o, none⟩) h1).trans (hp o), (hb9.cell (p := ⟨hb, 1, none⟩) h2).trans hr⟩
set_option maxRecDepth 100000 in
set_option maxHeartbeats 4000000 in
theorem deed_status (w0 : DBase) (N : Nat) (hN : N ≤ 999999999999) (w : World) (Wb : Nat) (own : Nat → Nat) (hs : List Office) (ll : List (Value × Nat)) (vd vl : Value) (i : Nat) (hi : i < hs.length) (hb xb rb ck : Nat) (acts : List Dt) (ps : List Xp) (xv v : Value) (lgs : List (List UInt8 × Nat)) (vg : Value)
    (I : DInv w0 w Wb own (hs.set i ⟨hb, xb, rb, ck, acts, ps, xv, v, lgs, vg⟩) ll vd vl) (hok : ∀ h, h ∈ hs → h.ok N) (hR : DRel acts ck ps) (hlg : lgs = dlogOf acts) (hlen : acts.length ≤ N)
    (at_ n : Int) (s : List UInt8) (k f t mi l p g a : Nat) (m : List UInt8) (pid dead : Int) (memo : List UInt8) (legs : Option Addr) (llen lcap acc amt : Nat) (hmi : mi < 4294967296) :
    Calls Tryz.prog 11 #[.pointer (some ⟨Wb, 0, none⟩), .pointer (some ⟨hb, 0, none⟩), (⟨12, at_, n, s, ⟨k, f, t, mi, l, p, g, a, m⟩, pid, dead, memo, legs, llen, lcap, acc, amt⟩ : Opr).v] w (DeedSays w0 N Wb hs ll vd i hb) := by
  have H := DInv.at hi I
  have hc : ∀ o, w.cell? ⟨hb, o, none⟩ = (#[.pointer (some ⟨xb, 0, none⟩), .pointer (some ⟨rb, 0, none⟩), vg] : Array Value)[o]? := fun o => cell_at H.blk o
  have hl1 : hb < w.heap.size := block_lt H.blk
  have hl2 : rb < w.heap.size := H.r.lt
  obtain ⟨rad, rcap, hv, _⟩ := H.r.row.form Dt.cells_length
  have hcr : ∀ o, w.cell? ⟨rb, o, none⟩ = (#[.slice rad acts.length rcap] : Array Value)[o]? := fun o => by rw [← (show v = _ from hv)]; exact cell_at H.r.blk o
  obtain ⟨W1, hW1⟩ : ∃ W1, W1 = (w.alloc (.cells (⟨12, at_, n, s, ⟨k, f, t, mi, l, p, g, a, m⟩, pid, dead, memo, legs, llen, lcap, acc, amt⟩ : Opr).cells 46)) := ⟨_, rfl⟩
  have hbW : Below w.heap.size w W1 := by rw [hW1]; exact (Below.refl w.heap.size w).alloc (Nat.le_refl _) _
  have hlW : w.heap.size < W1.heap.size := by rw [hW1]; simp
  have I1 := I.below hbW
  have H1 := DInv.at hi I1
  have e0 : W1.cell? ⟨hb, 0, none⟩ = some (.pointer (some ⟨xb, 0, none⟩)) := cell_at H1.blk 0
  have e0' : W1.cell? ⟨hb, 1, none⟩ = some (.pointer (some ⟨rb, 0, none⟩)) := cell_at H1.blk 1
  have hlb : hb < W1.heap.size := by omega
  have e1 : W1.cell? ⟨w.heap.size, 7, none⟩ = some (.int .u32 (mi : Int)) := by rw [hW1]; simp [Opr.cells]
  have hX := fun u (hu : (u.cell? ⟨hb, 0, none⟩ = some (.pointer (some ⟨xb, 0, none⟩)) ∧ u.cell? ⟨w.heap.size, 7, none⟩ = some (.int .u32 (mi : Int)) ∧ u.cell? ⟨w.heap.size, 7, none⟩ = some (.int .u32 (mi : Int))) ∧ Below W1.heap.size W1 u) => eStatus_any mi hmi u xb ck ps xv (H1.x.below hu.2) (fun y hy => (hR.good y hy).fine.ok) (by have := hR.len; omega)
  have hY := fun u (hu : (u.cell? ⟨hb, 1, none⟩ = some (.pointer (some ⟨rb, 0, none⟩)) ∧ u.cell? ⟨w.heap.size, 7, none⟩ = some (.int .u32 (mi : Int)) ∧ u.cell? ⟨w.heap.size, 7, none⟩ = some (.int .u32 (mi : Int))) ∧ Below W1.heap.size W1 u) => find_pay mi hmi u rb acts v (H1.r.below hu.2) hR.ok (by omega)
  have hrel := stX_rel hR mi
  have hbd := stOf_bd (findOf mi acts).1 acts hR.few
  have hZ := fun (ht : (findOf mi acts).2.1 = true) u (hu : Below W1.heap.size W1 u) => (by
    obtain ⟨x, hx, _, _, hp⟩ := findOf_mem ht
    exact status_any (findOf mi acts).1 (by rw [hp]; exact (hR.ok x hx).2.2.1) (by rw [hp]; exact (hR.pay x hx).1) u rb acts v (H1.r.below hu) hR.ok hR.few (by omega) : Calls Tryz.prog 45 #[.pointer (some ⟨rb, 0, none⟩), (findOf mi acts).1.v] u fun e w' => e = .returned (.tuple #[.int .i64 ((stOf (findOf mi acts).1 acts).1 : Int), .int .i64 ((stOf (findOf mi acts).1 acts).2.1 : Int), .int .i64 ((stOf (findOf mi acts).1 acts).2.2.1 : Int)]) ∧ Below u.heap.size u w')
  generalize stX mi ps = Z at *
  generalize stOf (findOf mi acts).1 acts = SS at *
  generalize findOf mi acts = FF at *
  obtain ⟨⟨qi, qd, qm, ql, qa, qc⟩, th, cnt⟩ := FF
  obtain ⟨s1, s2, s3, s4⟩ := SS
  obtain ⟨z1, z2, z3, z4⟩ := Z
  simp only [Pm.v, Pm.lv] at hX hY hZ hrel hbd
  replace hX := hide hX
  replace hY := hide hY
  replace hZ := hide hZ
  replace hrel := hide hrel
  replace I1 := hide I1
  replace hok := hide hok
  replace hlg := hide hlg
  clear H H1 I hv
  simp only [Opr.v, Opr.cells] at *
  replace hW1 := hide hW1
  go_enter Tryz.func11, Tryz.ntmps11
  go_wp2_with fail
  rw [← hW1.out]
  go_region_held3 (fun u => (u.cell? ⟨hb, 0, none⟩ = some (.pointer (some ⟨xb, 0, none⟩)) ∧ u.cell? ⟨w.heap.size, 7, none⟩ = some (.int .u32 (mi : Int)) ∧ u.cell? ⟨w.heap.size, 7, none⟩ = some (.int .u32 (mi : Int))) ∧ Below W1.heap.size W1 u)
    (first
      | (with_reducible refine keep3_set hlb hlW hlW (by assumption) ?_; repeat (first | with_reducible exact Below.refl _ _ | with_reducible refine setHere ?_ (Nat.le_refl _)))
      | with_reducible exact keep3_drew ⟨e0, e1, e1⟩
      | with_reducible exact keep3_start hlb hlW hlW ⟨e0, e1, e1⟩ _
      | with_reducible exact keep3_alloc hlb hlW hlW (by assumption) _
      | with_reducible exact keep3_call hlb hlW hlW (by assumption) hb9
      | with_reducible exact keep3_again hlb hlW hlW hs9 _ (by assumption)
      | fail)
    (first
      | (go_at_call 43; refine (hX.out _ ?_).mono ?_; assumption; rintro e u2 ⟨rfl, hb9⟩; (try have hf9 : ∀ o, u2.frozen? ⟨W1.heap.size, o, none⟩ = false := fun o => fro_kept (undrew hb9) o); (try have hc9 : ∀ o, u2.cell? ⟨W1.heap.size, o, none⟩ = _ := fun o => cel_kept (undrew hb9) o); have hs9 : W1.heap.size ≤ u2.heap.size := (by first | exact hb9.size | exact Nat.le_of_lt (lt_kept (undrew hb9)))))
  all_goals first
    | (have hk9 := putL_kept [.int .u8 (z1 : Int), .int .u8 (z2 : Int), .int .u8 (z3 : Int)] u2 W1.heap.size 0
       have hB3 := (all_kept (undrew hb9)).trans (hk9.below hs9 (fun i e => by omega))
       have hP := putL_whole [.int .u8 (z1 : Int), .int .u8 (z2 : Int), .int .u8 (z3 : Int)] (blk_kept (undrew hb9)) rfl
       have hm := fun o => cell_at hP o
       have hmL := block_lt hP
       clear hb9 hs9 hk9 hf9 hc9 hP
       simp only [putL] at hm hB3 hmL
       generalize World.setCell _ _ _ = u3 at hB3 hm hmL ⊢
       generalize hgen : W1.heap.size = mB at hm hmL ⊢
       have hmB : W1.heap.size ≤ mB := by omega
       clear hgen)
    | (have hB3 := (undrew hb9).alloc hs9 (.cells #[.int .u8 (z1 : Int), .int .u8 (z2 : Int), .int .u8 (z3 : Int)] 113)
       have hm : ∀ o, (u2.alloc (.cells #[.int .u8 (z1 : Int), .int .u8 (z2 : Int), .int .u8 (z3 : Int)] 113)).cell? ⟨u2.heap.size, o, none⟩ = (#[.int .u8 (z1 : Int), .int .u8 (z2 : Int), .int .u8 (z3 : Int)] : Array Value)[o]? := fun o => World.cell?_alloc_new ..
       have hmB : W1.heap.size ≤ u2.heap.size := hs9
       have hmL : u2.heap.size < (u2.alloc (.cells #[.int .u8 (z1 : Int), .int .u8 (z2 : Int), .int .u8 (z3 : Int)] 113)).heap.size := by simp
       clear hb9 hs9
       generalize u2.alloc _ = u3 at hB3 hm hmL ⊢
       generalize u2.heap.size = mB at hm hmB hmL ⊢)
  all_goals (
    have q0 : u3.cell? ⟨hb, 1, none⟩ = some (.pointer (some ⟨rb, 0, none⟩)) := (hB3.cell (p := ⟨hb, 1, none⟩) hlb).trans e0'
    have q1 : u3.cell? ⟨w.heap.size, 7, none⟩ = some (.int .u32 (mi : Int)) := (hB3.cell (p := ⟨w.heap.size, 7, none⟩) hlW).trans e1
    have hlb3 : hb < u3.heap.size := Nat.lt_of_lt_of_le hlb hB3.size
    have hlw3 : w.heap.size < u3.heap.size := Nat.lt_of_lt_of_le hlW hB3.size
    have hY3 := hide (fun u (hu : (u.cell? ⟨hb, 1, none⟩ = some (.pointer (some ⟨rb, 0, none⟩)) ∧ u.cell? ⟨w.heap.size, 7, none⟩ = some (.int .u32 (mi : Int)) ∧ u.cell? ⟨w.heap.size, 7, none⟩ = some (.int .u32 (mi : Int))) ∧ Below u3.heap.size u3 u) => hY.out u ⟨hu.1, hB3.trans (hu.2.mono hB3.size)⟩)
    clear hX hY hc hcr
    go_wp2_with fail
    go_region_held3 (fun u => (u.cell? ⟨hb, 1, none⟩ = some (.pointer (some ⟨rb, 0, none⟩)) ∧ u.cell? ⟨w.heap.size, 7, none⟩ = some (.int .u32 (mi : Int)) ∧ u.cell? ⟨w.heap.size, 7, none⟩ = some (.int .u32 (mi : Int))) ∧ Below u3.heap.size u3 u)
      (first
        | (with_reducible refine keep3_set hlb3 hlw3 hlw3 (by assumption) ?_; repeat (first | with_reducible exact Below.refl _ _ | with_reducible refine setHere ?_ (Nat.le_refl _)))
        | with_reducible exact keep3_drew ⟨q0, q1, q1⟩
        | with_reducible exact keep3_start hlb3 hlw3 hlw3 ⟨q0, q1, q1⟩ _
        | with_reducible exact keep3_alloc hlb3 hlw3 hlw3 (by assumption) _
        | with_reducible exact keep3_call hlb3 hlw3 hlw3 (by assumption) hb9
        | with_reducible exact keep3_again hlb3 hlw3 hlw3 hs9 _ (by assumption)
        | fail)
      (first
        | (go_at_call 44; refine (hY3.out _ ?_).mono ?_; assumption; rintro e u4 ⟨rfl, hb9⟩; (try have hf9 : ∀ o, u4.frozen? ⟨u3.heap.size, o, none⟩ = false := fun o => fro_kept (undrew hb9) o); (try have hc9 : ∀ o, u4.cell? ⟨u3.heap.size, o, none⟩ = _ := fun o => cel_kept (undrew hb9) o); have hs9 : u3.heap.size ≤ u4.heap.size := (by first | exact hb9.size | exact Nat.le_of_lt (lt_kept (undrew hb9))))))
  all_goals first
    | (have hk9 := putL_kept [.int .u32 (qi : Int), .int .u64 (qd : Int), .string (bs qm), .slice qa ql.length qc] u4 u3.heap.size 0
       have hB5 := (all_kept (undrew hb9)).trans (hk9.below hs9 (fun i e => by omega))
       have hP := putL_whole [.int .u32 (qi : Int), .int .u64 (qd : Int), .string (bs qm), .slice qa ql.length qc] (blk_kept (undrew hb9)) rfl
       have hp := fun o => cell_at hP o
       have hpL := block_lt hP
       clear hb9 hs9 hk9 hf9 hc9 hP
       simp only [putL] at hp hB5 hpL
       generalize World.setCell _ _ _ = u5 at hB5 hp hpL ⊢
       generalize hgen : u3.heap.size = pB at hp hpL ⊢
       have hpB : u3.heap.size ≤ pB := by omega
       clear hgen)
    | (have hB5 := (undrew hb9).alloc hs9 (.cells #[.int .u32 (qi : Int), .int .u64 (qd : Int), .string (bs qm), .slice qa ql.length qc] 44)
       have hp : ∀ o, (u4.alloc (.cells #[.int .u32 (qi : Int), .int .u64 (qd : Int), .string (bs qm), .slice qa ql.length qc] 44)).cell? ⟨u4.heap.size, o, none⟩ = (#[.int .u32 (qi : Int), .int .u64 (qd : Int), .string (bs qm), .slice qa ql.length qc] : Array Value)[o]? := fun o => World.cell?_alloc_new ..
       have hpB : u3.heap.size ≤ u4.heap.size := hs9
       have hpL : u4.heap.size < (u4.alloc (.cells #[.int .u32 (qi : Int), .int .u64 (qd : Int), .string (bs qm), .slice qa ql.length qc] 44)).heap.size := by simp
       clear hb9 hs9
       generalize u4.alloc _ = u5 at hB5 hp hpL ⊢
       generalize u4.heap.size = pB at hp hpB hpL ⊢)
  all_goals (
    have hm5 : ∀ o, u5.cell? ⟨mB, o, none⟩ = (#[.int .u8 (z1 : Int), .int .u8 (z2 : Int), .int .u8 (z3 : Int)] : Array Value)[o]? := fun o => (hB5.cell (p := ⟨mB, o, none⟩) hmL).trans (hm o)
    have hmL5 : mB < u5.heap.size := Nat.lt_of_lt_of_le hmL hB5.size
    have r0 : u5.cell? ⟨hb, 1, none⟩ = some (.pointer (some ⟨rb, 0, none⟩)) := (hB5.cell (p := ⟨hb, 1, none⟩) hlb3).trans q0
    have hlb5 : hb < u5.heap.size := Nat.lt_of_lt_of_le hlb3 hB5.size
    have hB15 := hB3.trans (hB5.mono hB3.size)
    clear hY3 q0 q1 hm hmL hB3 hB5
    rcases hrel.out with ⟨rfl, hz⟩ | ⟨rfl, hz⟩
    · simp only [Prod.mk.injEq] at hz
      obtain ⟨rfl, rfl, rfl, rfl⟩ := hz
      have hZ5 := hide (fun u (hu : Below u5.heap.size u5 u) => hZ.out rfl u (hB15.trans (hu.mono hB15.size)))
      have hp' : ∀ o, u5.drew.cell? ⟨pB, o, none⟩ = (#[.int .u32 (qi : Int), .int .u64 (qd : Int), .string (bs qm), .slice qa ql.length qc] : Array Value)[o]? := hp
      have r0' : u5.drew.cell? ⟨hb, 1, none⟩ = some (.pointer (some ⟨rb, 0, none⟩)) := r0
      have hW8 : ∀ x : Nat, x < 256 → IntKind.i64.wrap (x : Int) = (x : Int) := fun x hx => by rw [IntKind.wrap_i64]; omega
      have w1 := hW8 z1 (by omega)
      have w2 := hW8 z2 (by omega)
      have w3 := hW8 z3 (by omega)
      clear hW8
      go_wp2_with fail
      go_region_held3 (fun u => (∀ o, u.cell? ⟨pB, o, none⟩ = (#[.int .u32 (qi : Int), .int .u64 (qd : Int), .string (bs qm), .slice qa ql.length qc] : Array Value)[o]?) ∧ u.cell? ⟨hb, 1, none⟩ = some (.pointer (some ⟨rb, 0, none⟩)))
        (first
          | (with_reducible exact ⟨hp', r0'⟩)
          | (with_reducible exact two_call hpL hlb5 hp' r0' hb9))
        (first
          | (go_at_call 45; refine (hZ5.out _ ((Below.refl _ _).drew)).mono ?_; rintro e w4 ⟨rfl, hb9⟩))
      have hB14 := hB15.trans ((undrew hb9).mono hB15.size)
      have I5 := hide (I1.out.below hB14)
      have hm4 : ∀ o, w4.cell? ⟨mB, o, none⟩ = (#[.int .u8 (z1 : Int), .int .u8 (z2 : Int), .int .u8 (z3 : Int)] : Array Value)[o]? := fun o => (hb9.cell (p := ⟨mB, o, none⟩) hmL5).trans (hm5 o)
      have hmL4 : mB < w4.heap.size := Nat.lt_of_lt_of_le hmL5 hb9.size
      clear hp hp' r0 r0' hm5 hZ5 hb9
      go_wp2_with fail
      refine (num_any _ _).mono ?_
      rintro e w5 ⟨rfl, rfl⟩
      go_wp2
      go_ret
      exact ⟨rfl, dgoes_of I5.out hok.out ⟨hR, hlg.out, Nat.le_succ_of_le hlen⟩ (Nat.le_add_right _ _)⟩
    · simp only [Prod.mk.injEq] at hz
      obtain ⟨rfl, rfl, rfl, rfl⟩ := hz
      have I5 := hide (I1.out.below hB15)
      go_wp2_with fail
      refine (num_any _ _).mono ?_
      rintro e w5 ⟨rfl, rfl⟩
      go_wp2
      go_ret
      exact ⟨rfl, dgoes_of I5.out hok.out ⟨hR, hlg.out, Nat.le_succ_of_le hlen⟩ (Nat.le_add_right _ _)⟩)
end Go.Proofs.YtjkhbjgfoopomaaGreat
