import Derived.Test.YtjkhbjgfoopomabGreatA37
namespace Go.Proofs.YtjkhbjgfoopomabGreat
open Go.RowKit
set_option maxRecDepth 100000
set_option maxHeartbeats 2000000
set_option linter.unusedVariables false
set_option linter.unusedSimpArgs false
theorem bank_funds_none (w0 : Base) (w : World) (Wb : Nat) (own : Nat → Nat) (hs : List House) (ll : List (Value × Nat)) (vb vl : Value) (i : Nat) (hi : i < hs.length) (hb xb rb node : Nat) (evs : List Ev) (ac : List Ac) (ls : List Lg) (va vll v : Value) (lgs : List (List UInt8 × Nat)) (vg : Value)
  (I : MemInv w0 w Wb own (hs.set i ⟨hb, xb, rb, node, evs, ac, ls, va, vll, v, lgs, vg⟩) ll vb vl) (hok : ∀ h, h ∈ hs → h.ok) (hR : Rel evs ac ls) (hn1 : 1 ≤ node) (hn7 : node ≤ 7) (hlg : LgB node evs lgs)
  (at_ n : Int) (s : List UInt8) (k f t mi l p g a : Nat) (m : List UInt8) (pid dead : Int) (memo : List UInt8) (legs : Option Addr) (llen lcap acc amt : Nat) (hacc : acc < 65536) (hB : hasB acc ac = false) :
  Calls Tryz.prog 51 #[.pointer (some ⟨Wb, 0, none⟩), .pointer (some ⟨hb, 0, none⟩), (⟨3, at_, n, s, ⟨k, f, t, mi, l, p, g, a, m⟩, pid, dead, memo, legs, llen, lcap, acc, amt⟩ : Opr).v] w (BankSays w0 Wb hs ll vb i hb) := by
 have H := MemInv.at hi I
 have F0 := foot_lt H
 have hc : ∀ o, w.cell? ⟨hb, o, none⟩ = (#[.pointer (some ⟨xb, 0, none⟩), .pointer (some ⟨rb, 0, none⟩), vg] : Array Value)[o]? := fun o => cell_at H.blk o
 have hl1 : hb < w.heap.size := block_lt H.blk
 have hl2 : rb < w.heap.size := H.r.lt
 have hRl : ∀ k, v.ownBlock = some k → k < w.heap.size := fun k hk => F0.2 k (.inr hk)
 have hnx : ¬ xfoot xb va vll hb := fun hx => by have h1 := H.xown _ hx; have h2 : own hb = _ := H.hown; omega
 have hnw : ¬ xfoot xb va vll w.heap.size := fun hx => by have := F0.1 _ hx; omega
 have hnr : ¬ (hb = rb ∨ v.ownBlock = some hb) := fun hx => by have h1 := H.rown _ hx; have h2 : own hb = _ := H.hown; omega
 have hnw2 : ¬ (w.heap.size = rb ∨ v.ownBlock = some w.heap.size) := fun hx => by
  rcases hx with hx | hx
  ·omega
  ·have := hRl _ hx; omega
 obtain ⟨rad, rcap, hv, _⟩ := H.r.form
 have hcr : ∀ o, w.cell? ⟨rb, o, none⟩ = (#[.int .u8 (node : Int), .slice rad evs.length rcap] : Array Value)[o]? := fun o => by rw [← (show v = _ from hv)]; exact cell_at H.r.blk o
 have hRs := hR.short
 obtain ⟨W1, hW1⟩ : ∃ W1, W1 = (w.alloc (.cells (⟨3, at_, n, s, ⟨k, f, t, mi, l, p, g, a, m⟩, pid, dead, memo, legs, llen, lcap, acc, amt⟩ : Opr).cells 104)) := ⟨_, rfl⟩
 have hbW : Below w.heap.size w W1 := by rw [hW1]; exact (Below.refl w.heap.size w).alloc (Nat.le_refl _) _
 have hlW : w.heap.size < W1.heap.size := by rw [hW1]; simp
 have I1 := I.below hbW
 have H1 := MemInv.at hi I1
 have e0 : W1.cell? ⟨hb, 0, none⟩ = some (.pointer (some ⟨xb, 0, none⟩)) := cell_at H1.blk 0
 have e0' : W1.cell? ⟨hb, 1, none⟩ = some (.pointer (some ⟨rb, 0, none⟩)) := cell_at H1.blk 1
 have hlb : hb < W1.heap.size := by omega
 have e1 : W1.cell? ⟨w.heap.size, 17, none⟩ = some (.int .u16 (acc : Int)) := by rw [hW1]; simp [Opr.cells]
 have hX := fun u (hu : (u.cell? ⟨hb, 0, none⟩ = some (.pointer (some ⟨xb, 0, none⟩)) ∧ u.cell? ⟨w.heap.size, 17, none⟩ = some (.int .u16 (acc : Int)) ∧ u.cell? ⟨w.heap.size, 17, none⟩ = some (.int .u16 (acc : Int))) ∧ Below W1.heap.size W1 u) => eFunds_any acc hacc u xb node ac ls va vll (H1.x.below hu.2) hR.aok hR.lok' (by have := hR.alen; omega) (by have := hR.llen; omega) (by have h1 := hR.hb acc; have h2 := hR.bd acc; omega) (hR.due acc)
 have hbal : balL acc ac ≤ 4294967295 := by have h2 := hR.bd acc; omega
 have hhel : heldL acc ls ≤ 4294967295 := by have h1 := hR.hb acc; have h2 := hR.bd acc; omega
 have hdue : dueL acc ls ≤ 4294967295 := by have h2 := hR.bd acc; omega
 have hY := fun u (hu : Below W1.heap.size W1 u) => funds_any acc hacc u rb node evs v (H1.r.below hu) hR.eok (by omega) (hR.ge acc)
 have m1 : (openedOf acc evs).1 + inOf acc evs (keysOf evs) - outOf acc evs (keysOf evs) = balL acc ac := (hR.money acc).1
 have m2 : staysOf acc evs (keysOf evs) = heldL acc ls := (hR.money acc).2.1
 have m3 : comesOf acc evs (keysOf evs) = dueL acc ls := (hR.money acc).2.2
 rw [hB] at hX
 rw [m1, m2, m3, hR.has acc, hB] at hY
 simp only [Bool.false_eq_true, if_false, if_true] at hX
 generalize balL acc ac = xbal at *
 generalize heldL acc ls = xhel at *
 generalize dueL acc ls = xdue at *
 replace hX := hide hX
 replace hY := hide hY
 replace I1 := hide I1
 replace hok := hide hok
 clear H H1 F0 I hv m1 m2 m3
 simp only [Opr.v, Opr.cells] at *
 replace hW1 := hide hW1
 go_enter Tryz.func51, Tryz.ntmps51
 go_wp2_with fail
 rw [← hW1.out]
 go_region_held3 (fun u => (u.cell? ⟨hb, 0, none⟩ = some (.pointer (some ⟨xb, 0, none⟩)) ∧ u.cell? ⟨w.heap.size, 17, none⟩ = some (.int .u16 (acc : Int)) ∧ u.cell? ⟨w.heap.size, 17, none⟩ = some (.int .u16 (acc : Int))) ∧ Below W1.heap.size W1 u)
  (first
   | (with_reducible refine keep3_set hlb hlW hlW (by assumption) ?_; repeat (first | with_reducible exact Below.refl _ _ | with_reducible refine setHere ?_ (Nat.le_refl _)))
   | with_reducible exact keep3_drew ⟨e0, e1, e1⟩
   | with_reducible exact keep3_start hlb hlW hlW ⟨e0, e1, e1⟩ _
   | with_reducible exact keep3_alloc hlb hlW hlW (by assumption) _
   | with_reducible exact keep3_call hlb hlW hlW (by assumption) hb9
   | with_reducible exact keep3_again hlb hlW hlW hs9 _ (by assumption)
   | fail)
  (first
   | (go_at_call 15; refine (hX.out _ ?_).mono ?_; assumption; rintro e u2 ⟨rfl, hb9⟩; (try have hf9 : ∀ o, u2.frozen? ⟨W1.heap.size, o, none⟩ = false := fun o => fro_kept (undrew hb9) o); (try have hc9 : ∀ o, u2.cell? ⟨W1.heap.size, o, none⟩ = _ := fun o => cel_kept (undrew hb9) o); have hs9 : W1.heap.size ≤ u2.heap.size := (by first | exact hb9.size | exact Nat.le_of_lt (lt_kept (undrew hb9)))))
 ·have hB3 := (undrew hb9).alloc hs9 (.cells #[.int .u32 0, .int .u32 0, .int .u32 0] 49);have hm : ∀ o, (u2.alloc (.cells #[.int .u32 0, .int .u32 0, .int .u32 0] 49)).cell? ⟨u2.heap.size, o, none⟩ = (#[.int .u32 0, .int .u32 0, .int .u32 0] : Array Value)[o]? := fun o => World.cell?_alloc_new ..;have hmB : W1.heap.size ≤ u2.heap.size := hs9;have hmL : u2.heap.size < (u2.alloc (.cells #[.int .u32 0, .int .u32 0, .int .u32 0] 49)).heap.size := by simp
  clear hb9 hs9;generalize u2.alloc _ = u3 at hB3 hm hmL ⊢;generalize u2.heap.size = mB at hm hmB hmL ⊢;have q0 : u3.drew.cell? ⟨hb, 1, none⟩ = some (.pointer (some ⟨rb, 0, none⟩)) := (hB3.cell (p := ⟨hb, 1, none⟩) hlb).trans e0';have q1 : u3.drew.cell? ⟨w.heap.size, 17, none⟩ = some (.int .u16 (acc : Int)) := (hB3.cell (p := ⟨w.heap.size, 17, none⟩) hlW).trans e1;have hlb3 : hb < u3.drew.heap.size := Nat.lt_of_lt_of_le hlb hB3.size;have hlw3 : w.heap.size < u3.drew.heap.size := Nat.lt_of_lt_of_le hlW hB3.size;have hY3 := hide (hY.out u3.drew hB3.drew);clear hX hY hc hcr;go_wp2_with fail
  go_region_held3 (fun u => u.cell? ⟨hb, 1, none⟩ = some (.pointer (some ⟨rb, 0, none⟩)) ∧ u.cell? ⟨w.heap.size, 17, none⟩ = some (.int .u16 (acc : Int)) ∧ u.cell? ⟨w.heap.size, 17, none⟩ = some (.int .u16 (acc : Int)))
   (first
    | (with_reducible exact ⟨q0, q1, q1⟩)
    | (with_reducible exact three_kept (S := fun _ => False) (Kept.of_below hb9) ⟨hlb3, id⟩ ⟨hlw3, id⟩ ⟨hlw3, id⟩ ⟨q0, q1, q1⟩))
   (first
    | (go_at_call 81; refine (hY3.out).mono ?_; rintro e w4 ⟨rfl, hb9⟩))
  have hm4 : ∀ o, w4.cell? ⟨mB, o, none⟩ = (#[.int .u32 0, .int .u32 0, .int .u32 0] : Array Value)[o]? := fun o => (hb9.cell (p := ⟨mB, o, none⟩) hmL).trans (hm o);have hmL4 : mB < w4.heap.size := Nat.lt_of_lt_of_le hmL hb9.size;have hB4 := hide (hB3.drew.trans (hb9.mono hB3.size));have I4 := hide (I1.out.below hB4.out);clear q0 q1 hY3 hb9 hm hmL hB3;have W1' : IntKind.u64.wrap (xbal : Int) = (xbal : Int) := u64_wrap xbal (by omega);have W2' : IntKind.u64.wrap (xhel : Int) = (xhel : Int) := u64_wrap xhel (by omega);have W3' : IntKind.u64.wrap (xdue : Int) = (xdue : Int) := u64_wrap xdue (by omega);go_wp2_with fail
  refine (num_any _ _).mono ?_;rintro e w5 ⟨rfl, rfl⟩;go_wp2;go_ret;exact ⟨rfl, goes_of I4.out hok.out ⟨hR, hn1, hn7, hlg⟩ (Nat.le_add_right _ _)⟩
 ·have hk9 := putL_kept [.int .u32 0, .int .u32 0, .int .u32 0] u2 W1.heap.size 0;have hB3 := (all_kept (undrew hb9)).trans (hk9.below hs9 (fun i e => by omega));have hP := putL_whole [.int .u32 0, .int .u32 0, .int .u32 0] (blk_kept (undrew hb9)) rfl;have hm := fun o => cell_at hP o;have hmB : W1.heap.size ≤ W1.heap.size := Nat.le_refl _;have hmL := block_lt hP;clear hb9 hs9 hk9 hf9 hc9 hP;simp only [putL] at hm hB3 hmL;generalize World.setCell _ _ _ = u3 at hB3 hm hmL ⊢;generalize hgen : W1.heap.size = mB at hm hmL ⊢;have q0 : u3.drew.cell? ⟨hb, 1, none⟩ = some (.pointer (some ⟨rb, 0, none⟩)) := (hB3.cell (p := ⟨hb, 1, none⟩) hlb).trans e0';have q1 : u3.drew.cell? ⟨w.heap.size, 17, none⟩ = some (.int .u16 (acc : Int)) := (hB3.cell (p := ⟨w.heap.size, 17, none⟩) hlW).trans e1;have hlb3 : hb < u3.drew.heap.size := Nat.lt_of_lt_of_le hlb hB3.size;have hlw3 : w.heap.size < u3.drew.heap.size := Nat.lt_of_lt_of_le hlW hB3.size;have hY3 := hide (hY.out u3.drew hB3.drew);clear hX hY hc hcr;go_wp2_with fail
  go_region_held3 (fun u => u.cell? ⟨hb, 1, none⟩ = some (.pointer (some ⟨rb, 0, none⟩)) ∧ u.cell? ⟨w.heap.size, 17, none⟩ = some (.int .u16 (acc : Int)) ∧ u.cell? ⟨w.heap.size, 17, none⟩ = some (.int .u16 (acc : Int)))
   (first
    | (with_reducible exact ⟨q0, q1, q1⟩)
    | (with_reducible exact three_kept (S := fun _ => False) (Kept.of_below hb9) ⟨hlb3, id⟩ ⟨hlw3, id⟩ ⟨hlw3, id⟩ ⟨q0, q1, q1⟩))
   (first
    | (go_at_call 81; refine (hY3.out).mono ?_; rintro e w4 ⟨rfl, hb9⟩))
  have hm4 : ∀ o, w4.cell? ⟨mB, o, none⟩ = (#[.int .u32 0, .int .u32 0, .int .u32 0] : Array Value)[o]? := fun o => (hb9.cell (p := ⟨mB, o, none⟩) hmL).trans (hm o);have hmL4 : mB < w4.heap.size := Nat.lt_of_lt_of_le hmL hb9.size;have hB4 := hide (hB3.drew.trans (hb9.mono hB3.size));have I4 := hide (I1.out.below hB4.out);clear q0 q1 hY3 hb9 hm hmL hB3;have W1' : IntKind.u64.wrap (xbal : Int) = (xbal : Int) := u64_wrap xbal (by omega);have W2' : IntKind.u64.wrap (xhel : Int) = (xhel : Int) := u64_wrap xhel (by omega);have W3' : IntKind.u64.wrap (xdue : Int) = (xdue : Int) := u64_wrap xdue (by omega);go_wp2_with fail
  refine (num_any _ _).mono ?_;rintro e w5 ⟨rfl, rfl⟩;go_wp2;go_ret;exact ⟨rfl, goes_of I4.out hok.out ⟨hR, hn1, hn7, hlg⟩ (Nat.le_add_right _ _)⟩
theorem bank_leg (w0 : Base) (w : World) (Wb : Nat) (own : Nat → Nat) (hs : List House) (ll : List (Value × Nat)) (vb vl : Value) (i : Nat) (hi : i < hs.length) (hb xb rb node : Nat) (evs : List Ev) (ac : List Ac) (ls : List Lg) (va vll v : Value) (lgs : List (List UInt8 × Nat)) (vg : Value)
  (I : MemInv w0 w Wb own (hs.set i ⟨hb, xb, rb, node, evs, ac, ls, va, vll, v, lgs, vg⟩) ll vb vl) (hok : ∀ h, h ∈ hs → h.ok) (hR : Rel evs ac ls) (hn1 : 1 ≤ node) (hn7 : node ≤ 7) (hlg : LgB node evs lgs)
  (at_ n : Int) (s : List UInt8) (k f t mi l p g a : Nat) (m : List UInt8) (pid dead : Int) (memo : List UInt8) (legs : Option Addr) (llen lcap acc amt : Nat) (hmi : mi < 4294967296) (hml : l < 256) (er st : Nat) (hx : (ls[findB mi l ls]? = none ∧ st = 0 ∧ er = 13) ∨ ∃ x, ls[findB mi l ls]? = some x ∧ x.st = st ∧ er = 0) (hy : (legOf mi l evs).1 = st) (hz : (st = 0 ∧ er = 13) ∨ (1 ≤ st ∧ st ≤ 4 ∧ er = 0)) :
  Calls Tryz.prog 51 #[.pointer (some ⟨Wb, 0, none⟩), .pointer (some ⟨hb, 0, none⟩), (⟨4, at_, n, s, ⟨k, f, t, mi, l, p, g, a, m⟩, pid, dead, memo, legs, llen, lcap, acc, amt⟩ : Opr).v] w (BankSays w0 Wb hs ll vb i hb) := by
 have H := MemInv.at hi I
 have F0 := foot_lt H
 have hc : ∀ o, w.cell? ⟨hb, o, none⟩ = (#[.pointer (some ⟨xb, 0, none⟩), .pointer (some ⟨rb, 0, none⟩), vg] : Array Value)[o]? := fun o => cell_at H.blk o
 have hl1 : hb < w.heap.size := block_lt H.blk
 have hl2 : rb < w.heap.size := H.r.lt
 have hRl : ∀ k, v.ownBlock = some k → k < w.heap.size := fun k hk => F0.2 k (.inr hk)
 have hnx : ¬ xfoot xb va vll hb := fun hx => by have h1 := H.xown _ hx; have h2 : own hb = _ := H.hown; omega
 have hnw : ¬ xfoot xb va vll w.heap.size := fun hx => by have := F0.1 _ hx; omega
 have hnr : ¬ (hb = rb ∨ v.ownBlock = some hb) := fun hx => by have h1 := H.rown _ hx; have h2 : own hb = _ := H.hown; omega
 have hnw2 : ¬ (w.heap.size = rb ∨ v.ownBlock = some w.heap.size) := fun hx => by
  rcases hx with hx | hx
  ·omega
  ·have := hRl _ hx; omega
 obtain ⟨rad, rcap, hv, _⟩ := H.r.form
 have hcr : ∀ o, w.cell? ⟨rb, o, none⟩ = (#[.int .u8 (node : Int), .slice rad evs.length rcap] : Array Value)[o]? := fun o => by rw [← (show v = _ from hv)]; exact cell_at H.r.blk o
 have hRs := hR.short
 obtain ⟨W1, hW1⟩ : ∃ W1, W1 = (w.alloc (.cells (⟨4, at_, n, s, ⟨k, f, t, mi, l, p, g, a, m⟩, pid, dead, memo, legs, llen, lcap, acc, amt⟩ : Opr).cells 104)).drew := ⟨_, rfl⟩
 have hbW : Below w.heap.size w W1 := by rw [hW1]; exact ((Below.refl w.heap.size w).alloc (Nat.le_refl _) _).drew
 have hlW : w.heap.size < W1.heap.size := by rw [hW1]; simp
 have I1 := I.below hbW
 have H1 := MemInv.at hi I1
 have e0 : W1.cell? ⟨hb, 0, none⟩ = some (.pointer (some ⟨xb, 0, none⟩)) := cell_at H1.blk 0
 have hlb : hb < W1.heap.size := by omega
 have e0' : W1.cell? ⟨hb, 1, none⟩ = some (.pointer (some ⟨rb, 0, none⟩)) := cell_at H1.blk 1
 have hX0 := eLeg_any mi l hmi hml W1 xb node ac ls va vll H1.x hR.lok' (fun x hx => by have h := hR.leg x hx; exact h.2.1) (by have := hR.llen; omega)
 have hX : Hid (Calls Tryz.prog 47 #[.pointer (some ⟨xb, 0, none⟩), .int .u32 (mi : Int), .int .u8 (l : Int)] W1 fun e w' => e = .returned (.tuple #[.int .u8 (st : Int), .int .i64 (er : Int)]) ∧ Below W1.heap.size W1 w') := hide (by
  rcases hx with ⟨h1, rfl, rfl⟩ | ⟨x, h1, rfl, rfl⟩
  ·rw [h1] at hX0; exact hX0
  ·rw [h1] at hX0; exact hX0)
 clear hX0
 have e1 : W1.cell? ⟨w.heap.size, 7, none⟩ = some (.int .u32 (mi : Int)) := by rw [hW1]; simp [Opr.cells]
 have e2 : W1.cell? ⟨w.heap.size, 8, none⟩ = some (.int .u8 (l : Int)) := by rw [hW1]; simp [Opr.cells]
 replace I1 := hide I1
 replace hok := hide hok
 clear H H1 F0 I hv
 simp only [Opr.v, Opr.cells] at *
 replace hW1 := hide hW1
 go_enter Tryz.func51, Tryz.ntmps51
 go_wp2_with fail
 go_region_held3 (fun u => u.cell? ⟨hb, 0, none⟩ = some (.pointer (some ⟨xb, 0, none⟩)) ∧ u.cell? ⟨w.heap.size, 7, none⟩ = some (.int .u32 (mi : Int)) ∧ u.cell? ⟨w.heap.size, 8, none⟩ = some (.int .u8 (l : Int)))
  (first
   | (rw [← hW1.out]; exact ⟨e0, e1, e2⟩)
   | (with_reducible exact three_kept (S := fun _ => False) (Kept.of_below hb9) ⟨hlb, id⟩ ⟨hlW, id⟩ ⟨hlW, id⟩ ⟨e0, e1, e2⟩))
  (first
   | (go_at_call 47; rw [← hW1.out]; refine hX.out.mono ?_; rintro e w2 ⟨rfl, hb9⟩))
 have hb2 : Below W1.heap.size W1 w2 := hb9
 clear hb9
 obtain ⟨W2, hW2⟩ : ∃ W2, W2 = w2 := ⟨_, rfl⟩
 have q0 : w2.cell? ⟨hb, 1, none⟩ = some (.pointer (some ⟨rb, 0, none⟩)) := (hb2.cell (p := ⟨hb, 1, none⟩) hlb).trans e0'
 have q1 : w2.cell? ⟨w.heap.size, 7, none⟩ = some (.int .u32 (mi : Int)) := (hb2.cell (p := ⟨w.heap.size, 7, none⟩) hlW).trans e1
 have q2 : w2.cell? ⟨w.heap.size, 8, none⟩ = some (.int .u8 (l : Int)) := (hb2.cell (p := ⟨w.heap.size, 8, none⟩) hlW).trans e2
 have hlb2 : hb < w2.heap.size := Nat.lt_of_lt_of_le hlb hb2.size
 have hlw2 : w.heap.size < w2.heap.size := Nat.lt_of_lt_of_le hlW hb2.size
 have I2 := I1.out.below hb2
 have H2 := MemInv.at hi I2
 have hY := hide (fun u (hu : (u.cell? ⟨hb, 1, none⟩ = some (.pointer (some ⟨rb, 0, none⟩)) ∧ u.cell? ⟨w.heap.size, 7, none⟩ = some (.int .u32 (mi : Int)) ∧ u.cell? ⟨w.heap.size, 8, none⟩ = some (.int .u8 (l : Int))) ∧ Below w2.heap.size w2 u) => leg_any mi l hmi hml u rb node evs v (H2.r.below hu.2) hR.eok (by omega))
 replace I2 := hide I2
 generalize legOf mi l evs = T at *
 obtain ⟨t1, ⟨nk, nf, nt, ni, nl, np, ng, na, nm⟩, t3⟩ := T
 simp only [Msg.v, Msg.cells] at hY hy
 subst hy
 clear hX hc hcr e0 e0' e1 e2 H2 I1 hW2 hx
 go_wp2_with fail
 go_region_held3 (fun u => (u.cell? ⟨hb, 1, none⟩ = some (.pointer (some ⟨rb, 0, none⟩)) ∧ u.cell? ⟨w.heap.size, 7, none⟩ = some (.int .u32 (mi : Int)) ∧ u.cell? ⟨w.heap.size, 8, none⟩ = some (.int .u8 (l : Int))) ∧ Below w2.heap.size w2 u)
  (first
   | (with_reducible refine keep3_set hlb2 hlw2 hlw2 (by assumption) ?_; repeat (first | with_reducible exact Below.refl _ _ | with_reducible refine setHere ?_ (Nat.le_refl _)))
   | with_reducible exact keep3_drew ⟨q0, q1, q2⟩
   | with_reducible exact keep3_start hlb2 hlw2 hlw2 ⟨q0, q1, q2⟩ _
   | with_reducible exact keep3_alloc hlb2 hlw2 hlw2 (by assumption) _
   | with_reducible exact keep3_call hlb2 hlw2 hlw2 (by assumption) hb9
   | with_reducible exact keep3_again hlb2 hlw2 hlw2 hs9 _ (by assumption)
   | fail)
  (first
   | (go_at_call 82; refine (hY.out _ ?_).mono ?_; assumption; rintro e u2 ⟨rfl, hb9⟩; (try have hf9 : ∀ o, u2.frozen? ⟨w2.heap.size, o, none⟩ = false := fun o => fro_kept (undrew hb9) o); (try have hc9 : ∀ o, u2.cell? ⟨w2.heap.size, o, none⟩ = _ := fun o => cel_kept (undrew hb9) o); have hs9 : w2.heap.size ≤ u2.heap.size := (by first | exact hb9.size | exact Nat.le_of_lt (lt_kept (undrew hb9)))))
 ·have hB3 := (undrew hb9).alloc hs9 (.cells #[.int .u8 (nk : Int), .int .u8 (nf : Int), .int .u8 (nt : Int), .int .u32 (ni : Int), .int .u8 (nl : Int), .int .u16 (np : Int), .int .u16 (ng : Int), .int .u32 (na : Int), .string (bs nm)] 102);clear hb9 hs9;generalize u2.alloc _ = u3 at hB3 ⊢;generalize u2.heap.size = mB;have I3 := hide (I2.out.below hB3);clear hB3 hY q0 q1 q2;rcases hz with ⟨rfl, rfl⟩ | ⟨z1, z2, rfl⟩
  ·go_wp2_with fail
   refine (num_any _ _).mono ?_;rintro e w5 ⟨rfl, rfl⟩;go_wp2;go_ret;exact ⟨rfl, goes_of I3.out hok.out ⟨hR, hn1, hn7, hlg⟩ (Nat.le_add_right _ _)⟩
  ·have d1 : ((t1 : Int) == 0) = false := by simp; omega
   go_wp2_with fail
   refine (num_any _ _).mono ?_;rintro e w5 ⟨rfl, rfl⟩;go_wp2;go_ret;exact ⟨by simp, goes_of I3.out hok.out ⟨hR, hn1, hn7, hlg⟩ (Nat.le_add_right _ _)⟩
 ·have hk9 := putL_kept [.int .u8 (nk : Int), .int .u8 (nf : Int), .int .u8 (nt : Int), .int .u32 (ni : Int), .int .u8 (nl : Int), .int .u16 (np : Int), .int .u16 (ng : Int), .int .u32 (na : Int), .string (bs nm)] u2 w2.heap.size 0;have hB3 := (all_kept (undrew hb9)).trans (hk9.below hs9 (fun i e => by omega));clear hb9 hs9 hk9 hf9 hc9;simp only [putL] at hB3;generalize World.setCell _ _ _ = u3 at hB3 ⊢;have I3 := hide (I2.out.below hB3);clear hB3 hY q0 q1 q2;rcases hz with ⟨rfl, rfl⟩ | ⟨z1, z2, rfl⟩
  ·go_wp2_with fail
   refine (num_any _ _).mono ?_;rintro e w5 ⟨rfl, rfl⟩;go_wp2;go_ret;exact ⟨rfl, goes_of I3.out hok.out ⟨hR, hn1, hn7, hlg⟩ (Nat.le_add_right _ _)⟩
  ·have d1 : ((t1 : Int) == 0) = false := by simp; omega
   go_wp2_with fail
   refine (num_any _ _).mono ?_;rintro e w5 ⟨rfl, rfl⟩;go_wp2;go_ret;exact ⟨by simp, goes_of I3.out hok.out ⟨hR, hn1, hn7, hlg⟩ (Nat.le_add_right _ _)⟩
end Go.Proofs.YtjkhbjgfoopomabGreat
