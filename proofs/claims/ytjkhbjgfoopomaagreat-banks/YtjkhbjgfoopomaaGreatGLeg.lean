import Derived.Test.YtjkhbjgfoopomaaGreatGInv
/-
  A step of the statement Banks: Leg.
-/
namespace Go.Proofs.YtjkhbjgfoopomaaGreat
open Go.RowKit
set_option linter.unusedVariables false
set_option linter.unusedSimpArgs false

set_option maxRecDepth 100000 in
set_option maxHeartbeats 2000000 in
theorem bank_leg (w0 : Base) (w : World) (Wb : Nat) (own : Nat → Nat) (hs : List House) (ll : List (Value × Nat)) (vb vl : Value) (i : Nat) (hi : i < hs.length) (hb xb rb node : Nat) (evs : List Ev) (ac : List Ac) (ls : List Lg) (va vll v : Value) (lgs : List (List UInt8 × Nat)) (vg : Value)
    (I : MemInv w0 w Wb own (hs.set i ⟨hb, xb, rb, node, evs, ac, ls, va, vll, v, lgs, vg⟩) ll vb vl) (hok : ∀ h, h ∈ hs → h.ok) (hR : Rel evs ac ls) (hn1 : 1 ≤ node) (hn7 : node ≤ 7) (hlg : lgs = logOf evs)
    (at_ n : Int) (s : List UInt8) (k f t mi l p g a : Nat) (m : List UInt8) (pid dead : Int) (memo : List UInt8) (legs : Option Addr) (llen lcap acc amt : Nat) (hmi : mi < 4294967296) (hml : l < 256) (er st : Nat) (hx : (ls[findB mi l ls]? = none ∧ st = 0 ∧ er = 13) ∨ ∃ x, ls[findB mi l ls]? = some x ∧ x.st = st ∧ er = 0) (hy : (legOf mi l evs).1 = st) (hz : (st = 0 ∧ er = 13) ∨ (1 ≤ st ∧ st ≤ 4 ∧ er = 0)) :
    Calls Tryz.prog 10 #[.pointer (some ⟨Wb, 0, none⟩), .pointer (some ⟨hb, 0, none⟩), (⟨4, at_, n, s, ⟨k, f, t, mi, l, p, g, a, m⟩, pid, dead, memo, legs, llen, lcap, acc, amt⟩ : Opr).v] w (BankSays w0 Wb hs ll vb i hb) := by
  have H := MemInv.at hi I
  have F0 := foot_lt H
  have hc : ∀ o, w.cell? ⟨hb, o, none⟩ = (#[.pointer (some ⟨xb, 0, none⟩), .pointer (some ⟨rb, 0, none⟩), vg] : Array Value)[o]? := fun o => cell_at H.blk o
  have hl1 : hb < w.heap.size := block_lt H.blk
  have hl2 : rb < w.heap.size := H.r.lt
  have hRl : ∀ k, v.ownBlock = some k → k < w.heap.size := fun k hk => F0.2 k (.inr hk)
  have hnx : ¬ xfoot xb va vll hb := fun hx => by have h1 := H.xown _ hx; have h2 : own hb = _ := H.hown; omega
  have hnw : ¬ xfoot xb va vll w.heap.size := fun hx => by have := F0.1 _ hx; omega
  have hnr : ¬ (hb = rb ∨ v.ownBlock = some hb) := fun hx => by have h1 := H.rown _ hx; have h2 : own hb = _ := H.hown; omega
  have hnw2 : ¬ (w.heap.size = rb ∨ v.ownBlock = some w.heap.size) := fun hx => by
    rcases hx with hx | hx
    · omega
    · have := hRl _ hx; omega
  obtain ⟨rad, rcap, hv, _⟩ := H.r.form
  have hcr : ∀ o, w.cell? ⟨rb, o, none⟩ = (#[.int .u8 (node : Int), .slice rad evs.length rcap] : Array Value)[o]? := fun o => by rw [← (show v = _ from hv)]; exact cell_at H.r.blk o
  have hRs := hR.short
  obtain ⟨W1, hW1⟩ : ∃ W1, W1 = (w.alloc (.cells (⟨4, at_, n, s, ⟨k, f, t, mi, l, p, g, a, m⟩, pid, dead, memo, legs, llen, lcap, acc, amt⟩ : Opr).cells 46)).drew := ⟨_, rfl⟩
  have hbW : Below w.heap.size w W1 := by rw [hW1]; exact ((Below.refl w.heap.size w).alloc (Nat.le_refl _) _).drew
  have hlW : w.heap.size < W1.heap.size := by rw [hW1]; simp
  have I1 := I.below hbW
  have H1 := MemInv.at hi I1
  have e0 : W1.cell? ⟨hb, 0, none⟩ = some (.pointer (some ⟨xb, 0, none⟩)) := cell_at H1.blk 0
  have hlb : hb < W1.heap.size := by omega
  have e0' : W1.cell? ⟨hb, 1, none⟩ = some (.pointer (some ⟨rb, 0, none⟩)) := cell_at H1.blk 1
  have hX0 := eLeg_any mi l hmi hml W1 xb node ac ls va vll H1.x hR.lok' (fun x hx => by have h := hR.leg x hx; exact h.2.1) (by have := hR.llen; omega)
  have hX : Hid (Calls Tryz.prog 27 #[.pointer (some ⟨xb, 0, none⟩), .int .u32 (mi : Int), .int .u8 (l : Int)] W1 fun e w' => e = .returned (.tuple #[.int .u8 (st : Int), .int .i64 (er : Int)]) ∧ Below W1.heap.size W1 w') := hide (by
    rcases hx with ⟨h1, rfl, rfl⟩ | ⟨x, h1, rfl, rfl⟩
    · rw [h1] at hX0; exact hX0
    · rw [h1] at hX0; exact hX0)
  clear hX0
  have e1 : W1.cell? ⟨w.heap.size, 7, none⟩ = some (.int .u32 (mi : Int)) := by rw [hW1]; simp [Opr.cells]
  have e2 : W1.cell? ⟨w.heap.size, 8, none⟩ = some (.int .u8 (l : Int)) := by rw [hW1]; simp [Opr.cells]
  replace I1 := hide I1
  replace hok := hide hok
  clear H H1 F0 I hv
  simp only [Opr.v, Opr.cells] at *
  replace hW1 := hide hW1
  go_enter Tryz.func10, Tryz.ntmps10
  go_wp2_with fail
  go_region_held3 (fun u => u.cell? ⟨hb, 0, none⟩ = some (.pointer (some ⟨xb, 0, none⟩)) ∧ u.cell? ⟨w.heap.size, 7, none⟩ = some (.int .u32 (mi : Int)) ∧ u.cell? ⟨w.heap.size, 8, none⟩ = some (.int .u8 (l : Int)))
    (first
      | (rw [← hW1.out]; exact ⟨e0, e1, e2⟩)
      | (with_reducible exact three_kept (S := fun _ => False) (Kept.of_below hb9) ⟨hlb, id⟩ ⟨hlW, id⟩ ⟨hlW, id⟩ ⟨e0, e1, e2⟩))
    (first
      | (go_at_call 27; rw [← hW1.out]; refine hX.out.mono ?_; rintro e w2 ⟨rfl, hb9⟩))
  have hb2 : Below W1.heap.size W1 w2 := hb9
  clear hb9
  obtain ⟨W2, hW2⟩ : ∃ W2, W2 = w2 := ⟨_, rfl⟩
  have q0 : w2.cell? ⟨hb, 1, none⟩ = some (.pointer (some ⟨rb, 0, none⟩)) := (hb2.cell (p := ⟨hb, 1, none⟩) hlb).trans e0'
  have q1 : w2.cell? ⟨w.heap.size, 7, none⟩ = some (.int .u32 (mi : Int)) := (hb2.cell (p := ⟨w.heap.size, 7, none⟩) hlW).trans e1
  have q2 : w2.cell? ⟨w.heap.size, 8, none⟩ = some (.int .u8 (l : Int)) := (hb2.cell (p := ⟨w.heap.size, 8, none⟩) hlW).trans e2
  have hlb2 : hb < w2.heap.size := Nat.lt_of_lt_of_le hlb hb2.size
  have hlw2 : w.heap.size < w2.heap.size := Nat.lt_of_lt_of_le hlW hb2.size
  have I2 := I1.out.below hb2
  have H2 := MemInv.at hi I2
  have hY := hide (fun u (hu : (u.cell? ⟨hb, 1, none⟩ = some (.pointer (some ⟨rb, 0, none⟩)) ∧ u.cell? ⟨w.heap.size, 7, none⟩ = some (.int .u32 (mi : Int)) ∧ u.cell? ⟨w.heap.size, 8, none⟩ = some (.int .u8 (l : Int))) ∧ Below w2.heap.size w2 u) => leg_any mi l hmi hml u rb node evs v (H2.r.below hu.2) hR.eok (by omega))
  replace I2 := hide I2
  generalize legOf mi l evs = T at *
  obtain ⟨t1, ⟨nk, nf, nt, ni, nl, np, ng, na, nm⟩, t3⟩ := T
  simp only [Msg.v, Msg.cells] at hY hy
  subst hy
  clear hX hc hcr e0 e0' e1 e2 H2 I1 hW2 hx
  go_wp2_with fail
  go_region_held3 (fun u => (u.cell? ⟨hb, 1, none⟩ = some (.pointer (some ⟨rb, 0, none⟩)) ∧ u.cell? ⟨w.heap.size, 7, none⟩ = some (.int .u32 (mi : Int)) ∧ u.cell? ⟨w.heap.size, 8, none⟩ = some (.int .u8 (l : Int))) ∧ Below w2.heap.size w2 u)
    (first
      | (with_reducible refine keep3_set hlb2 hlw2 hlw2 (by assumption) ?_; repeat (first | with_reducible exact Below.refl _ _ | with_reducible refine setHere ?_ (Nat.le_refl _)))
      | with_reducible exact keep3_drew ⟨q0, q1, q2⟩
      | with_reducible exact keep3_start hlb2 hlw2 hlw2 ⟨q0, q1, q2⟩ _
      | with_reducible exact keep3_alloc hlb2 hlw2 hlw2 (by assumption) _
      | with_reducible exact keep3_call hlb2 hlw2 hlw2 (by assumption) hb9
      | with_reducible exact keep3_again hlb2 hlw2 hlw2 hs9 _ (by assumption)
      | fail)
    (first
      | (go_at_call 28; refine (hY.out _ ?_).mono ?_; assumption; rintro e u2 ⟨rfl, hb9⟩; (try have hf9 : ∀ o, u2.frozen? ⟨w2.heap.size, o, none⟩ = false := fun o => fro_kept (undrew hb9) o); (try have hc9 : ∀ o, u2.cell? ⟨w2.heap.size, o, none⟩ = _ := fun o => cel_kept (undrew hb9) o); have hs9 : w2.heap.size ≤ u2.heap.size := (by first | exact hb9.size | exact Nat.le_of_lt (lt_kept (undrew hb9)))))
  · have hB3 := (undrew hb9).alloc hs9 (.cells #[.int .u8 (nk : Int), .int .u8 (nf : Int), .int .u8 (nt : Int), .int .u32 (ni : Int), .int .u8 (nl : Int), .int .u16 (np : Int), .int .u16 (ng : Int), .int .u32 (na : Int), .string (bs nm)] 40)
    clear hb9 hs9
    generalize u2.alloc _ = u3 at hB3 ⊢
    generalize u2.heap.size = mB
    have I3 := hide (I2.out.below hB3)
    clear hB3 hY q0 q1 q2
    rcases hz with ⟨rfl, rfl⟩ | ⟨z1, z2, rfl⟩
    · go_wp2_with fail
      refine (num_any _ _).mono ?_
      rintro e w5 ⟨rfl, rfl⟩
      go_wp2
      go_ret
      exact ⟨rfl, goes_of I3.out hok.out ⟨hR, hn1, hn7, hlg⟩ (Nat.le_add_right _ _)⟩
    · have d1 : ((t1 : Int) == 0) = false := by simp; omega
      go_wp2_with fail
      refine (num_any _ _).mono ?_
      rintro e w5 ⟨rfl, rfl⟩
      go_wp2
      go_ret
      exact ⟨by simp, goes_of I3.out hok.out ⟨hR, hn1, hn7, hlg⟩ (Nat.le_add_right _ _)⟩
  · have hk9 := putL_kept [.int .u8 (nk : Int), .int .u8 (nf : Int), .int .u8 (nt : Int), .int .u32 (ni : Int), .int .u8 (nl : Int), .int .u16 (np : Int), .int .u16 (ng : Int), .int .u32 (na : Int), .string (bs nm)] u2 w2.heap.size 0
    have hB3 := (all_kept (undrew hb9)).trans (hk9.below hs9 (fun i e => by omega))
    clear hb9 hs9 hk9 hf9 hc9
    simp only [putL] at hB3
    generalize World.setCell _ _ _ = u3 at hB3 ⊢
    have I3 := hide (I2.out.below hB3)
    clear hB3 hY q0 q1 q2
    rcases hz with ⟨rfl, rfl⟩ | ⟨z1, z2, rfl⟩
    · go_wp2_with fail
      refine (num_any _ _).mono ?_
      rintro e w5 ⟨rfl, rfl⟩
      go_wp2
      go_ret
      exact ⟨rfl, goes_of I3.out hok.out ⟨hR, hn1, hn7, hlg⟩ (Nat.le_add_right _ _)⟩
    · have d1 : ((t1 : Int) == 0) = false := by simp; omega
      go_wp2_with fail
      refine (num_any _ _).mono ?_
      rintro e w5 ⟨rfl, rfl⟩
      go_wp2
      go_ret
      exact ⟨by simp, goes_of I3.out hok.out ⟨hR, hn1, hn7, hlg⟩ (Nat.le_add_right _ _)⟩
end Go.Proofs.YtjkhbjgfoopomaaGreat
/-
  A step of the statement Banks: a bank more.
-/
namespace Go.Proofs.YtjkhbjgfoopomaaGreat
open Go.RowKit
set_option linter.unusedVariables false
set_option linter.unusedSimpArgs false
theorem ptrInfo : (Tryz.prog.info? 50).map (fun i => (i.zero, i.size, i.bytes)) = some (some (.pointer none), 1, 8) := by kernel_rfl
theorem ptr_one (h : House) : ∀ u ∈ ptrCell h, u.oneCell' = true := by
  intro u hu
  simp only [ptrCell, List.mem_cons, List.not_mem_nil, or_false] at hu
  subst hu
  rfl
def MadeSays (w0 : Base) (Wb : Nat) (hs : List House) (ll : List (Value × Nat)) (b : Bool) (e : Ending) (w' : World) : Prop :=
  e = .returned (.bool true) ∧ ∃ own' hs' vb' vl', MemInv w0 w' Wb own' hs' ll vb' vl' ∧ (∀ h, h ∈ hs' → h.ok) ∧ hs'.length = hs.length + (if b then 1 else 0)
theorem pickN_lt (c : Int) : pickN c 256 < 256 := Nat.mod_lt _ (by decide)

set_option maxRecDepth 100000 in
set_option maxHeartbeats 2000000 in
theorem made_none (w0 : Base) (w : World) (Wb : Nat) (own : Nat → Nat) (hs : List House) (ll : List (Value × Nat)) (vb vl : Value) (I : MemInv w0 w Wb own hs ll vb vl) (hok : ∀ h, h ∈ hs → h.ok)
    (kind at_ n : Int) (hk8 : (kind == 8) = false) (hn : i64ok n) (s : List UInt8) (k f t mi l p g a : Nat) (m : List UInt8) (pid dead : Int) (memo : List UInt8) (legs : Option Addr) (llen lcap acc amt : Nat) (hno : bankB (pickN n 256) = false) (hlg : w0.lg = false) :
    Calls Tryz.prog 9 #[.pointer (some ⟨Wb, 0, none⟩), (⟨kind, at_, n, s, ⟨k, f, t, mi, l, p, g, a, m⟩, pid, dead, memo, legs, llen, lcap, acc, amt⟩ : Opr).v] w (MadeSays w0 Wb hs ll false) := by
  have hP := hide (fun u => pick_any n hn 256 (by decide) (by decide) u)
  have hpl := pickN_lt n
  have hN := hide (fun u => newBank_any (pickN n 256) hpl u)
  rw [hno] at hN
  simp only [Bool.false_eq_true, if_false] at hN
  have hno' : pickN n 256 < 1 ∨ 7 < pickN n 256 := by
    simp only [bankB, Bool.and_eq_false_iff, decide_eq_false_iff_not] at hno
    omega
  generalize pickN n 256 = pn at *
  obtain ⟨W1, hW1⟩ : ∃ W1, W1 = (w.alloc (.cells (⟨kind, at_, n, s, ⟨k, f, t, mi, l, p, g, a, m⟩, pid, dead, memo, legs, llen, lcap, acc, amt⟩ : Opr).cells 46)) := ⟨_, rfl⟩
  have hbW : Below w.heap.size w W1 := by rw [hW1]; exact (Below.refl w.heap.size w).alloc (Nat.le_refl _) _
  have I1 := hide (I.below hbW)
  have hc : ∀ o, W1.cell? ⟨Wb, o, none⟩ = (#[.bool false, vb, w0.vd, vl] : Array Value)[o]? := fun o => by rw [← hlg]; exact cell_at I1.out.wblk o
  have hWl : Wb < W1.heap.size := block_lt I1.out.wblk
  replace hok := hide hok
  clear I hno
  simp only [Opr.v, Opr.cells] at *
  replace hW1 := hide hW1
  go_enter Tryz.func9, Tryz.ntmps9
  go_wp2_with fail
  rw [← hW1.out]
  refine (hP.out W1).mono ?_
  rintro e w2 ⟨rfl, rfl⟩
  have hW8 : IntKind.u8.wrap (pn : Int) = (pn : Int) := by rw [IntKind.wrap_u8]; omega
  clear hP
  go_wp2_with fail
  refine (hN.out _).mono ?_
  rintro e w3 ⟨rfl, hb3⟩
  have I3 := hide (I1.out.below hb3)
  have hc3 : ∀ o, w3.cell? ⟨Wb, o, none⟩ = (#[.bool false, vb, w0.vd, vl] : Array Value)[o]? := fun o => by rw [← hlg]; exact cell_at I3.out.wblk o
  have hWl3 : Wb < w3.heap.size := block_lt I3.out.wblk
  clear hc hWl hN I1 hb3
  have fin : Hid (MadeSays w0 Wb hs ll false (.returned (.bool true)) w3) := hide ⟨rfl, own, hs, vb, vl, I3.out, hok.out, by simp⟩
  rcases hno' with h1 | h1
  · have d1 : decide ((pn : Int) < 1) = true := by simp; omega
    clear h1
    go_wp2_with fail
    refine (num_any _ _).mono ?_
    rintro e w4 ⟨rfl, rfl⟩
    go_wp2
    go_ret
    exact fin.out
  · have d1 : decide ((pn : Int) < 1) = false := by simp; omega
    have d2 : decide ((pn : Int) > 7) = true := by simp; omega
    have d2' : decide ((7 : Int) < (pn : Int)) = true := by simp; omega
    clear h1
    go_wp2_with fail
    refine (num_any _ _).mono ?_
    rintro e w4 ⟨rfl, rfl⟩
    go_wp2
    go_ret
    exact fin.out

set_option maxRecDepth 100000 in
set_option maxHeartbeats 2000000 in
theorem made_new (w0 : Base) (w : World) (Wb : Nat) (own : Nat → Nat) (hs : List House) (ll : List (Value × Nat)) (vb vl : Value) (I : MemInv w0 w Wb own hs ll vb vl) (hok : ∀ h, h ∈ hs → h.ok) (hlen : hs.length ≤ 1000000000000)
    (kind at_ n : Int) (hk8 : (kind == 8) = false) (hn : i64ok n) (s : List UInt8) (k f t mi l p g a : Nat) (m : List UInt8) (pid dead : Int) (memo : List UInt8) (legs : Option Addr) (llen lcap acc amt : Nat) (hno : bankB (pickN n 256) = true) :
    Calls Tryz.prog 9 #[.pointer (some ⟨Wb, 0, none⟩), (⟨kind, at_, n, s, ⟨k, f, t, mi, l, p, g, a, m⟩, pid, dead, memo, legs, llen, lcap, acc, amt⟩ : Opr).v] w (MadeSays w0 Wb hs ll true) := by
  have hP := hide (fun u => pick_any n hn 256 (by decide) (by decide) u)
  have hpl := pickN_lt n
  have hN := hide (fun u => newBank_any (pickN n 256) hpl u)
  rw [hno] at hN
  simp only [if_true] at hN
  have hno' : 1 ≤ pickN n 256 ∧ pickN n 256 ≤ 7 := by
    simp only [bankB, Bool.and_eq_true, decide_eq_true_eq] at hno
    exact hno
  generalize pickN n 256 = pn at *
  obtain ⟨W1, hW1⟩ : ∃ W1, W1 = (w.alloc (.cells (⟨kind, at_, n, s, ⟨k, f, t, mi, l, p, g, a, m⟩, pid, dead, memo, legs, llen, lcap, acc, amt⟩ : Opr).cells 46)) := ⟨_, rfl⟩
  have hbW : Below w.heap.size w W1 := by rw [hW1]; exact (Below.refl w.heap.size w).alloc (Nat.le_refl _) _
  have I1 := hide (I.below hbW)
  have hc : ∀ o, W1.cell? ⟨Wb, o, none⟩ = (#[.bool w0.lg, vb, w0.vd, vl] : Array Value)[o]? := fun o => cell_at I1.out.wblk o
  have hWl : Wb < W1.heap.size := block_lt I1.out.wblk
  replace hok := hide hok
  clear I hno
  simp only [Opr.v, Opr.cells] at *
  replace hW1 := hide hW1
  obtain ⟨i0, hi0, y0, y1, y2⟩ := info_parts ptrInfo
  go_enter Tryz.func9, Tryz.ntmps9
  go_wp2_with fail
  rw [← hW1.out]
  refine (hP.out W1).mono ?_
  rintro e w2 ⟨rfl, rfl⟩
  have hW8 : IntKind.u8.wrap (pn : Int) = (pn : Int) := by rw [IntKind.wrap_u8]; omega
  clear hP
  go_wp2_with fail
  refine (hN.out _).mono ?_
  rintro e w3 ⟨⟨B, hB, rfl, hXB⟩, hb3⟩
  have I3 := hide (I1.out.below hb3)
  have hc3 : ∀ o, w3.cell? ⟨Wb, o, none⟩ = (#[.bool w0.lg, vb, w0.vd, vl] : Array Value)[o]? := fun o => cell_at I3.out.wblk o
  have hWl3 : Wb < w3.heap.size := block_lt I3.out.wblk
  have d1 : decide ((pn : Int) < 1) = false := by simp; omega
  have d2 : decide ((pn : Int) > 7) = false := by simp; omega
  have d2' : decide ((7 : Int) < (pn : Int)) = false := by simp; omega
  have hWl2 : Wb < w2.heap.size := hWl
  have hBl : B < w3.heap.size := hXB.lt
  have hvb2 : ∀ g, vb.ownBlock = some g → g < w2.heap.size := fun g hg => I1.out.brow.lt hg
  have hWb2 : vb.ownBlock ≠ some Wb := fun e => by have h1 := I1.out.bown _ e; rw [I1.out.wown] at h1; omega
  have hbu : Below w3.heap.size w3 ((w3.alloc (.cells #[.int .u8 (pn : Int), .slice none 0 0] 78)).alloc (.cells #[.pointer (some ⟨B, 0, none⟩), .pointer (some ⟨w3.heap.size, 0, none⟩), .slice none 0 0] 80)) := ((Below.refl _ _).alloc (Nat.le_refl _) _).alloc (by simp) _
  have hu1 : ((w3.alloc (.cells #[.int .u8 (pn : Int), .slice none 0 0] 78)).alloc (.cells #[.pointer (some ⟨B, 0, none⟩), .pointer (some ⟨w3.heap.size, 0, none⟩), .slice none 0 0] 80)).heap[w3.heap.size]? = some (.cells #[.int .u8 (pn : Int), .slice none 0 0] 78 (0, 0)) := by
    rw [Below.heap_alloc _ _ _ (by simp)]
    exact heap_alloc_self _ _
  have hu2 : ((w3.alloc (.cells #[.int .u8 (pn : Int), .slice none 0 0] 78)).alloc (.cells #[.pointer (some ⟨B, 0, none⟩), .pointer (some ⟨w3.heap.size, 0, none⟩), .slice none 0 0] 80)).heap[w3.heap.size + 1]? = some (.cells #[.pointer (some ⟨B, 0, none⟩), .pointer (some ⟨w3.heap.size, 0, none⟩), .slice none 0 0] 80 (0, 0)) := by
    have e : w3.heap.size + 1 = (w3.alloc (.cells #[.int .u8 (pn : Int), .slice none 0 0] 78)).heap.size := by simp
    rw [e]
    exact heap_alloc_self _ _
  have hus : ((w3.alloc (.cells #[.int .u8 (pn : Int), .slice none 0 0] 78)).alloc (.cells #[.pointer (some ⟨B, 0, none⟩), .pointer (some ⟨w3.heap.size, 0, none⟩), .slice none 0 0] 80)).heap.size = w3.heap.size + 1 + 1 := by simp
  replace hbu := hide hbu
  replace hu1 := hide hu1
  replace hu2 := hide hu2
  replace hus := hide hus
  replace hXB := hide hXB
  replace hb3 := hide hb3
  clear hc hN
  go_wp2_with (first | (at_builtin; refine stopAt ?_))
  refine hide ?_
  refine wpList_moreH ptrCell_length _ (by rfl) _ _ 26 (by rfl) 50 i0 _ 8 Tryz.underlying26 hi0 y0 y1 y2 rfl (by decide) vb hs (by rfl) (I3.out.brow.below hbu.out) 1 [(⟨w3.heap.size + 1, B, w3.heap.size, pn, [], [], [], .slice none 0 0, .slice none 0 0, .slice none 0 0, [], .slice none 0 0⟩ : House)] (by simp) 1 _ (by rfl) (by rfl) (by first | rfl | simp) (fun y hy => ptr_one y) (by unfold maxLen; simp only [List.length_singleton]; omega) (by simp only [List.length_singleton]; omega) ?_ _ (by rfl)
  intro g5 c5 u5 ro5 _ kp5 at5 lt5
  generalize hU : World.alloc (World.alloc w3 _) _ = U at *
  have kU : Kept (fun k => vb.ownBlock = some k) w2 u5 := ((Kept.of_below hb3.out).trans (Kept.of_below (S := fun _ => False) hbu.out) (fun i h => h.elim)).trans kp5 (fun i h => .inl h)
  have hb5 : u5.heap[Wb]? = some (.cells #[.bool w0.lg, vb, w0.vd, vl] 30 (0, 0)) := by rw [kU.block Wb hWl2 hWb2]; exact I1.out.wblk
  have hc5 := fun o => cell_at hb5 o
  have hf5 := fun o => frozen_at hb5 o
  have hWl5 := block_lt hb5
  have g5W : g5 ≠ Wb := by
    rcases at5 with h | h
    · intro e; subst e; exact hWb2 h
    · have h1 := hus.out; have h2 := hb3.out.size; omega
  have one : ∀ g', (Value.slice (some ⟨g5, 0, none⟩) (hs.length + 1) c5).ownBlock = some g' → g' = g5 := fun g' h' => by simpa [Value.ownBlock] using h'.symm
  have far : ∀ k, w2.heap.size ≤ k → vb.ownBlock ≠ some k := fun k hk e => by have := hvb2 k e; omega
  have nW : ∀ k, w2.heap.size ≤ k → k ≠ Wb := fun k hk e => by omega
  have h23 := hb3.out.size
  have hsz := hus.out
  have keepB : ∀ (v : Value) k o, w2.heap.size ≤ k → U.heap[k]? = some o → (u5.setCell ⟨Wb, 1, none⟩ v).heap[k]? = some o := fun v k o hk ho => by
    rw [(Kept.of_setCell u5 ⟨Wb, 1, none⟩ v).block k (Nat.lt_of_lt_of_le (block_lt ho) kp5.size) (nW k hk), kp5.block k (block_lt ho) (far k hk)]
    exact ho
  have fin := I1.out.more (w' := u5.setCell ⟨Wb, 1, none⟩ (.slice (some ⟨g5, 0, none⟩) (hs.length + 1) c5)) ⟨w3.heap.size + 1, B, w3.heap.size, pn, [], [], [], .slice none 0 0, .slice none 0 0, .slice none 0 0, [], .slice none 0 0⟩ (.slice (some ⟨g5, 0, none⟩) (hs.length + 1) c5)
    ((kU.mono (fun i _ h => .inr h)).trans (Kept.of_setCell _ _ _) (fun i h => .inl (.inl h))) (heap_set_self hb5 1 _) (ro5.kept (Kept.of_setCell _ _ _) (fun g' h' => by rw [one g' h']; exact g5W))
    (fun g' h' => by
      rw [one g' h']
      rcases at5 with h | h
      · exact .inl h
      · exact .inr (by omega))
    (by show w2.heap.size ≤ w3.heap.size + 1; omega) hB (by show w2.heap.size ≤ w3.heap.size; omega) (by show w3.heap.size + 1 ≠ B; omega) (by show w3.heap.size + 1 ≠ w3.heap.size; omega) (by show B ≠ w3.heap.size; omega)
    (by
      have hg : g5 < w2.heap.size ∨ w3.heap.size + 1 + 1 ≤ g5 := by
        rcases at5 with h | h
        · exact .inl (hvb2 _ h)
        · exact .inr (by omega)
      refine ⟨fun e => ?_, fun e => ?_, fun e => ?_⟩
      · have : w3.heap.size + 1 = g5 := one _ e
        omega
      · have : B = g5 := one _ e
        omega
      · have : w3.heap.size = g5 := one _ e
        omega)
    (keepB _ (w3.heap.size + 1) _ (by omega) hu2.out) ⟨keepB _ _ _ hB (by rw [hbu.out.block B hBl]; exact hXB.out.blk), RowOf.nil _ _, RowOf.nil _ _⟩ ⟨keepB _ w3.heap.size _ (by omega) hu1.out, RowOf.nil _ _⟩ ⟨rfl, rfl, rfl, rfl, rfl, rfl, rfl, rfl⟩
  obtain ⟨own', I9⟩ := fin
  have fin2 : Hid (MadeSays w0 Wb hs ll true (.returned (.bool true)) (u5.setCell ⟨Wb, 1, none⟩ (.slice (some ⟨g5, 0, none⟩) (hs.length + 1) c5))) := hide ⟨rfl, own', _, _, vl, I9, fun h hh => by
    rcases List.mem_append.1 hh with hh | hh
    · exact hok.out h hh
    · rw [List.mem_singleton] at hh
      subst hh
      exact ⟨Rel.zero, hno'.1, hno'.2, rfl⟩, by simp⟩
  clear I9 keepB far nW one kU kp5 at5 lt5 ro5 hb5 I1 I3 hXB hb3 hbu hu1 hu2 hus hsz
  go_wp2_with fail
  refine (num_any _ _).mono ?_
  rintro e w9 ⟨rfl, rfl⟩
  go_wp2
  go_ret
  exact fin2.out
end Go.Proofs.YtjkhbjgfoopomaaGreat
