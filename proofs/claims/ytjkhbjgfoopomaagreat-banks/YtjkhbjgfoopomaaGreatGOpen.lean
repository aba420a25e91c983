import Derived.Test.YtjkhbjgfoopomaaGreatGInv
/-
  A step of the statement Banks: Open.
-/
namespace Go.Proofs.YtjkhbjgfoopomaaGreat
open Go.RowKit
set_option linter.unusedVariables false
set_option linter.unusedSimpArgs false

set_option maxRecDepth 100000 in
set_option maxHeartbeats 2000000 in
theorem bank_open (w0 : Base) (w : World) (Wb : Nat) (own : Nat → Nat) (hs : List House) (ll : List (Value × Nat)) (vb vl : Value) (i : Nat) (hi : i < hs.length) (hb xb rb node : Nat) (evs : List Ev) (ac : List Ac) (ls : List Lg) (va vll v : Value) (lgs : List (List UInt8 × Nat)) (vg : Value)
    (I : MemInv w0 w Wb own (hs.set i ⟨hb, xb, rb, node, evs, ac, ls, va, vll, v, lgs, vg⟩) ll vb vl) (hok : ∀ h, h ∈ hs → h.ok) (hR : Rel evs ac ls) (hn1 : 1 ≤ node) (hn7 : node ≤ 7) (hlg : lgs = logOf evs)
    (at_ n : Int) (s : List UInt8) (k f t mi l p g a : Nat) (m : List UInt8) (pid dead : Int) (memo : List UInt8) (legs : Option Addr) (llen lcap acc amt : Nat) (hacc : acc < 65536) (hamt : amt < 4294967296) :
    Calls Tryz.prog 10 #[.pointer (some ⟨Wb, 0, none⟩), .pointer (some ⟨hb, 0, none⟩), (⟨2, at_, n, s, ⟨k, f, t, mi, l, p, g, a, m⟩, pid, dead, memo, legs, llen, lcap, acc, amt⟩ : Opr).v] w (BankSays w0 Wb hs ll vb i hb) := by
  have H := MemInv.at hi I
  have F0 := foot_lt H
  have hc : ∀ o, w.cell? ⟨hb, o, none⟩ = (#[.pointer (some ⟨xb, 0, none⟩), .pointer (some ⟨rb, 0, none⟩), vg] : Array Value)[o]? := fun o => cell_at H.blk o
  have hl1 : hb < w.heap.size := block_lt H.blk
  have hl2 : rb < w.heap.size := H.r.lt
  have hRl : ∀ k, v.ownBlock = some k → k < w.heap.size := fun k hk => F0.2 k (.inr hk)
  have hnx : ¬ xfoot xb va vll hb := fun hx => by have h1 := H.xown _ hx; have h2 : own hb = _ := H.hown; omega
  have hnw : ¬ xfoot xb va vll w.heap.size := fun hx => by have := F0.1 _ hx; omega
  have hnr : ¬ (hb = rb ∨ v.ownBlock = some hb) := fun hx => by have h1 := H.rown _ hx; have h2 : own hb = _ := H.hown; omega
  have hnw2 : ¬ (w.heap.size = rb ∨ v.ownBlock = some w.heap.size) := fun hx => by
    rcases hx with hx | hx
    · omega
    · have := hRl _ hx; omega
  obtain ⟨rad, rcap, hv, _⟩ := H.r.form
  have hcr : ∀ o, w.cell? ⟨rb, o, none⟩ = (#[.int .u8 (node : Int), .slice rad evs.length rcap] : Array Value)[o]? := fun o => by rw [← (show v = _ from hv)]; exact cell_at H.r.blk o
  have hRs := hR.short
  obtain ⟨W1, hW1⟩ : ∃ W1, W1 = (w.alloc (.cells (⟨2, at_, n, s, ⟨k, f, t, mi, l, p, g, a, m⟩, pid, dead, memo, legs, llen, lcap, acc, amt⟩ : Opr).cells 46)).drew := ⟨_, rfl⟩
  have hbW : Below w.heap.size w W1 := by rw [hW1]; exact ((Below.refl w.heap.size w).alloc (Nat.le_refl _) _).drew
  have hlW : w.heap.size < W1.heap.size := by rw [hW1]; simp
  have I1 := I.below hbW
  have H1 := MemInv.at hi I1
  have hX := hide (eOpen_any acc amt hacc hamt W1 xb node ac ls va vll H1.x H1.xap hR.aok (by have := hR.alen; omega))
  have e0 : W1.cell? ⟨hb, 0, none⟩ = some (.pointer (some ⟨xb, 0, none⟩)) := cell_at H1.blk 0
  have e1 : W1.cell? ⟨w.heap.size, 17, none⟩ = some (.int .u16 (acc : Int)) := by rw [hW1]; simp [Opr.cells]
  have e2 : W1.cell? ⟨w.heap.size, 18, none⟩ = some (.int .u32 (amt : Int)) := by rw [hW1]; simp [Opr.cells]
  have hlb : hb < W1.heap.size := by omega
  have hEr := hide (hR.openE acc)
  have hOp := hide (hR.opens acc amt hacc hamt)
  replace I1 := hide I1
  replace hok := hide hok
  replace hlg := hide hlg
  clear H H1 F0 I hv
  simp only [Opr.v, Opr.cells] at *
  replace hW1 := hide hW1
  go_enter Tryz.func10, Tryz.ntmps10
  go_wp2_with fail
  go_region_held3 (fun u => u.cell? ⟨hb, 0, none⟩ = some (.pointer (some ⟨xb, 0, none⟩)) ∧ u.cell? ⟨w.heap.size, 17, none⟩ = some (.int .u16 (acc : Int)) ∧ u.cell? ⟨w.heap.size, 18, none⟩ = some (.int .u32 (amt : Int)))
    (first
      | (rw [← hW1.out]; exact ⟨e0, e1, e2⟩)
      | (with_reducible exact three_kept hT.kept ⟨hlb, hnx⟩ ⟨hlW, hnw⟩ ⟨hlW, hnw⟩ ⟨e0, e1, e2⟩))
    (first
      | (go_at_call 20; rw [← hW1.out]; refine hX.out.mono ?_; rintro e w2 ⟨va', rfl, hT⟩))
  have I2 := (I1.out.xstepS hi (.slice none 0 0) _ _ _ _ hT (fun g hg => by simp [Value.ownBlock] at hg)).below ((Below.refl w2.heap.size w2).drew)
  have H2 := MemInv.at hi I2
  have q0 : w2.drew.cell? ⟨hb, 1, none⟩ = some (.pointer (some ⟨rb, 0, none⟩)) := cell_at H2.blk 1
  have q1 : w2.drew.cell? ⟨w.heap.size, 17, none⟩ = some (.int .u16 (acc : Int)) := (hT.kept.cell (p := ⟨w.heap.size, 17, none⟩) hlW hnw).trans e1
  have q2 : w2.drew.cell? ⟨w.heap.size, 18, none⟩ = some (.int .u32 (amt : Int)) := (hT.kept.cell (p := ⟨w.heap.size, 18, none⟩) hlW hnw).trans e2
  have hlb2 : hb < w2.drew.heap.size := block_lt H2.blk
  have hlw2 : w.heap.size < w2.drew.heap.size := Nat.lt_of_lt_of_le hlW hT.kept.size
  have hX2 := refOpen_any acc amt hacc hamt w2.drew rb node evs v H2.r H2.rap hR.eok (by omega)
  rw [hR.openE acc] at hX2
  replace hX2 := hide hX2
  replace I2 := hide I2
  clear hX hc hcr e0 e1 e2 H2 hT hnx hnw I1 hW1 hbW
  go_wp2_with fail
  go_region_held3 (fun u => u.cell? ⟨hb, 1, none⟩ = some (.pointer (some ⟨rb, 0, none⟩)) ∧ u.cell? ⟨w.heap.size, 17, none⟩ = some (.int .u16 (acc : Int)) ∧ u.cell? ⟨w.heap.size, 18, none⟩ = some (.int .u32 (amt : Int)))
    (first
      | (with_reducible exact ⟨q0, q1, q2⟩)
      | (with_reducible exact three_kept hT.kept ⟨hlb2, hnr⟩ ⟨hlw2, hnw2⟩ ⟨hlw2, hnw2⟩ ⟨q0, q1, q2⟩))
    (first
      | (go_at_call 21; refine hX2.out.mono ?_; rintro e w3 ⟨rfl, v', hT⟩))
  have I3 := hide (I2.out.rstepS hi _ v' hT)
  clear hX2 q0 q1 q2 hT hnw2
  have H3 := MemInv.at hi I3.out
  have hc : ∀ o, w3.cell? ⟨hb, o, none⟩ = (#[.pointer (some ⟨xb, 0, none⟩), .pointer (some ⟨rb, 0, none⟩), vg] : Array Value)[o]? := fun o => cell_at H3.blk o
  have hf : ∀ o, w3.frozen? ⟨hb, o, none⟩ = false := fun o => frozen_at H3.blk o
  have hlb3 : hb < w3.heap.size := block_lt H3.blk
  obtain ⟨rad3, rcap3, hv3, _⟩ := H3.r.form
  have hcr3 : ∀ o, w3.cell? ⟨rb, o, none⟩ = (#[.int .u8 (node : Int), .slice rad3 (openEvs acc amt evs).length rcap3] : Array Value)[o]? := fun o => by rw [← (show v' = _ from hv3)]; exact cell_at H3.r.blk o
  have hbr : hb ≠ rb := fun e => hnr (.inl e)
  have hlr3 : rb < w3.heap.size := H3.r.lt
  have hg3 : ∀ k, vg.ownBlock = some k → k ≠ rb := fun k hk e => by have h1 := H3.gown k hk; have h2 := H3.rown rb (.inl rfl); rw [e] at h1; omega
  have hHd := hide (heard_any lgs vg (openLog acc amt ac) evs.length w3 H3.grow (by rw [hlg.out, logOf_length]; omega))
  have hlw : heardOf lgs (openLog acc amt ac) evs.length = logOf (openEvs acc amt evs) ∧ (w0.lg = true → (openEvs acc amt evs).length = evs.length ∨ openLog acc amt ac ≠ []) ∧ (openX acc ac = 0 ∨ ((0 : Nat) = 0 ∧ openLog acc amt ac = [])) := by
    have hE := hR.openE acc
    unfold openEvs openLog heardOf
    rw [hE]
    by_cases h0 : openX acc ac = 0
    · have hne : openTextOf acc amt ≠ [] := by simp [openTextOf]
      rw [if_pos h0, if_pos h0, if_neg hne, logOf_snoc, hlg.out]
      exact ⟨rfl, fun _ => .inr hne, .inl h0⟩
    · rw [if_neg h0, if_neg h0, if_pos rfl]
      exact ⟨hlg.out, fun _ => .inl rfl, .inr ⟨rfl, rfl⟩⟩
  replace hlw := hide hlw
  clear H3 hv3 hnr
  go_wp2_with fail
  refine (hHd.out).mono ?_
  rintro e w4 ⟨vg', rfl, hr4, hk4, ho4⟩
  obtain ⟨gad, gcap, hvg⟩ := hr4.slice
  subst hvg
  obtain ⟨hb4, I4⟩ := I3.out.log hi _ _ hk4 hr4 ho4
  have hc4 : ∀ o, w4.cell? ⟨hb, o, none⟩ = (#[.pointer (some ⟨xb, 0, none⟩), .pointer (some ⟨rb, 0, none⟩), vg] : Array Value)[o]? := fun o => cell_at hb4 o
  have hf4 : ∀ o, w4.frozen? ⟨hb, o, none⟩ = false := fun o => frozen_at hb4 o
  have hlb4 : hb < w4.heap.size := block_lt hb4
  have hcr4 : ∀ o, w4.cell? ⟨rb, o, none⟩ = (#[.int .u8 (node : Int), .slice rad3 (openEvs acc amt evs).length rcap3] : Array Value)[o]? := fun o => (hk4.cell (p := ⟨rb, o, none⟩) hlr3 (fun h => hg3 _ h rfl)).trans (hcr3 o)
  have hlr4 : rb < w4.heap.size := Nat.lt_of_lt_of_le hlr3 hk4.size
  have hbl4 := hide (I4.wblk)
  replace I4 := hide I4
  clear hHd hr4 hk4 ho4 hb4 I3 hc hf hcr3 hg3
  go_wp2_with fail
  refine (logged_any (openLog acc amt ac) evs.length (openEvs acc amt evs).length _ Wb w0.lg _ _ _ hbl4.out hlw.out.2.1).mono ?_
  rintro e w5 ⟨rfl, hb5⟩
  have I5 := hide (I4.out.below hb5)
  clear I4 hb5 hbl4 hc4 hf4 hcr4
  go_wp2_with fail
  refine (num_any _ _).mono ?_
  rintro e w6 ⟨rfl, rfl⟩
  go_wp2_with fail
  refine (bare_any none 0 0 (openX acc ac) (openLog acc amt ac) _ (hlw.out.2.2.imp id (fun h => ⟨rfl, h.2⟩))).mono ?_
  rintro e w7 ⟨rfl, rfl⟩
  go_wp2
  go_ret
  exact ⟨rfl, goes_of I5.out hok.out ⟨hOp.out, hn1, hn7, hlw.out.1⟩ (Nat.le_add_right _ _)⟩
end Go.Proofs.YtjkhbjgfoopomaaGreat
/-
  A step of the statement Banks: Tick.
-/
namespace Go.Proofs.YtjkhbjgfoopomaaGreat
open Go.RowKit
set_option linter.unusedVariables false
set_option linter.unusedSimpArgs false

set_option maxRecDepth 100000 in
set_option maxHeartbeats 2000000 in
theorem bank_tick (w0 : Base) (w : World) (Wb : Nat) (own : Nat → Nat) (hs : List House) (ll : List (Value × Nat)) (vb vl : Value) (i : Nat) (hi : i < hs.length) (hb xb rb node : Nat) (evs : List Ev) (ac : List Ac) (ls : List Lg) (va vll v : Value) (lgs : List (List UInt8 × Nat)) (vg : Value)
    (I : MemInv w0 w Wb own (hs.set i ⟨hb, xb, rb, node, evs, ac, ls, va, vll, v, lgs, vg⟩) ll vb vl) (hok : ∀ h, h ∈ hs → h.ok) (hR : Rel evs ac ls) (hn1 : 1 ≤ node) (hn7 : node ≤ 7) (hlg : lgs = logOf evs)
    (at_ n : Int) (s : List UInt8) (k f t mi l p g a : Nat) (m : List UInt8) (pid dead : Int) (memo : List UInt8) (legs : Option Addr) (llen lcap acc amt : Nat) (hlen : ll.length ≤ 3999999999000) :
    Calls Tryz.prog 10 #[.pointer (some ⟨Wb, 0, none⟩), .pointer (some ⟨hb, 0, none⟩), (⟨6, at_, n, s, ⟨k, f, t, mi, l, p, g, a, m⟩, pid, dead, memo, legs, llen, lcap, acc, amt⟩ : Opr).v] w (BankSays w0 Wb hs ll vb i hb) := by
  have H := MemInv.at hi I
  have F0 := foot_lt H
  have hc : ∀ o, w.cell? ⟨hb, o, none⟩ = (#[.pointer (some ⟨xb, 0, none⟩), .pointer (some ⟨rb, 0, none⟩), vg] : Array Value)[o]? := fun o => cell_at H.blk o
  have hl1 : hb < w.heap.size := block_lt H.blk
  have hl2 : rb < w.heap.size := H.r.lt
  have hRl : ∀ k, v.ownBlock = some k → k < w.heap.size := fun k hk => F0.2 k (.inr hk)
  have hnx : ¬ xfoot xb va vll hb := fun hx => by have h1 := H.xown _ hx; have h2 : own hb = _ := H.hown; omega
  have hnw : ¬ xfoot xb va vll w.heap.size := fun hx => by have := F0.1 _ hx; omega
  have hnr : ¬ (hb = rb ∨ v.ownBlock = some hb) := fun hx => by have h1 := H.rown _ hx; have h2 : own hb = _ := H.hown; omega
  have hnw2 : ¬ (w.heap.size = rb ∨ v.ownBlock = some w.heap.size) := fun hx => by
    rcases hx with hx | hx
    · omega
    · have := hRl _ hx; omega
  obtain ⟨rad, rcap, hv, _⟩ := H.r.form
  have hcr : ∀ o, w.cell? ⟨rb, o, none⟩ = (#[.int .u8 (node : Int), .slice rad evs.length rcap] : Array Value)[o]? := fun o => by rw [← (show v = _ from hv)]; exact cell_at H.r.blk o
  have hRs := hR.short
  obtain ⟨W1, hW1⟩ : ∃ W1, W1 = (w.alloc (.cells (⟨6, at_, n, s, ⟨k, f, t, mi, l, p, g, a, m⟩, pid, dead, memo, legs, llen, lcap, acc, amt⟩ : Opr).cells 46)) := ⟨_, rfl⟩
  have hbW : Below w.heap.size w W1 := by rw [hW1]; exact (Below.refl w.heap.size w).alloc (Nat.le_refl _) _
  have hlW : w.heap.size < W1.heap.size := by rw [hW1]; simp
  have I1 := I.below hbW
  have H1 := MemInv.at hi I1
  have e0 : W1.cell? ⟨hb, 0, none⟩ = some (.pointer (some ⟨xb, 0, none⟩)) := cell_at H1.blk 0
  have hlb : hb < W1.heap.size := by omega
  have hX := hide (eTick_any W1 xb node ⟨hn1, hn7⟩ ac ls va vll H1.x hR.lok' (fun x hx => (hR.lok x hx).2) (by have := hR.llen; omega))
  replace I1 := hide I1
  replace hok := hide hok
  clear H H1 F0 I hv
  simp only [Opr.v, Opr.cells] at *
  replace hW1 := hide hW1
  go_enter Tryz.func10, Tryz.ntmps10
  go_wp2_with fail
  rw [← hW1.out]
  refine (hX.out).mono ?_
  rintro e w2 ⟨⟨lv, rfl, hlv⟩, hb2⟩
  have I2 := I1.out.below4 hb2
  have hlo2 : ∀ g, lv.ownBlock = some g → (fun k => if k < W1.heap.size then own k else 4) g = 4 := fun g hg => by have := hlv.2 g hg; simp only [if_neg (Nat.not_lt.2 this)]
  have hap := hide (I1.out.apartL hlv.2)
  have H2 := MemInv.at hi I2
  have hX2 := hide (refTick_any w2 rb node (by omega) evs v H2.r hR.eok (by omega) (heldK ls) hR.helds (by have h1 := heldK_length ls; have h2 := hR.llen; omega))
  rw [tick_same] at hX2
  have htl : (tickL node ls).length ≤ 128 := Nat.le_trans (tickL_length _ _) hR.llen
  have hc2 : ∀ o, w2.cell? ⟨hb, o, none⟩ = (#[.pointer (some ⟨xb, 0, none⟩), .pointer (some ⟨rb, 0, none⟩), vg] : Array Value)[o]? := fun o => cell_at H2.blk o
  replace I2 := hide I2
  replace hlv := hide hlv
  replace hlo2 := hide hlo2
  clear hX hc hcr e0 H2 hb2 I1
  go_wp2_with fail
  refine (hX2.out).mono ?_
  rintro e w3 ⟨⟨mv, rfl, hmv, _⟩, hb3⟩
  have I3 := hide (I2.out.below hb3)
  have hlv3 : RowOf w3 9 1 txtCell lv (tickL node ls) := hlv.out.1.below hb3
  have hS := hide (sameList_any (tickL node ls) lv mv (by omega) w3 hlv3 hmv)
  replace hlv3 := hide hlv3
  clear hX2 hc2 hmv hb3 I2
  go_wp2_with fail
  refine (hS.out).mono ?_
  rintro e w4 ⟨rfl, hb4⟩
  have I4 := I3.out.below hb4
  have hlv4 := hlv3.out.below hb4
  have sp := I4.sep hlo2.out
  have hK := hide (keep4_any w4 Wb w0.lg vb w0.vd vl ll I4.wblk I4.lrow hlen lv (tickL node ls) (by omega) hlv4 sp.1 sp.2.1 sp.2.2)
  have hG := hide (fun w5 (hB : Booked w4 w5 Wb w0.lg vb w0.vd vl ll lv (tickL node ls).length) => I4.keeps lv (tickL node ls) (by omega) hlv4 hlo2.out hap.out hB)
  clear hS I3 hlv3 I4 hlv4 sp hb4
  go_wp2_with fail
  refine (hK.out).mono ?_
  rintro e w5 ⟨rfl, hB⟩
  obtain ⟨own5, ll5, vl5, I5, h5⟩ := hG.out w5 hB
  replace I5 := hide I5
  clear hK hG hB
  go_wp2
  go_ret
  exact ⟨rfl, goes_of I5.out hok.out ⟨hR, hn1, hn7, hlg⟩ (by omega)⟩
end Go.Proofs.YtjkhbjgfoopomaaGreat
/-
  A step of the statement Banks: Handle.
-/
namespace Go.Proofs.YtjkhbjgfoopomaaGreat
open Go.RowKit
set_option linter.unusedVariables false
set_option linter.unusedSimpArgs false

theorem frameOf_ne (x : Msg) : frameOf x ≠ [] := fun h => by
  have := congrArg List.length h
  simp [frameOf, bodyOf_length, be_length] at this
theorem new_one (x : Msg) (T : Nat × Msg × Bool) (n : Nat) (c : Bool) : hNewT x T n c = [] ∨ ∃ e, hNewT x T n c = [e] ∧ e.kind ≠ 0 ∧ e.msg = x := by
  unfold hNewT
  split
  · exact .inl rfl
  · split
    · exact .inr ⟨_, rfl, by simp, rfl⟩
    · split
      · exact .inr ⟨_, rfl, by simp, rfl⟩
      · split
        · exact .inr ⟨_, rfl, by simp, rfl⟩
        · exact .inl rfl
theorem rEvs_one (node : Nat) (l : List UInt8) (evs : List Ev) : rEvs node l evs = evs ∨ ∃ e, rEvs node l evs = evs ++ [e] ∧ e.kind ≠ 0 ∧ e.msg = decMsg l := by
  unfold rEvs
  split
  · unfold hEvsOf
    rcases new_one (decMsg l) (legOf (decMsg l).i (decMsg l).l evs) (keysOf evs).length (canB (decMsg l) evs) with h | ⟨e, h, h1, h2⟩
    · left; rw [h, List.append_nil]
    · exact .inr ⟨e, by rw [h], h1, h2⟩
  · exact .inl rfl
/-- the log behind Handle -/
theorem rLog_log (node : Nat) (l : List UInt8) (evs : List Ev) (lgs : List (List UInt8 × Nat)) (hlg : lgs = logOf evs) (b : Bool) : heardOf lgs (rLog node l evs) evs.length = logOf (rEvs node l evs) ∧ (b = true → (rEvs node l evs).length = evs.length ∨ rLog node l evs ≠ []) := by
  rcases rEvs_one node l evs with h | ⟨e, h, h1, h2⟩
  · have : rLog node l evs = [] := by unfold rLog; rw [h, if_pos rfl]
    rw [this, h]
    exact ⟨by simpa [heardOf] using hlg, fun _ => .inl rfl⟩
  · have : rLog node l evs = frameOf (decMsg l) := by unfold rLog; rw [h, if_neg (by simp)]
    rw [this, h, logOf_snoc]
    refine ⟨?_, fun _ => .inr (frameOf_ne _)⟩
    unfold heardOf textOf
    rw [if_neg (frameOf_ne _), if_neg h1, h2, hlg]
theorem rLog_bare (node : Nat) (l : List UInt8) (evs : List Ev) (h : rErr node l evs ≠ 0) : rLog node l evs = [] := by
  unfold rLog rEvs
  rw [if_neg h, if_pos rfl]
theorem frame_len (o : Opr) (ho : o.ok) : o.frame.length ≤ 140737488351232 := by
  unfold Opr.frame
  split
  · unfold encOf
    split
    · rename_i h
      have := fault_zero_memo h
      simp [frameOf, bodyOf_length, be_length]
      omega
    · simp
  · exact ho.2.2.2.1
set_option maxRecDepth 100000 in
set_option maxHeartbeats 2000000 in
theorem bank_handle (w0 : Base) (w : World) (Wb : Nat) (own : Nat → Nat) (hs : List House) (ll : List (Value × Nat)) (vb vl : Value) (i : Nat) (hi : i < hs.length) (hb xb rb node : Nat) (evs : List Ev) (ac : List Ac) (ls : List Lg) (va vll v : Value) (lgs : List (List UInt8 × Nat)) (vg : Value)
    (I : MemInv w0 w Wb own (hs.set i ⟨hb, xb, rb, node, evs, ac, ls, va, vll, v, lgs, vg⟩) ll vb vl) (hok : ∀ h, h ∈ hs → h.ok) (hR : Rel evs ac ls) (hn1 : 1 ≤ node) (hn7 : node ≤ 7) (hlg : lgs = logOf evs)
    (at_ n : Int) (s : List UInt8) (k f t mi l p g a : Nat) (m : List UInt8) (pid dead : Int) (memo : List UInt8) (legs : Option Addr) (llen lcap acc amt : Nat) (ho : (⟨5, at_, n, s, ⟨k, f, t, mi, l, p, g, a, m⟩, pid, dead, memo, legs, llen, lcap, acc, amt⟩ : Opr).ok) (hlen : ll.length ≤ 3999999999000) :
    Calls Tryz.prog 10 #[.pointer (some ⟨Wb, 0, none⟩), .pointer (some ⟨hb, 0, none⟩), (⟨5, at_, n, s, ⟨k, f, t, mi, l, p, g, a, m⟩, pid, dead, memo, legs, llen, lcap, acc, amt⟩ : Opr).v] w (BankSays w0 Wb hs ll vb i hb) := by
  have H := MemInv.at hi I
  have F0 := foot_lt H
  have hc : ∀ o, w.cell? ⟨hb, o, none⟩ = (#[.pointer (some ⟨xb, 0, none⟩), .pointer (some ⟨rb, 0, none⟩), vg] : Array Value)[o]? := fun o => cell_at H.blk o
  have hl1 : hb < w.heap.size := block_lt H.blk
  have hl2 : rb < w.heap.size := H.r.lt
  have hRl : ∀ k, v.ownBlock = some k → k < w.heap.size := fun k hk => F0.2 k (.inr hk)
  have hnx : ¬ xfoot xb va vll hb := fun hx => by have h1 := H.xown _ hx; have h2 : own hb = _ := H.hown; omega
  have hnw : ¬ xfoot xb va vll w.heap.size := fun hx => by have := F0.1 _ hx; omega
  have hnr : ¬ (hb = rb ∨ v.ownBlock = some hb) := fun hx => by have h1 := H.rown _ hx; have h2 : own hb = _ := H.hown; omega
  have hnw2 : ¬ (w.heap.size = rb ∨ v.ownBlock = some w.heap.size) := fun hx => by
    rcases hx with hx | hx
    · omega
    · have := hRl _ hx; omega
  obtain ⟨rad, rcap, hv, _⟩ := H.r.form
  have hcr : ∀ o, w.cell? ⟨rb, o, none⟩ = (#[.int .u8 (node : Int), .slice rad evs.length rcap] : Array Value)[o]? := fun o => by rw [← (show v = _ from hv)]; exact cell_at H.r.blk o
  have hRs := hR.short
  obtain ⟨W1, hW1⟩ : ∃ W1, W1 = (w.alloc (.cells (⟨5, at_, n, s, ⟨k, f, t, mi, l, p, g, a, m⟩, pid, dead, memo, legs, llen, lcap, acc, amt⟩ : Opr).cells 46)) := ⟨_, rfl⟩
  have hbW : Below w.heap.size w W1 := by rw [hW1]; exact (Below.refl w.heap.size w).alloc (Nat.le_refl _) _
  have hlW : w.heap.size < W1.heap.size := by rw [hW1]; simp
  have I1 := I.below hbW
  have H1 := MemInv.at hi I1
  have e0 : W1.cell? ⟨hb, 0, none⟩ = some (.pointer (some ⟨xb, 0, none⟩)) := cell_at H1.blk 0
  have hlb : hb < W1.heap.size := by omega
  have hFr := hide (fun u => frame_any (⟨5, at_, n, s, ⟨k, f, t, mi, l, p, g, a, m⟩, pid, dead, memo, legs, llen, lcap, acc, amt⟩ : Opr) ho u)
  have hFl := frame_len (⟨5, at_, n, s, ⟨k, f, t, mi, l, p, g, a, m⟩, pid, dead, memo, legs, llen, lcap, acc, amt⟩ : Opr) ho
  generalize hF : (⟨5, at_, n, s, ⟨k, f, t, mi, l, p, g, a, m⟩, pid, dead, memo, legs, llen, lcap, acc, amt⟩ : Opr).frame = F at hFr hFl
  replace hF := hide hF
  have hrg := hide (op_range (⟨5, at_, n, s, ⟨k, f, t, mi, l, p, g, a, m⟩, pid, dead, memo, legs, llen, lcap, acc, amt⟩ : Opr) w)
  replace I1 := hide I1
  replace hok := hide hok
  replace hlg := hide hlg
  clear H H1 F0 I hv
  simp only [Opr.v, Opr.cells] at *
  replace hW1 := hide hW1
  go_enter Tryz.func10, Tryz.ntmps10
  go_wp2_with (first
    | (refine wpList_load_mid (by rfl) 46 _ (by rfl) w.heap.size 0 (by rfl) [.int .i64 5, .int .i64 at_, .int .i64 n, .string (bs s), .int .u8 (k : Int), .int .u8 (f : Int), .int .u8 (t : Int), .int .u32 (mi : Int), .int .u8 (l : Int), .int .u16 (p : Int), .int .u16 (g : Int), .int .u32 (a : Int), .string (bs m), .int .u32 pid, .int .u64 dead, .string (bs memo), .slice legs llen lcap, .int .u16 (acc : Int), .int .u32 (amt : Int)] _ hrg.out Tryz.underlying46 rfl opSize ?_)
    | (go_at_call 29; refine stopAt ?_))
  refine hide ?_
  rw [← hW1.out]
  refine (hFr.out W1).mono ?_
  rintro e w2 ⟨rfl, hb2⟩
  have I2 := I1.out.below hb2
  have H2 := MemInv.at hi I2
  have hc2 : ∀ o, w2.cell? ⟨hb, o, none⟩ = (#[.pointer (some ⟨xb, 0, none⟩), .pointer (some ⟨rb, 0, none⟩), vg] : Array Value)[o]? := fun o => cell_at H2.blk o
  have hX := eHandle_any (bs F) (by rw [bs_size]; exact hFl) w2 xb node ⟨hn1, hn7⟩ evs ac ls va vll hR H2.x H2.xap
  rw [bs_data] at hX
  replace hX := hide hX
  have hrl2 : rb < w2.heap.size ∧ ∀ g, v.ownBlock = some g → g < w2.heap.size := ⟨H2.r.lt, fun g hg => H2.r.row.lt hg⟩
  replace I2 := hide I2
  clear hFr hF hrg hc hcr e0 H2 hb2 I1 ho
  go_wp2_with fail
  refine (hX.out).mono ?_
  rintro e w3 ⟨lv, ac', ls', va', vl', rfl, hR', hH⟩
  have I3 := I2.out.xstepS hi lv ac' ls' va' vl' hH.to hH.fresh
  have hlo3 : ∀ g, lv.ownBlock = some g → (fun k => if k < w2.heap.size then own k else if lv.ownBlock = some k then 4 else 7 + 8 * i) g = 4 := fun g hg => by have := (hH.fresh g hg).1; simp only [if_neg (Nat.not_lt.2 this), if_pos hg]
  have hap := hide (I2.out.apartL (lv := lv) (fun g hg => (hH.fresh g hg).1))
  have H3 := MemInv.at hi I3
  have hX2 := refHandle_any (bs F) (by rw [bs_size]; exact hFl) w3 rb node ⟨hn1, hn7⟩ evs v H3.r H3.rap hR.eok (by omega) hR.ge
  rw [bs_data] at hX2
  have hc3 : ∀ o, w3.cell? ⟨hb, o, none⟩ = (#[.pointer (some ⟨xb, 0, none⟩), .pointer (some ⟨rb, 0, none⟩), vg] : Array Value)[o]? := fun o => cell_at H3.blk o
  have hlv3 := hide hH.row
  have hlf : Hid (∀ g, lv.ownBlock = some g → w2.heap.size ≤ g) := hide (fun g hg => (hH.fresh g hg).1)
  replace hX2 := hide hX2
  replace I3 := hide I3
  replace hlo3 := hide hlo3
  replace hR' := hide hR'
  clear hX hc2 H3 hH I2
  go_wp2_with fail
  refine (hX2.out).mono ?_
  rintro e w4 ⟨v', mv, rfl, hHd⟩
  have I4 := I3.out.rstepS hi _ v' hHd.to
  have hlv4 : RowOf w4 9 1 txtCell lv (rOuts node F evs) := hlv3.out.kept hHd.to.kept (fun g hg hs => by
    have h1 := hlf.out g hg
    rcases hs with hs | hs
    · have := hrl2.1; omega
    · have := hrl2.2 g hs; omega)
  have hlo4 : ∀ g, lv.ownBlock = some g → (fun k => if k < w3.heap.size then (fun k => if k < w2.heap.size then own k else if lv.ownBlock = some k then 4 else 7 + 8 * i) k else 8 + 8 * i) g = 4 := fun g hg => by have := hlv3.out.lt hg; simp only [if_pos this]; exact hlo3.out g hg
  obtain ⟨mad, mcap, hmv⟩ := hHd.row.slice
  have hmr := hHd.row
  have hol : (rOuts node F evs).length ≤ 1 := by unfold rOuts; split <;> simp
  have hbr : rErr node F evs = 0 ∨ ((rOuts node F evs).length = 0 ∧ rLog node F evs = []) := by
    by_cases h0 : rErr node F evs = 0
    · exact .inl h0
    · right; exact ⟨by unfold rOuts; rw [if_neg h0]; rfl, rLog_bare _ _ _ h0⟩
  have hlw := hide (rLog_log node F evs lgs hlg.out w0.lg)
  have hS := hide (sameList_any (rOuts node F evs) lv mv (by omega) w4 hlv4 hmr)
  subst hmv
  have hbare := hide (fun u => bare_any mad (rOuts node F evs).length mcap (rErr node F evs) (rLog node F evs) u hbr)
  generalize hER : rErr node F evs = er at *
  generalize (rOuts node F evs).length = ol at *
  replace hlv4 := hide hlv4
  replace I4 := hide I4
  replace hlo4 := hide hlo4
  clear hX2 hc3 hlv3 hlo3 hHd hmr I3 hbr
  go_wp2_with fail
  refine (hS.out).mono ?_
  rintro e w5 ⟨rfl, hb5⟩
  have I5 := I4.out.below hb5
  have hlv5 := hlv4.out.below hb5
  have sp := I5.sep hlo4.out
  have hK := hide (keep4_any w5 Wb w0.lg vb w0.vd vl ll I5.wblk I5.lrow hlen lv (rOuts node F evs) (by have : (rOuts node F evs).length ≤ 1 := (by unfold rOuts; split <;> simp); omega) hlv5 sp.1 sp.2.1 sp.2.2)
  have hG := hide (fun w6 (hB : Booked w5 w6 Wb w0.lg vb w0.vd vl ll lv (rOuts node F evs).length) => I5.keeps lv (rOuts node F evs) (by have : (rOuts node F evs).length ≤ 1 := (by unfold rOuts; split <;> simp); omega) hlv5 hlo4.out hap.out hB)
  clear hS hlv4 I4 sp hb5 hlv5 I5
  go_wp2_with fail
  refine (hK.out).mono ?_
  rintro e w6 ⟨rfl, hB⟩
  obtain ⟨own6, ll6, vl6, I6, h6⟩ := hG.out w6 hB
  have H6 := MemInv.at hi I6
  have hc6 : ∀ o, w6.cell? ⟨hb, o, none⟩ = (#[.pointer (some ⟨xb, 0, none⟩), .pointer (some ⟨rb, 0, none⟩), vg] : Array Value)[o]? := fun o => cell_at H6.blk o
  have hf6 : ∀ o, w6.frozen? ⟨hb, o, none⟩ = false := fun o => frozen_at H6.blk o
  have hlb6 : hb < w6.heap.size := block_lt H6.blk
  obtain ⟨rad6, rcap6, hv6, _⟩ := H6.r.form
  have hcr6 : ∀ o, w6.cell? ⟨rb, o, none⟩ = (#[.int .u8 (node : Int), .slice rad6 (rEvs node F evs).length rcap6] : Array Value)[o]? := fun o => by rw [← (show v' = _ from hv6)]; exact cell_at H6.r.blk o
  have hbrn : hb ≠ rb := fun e => hnr (.inl e)
  have hlr6 : rb < w6.heap.size := H6.r.lt
  have hg6 : ∀ k, vg.ownBlock = some k → k ≠ rb := fun k hk e => by have h1 := H6.gown k hk; have h2 := H6.rown rb (.inl rfl); rw [e] at h1; omega
  have hHe := hide (heard_any lgs vg (rLog node F evs) evs.length w6 H6.grow (by rw [hlg.out, logOf_length]; omega))
  replace I6 := hide I6
  clear hK hG hB H6 hv6 hnr
  go_wp2_with fail
  refine (hHe.out).mono ?_
  rintro e w7 ⟨vg', rfl, hr7, hk7, ho7⟩
  obtain ⟨gad, gcap, hvg⟩ := hr7.slice
  subst hvg
  obtain ⟨hb7, I7⟩ := I6.out.log hi _ _ hk7 hr7 ho7
  have hc7 : ∀ o, w7.cell? ⟨hb, o, none⟩ = (#[.pointer (some ⟨xb, 0, none⟩), .pointer (some ⟨rb, 0, none⟩), vg] : Array Value)[o]? := fun o => cell_at hb7 o
  have hf7 : ∀ o, w7.frozen? ⟨hb, o, none⟩ = false := fun o => frozen_at hb7 o
  have hlb7 : hb < w7.heap.size := block_lt hb7
  have hcr7 : ∀ o, w7.cell? ⟨rb, o, none⟩ = (#[.int .u8 (node : Int), .slice rad6 (rEvs node F evs).length rcap6] : Array Value)[o]? := fun o => (hk7.cell (p := ⟨rb, o, none⟩) hlr6 (fun h => hg6 _ h rfl)).trans (hcr6 o)
  have hlr7 : rb < w7.heap.size := Nat.lt_of_lt_of_le hlr6 hk7.size
  have hbl7 := hide (I7.wblk)
  replace I7 := hide I7
  clear hHe hr7 hk7 ho7 hb7 I6 hc6 hf6 hcr6 hg6
  go_wp2_with fail
  refine (logged_any (rLog node F evs) evs.length (rEvs node F evs).length _ Wb w0.lg _ _ _ hbl7.out hlw.out.2).mono ?_
  rintro e w8 ⟨rfl, hb8⟩
  have I8 := hide (I7.out.below hb8)
  clear I7 hb8 hbl7 hc7 hf7 hcr7
  go_wp2_with fail
  refine (num_any _ _).mono ?_
  rintro e w9 ⟨rfl, rfl⟩
  go_wp2_with fail
  refine (hbare.out _).mono ?_
  rintro e w10 ⟨rfl, rfl⟩
  go_wp2
  go_ret
  exact ⟨rfl, goes_of I8.out hok.out ⟨hR'.out, hn1, hn7, hlw.out.1⟩ (by omega)⟩
end Go.Proofs.YtjkhbjgfoopomaaGreat
