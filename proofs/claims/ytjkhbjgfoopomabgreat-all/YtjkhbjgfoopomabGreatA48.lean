import Derived.Test.YtjkhbjgfoopomabGreatA42
namespace Go.Proofs.YtjkhbjgfoopomabGreat
open Go.RowKit
set_option maxRecDepth 100000
set_option maxHeartbeats 2000000
set_option linter.unusedVariables false
set_option linter.unusedSimpArgs false
theorem tOuts_le (l : List UInt8) {acts : List Dt} {ck : Nat} {ps : List Xp} (hD : DRel acts ck ps) : (tOuts l acts).length ≤ 4 := by
 unfold tOuts
 split
 ·rename_i h0
  have hf : (findOf (decMsg l).i acts).2.1 = true := by
   unfold tErr at h0;split at h0
   ·omega
   ·split at h0
    ·omega
    ·split at h0
     ·omega
     ·rename_i h1; cases hx : (findOf (decMsg l).i acts).2.1 with
      | true => rfl
      | false => exact absurd (by rw [hx, Bool.false_and]) h1
  obtain ⟨x, hx, _, _, hp⟩ := findOf_mem hf;have h4 := (hD.pay x hx).1;rw [← hp] at h4;unfold tSay
  repeat' split
  ·simp
  ·simp
  ·exact Nat.le_trans (asksTo_le _ _ _ _) h4
  ·simp
  ·simp
 ·simp
theorem tBare (l : List UInt8) (acts : List Dt) : tErr l acts = 0 ∨ ((tOuts l acts).length = 0 ∧ tLog l acts = []) := by
 by_cases h : tErr l acts = 0
 ·exact .inl h
 ·exact .inr ⟨by unfold tOuts; rw [if_neg h]; rfl, by unfold tLog; rw [if_neg h]⟩
theorem deed_taken (w0 : DBase) (N : Nat) (hN : N ≤ 999999999999) (w : World) (Wb : Nat) (own : Nat → Nat) (hs : List Office) (ll : List (Value × Nat)) (vd vl : Value) (i : Nat) (hi : i < hs.length) (hb xb rb ck : Nat) (acts : List Dt) (ps : List Xp) (xv v : Value) (lgs : List (List UInt8 × Nat)) (vg : Value)
  (I : DInv w0 w Wb own (hs.set i ⟨hb, xb, rb, ck, acts, ps, xv, v, lgs, vg⟩) ll vd vl) (hok : ∀ h, h ∈ hs → h.ok N) (hR : DRel acts ck ps) (hlg : LgD acts lgs) (hlen : acts.length ≤ N)
  (at_ n : Int) (s : List UInt8) (k f t mi l p g a : Nat) (m : List UInt8) (pid dead : Int) (memo : List UInt8) (legs : Option Addr) (llen lcap acc amt : Nat) (ho : (⟨10, at_, n, s, ⟨k, f, t, mi, l, p, g, a, m⟩, pid, dead, memo, legs, llen, lcap, acc, amt⟩ : Opr).ok) (hll : ll.length ≤ 3999999999000) :
  Calls Tryz.prog 52 #[.pointer (some ⟨Wb, 0, none⟩), .pointer (some ⟨hb, 0, none⟩), (⟨10, at_, n, s, ⟨k, f, t, mi, l, p, g, a, m⟩, pid, dead, memo, legs, llen, lcap, acc, amt⟩ : Opr).v] w (DeedSays w0 N Wb hs ll vd i hb) := by
 have H := DInv.at hi I
 have hc : ∀ o, w.cell? ⟨hb, o, none⟩ = (#[.pointer (some ⟨xb, 0, none⟩), .pointer (some ⟨rb, 0, none⟩), vg] : Array Value)[o]? := fun o => cell_at H.blk o
 have hl1 : hb < w.heap.size := block_lt H.blk
 have hl2 : rb < w.heap.size := H.r.lt
 have hnr : ¬ hb = rb := fun hx => by have h1 := H.rown rb (.inl rfl); have h2 : own hb = _ := H.hown; rw [hx] at h2; omega
 obtain ⟨rad, rcap, hv, _⟩ := H.r.row.form Dt.cells_length
 have hcr : ∀ o, w.cell? ⟨rb, o, none⟩ = (#[.slice rad acts.length rcap] : Array Value)[o]? := fun o => by rw [← (show v = _ from hv)]; exact cell_at H.r.blk o
 obtain ⟨W1, hW1⟩ : ∃ W1, W1 = (w.alloc (.cells (⟨10, at_, n, s, ⟨k, f, t, mi, l, p, g, a, m⟩, pid, dead, memo, legs, llen, lcap, acc, amt⟩ : Opr).cells 104)) := ⟨_, rfl⟩
 have hbW : Below w.heap.size w W1 := by rw [hW1]; exact (Below.refl w.heap.size w).alloc (Nat.le_refl _) _
 have hlW : w.heap.size < W1.heap.size := by rw [hW1]; simp
 have I1 := I.below hbW
 have H1 := DInv.at hi I1
 have hlb : hb < W1.heap.size := by omega
 have hFr := hide (fun u => frame_any (⟨10, at_, n, s, ⟨k, f, t, mi, l, p, g, a, m⟩, pid, dead, memo, legs, llen, lcap, acc, amt⟩ : Opr) ho u)
 have hFl := frame_len (⟨10, at_, n, s, ⟨k, f, t, mi, l, p, g, a, m⟩, pid, dead, memo, legs, llen, lcap, acc, amt⟩ : Opr) ho
 generalize hF : (⟨10, at_, n, s, ⟨k, f, t, mi, l, p, g, a, m⟩, pid, dead, memo, legs, llen, lcap, acc, amt⟩ : Opr).frame = F at hFr hFl
 replace hF := hide hF
 have hrg := hide (op_range (⟨10, at_, n, s, ⟨k, f, t, mi, l, p, g, a, m⟩, pid, dead, memo, legs, llen, lcap, acc, amt⟩ : Opr) w)
 replace I1 := hide I1
 replace hok := hide hok
 replace hlg := hide hlg
 clear H H1 I hv
 simp only [Opr.v, Opr.cells] at *
 replace hW1 := hide hW1
 go_enter Tryz.func52, Tryz.ntmps52
 go_wp2_with (first
  | (refine wpList_load_mid (by rfl) 104 _ (by rfl) w.heap.size 0 (by rfl) [.int .i64 10, .int .i64 at_, .int .i64 n, .string (bs s), .int .u8 (k : Int), .int .u8 (f : Int), .int .u8 (t : Int), .int .u32 (mi : Int), .int .u8 (l : Int), .int .u16 (p : Int), .int .u16 (g : Int), .int .u32 (a : Int), .string (bs m), .int .u32 pid, .int .u64 dead, .string (bs memo), .slice legs llen lcap, .int .u16 (acc : Int), .int .u32 (amt : Int)] _ hrg.out Tryz.underlying104 rfl opSize ?_)
  | (go_at_call 83; refine stopAt ?_))
 refine hide ?_
 rw [← hW1.out]
 refine (hFr.out W1).mono ?_
 rintro e w2 ⟨rfl, hb2⟩
 have I2 := I1.out.below hb2
 have H2 := DInv.at hi I2
 have hc2 : ∀ o, w2.cell? ⟨hb, o, none⟩ = (#[.pointer (some ⟨xb, 0, none⟩), .pointer (some ⟨rb, 0, none⟩), vg] : Array Value)[o]? := fun o => cell_at H2.blk o
 have hX := eTake_any (bs F) (by rw [bs_size]; unfold maxLen; omega) w2 xb ck ps xv H2.x H2.xap acts hR (decErr_lt _)
 rw [bs_data] at hX
 replace hX := hide hX
 replace I2 := hide I2
 clear hFr hF hrg hc hcr H2 hb2 I1 ho
 go_wp2_with fail
 refine (hX.out).mono ?_
 rintro e w3 ⟨lv, ps', xv', rfl, hH, hR'⟩
 have I3 := I2.out.xstepS hi lv ck ps' xv' hH.to hH.fresh
 have hlo3 : ∀ g, lv.ownBlock = some g → (fun k => if k < w2.heap.size then own k else if lv.ownBlock = some k then 4 else 11 + 8 * i) g = 4 := fun g hg => by have := (hH.fresh g hg).1; simp only [if_neg (Nat.not_lt.2 this), if_pos hg]
 have hap := hide (I2.out.apartL (lv := lv) (fun g hg => (hH.fresh g hg).1))
 have H3 := DInv.at hi I3
 have hX2 := refTake_any (bs F) (by rw [bs_size]; exact hFl) w3 rb acts v H3.r H3.rap hR.ok hR.few hR.pay (by omega) (decErr_lt _)
 rw [bs_data] at hX2
 replace hX2 := hide hX2
 have hc3 : ∀ o, w3.cell? ⟨hb, o, none⟩ = (#[.pointer (some ⟨xb, 0, none⟩), .pointer (some ⟨rb, 0, none⟩), vg] : Array Value)[o]? := fun o => cell_at H3.blk o
 have hlv3 := hide hH.row
 have hlf : Hid (∀ g, lv.ownBlock = some g → ¬ (g = rb ∨ v.ownBlock = some g)) := hide (fun g hg hs => by
  have h1 := hlo3 g hg;have h2 := H3.rown g (hs.imp_right .inl);have h3 := h2.symm.trans h1
  omega)
 replace I3 := hide I3
 replace hlo3 := hide hlo3
 replace hR' := hide hR'
 clear hX H3 hH I2 hc2
 go_wp2_with fail
 refine (hX2.out).mono ?_
 rintro e w4 ⟨mv, v', rfl, hHd⟩
 have I4 := I3.out.rstepS hi _ v' hHd.to
 have hlv4 : RowOf w4 9 1 txtCell lv (tOuts F acts) := hlv3.out.kept hHd.to.kept (fun g hg hs => hlf.out g hg hs)
 have hlo4 : ∀ g, lv.ownBlock = some g → (fun k => if k < w3.heap.size then (fun k => if k < w2.heap.size then own k else if lv.ownBlock = some k then 4 else 11 + 8 * i) k else 12 + 8 * i) g = 4 := fun g hg => by have := hlv3.out.lt hg; simp only [if_pos this]; exact hlo3.out g hg
 obtain ⟨mad, mcap, hmv⟩ := hHd.row.slice
 have hmr := hHd.row
 have hol := tOuts_le F hR
 have hbr := tBare F acts
 have hlw : Hid (heardOf lgs (tLog F acts) acts.length = dlogOf (tActs F acts)) := hide (by rw [hlg.out.eq]; exact tLog_log F acts)
 have hHi : Hid (DHist (tActs F acts)) := hide (hlg.out.hist.takes F)
 have hS := hide (sameList_any (tOuts F acts) lv mv (by omega) w4 hlv4 hmr)
 subst hmv
 have hbare := hide (fun u => bare_any mad (tOuts F acts).length mcap (tErr F acts) (tLog F acts) u hbr)
 have hal := tActs_le F acts
 generalize tErr F acts = er at *
 generalize tLog F acts = tx at *
 generalize tActs F acts = acts' at *
 generalize tOuts F acts = OU at *
 replace hlv4 := hide hlv4
 replace I4 := hide I4
 replace hlo4 := hide hlo4
 clear hX2 hc3 hlv3 hlo3 hHd hmr I3 hbr hlf
 go_wp2_with fail
 refine (hS.out).mono ?_
 rintro e w5 ⟨rfl, hb5⟩
 have I5 := I4.out.below hb5
 have hlv5 := hlv4.out.below hb5
 have sp := I5.sep hlo4.out
 have hK := hide (keep4_any w5 Wb w0.lg w0.vb vd vl ll I5.wblk I5.lrow hll lv OU (by omega) hlv5 sp.1 sp.2.1 sp.2.2)
 have hG := hide (fun w6 (hB : Booked w5 w6 Wb w0.lg w0.vb vd vl ll lv OU.length) => I5.keeps lv OU (by omega) hlv5 hlo4.out hap.out hB)
 clear hS hlv4 I4 sp hb5 hlv5 I5
 go_wp2_with fail
 refine (hK.out).mono ?_
 rintro e w6 ⟨rfl, hB⟩
 obtain ⟨own6, ll6, vl6, I6, h6⟩ := hG.out w6 hB
 have H6 := DInv.at hi I6
 have hc6 : ∀ o, w6.cell? ⟨hb, o, none⟩ = (#[.pointer (some ⟨xb, 0, none⟩), .pointer (some ⟨rb, 0, none⟩), vg] : Array Value)[o]? := fun o => cell_at H6.blk o
 have hf6 : ∀ o, w6.frozen? ⟨hb, o, none⟩ = false := fun o => frozen_at H6.blk o
 have hlb6 : hb < w6.heap.size := block_lt H6.blk
 obtain ⟨rad6, rcap6, hv6, _⟩ := H6.r.row.form Dt.cells_length
 have hcr6 : ∀ o, w6.cell? ⟨rb, o, none⟩ = (#[.slice rad6 acts'.length rcap6] : Array Value)[o]? := fun o => by rw [← (show v' = _ from hv6)]; exact cell_at H6.r.blk o
 have hlr6 : rb < w6.heap.size := H6.r.lt
 have hg6 : ∀ k, vg.ownBlock = some k → k ≠ rb := fun k hk e => by have h1 := H6.gown k hk; have h2 := H6.rown rb (.inl rfl); rw [e] at h1; omega
 have hHe := hide (heard_any lgs vg tx acts.length w6 H6.grow (by rw [hlg.out.eq]; have := dlogOf_le acts; omega))
 replace I6 := hide I6
 clear hK hG hB H6 hv6
 go_wp2_with fail
 refine (hHe.out).mono ?_
 rintro e w7 ⟨vg', rfl, hr7, hk7, ho7⟩
 obtain ⟨gad, gcap, hvg⟩ := hr7.slice
 subst hvg
 obtain ⟨hb7, I7⟩ := I6.out.log hi _ _ hk7 hr7 ho7
 have hc7 : ∀ o, w7.cell? ⟨hb, o, none⟩ = (#[.pointer (some ⟨xb, 0, none⟩), .pointer (some ⟨rb, 0, none⟩), vg] : Array Value)[o]? := fun o => cell_at hb7 o
 have hf7 : ∀ o, w7.frozen? ⟨hb, o, none⟩ = false := fun o => frozen_at hb7 o
 have hlb7 : hb < w7.heap.size := block_lt hb7
 have hcr7 : ∀ o, w7.cell? ⟨rb, o, none⟩ = (#[.slice rad6 acts'.length rcap6] : Array Value)[o]? := fun o => (hk7.cell (p := ⟨rb, o, none⟩) hlr6 (fun h => hg6 _ h rfl)).trans (hcr6 o)
 have hlr7 : rb < w7.heap.size := Nat.lt_of_lt_of_le hlr6 hk7.size
 have hbl7 := hide (I7.wblk)
 replace I7 := hide I7
 clear hHe hr7 hk7 ho7 hb7 I6 hc6 hf6 hcr6 hg6
 go_wp2_with fail
 refine (num_any _ _).mono ?_
 rintro e w9 ⟨rfl, rfl⟩
 go_wp2_with fail
 refine (hbare.out _).mono ?_
 rintro e w10 ⟨rfl, rfl⟩
 go_wp2
 go_ret
 exact ⟨rfl, dgoes_of I7.out hok.out ⟨hR'.out, ⟨hlw.out, hHi.out⟩, by show acts'.length ≤ N + 1; omega⟩ (by omega)⟩
theorem kOuts_le {acts : List Dt} {ck : Nat} {ps : List Xp} (hD : DRel acts ck ps) : (kOuts ck ps).length ≤ 128 := by
 unfold kOuts
 split
 ·simp
 ·have hT := hD.tick;have h1 := saysX_le _ (fun y hy => (hT.good y hy).fine);have h2 := hT.len;omega
theorem kBare (acts : List Dt) {ck : Nat} {ps : List Xp} (hck : ck = clockOf acts) : kErr acts = 0 ∨ ((kOuts ck ps).length = 0 ∧ kLog acts = []) := by
 unfold kErr kOuts kLog
 rw [hck]
 split
 ·exact .inr ⟨by simp, rfl⟩
 ·exact .inl rfl
theorem deed_tick (w0 : DBase) (N : Nat) (hN : N ≤ 999999999999) (w : World) (Wb : Nat) (own : Nat → Nat) (hs : List Office) (ll : List (Value × Nat)) (vd vl : Value) (i : Nat) (hi : i < hs.length) (hb xb rb ck : Nat) (acts : List Dt) (ps : List Xp) (xv v : Value) (lgs : List (List UInt8 × Nat)) (vg : Value)
  (I : DInv w0 w Wb own (hs.set i ⟨hb, xb, rb, ck, acts, ps, xv, v, lgs, vg⟩) ll vd vl) (hok : ∀ h, h ∈ hs → h.ok N) (hR : DRel acts ck ps) (hlg : LgD acts lgs) (hlen : acts.length ≤ N)
  (at_ n : Int) (s : List UInt8) (k f t mi l p g a : Nat) (m : List UInt8) (pid dead : Int) (memo : List UInt8) (legs : Option Addr) (llen lcap acc amt : Nat) (hll : ll.length ≤ 3999999999000) :
  Calls Tryz.prog 52 #[.pointer (some ⟨Wb, 0, none⟩), .pointer (some ⟨hb, 0, none⟩), (⟨11, at_, n, s, ⟨k, f, t, mi, l, p, g, a, m⟩, pid, dead, memo, legs, llen, lcap, acc, amt⟩ : Opr).v] w (DeedSays w0 N Wb hs ll vd i hb) := by
 have H := DInv.at hi I
 have hc : ∀ o, w.cell? ⟨hb, o, none⟩ = (#[.pointer (some ⟨xb, 0, none⟩), .pointer (some ⟨rb, 0, none⟩), vg] : Array Value)[o]? := fun o => cell_at H.blk o
 have hl1 : hb < w.heap.size := block_lt H.blk
 have hl2 : rb < w.heap.size := H.r.lt
 have hnr : ¬ hb = rb := fun hx => by have h1 := H.rown rb (.inl rfl); have h2 : own hb = _ := H.hown; rw [hx] at h2; omega
 obtain ⟨rad, rcap, hv, _⟩ := H.r.row.form Dt.cells_length
 have hcr : ∀ o, w.cell? ⟨rb, o, none⟩ = (#[.slice rad acts.length rcap] : Array Value)[o]? := fun o => by rw [← (show v = _ from hv)]; exact cell_at H.r.blk o
 obtain ⟨W1, hW1⟩ : ∃ W1, W1 = (w.alloc (.cells (⟨11, at_, n, s, ⟨k, f, t, mi, l, p, g, a, m⟩, pid, dead, memo, legs, llen, lcap, acc, amt⟩ : Opr).cells 104)) := ⟨_, rfl⟩
 have hbW : Below w.heap.size w W1 := by rw [hW1]; exact (Below.refl w.heap.size w).alloc (Nat.le_refl _) _
 have hlW : w.heap.size < W1.heap.size := by rw [hW1]; simp
 have I1 := I.below hbW
 have H1 := DInv.at hi I1
 have hlb : hb < W1.heap.size := by omega
 have hckl : ck < 18446744073709551616 := by have h1 := hR.clk; have h2 := clockOf_le acts; omega
 have hX := hide (eTickD_any W1 xb ck ps xv H1.x H1.xap acts hR hckl)
 replace I1 := hide I1
 replace hok := hide hok
 replace hlg := hide hlg
 clear H H1 I hv
 simp only [Opr.v, Opr.cells] at *
 replace hW1 := hide hW1
 go_enter Tryz.func52, Tryz.ntmps52
 go_wp2_with fail
 rw [← hW1.out]
 refine (hX.out).mono ?_
 rintro e w3 ⟨lv, ck', ps', xv', rfl, hH, hR'⟩
 have I3 := I1.out.xstepS hi lv ck' ps' xv' hH.to hH.fresh
 have hlo3 : ∀ g, lv.ownBlock = some g → (fun k => if k < W1.heap.size then own k else if lv.ownBlock = some k then 4 else 11 + 8 * i) g = 4 := fun g hg => by have := (hH.fresh g hg).1; simp only [if_neg (Nat.not_lt.2 this), if_pos hg]
 have hap := hide (I1.out.apartL (lv := lv) (fun g hg => (hH.fresh g hg).1))
 have H3 := DInv.at hi I3
 have hX2 := hide (refTick_join w3 rb acts v ck ps H3.r H3.rap hR (by omega))
 have hc3 : ∀ o, w3.cell? ⟨hb, o, none⟩ = (#[.pointer (some ⟨xb, 0, none⟩), .pointer (some ⟨rb, 0, none⟩), vg] : Array Value)[o]? := fun o => cell_at H3.blk o
 have hlv3 := hide hH.row
 have hlf : Hid (∀ g, lv.ownBlock = some g → ¬ (g = rb ∨ v.ownBlock = some g)) := hide (fun g hg hs => by
  have h1 := hlo3 g hg;have h2 := H3.rown g (hs.imp_right .inl);have h3 := h2.symm.trans h1
  omega)
 replace I3 := hide I3
 replace hlo3 := hide hlo3
 replace hR' := hide hR'
 clear hX H3 hH I1 hc hcr
 go_wp2_with fail
 refine (hX2.out).mono ?_
 rintro e w4 ⟨mv, v', rfl, hHd⟩
 have I4 := I3.out.rstepS hi _ v' hHd.to
 have hlv4 : RowOf w4 9 1 txtCell lv (kOuts ck ps) := hlv3.out.kept hHd.to.kept (fun g hg hs => hlf.out g hg hs)
 have hlo4 : ∀ g, lv.ownBlock = some g → (fun k => if k < w3.heap.size then (fun k => if k < W1.heap.size then own k else if lv.ownBlock = some k then 4 else 11 + 8 * i) k else 12 + 8 * i) g = 4 := fun g hg => by have := hlv3.out.lt hg; simp only [if_pos this]; exact hlo3.out g hg
 obtain ⟨mad, mcap, hmv⟩ := hHd.row.slice
 have hmr := hHd.row
 have hol := kOuts_le hR
 have hbr := kBare acts (ps := ps) hR.clk
 have hlw : Hid (heardOf lgs (kLog acts) acts.length = dlogOf (kActs acts)) := hide (by rw [hlg.out.eq]; exact kLog_log acts)
 have hHi : Hid (DHist (kActs acts)) := hide hlg.out.hist.ticks
 have htold : Hid (w0.lg = true → (kActs acts).length = acts.length ∨ kLog acts ≠ []) := hide (fun _ => kLog_told acts)
 have hS := hide (sameList_any (kOuts ck ps) lv mv (by omega) w4 hlv4 hmr)
 subst hmv
 have hbare := hide (fun u => bare_any mad (kOuts ck ps).length mcap (kErr acts) (kLog acts) u hbr)
 have hal := kActs_le acts
 generalize kErr acts = er at *
 generalize kLog acts = tx at *
 generalize kActs acts = acts' at *
 generalize kOuts ck ps = OU at *
 replace hlv4 := hide hlv4
 replace I4 := hide I4
 replace hlo4 := hide hlo4
 clear hX2 hc3 hlv3 hlo3 hHd hmr I3 hbr hlf
 go_wp2_with fail
 refine (hS.out).mono ?_
 rintro e w5 ⟨rfl, hb5⟩
 have I5 := I4.out.below hb5
 have hlv5 := hlv4.out.below hb5
 have sp := I5.sep hlo4.out
 have hK := hide (keep4_any w5 Wb w0.lg w0.vb vd vl ll I5.wblk I5.lrow hll lv OU (by omega) hlv5 sp.1 sp.2.1 sp.2.2)
 have hG := hide (fun w6 (hB : Booked w5 w6 Wb w0.lg w0.vb vd vl ll lv OU.length) => I5.keeps lv OU (by omega) hlv5 hlo4.out hap.out hB)
 clear hS hlv4 I4 sp hb5 hlv5 I5
 go_wp2_with fail
 refine (hK.out).mono ?_
 rintro e w6 ⟨rfl, hB⟩
 obtain ⟨own6, ll6, vl6, I6, h6⟩ := hG.out w6 hB
 have H6 := DInv.at hi I6
 have hc6 : ∀ o, w6.cell? ⟨hb, o, none⟩ = (#[.pointer (some ⟨xb, 0, none⟩), .pointer (some ⟨rb, 0, none⟩), vg] : Array Value)[o]? := fun o => cell_at H6.blk o
 have hf6 : ∀ o, w6.frozen? ⟨hb, o, none⟩ = false := fun o => frozen_at H6.blk o
 have hlb6 : hb < w6.heap.size := block_lt H6.blk
 obtain ⟨rad6, rcap6, hv6, _⟩ := H6.r.row.form Dt.cells_length
 have hcr6 : ∀ o, w6.cell? ⟨rb, o, none⟩ = (#[.slice rad6 acts'.length rcap6] : Array Value)[o]? := fun o => by rw [← (show v' = _ from hv6)]; exact cell_at H6.r.blk o
 have hlr6 : rb < w6.heap.size := H6.r.lt
 have hg6 : ∀ k, vg.ownBlock = some k → k ≠ rb := fun k hk e => by have h1 := H6.gown k hk; have h2 := H6.rown rb (.inl rfl); rw [e] at h1; omega
 have hHe := hide (heard_any lgs vg tx acts.length w6 H6.grow (by rw [hlg.out.eq]; have := dlogOf_le acts; omega))
 replace I6 := hide I6
 clear hK hG hB H6 hv6
 go_wp2_with fail
 refine (hHe.out).mono ?_
 rintro e w7 ⟨vg', rfl, hr7, hk7, ho7⟩
 obtain ⟨gad, gcap, hvg⟩ := hr7.slice
 subst hvg
 obtain ⟨hb7, I7⟩ := I6.out.log hi _ _ hk7 hr7 ho7
 have hc7 : ∀ o, w7.cell? ⟨hb, o, none⟩ = (#[.pointer (some ⟨xb, 0, none⟩), .pointer (some ⟨rb, 0, none⟩), vg] : Array Value)[o]? := fun o => cell_at hb7 o
 have hf7 : ∀ o, w7.frozen? ⟨hb, o, none⟩ = false := fun o => frozen_at hb7 o
 have hlb7 : hb < w7.heap.size := block_lt hb7
 have hcr7 : ∀ o, w7.cell? ⟨rb, o, none⟩ = (#[.slice rad6 acts'.length rcap6] : Array Value)[o]? := fun o => (hk7.cell (p := ⟨rb, o, none⟩) hlr6 (fun h => hg6 _ h rfl)).trans (hcr6 o)
 have hlr7 : rb < w7.heap.size := Nat.lt_of_lt_of_le hlr6 hk7.size
 have hbl7 := hide (I7.wblk)
 replace I7 := hide I7
 clear hHe hr7 hk7 ho7 hb7 I6 hc6 hf6 hcr6 hg6
 go_wp2_with fail
 refine (logged_any tx acts.length acts'.length _ Wb w0.lg _ _ _ hbl7.out htold.out).mono ?_
 rintro e w8 ⟨rfl, hb8⟩
 have I8 := hide (I7.out.below hb8)
 clear I7 hb8 hbl7 hc7 hf7 hcr7
 go_wp2_with fail
 refine (num_any _ _).mono ?_
 rintro e w9 ⟨rfl, rfl⟩
 go_wp2_with fail
 refine (hbare.out _).mono ?_
 rintro e w10 ⟨rfl, rfl⟩
 go_wp2
 go_ret
 exact ⟨rfl, dgoes_of I8.out hok.out ⟨hR'.out, ⟨hlw.out, hHi.out⟩, by show acts'.length ≤ N + 1; omega⟩ (by omega)⟩
end Go.Proofs.YtjkhbjgfoopomabGreat
