import Derived.Test.YtjkhbjgfoopomabGreatA37
namespace Go.Proofs.YtjkhbjgfoopomabGreat
open Go.ChangeShapes Go.WideShapes Go.ChangeAt Go.RowKit
open Go.ChangeMaps (open_string shut_string)
set_option maxRecDepth 100000
set_option maxHeartbeats 1000000
set_option linter.unusedVariables false
theorem escrowEncode_any (x : Msg) (hx : x.ok) (hm : x.m.length ≤ 140737488351232) (w : World) :
  Calls Tryz.prog 97 #[x.v] w fun e w' => e = .returned (.tuple #[.string (bs (encOf x)), .int .i64 ((faultOf x : Nat) : Int)]) ∧ Below w.heap.size w w' := by
 have henc := hide (encode_any x hx hm)
 generalize encOf x = E at *
 generalize faultOf x = fv at *
 obtain ⟨k, f, t, i, l, p, g, a, m⟩ := x
 simp only [Msg.v, Msg.cells] at *
 go_enter Tryz.func97, Tryz.ntmps97
 go_wp2_with fail
 refine (henc.out _).mono ?_
 rintro e w1 ⟨rfl, hb⟩
 have B1 := (Box.mk0 _ _ _).below hb
 clear hb henc
 go_wp2
 go_ret2
 exact ⟨rfl, B1.bel⟩
theorem known_len : faultOf ⟨6, 3, 0, 0, 0, 0, 0, 0, []⟩ = 0 ∧ (encOf ⟨6, 3, 0, 0, 0, 0, 0, 0, []⟩).length = 22 := by
 have h : faultOf ⟨6, 3, 0, 0, 0, 0, 0, 0, []⟩ = 0 := by decide
 refine ⟨h, ?_⟩
 unfold encOf
 rw [if_pos h]
 simp [frameOf, bodyOf_length, be_length]
theorem known_any (w : World) :
  Calls Tryz.prog 97 #[.agg #[.int .u8 6, .int .u8 3, .int .u8 0, .int .u32 0, .int .u8 0, .int .u16 0, .int .u16 0, .int .u32 0, .string ⟨#[]⟩]] w
   fun e w' => (∃ l : List UInt8, l.length = 22 ∧ e = .returned (.tuple #[.string (bs l), .int .i64 0])) ∧ Below w.heap.size w w' := by
 have h := escrowEncode_any ⟨6, 3, 0, 0, 0, 0, 0, 0, []⟩ ⟨by decide, by decide, by decide, by decide, by decide, by decide, by decide, by decide⟩ (by decide) w
 rw [known_len.1] at h
 refine Calls.mono h ?_
 rintro e w' ⟨rfl, hb⟩
 exact ⟨⟨_, known_len.2, rfl⟩, hb⟩
theorem encodes_walk (x : Msg) (hx : x.ok) (hm : x.m.length ≤ 140737488351232) (w : World) :
  Calls Tryz.prog 53 #[x.v] w fun e w' => e = .returned (.bool true) ∧ Below w.heap.size w w' := by
 have henc := hide (escrowEncode_any x hx hm)
 have href := hide (refEncode_any x hx hm)
 generalize encOf x = E at *
 generalize faultOf x = fv at *
 obtain ⟨k, f, t, i, l, p, g, a, m⟩ := x
 simp only [Msg.v, Msg.cells] at *
 go_enter Tryz.func53, Tryz.ntmps53
 go_wp2_with fail
 refine (henc.out _).mono ?_
 rintro e w1 ⟨rfl, hb⟩
 have B1 := (Box.mk0 _ _ _).below hb
 have hc := B1.cell
 clear hb henc
 go_wp2_with fail
 refine (href.out _).mono ?_
 rintro e w2 ⟨rfl, hb⟩
 have B2 := B1.below hb
 clear hb B1 hc href
 go_wp2_with fail
 refine (known_any _).mono ?_
 rintro e w3 ⟨⟨z, hz, rfl⟩, hb⟩
 have B3 := B2.below hb
 have hz' : (bs z).size = 22 := by rw [bs_size, hz]
 clear hb B2 hz
 go_wp2_with fail
 refine (num_any _ _).mono ?_
 rintro e w4 ⟨rfl, rfl⟩
 go_wp2
 go_ret
 exact ⟨by simp, B3.bel⟩
theorem escrowDecode_any (s : ByteArray) (hs : s.size ≤ maxLen) (w : World) :
  Calls Tryz.prog 72 #[.string s] w fun e w' => e = .returned (.tuple #[(decMsg s.data.toList).v, .int .i64 ((decErr s.data.toList : Nat) : Int)]) ∧ Below w.heap.size w w' := by
 have hd := hide (decode_any s hs)
 generalize decMsg s.data.toList = M at *
 generalize decErr s.data.toList = fv at *
 obtain ⟨k, f, t, i, l, p, g, a, m⟩ := M
 simp only [Msg.v, Msg.cells] at *
 go_enter Tryz.func72, Tryz.ntmps72
 go_wp2_with fail
 refine (hd.out _).mono ?_
 rintro e w1 ⟨rfl, hb⟩
 have B1 := (Box.mk0 _ _ _).below hb
 have hc1 := B1.cell
 have hf1 := B1.fro
 clear hb hd
 go_wp2
 exact bodyPost_ret (v := .tuple #[.agg #[Value.int .u8 (k : Int), .int .u8 (f : Int), .int .u8 (t : Int), .int .u32 (i : Int), .int .u8 (l : Int), .int .u16 (p : Int), .int .u16 (g : Int), .int .u32 (a : Int), .string (bs m)], .int .i64 (fv : Int)]) (by simp [results, Tryz.results72, go_sem, hc1]) rfl ⟨rfl, (((((((((B1.bel.setCell (Nat.le_refl _) _).setCell (Nat.le_refl _) _).setCell (Nat.le_refl _) _).setCell (Nat.le_refl _) _).setCell (Nat.le_refl _) _).setCell (Nat.le_refl _) _).setCell (Nat.le_refl _) _).setCell (Nat.le_refl _) _).setCell (Nat.le_refl _) _)⟩
theorem dec_empty : decErr [] = 1 := by decide
theorem decodes_walk (s : ByteArray) (hs : s.data.toList.length ≤ 140737488351232) (w : World) :
  Calls Tryz.prog 54 #[.string s] w fun e w' => e = .returned (.bool true) ∧ Below w.heap.size w w' := by
 rw [list_len] at hs
 have hd := hide (escrowDecode_any s (by unfold maxLen; omega))
 have hr := hide (refDecode_any s hs)
 have hz : Hid (∀ u : World, Calls Tryz.prog 72 #[.string ⟨#[]⟩] u fun e u' => (∃ x : Msg, e = .returned (.tuple #[x.v, .int .i64 1])) ∧ Below u.heap.size u u') := hide (fun u => by
  refine (escrowDecode_any ⟨#[]⟩ (by decide) u).mono ?_;rintro e u' ⟨rfl, hb⟩;have e1 : decErr (⟨#[]⟩ : ByteArray).data.toList = 1 := dec_empty;rw [e1]
  exact ⟨⟨_, rfl⟩, hb⟩)
 generalize decMsg s.data.toList = M at *
 generalize decErr s.data.toList = fv at *
 obtain ⟨k, f, t, i, l, p, g, a, m⟩ := M
 simp only [Msg.v, Msg.cells] at hd hr
 go_enter Tryz.func54, Tryz.ntmps54
 go_wp2_with fail
 refine (hd.out _).mono ?_
 rintro e w1 ⟨rfl, hb1⟩
 clear hd
 go_wp2_with fail
 refine (hr.out _).mono ?_
 rintro e w2 ⟨rfl, hb2⟩
 have B1 := (Box.mk0 w1 #[Value.int .u8 (k : Int), .int .u8 (f : Int), .int .u8 (t : Int), .int .u32 (i : Int), .int .u8 (l : Int), .int .u16 (p : Int), .int .u16 (g : Int), .int .u32 (a : Int), .string (bs m)] 102).below hb2
 have L2 : Below w.heap.size w w2 := hb1.trans (B1.bel.mono hb1.size)
 clear hr hb1 hb2
 go_wp2_with fail
 refine (hz.out _).mono ?_
 rintro e w3 ⟨⟨z, rfl⟩, hb3⟩
 have B2 := (Box.mk0 w2 #[Value.int .u8 (k : Int), .int .u8 (f : Int), .int .u8 (t : Int), .int .u32 (i : Int), .int .u8 (l : Int), .int .u16 (p : Int), .int .u16 (g : Int), .int .u32 (a : Int), .string (bs m)] 102).below hb3
 replace B1 := (B1.alloc (.cells #[Value.int .u8 (k : Int), .int .u8 (f : Int), .int .u8 (t : Int), .int .u32 (i : Int), .int .u8 (l : Int), .int .u16 (p : Int), .int .u16 (g : Int), .int .u32 (a : Int), .string (bs m)] 102)).below hb3
 have L3 : Below w.heap.size w w3 := L2.trans (B2.bel.mono L2.size)
 have hc1 := B1.cell
 have hc2 := B2.cell
 have hl1 := B1.lt
 have hl2 := B2.lt
 clear hz hb3 L2 B1 B2
 obtain ⟨k', f', t', i', l', p', g', a', m'⟩ := z
 simp only [Msg.v, Msg.cells]
 go_wp2_with fail
 refine (num_any _ _).mono ?_
 rintro e w4 ⟨rfl, rfl⟩
 go_wp2
 go_ret
 exact ⟨by simp, L3.alloc L3.size _⟩
end Go.Proofs.YtjkhbjgfoopomabGreat
namespace Go.Proofs.YtjkhbjgfoopomabGreat
open Go.RowKit
set_option maxRecDepth 100000
set_option maxHeartbeats 2000000
set_option linter.unusedVariables false
set_option linter.unusedSimpArgs false
theorem step_frames (w : World) (Wb : Nat) (at_ n : Int) (s : List UInt8) (k f t mi l p g a : Nat) (m : List UInt8) (pid dead : Int) (memo : List UInt8) (legs : Option Addr) (llen lcap acc amt : Nat) (ho : (⟨15, at_, n, s, ⟨k, f, t, mi, l, p, g, a, m⟩, pid, dead, memo, legs, llen, lcap, acc, amt⟩ : Opr).ok) :
  Calls Tryz.prog 34 #[.pointer (some ⟨Wb, 0, none⟩), (⟨15, at_, n, s, ⟨k, f, t, mi, l, p, g, a, m⟩, pid, dead, memo, legs, llen, lcap, acc, amt⟩ : Opr).v] w fun e w' => e = .returned (.bool true) ∧ Below w.heap.size w w' := by
 have hE := hide (encodes_walk ⟨k, f, t, mi, l, p, g, a, m⟩ ho.2.2.2.2.1 ho.2.2.2.2.2.1)
 have hD := hide (decodes_walk (bs s) (by rw [bs_data]; exact ho.2.2.2.1))
 simp only [Opr.v, Opr.cells, Msg.v, Msg.cells] at *
 clear ho
 go_enter Tryz.func34, Tryz.ntmps34
 go_wp2_with fail
 refine (hE.out _).mono ?_
 rintro e w1 ⟨rfl, hb⟩
 have B1 := (Box.mk0 _ _ _).below hb
 have hc := B1.cell
 clear hb hE
 go_wp2_with fail
 refine (hD.out _).mono ?_
 rintro e w2 ⟨rfl, hb2⟩
 have hb3 := hide (B1.bel.trans (hb2.mono B1.bel.size))
 clear hD hb2 hc B1
 go_wp2
 go_ret
 exact ⟨rfl, hb3.out⟩
theorem bank_open (w0 : Base) (w : World) (Wb : Nat) (own : Nat → Nat) (hs : List House) (ll : List (Value × Nat)) (vb vl : Value) (i : Nat) (hi : i < hs.length) (hb xb rb node : Nat) (evs : List Ev) (ac : List Ac) (ls : List Lg) (va vll v : Value) (lgs : List (List UInt8 × Nat)) (vg : Value)
  (I : MemInv w0 w Wb own (hs.set i ⟨hb, xb, rb, node, evs, ac, ls, va, vll, v, lgs, vg⟩) ll vb vl) (hok : ∀ h, h ∈ hs → h.ok) (hR : Rel evs ac ls) (hn1 : 1 ≤ node) (hn7 : node ≤ 7) (hlg : LgB node evs lgs)
  (at_ n : Int) (s : List UInt8) (k f t mi l p g a : Nat) (m : List UInt8) (pid dead : Int) (memo : List UInt8) (legs : Option Addr) (llen lcap acc amt : Nat) (hacc : acc < 65536) (hamt : amt < 4294967296) :
  Calls Tryz.prog 51 #[.pointer (some ⟨Wb, 0, none⟩), .pointer (some ⟨hb, 0, none⟩), (⟨2, at_, n, s, ⟨k, f, t, mi, l, p, g, a, m⟩, pid, dead, memo, legs, llen, lcap, acc, amt⟩ : Opr).v] w (BankSays w0 Wb hs ll vb i hb) := by
 have H := MemInv.at hi I
 have F0 := foot_lt H
 have hc : ∀ o, w.cell? ⟨hb, o, none⟩ = (#[.pointer (some ⟨xb, 0, none⟩), .pointer (some ⟨rb, 0, none⟩), vg] : Array Value)[o]? := fun o => cell_at H.blk o
 have hl1 : hb < w.heap.size := block_lt H.blk
 have hl2 : rb < w.heap.size := H.r.lt
 have hRl : ∀ k, v.ownBlock = some k → k < w.heap.size := fun k hk => F0.2 k (.inr hk)
 have hnx : ¬ xfoot xb va vll hb := fun hx => by have h1 := H.xown _ hx; have h2 : own hb = _ := H.hown; omega
 have hnw : ¬ xfoot xb va vll w.heap.size := fun hx => by have := F0.1 _ hx; omega
 have hnr : ¬ (hb = rb ∨ v.ownBlock = some hb) := fun hx => by have h1 := H.rown _ hx; have h2 : own hb = _ := H.hown; omega
 have hnw2 : ¬ (w.heap.size = rb ∨ v.ownBlock = some w.heap.size) := fun hx => by
  rcases hx with hx | hx
  ·omega
  ·have := hRl _ hx; omega
 obtain ⟨rad, rcap, hv, _⟩ := H.r.form
 have hcr : ∀ o, w.cell? ⟨rb, o, none⟩ = (#[.int .u8 (node : Int), .slice rad evs.length rcap] : Array Value)[o]? := fun o => by rw [← (show v = _ from hv)]; exact cell_at H.r.blk o
 have hRs := hR.short
 obtain ⟨W1, hW1⟩ : ∃ W1, W1 = (w.alloc (.cells (⟨2, at_, n, s, ⟨k, f, t, mi, l, p, g, a, m⟩, pid, dead, memo, legs, llen, lcap, acc, amt⟩ : Opr).cells 104)).drew := ⟨_, rfl⟩
 have hbW : Below w.heap.size w W1 := by rw [hW1]; exact ((Below.refl w.heap.size w).alloc (Nat.le_refl _) _).drew
 have hlW : w.heap.size < W1.heap.size := by rw [hW1]; simp
 have I1 := I.below hbW
 have H1 := MemInv.at hi I1
 have hX := hide (eOpen_any acc amt hacc hamt W1 xb node ac ls va vll H1.x H1.xap hR.aok (by have := hR.alen; omega))
 have e0 : W1.cell? ⟨hb, 0, none⟩ = some (.pointer (some ⟨xb, 0, none⟩)) := cell_at H1.blk 0
 have e1 : W1.cell? ⟨w.heap.size, 17, none⟩ = some (.int .u16 (acc : Int)) := by rw [hW1]; simp [Opr.cells]
 have e2 : W1.cell? ⟨w.heap.size, 18, none⟩ = some (.int .u32 (amt : Int)) := by rw [hW1]; simp [Opr.cells]
 have hlb : hb < W1.heap.size := by omega
 have hEr := hide (hR.openE acc)
 have hOp := hide (hR.opens acc amt hacc hamt)
 replace I1 := hide I1
 replace hok := hide hok
 replace hlg := hide hlg
 clear H H1 F0 I hv
 simp only [Opr.v, Opr.cells] at *
 replace hW1 := hide hW1
 go_enter Tryz.func51, Tryz.ntmps51
 go_wp2_with fail
 go_region_held3 (fun u => u.cell? ⟨hb, 0, none⟩ = some (.pointer (some ⟨xb, 0, none⟩)) ∧ u.cell? ⟨w.heap.size, 17, none⟩ = some (.int .u16 (acc : Int)) ∧ u.cell? ⟨w.heap.size, 18, none⟩ = some (.int .u32 (amt : Int)))
  (first
   | (rw [← hW1.out]; exact ⟨e0, e1, e2⟩)
   | (with_reducible exact three_kept hT.kept ⟨hlb, hnx⟩ ⟨hlW, hnw⟩ ⟨hlW, hnw⟩ ⟨e0, e1, e2⟩))
  (first
   | (go_at_call 19; rw [← hW1.out]; refine hX.out.mono ?_; rintro e w2 ⟨va', rfl, hT⟩))
 have I2 := (I1.out.xstepS hi (.slice none 0 0) _ _ _ _ hT (fun g hg => by simp [Value.ownBlock] at hg)).below ((Below.refl w2.heap.size w2).drew)
 have H2 := MemInv.at hi I2
 have q0 : w2.drew.cell? ⟨hb, 1, none⟩ = some (.pointer (some ⟨rb, 0, none⟩)) := cell_at H2.blk 1
 have q1 : w2.drew.cell? ⟨w.heap.size, 17, none⟩ = some (.int .u16 (acc : Int)) := (hT.kept.cell (p := ⟨w.heap.size, 17, none⟩) hlW hnw).trans e1
 have q2 : w2.drew.cell? ⟨w.heap.size, 18, none⟩ = some (.int .u32 (amt : Int)) := (hT.kept.cell (p := ⟨w.heap.size, 18, none⟩) hlW hnw).trans e2
 have hlb2 : hb < w2.drew.heap.size := block_lt H2.blk
 have hlw2 : w.heap.size < w2.drew.heap.size := Nat.lt_of_lt_of_le hlW hT.kept.size
 have hX2 := refOpen_any acc amt hacc hamt w2.drew rb node evs v H2.r H2.rap hR.eok (by omega)
 rw [hR.openE acc] at hX2
 replace hX2 := hide hX2
 replace I2 := hide I2
 clear hX hc hcr e0 e1 e2 H2 hT hnx hnw I1 hW1 hbW
 go_wp2_with fail
 go_region_held3 (fun u => u.cell? ⟨hb, 1, none⟩ = some (.pointer (some ⟨rb, 0, none⟩)) ∧ u.cell? ⟨w.heap.size, 17, none⟩ = some (.int .u16 (acc : Int)) ∧ u.cell? ⟨w.heap.size, 18, none⟩ = some (.int .u32 (amt : Int)))
  (first
   | (with_reducible exact ⟨q0, q1, q2⟩)
   | (with_reducible exact three_kept hT.kept ⟨hlb2, hnr⟩ ⟨hlw2, hnw2⟩ ⟨hlw2, hnw2⟩ ⟨q0, q1, q2⟩))
  (first
   | (go_at_call 77; refine hX2.out.mono ?_; rintro e w3 ⟨rfl, v', hT⟩))
 have I3 := hide (I2.out.rstepS hi _ v' hT)
 clear hX2 q0 q1 q2 hT hnw2
 have H3 := MemInv.at hi I3.out
 have hc : ∀ o, w3.cell? ⟨hb, o, none⟩ = (#[.pointer (some ⟨xb, 0, none⟩), .pointer (some ⟨rb, 0, none⟩), vg] : Array Value)[o]? := fun o => cell_at H3.blk o
 have hf : ∀ o, w3.frozen? ⟨hb, o, none⟩ = false := fun o => frozen_at H3.blk o
 have hlb3 : hb < w3.heap.size := block_lt H3.blk
 obtain ⟨rad3, rcap3, hv3, _⟩ := H3.r.form
 have hcr3 : ∀ o, w3.cell? ⟨rb, o, none⟩ = (#[.int .u8 (node : Int), .slice rad3 (openEvs acc amt evs).length rcap3] : Array Value)[o]? := fun o => by rw [← (show v' = _ from hv3)]; exact cell_at H3.r.blk o
 have hbr : hb ≠ rb := fun e => hnr (.inl e)
 have hlr3 : rb < w3.heap.size := H3.r.lt
 have hg3 : ∀ k, vg.ownBlock = some k → k ≠ rb := fun k hk e => by have h1 := H3.gown k hk; have h2 := H3.rown rb (.inl rfl); rw [e] at h1; omega
 have hHd := hide (heard_any lgs vg (openLog acc amt ac) evs.length w3 H3.grow (by rw [hlg.out.eq, logOf_length]; omega))
 have hlw : heardOf lgs (openLog acc amt ac) evs.length = logOf (openEvs acc amt evs) ∧ (w0.lg = true → (openEvs acc amt evs).length = evs.length ∨ openLog acc amt ac ≠ []) ∧ (openX acc ac = 0 ∨ ((0 : Nat) = 0 ∧ openLog acc amt ac = [])) := by
  have hE := hR.openE acc;unfold openEvs openLog heardOf;rw [hE];by_cases h0 : openX acc ac = 0
  ·have hne : openTextOf acc amt ≠ [] := by simp [openTextOf]
   rw [if_pos h0, if_pos h0, if_neg hne, logOf_snoc, hlg.out.eq];exact ⟨rfl, fun _ => .inr hne, .inl h0⟩
  ·rw [if_neg h0, if_neg h0, if_pos rfl];exact ⟨hlg.out.eq, fun _ => .inl rfl, .inr ⟨rfl, rfl⟩⟩
 replace hlw := hide hlw
 clear H3 hv3 hnr
 go_wp2_with fail
 refine (hHd.out).mono ?_
 rintro e w4 ⟨vg', rfl, hr4, hk4, ho4⟩
 obtain ⟨gad, gcap, hvg⟩ := hr4.slice
 subst hvg
 obtain ⟨hb4, I4⟩ := I3.out.log hi _ _ hk4 hr4 ho4
 have hc4 : ∀ o, w4.cell? ⟨hb, o, none⟩ = (#[.pointer (some ⟨xb, 0, none⟩), .pointer (some ⟨rb, 0, none⟩), vg] : Array Value)[o]? := fun o => cell_at hb4 o
 have hf4 : ∀ o, w4.frozen? ⟨hb, o, none⟩ = false := fun o => frozen_at hb4 o
 have hlb4 : hb < w4.heap.size := block_lt hb4
 have hcr4 : ∀ o, w4.cell? ⟨rb, o, none⟩ = (#[.int .u8 (node : Int), .slice rad3 (openEvs acc amt evs).length rcap3] : Array Value)[o]? := fun o => (hk4.cell (p := ⟨rb, o, none⟩) hlr3 (fun h => hg3 _ h rfl)).trans (hcr3 o)
 have hlr4 : rb < w4.heap.size := Nat.lt_of_lt_of_le hlr3 hk4.size
 have hbl4 := hide (I4.wblk)
 replace I4 := hide I4
 clear hHd hr4 hk4 ho4 hb4 I3 hc hf hcr3 hg3
 go_wp2_with fail
 refine (logged_any (openLog acc amt ac) evs.length (openEvs acc amt evs).length _ Wb w0.lg _ _ _ hbl4.out hlw.out.2.1).mono ?_
 rintro e w5 ⟨rfl, hb5⟩
 have I5 := hide (I4.out.below hb5)
 clear I4 hb5 hbl4 hc4 hf4 hcr4
 go_wp2_with fail
 refine (num_any _ _).mono ?_
 rintro e w6 ⟨rfl, rfl⟩
 go_wp2_with fail
 refine (bare_any none 0 0 (openX acc ac) (openLog acc amt ac) _ (hlw.out.2.2.imp id (fun h => ⟨rfl, h.2⟩))).mono ?_
 rintro e w7 ⟨rfl, rfl⟩
 go_wp2
 go_ret
 exact ⟨rfl, goes_of I5.out hok.out ⟨hOp.out, hn1, hn7, ⟨hlw.out.1, hlg.out.hist.opens acc amt hacc hamt⟩⟩ (Nat.le_add_right _ _)⟩
theorem bank_funds_there (w0 : Base) (w : World) (Wb : Nat) (own : Nat → Nat) (hs : List House) (ll : List (Value × Nat)) (vb vl : Value) (i : Nat) (hi : i < hs.length) (hb xb rb node : Nat) (evs : List Ev) (ac : List Ac) (ls : List Lg) (va vll v : Value) (lgs : List (List UInt8 × Nat)) (vg : Value)
  (I : MemInv w0 w Wb own (hs.set i ⟨hb, xb, rb, node, evs, ac, ls, va, vll, v, lgs, vg⟩) ll vb vl) (hok : ∀ h, h ∈ hs → h.ok) (hR : Rel evs ac ls) (hn1 : 1 ≤ node) (hn7 : node ≤ 7) (hlg : LgB node evs lgs)
  (at_ n : Int) (s : List UInt8) (k f t mi l p g a : Nat) (m : List UInt8) (pid dead : Int) (memo : List UInt8) (legs : Option Addr) (llen lcap acc amt : Nat) (hacc : acc < 65536) (hB : hasB acc ac = true) :
  Calls Tryz.prog 51 #[.pointer (some ⟨Wb, 0, none⟩), .pointer (some ⟨hb, 0, none⟩), (⟨3, at_, n, s, ⟨k, f, t, mi, l, p, g, a, m⟩, pid, dead, memo, legs, llen, lcap, acc, amt⟩ : Opr).v] w (BankSays w0 Wb hs ll vb i hb) := by
 have H := MemInv.at hi I
 have F0 := foot_lt H
 have hc : ∀ o, w.cell? ⟨hb, o, none⟩ = (#[.pointer (some ⟨xb, 0, none⟩), .pointer (some ⟨rb, 0, none⟩), vg] : Array Value)[o]? := fun o => cell_at H.blk o
 have hl1 : hb < w.heap.size := block_lt H.blk
 have hl2 : rb < w.heap.size := H.r.lt
 have hRl : ∀ k, v.ownBlock = some k → k < w.heap.size := fun k hk => F0.2 k (.inr hk)
 have hnx : ¬ xfoot xb va vll hb := fun hx => by have h1 := H.xown _ hx; have h2 : own hb = _ := H.hown; omega
 have hnw : ¬ xfoot xb va vll w.heap.size := fun hx => by have := F0.1 _ hx; omega
 have hnr : ¬ (hb = rb ∨ v.ownBlock = some hb) := fun hx => by have h1 := H.rown _ hx; have h2 : own hb = _ := H.hown; omega
 have hnw2 : ¬ (w.heap.size = rb ∨ v.ownBlock = some w.heap.size) := fun hx => by
  rcases hx with hx | hx
  ·omega
  ·have := hRl _ hx; omega
 obtain ⟨rad, rcap, hv, _⟩ := H.r.form
 have hcr : ∀ o, w.cell? ⟨rb, o, none⟩ = (#[.int .u8 (node : Int), .slice rad evs.length rcap] : Array Value)[o]? := fun o => by rw [← (show v = _ from hv)]; exact cell_at H.r.blk o
 have hRs := hR.short
 obtain ⟨W1, hW1⟩ : ∃ W1, W1 = (w.alloc (.cells (⟨3, at_, n, s, ⟨k, f, t, mi, l, p, g, a, m⟩, pid, dead, memo, legs, llen, lcap, acc, amt⟩ : Opr).cells 104)) := ⟨_, rfl⟩
 have hbW : Below w.heap.size w W1 := by rw [hW1]; exact (Below.refl w.heap.size w).alloc (Nat.le_refl _) _
 have hlW : w.heap.size < W1.heap.size := by rw [hW1]; simp
 have I1 := I.below hbW
 have H1 := MemInv.at hi I1
 have e0 : W1.cell? ⟨hb, 0, none⟩ = some (.pointer (some ⟨xb, 0, none⟩)) := cell_at H1.blk 0
 have e0' : W1.cell? ⟨hb, 1, none⟩ = some (.pointer (some ⟨rb, 0, none⟩)) := cell_at H1.blk 1
 have hlb : hb < W1.heap.size := by omega
 have e1 : W1.cell? ⟨w.heap.size, 17, none⟩ = some (.int .u16 (acc : Int)) := by rw [hW1]; simp [Opr.cells]
 have hX := fun u (hu : (u.cell? ⟨hb, 0, none⟩ = some (.pointer (some ⟨xb, 0, none⟩)) ∧ u.cell? ⟨w.heap.size, 17, none⟩ = some (.int .u16 (acc : Int)) ∧ u.cell? ⟨w.heap.size, 17, none⟩ = some (.int .u16 (acc : Int))) ∧ Below W1.heap.size W1 u) => eFunds_any acc hacc u xb node ac ls va vll (H1.x.below hu.2) hR.aok hR.lok' (by have := hR.alen; omega) (by have := hR.llen; omega) (by have h1 := hR.hb acc; have h2 := hR.bd acc; omega) (hR.due acc)
 have hbal : balL acc ac ≤ 4294967295 := by have h2 := hR.bd acc; omega
 have hhel : heldL acc ls ≤ 4294967295 := by have h1 := hR.hb acc; have h2 := hR.bd acc; omega
 have hdue : dueL acc ls ≤ 4294967295 := by have h2 := hR.bd acc; omega
 have hY := fun u (hu : Below W1.heap.size W1 u) => funds_any acc hacc u rb node evs v (H1.r.below hu) hR.eok (by omega) (hR.ge acc)
 have m1 : (openedOf acc evs).1 + inOf acc evs (keysOf evs) - outOf acc evs (keysOf evs) = balL acc ac := (hR.money acc).1
 have m2 : staysOf acc evs (keysOf evs) = heldL acc ls := (hR.money acc).2.1
 have m3 : comesOf acc evs (keysOf evs) = dueL acc ls := (hR.money acc).2.2
 rw [hB] at hX
 rw [m1, m2, m3, hR.has acc, hB] at hY
 simp only [Bool.false_eq_true, if_false, if_true] at hX
 generalize balL acc ac = xbal at *
 generalize heldL acc ls = xhel at *
 generalize dueL acc ls = xdue at *
 replace hX := hide hX
 replace hY := hide hY
 replace I1 := hide I1
 replace hok := hide hok
 clear H H1 F0 I hv m1 m2 m3
 simp only [Opr.v, Opr.cells] at *
 replace hW1 := hide hW1
 go_enter Tryz.func51, Tryz.ntmps51
 go_wp2_with fail
 rw [← hW1.out]
 go_region_held3 (fun u => (u.cell? ⟨hb, 0, none⟩ = some (.pointer (some ⟨xb, 0, none⟩)) ∧ u.cell? ⟨w.heap.size, 17, none⟩ = some (.int .u16 (acc : Int)) ∧ u.cell? ⟨w.heap.size, 17, none⟩ = some (.int .u16 (acc : Int))) ∧ Below W1.heap.size W1 u)
  (first
   | (with_reducible refine keep3_set hlb hlW hlW (by assumption) ?_; repeat (first | with_reducible exact Below.refl _ _ | with_reducible refine setHere ?_ (Nat.le_refl _)))
   | with_reducible exact keep3_drew ⟨e0, e1, e1⟩
   | with_reducible exact keep3_start hlb hlW hlW ⟨e0, e1, e1⟩ _
   | with_reducible exact keep3_alloc hlb hlW hlW (by assumption) _
   | with_reducible exact keep3_call hlb hlW hlW (by assumption) hb9
   | with_reducible exact keep3_again hlb hlW hlW hs9 _ (by assumption)
   | fail)
  (first
   | (go_at_call 15; refine (hX.out _ ?_).mono ?_; assumption; rintro e u2 ⟨rfl, hb9⟩; (try have hf9 : ∀ o, u2.frozen? ⟨W1.heap.size, o, none⟩ = false := fun o => fro_kept (undrew hb9) o); (try have hc9 : ∀ o, u2.cell? ⟨W1.heap.size, o, none⟩ = _ := fun o => cel_kept (undrew hb9) o); have hs9 : W1.heap.size ≤ u2.heap.size := (by first | exact hb9.size | exact Nat.le_of_lt (lt_kept (undrew hb9)))))
 ·have hB3 := (undrew hb9).alloc hs9 (.cells #[.int .u32 (xbal : Int), .int .u32 (xhel : Int), .int .u32 (xdue : Int)] 49);have hm : ∀ o, (u2.alloc (.cells #[.int .u32 (xbal : Int), .int .u32 (xhel : Int), .int .u32 (xdue : Int)] 49)).cell? ⟨u2.heap.size, o, none⟩ = (#[.int .u32 (xbal : Int), .int .u32 (xhel : Int), .int .u32 (xdue : Int)] : Array Value)[o]? := fun o => World.cell?_alloc_new ..;have hmB : W1.heap.size ≤ u2.heap.size := hs9;have hmL : u2.heap.size < (u2.alloc (.cells #[.int .u32 (xbal : Int), .int .u32 (xhel : Int), .int .u32 (xdue : Int)] 49)).heap.size := by simp
  clear hb9 hs9;generalize u2.alloc _ = u3 at hB3 hm hmL ⊢;generalize u2.heap.size = mB at hm hmB hmL ⊢;have q0 : u3.drew.cell? ⟨hb, 1, none⟩ = some (.pointer (some ⟨rb, 0, none⟩)) := (hB3.cell (p := ⟨hb, 1, none⟩) hlb).trans e0';have q1 : u3.drew.cell? ⟨w.heap.size, 17, none⟩ = some (.int .u16 (acc : Int)) := (hB3.cell (p := ⟨w.heap.size, 17, none⟩) hlW).trans e1;have hlb3 : hb < u3.drew.heap.size := Nat.lt_of_lt_of_le hlb hB3.size;have hlw3 : w.heap.size < u3.drew.heap.size := Nat.lt_of_lt_of_le hlW hB3.size;have hY3 := hide (hY.out u3.drew hB3.drew);clear hX hY hc hcr;go_wp2_with fail
  go_region_held3 (fun u => u.cell? ⟨hb, 1, none⟩ = some (.pointer (some ⟨rb, 0, none⟩)) ∧ u.cell? ⟨w.heap.size, 17, none⟩ = some (.int .u16 (acc : Int)) ∧ u.cell? ⟨w.heap.size, 17, none⟩ = some (.int .u16 (acc : Int)))
   (first
    | (with_reducible exact ⟨q0, q1, q1⟩)
    | (with_reducible exact three_kept (S := fun _ => False) (Kept.of_below hb9) ⟨hlb3, id⟩ ⟨hlw3, id⟩ ⟨hlw3, id⟩ ⟨q0, q1, q1⟩))
   (first
    | (go_at_call 81; refine (hY3.out).mono ?_; rintro e w4 ⟨rfl, hb9⟩))
  have hm4 : ∀ o, w4.cell? ⟨mB, o, none⟩ = (#[.int .u32 (xbal : Int), .int .u32 (xhel : Int), .int .u32 (xdue : Int)] : Array Value)[o]? := fun o => (hb9.cell (p := ⟨mB, o, none⟩) hmL).trans (hm o);have hmL4 : mB < w4.heap.size := Nat.lt_of_lt_of_le hmL hb9.size;have hB4 := hide (hB3.drew.trans (hb9.mono hB3.size));have I4 := hide (I1.out.below hB4.out);clear q0 q1 hY3 hb9 hm hmL hB3;have W1' : IntKind.u64.wrap (xbal : Int) = (xbal : Int) := u64_wrap xbal (by omega);have W2' : IntKind.u64.wrap (xhel : Int) = (xhel : Int) := u64_wrap xhel (by omega);have W3' : IntKind.u64.wrap (xdue : Int) = (xdue : Int) := u64_wrap xdue (by omega);go_wp2_with fail
  refine (num_any _ _).mono ?_;rintro e w5 ⟨rfl, rfl⟩;go_wp2;go_ret;exact ⟨rfl, goes_of I4.out hok.out ⟨hR, hn1, hn7, hlg⟩ (Nat.le_add_right _ _)⟩
 ·have hk9 := putL_kept [.int .u32 (xbal : Int), .int .u32 (xhel : Int), .int .u32 (xdue : Int)] u2 W1.heap.size 0;have hB3 := (all_kept (undrew hb9)).trans (hk9.below hs9 (fun i e => by omega));have hP := putL_whole [.int .u32 (xbal : Int), .int .u32 (xhel : Int), .int .u32 (xdue : Int)] (blk_kept (undrew hb9)) rfl;have hm := fun o => cell_at hP o;have hmB : W1.heap.size ≤ W1.heap.size := Nat.le_refl _;have hmL := block_lt hP;clear hb9 hs9 hk9 hf9 hc9 hP;simp only [putL] at hm hB3 hmL;generalize World.setCell _ _ _ = u3 at hB3 hm hmL ⊢;generalize hgen : W1.heap.size = mB at hm hmL ⊢;have q0 : u3.drew.cell? ⟨hb, 1, none⟩ = some (.pointer (some ⟨rb, 0, none⟩)) := (hB3.cell (p := ⟨hb, 1, none⟩) hlb).trans e0';have q1 : u3.drew.cell? ⟨w.heap.size, 17, none⟩ = some (.int .u16 (acc : Int)) := (hB3.cell (p := ⟨w.heap.size, 17, none⟩) hlW).trans e1;have hlb3 : hb < u3.drew.heap.size := Nat.lt_of_lt_of_le hlb hB3.size;have hlw3 : w.heap.size < u3.drew.heap.size := Nat.lt_of_lt_of_le hlW hB3.size;have hY3 := hide (hY.out u3.drew hB3.drew);clear hX hY hc hcr;go_wp2_with fail
  go_region_held3 (fun u => u.cell? ⟨hb, 1, none⟩ = some (.pointer (some ⟨rb, 0, none⟩)) ∧ u.cell? ⟨w.heap.size, 17, none⟩ = some (.int .u16 (acc : Int)) ∧ u.cell? ⟨w.heap.size, 17, none⟩ = some (.int .u16 (acc : Int)))
   (first
    | (with_reducible exact ⟨q0, q1, q1⟩)
    | (with_reducible exact three_kept (S := fun _ => False) (Kept.of_below hb9) ⟨hlb3, id⟩ ⟨hlw3, id⟩ ⟨hlw3, id⟩ ⟨q0, q1, q1⟩))
   (first
    | (go_at_call 81; refine (hY3.out).mono ?_; rintro e w4 ⟨rfl, hb9⟩))
  have hm4 : ∀ o, w4.cell? ⟨mB, o, none⟩ = (#[.int .u32 (xbal : Int), .int .u32 (xhel : Int), .int .u32 (xdue : Int)] : Array Value)[o]? := fun o => (hb9.cell (p := ⟨mB, o, none⟩) hmL).trans (hm o);have hmL4 : mB < w4.heap.size := Nat.lt_of_lt_of_le hmL hb9.size;have hB4 := hide (hB3.drew.trans (hb9.mono hB3.size));have I4 := hide (I1.out.below hB4.out);clear q0 q1 hY3 hb9 hm hmL hB3;have W1' : IntKind.u64.wrap (xbal : Int) = (xbal : Int) := u64_wrap xbal (by omega);have W2' : IntKind.u64.wrap (xhel : Int) = (xhel : Int) := u64_wrap xhel (by omega);have W3' : IntKind.u64.wrap (xdue : Int) = (xdue : Int) := u64_wrap xdue (by omega);go_wp2_with fail
  refine (num_any _ _).mono ?_;rintro e w5 ⟨rfl, rfl⟩;go_wp2;go_ret;exact ⟨rfl, goes_of I4.out hok.out ⟨hR, hn1, hn7, hlg⟩ (Nat.le_add_right _ _)⟩
end Go.Proofs.YtjkhbjgfoopomabGreat
