import Derived.Test.YtjkhbjgfoopomabGreatA4
import Derived.Test.YtjkhbjgfoopomabGreatA6
import Derived.Lib.ConvBytes
import Derived.Deep.RegionHeld3
namespace Go.Proofs.YtjkhbjgfoopomabGreat
open Go.RowKit
set_option maxRecDepth 100000
set_option maxHeartbeats 1000000
set_option linter.unusedVariables false
set_option linter.unusedSimpArgs false
structure Two (w : World) (x y : Msg) (u : World) : Prop where
 bel : Below w.heap.size w u
 one : u.heap[w.heap.size]? = some (.cells x.cells 102 (0, 0))
 two : u.heap[w.heap.size + 1]? = some (.cells y.cells 102 (0, 0))
theorem Two.mk0 (w : World) : Two w noMsg noMsg ((w.alloc (.cells noMsg.cells 102)).alloc (.cells noMsg.cells 102)) := by
 refine ⟨((Below.refl _ _).alloc (Nat.le_refl _) _).alloc (by simp) _, ?_, ?_⟩
 ·rw [Below.heap_alloc _ _ _ (by simp)];exact heap_alloc_self _ _
 ·rw [show w.heap.size + 1 = (w.alloc (.cells noMsg.cells 102)).heap.size from by simp];exact heap_alloc_self _ _
theorem Two.putOne {w u : World} {x y : Msg} (h : Two w x y u) (z : Msg) : Two w z y (putL u w.heap.size 0 z.cells.toList) :=
 have hk := putL_kept z.cells.toList u w.heap.size 0
 ⟨h.bel.trans (hk.below h.bel.size (fun k e => by omega)), putL_whole _ h.one rfl, by rw [hk.block _ (block_lt h.two) (by omega)]; exact h.two⟩
theorem Two.putTwo {w u : World} {x y : Msg} (h : Two w x y u) (z : Msg) : Two w x z (putL u (w.heap.size + 1) 0 z.cells.toList) :=
 have hk := putL_kept z.cells.toList u (w.heap.size + 1) 0
 ⟨h.bel.trans (hk.below h.bel.size (fun k e => by omega)), by rw [hk.block _ (block_lt h.one) (by omega)]; exact h.one, putL_whole _ h.two rfl⟩
theorem Two.alloc {w u : World} {x y : Msg} (h : Two w x y u) (o : Obj) : Two w x y (u.alloc o) := by
 have h1 := block_lt h.one
 have h2 := block_lt h.two
 exact ⟨h.bel.alloc h.bel.size _, by rw [Below.heap_alloc _ _ _ h1]; exact h.one, by rw [Below.heap_alloc _ _ _ h2]; exact h.two⟩
theorem leg_any (id l : Nat) (hid : id < 4294967296) (hl8 : l < 256) (w : World) (B node : Nat) (evs : List Ev) (v : Value) (hR : RB w B node evs v) (hok : ∀ e, e ∈ evs → e.ok) (hlen : evs.length ≤ 1000000) :
  Calls Tryz.prog 82 #[.pointer (some ⟨B, 0, none⟩), .int .u32 (id : Int), .int .u8 (l : Int)] w fun e w' =>
   e = .returned (.tuple #[.int .i64 ((legOf id l evs).1 : Int), (legOf id l evs).2.1.v, .bool (legOf id l evs).2.2]) ∧ Below w.heap.size w w' := by
 obtain ⟨ad, cap, hv, hev⟩ := hR.form
 subst hv
 go_enter Tryz.func82, Tryz.ntmps82
 go_wp2
 go_loopw [9, 11, 12] (fun x z c u => ∃ k : Nat, k ≤ evs.length ∧ c = .int .i64 k ∧ x = .int .i64 ((legOf id l (evs.take k)).1 : Int) ∧ z = .bool (legOf id l (evs.take k)).2.2 ∧ Two w noMsg (legOf id l (evs.take k)).2.1 u) (fun _ _ c _ => evs.length - (intOf c).toNat)
 case atStart => exact ⟨0, Nat.zero_le _, rfl, rfl, rfl, Two.mk0 w⟩
 case round =>
  obtain ⟨k, hk, rfl, rfl, rfl, hT⟩ := hrel;have hb := hT.bel;have hRu := hR.below hb;have hc : ∀ o, _ = _ := fun o => cell_at hRu.blk o;have hm : ∀ o, _ = _ := fun o => cell_at hT.two o;have hfm : ∀ o, _ = _ := fun o => frozen_at hT.two o;have hm0 : ∀ o, _ = _ := fun o => cell_at hT.one o;have hfm0 : ∀ o, _ = _ := fun o => frozen_at hT.one o;have hl1 := block_lt hT.one;have hl2 := block_lt hT.two;by_cases hlt : k < evs.length
  ·obtain ⟨ad', cap', hv', hev'⟩ := hRu.form;obtain ⟨g, hg, hcell, _⟩ := hev' k hlt;have ead : ad = ad' := by injection hv'
   subst ead;subst hg;have hs : Hid (legOf id l (evs.take (k + 1)) = legStep id l (legOf id l (evs.take k)) evs[k]) := hide (by rw [take_snoc_ev evs k hlt, legOf_snoc]);have c0 := hcell 0 (by decide);have c1 := hcell 1 (by decide);have c2 := hcell 2 (by decide);have c3 := hcell 3 (by decide);have c4 := hcell 4 (by decide);have c5 := hcell 5 (by decide);have c6 := hcell 6 (by decide);have c7 := hcell 7 (by decide);have c8 := hcell 8 (by decide);have c9 := hcell 9 (by decide);have c10 := hcell 10 (by decide);have hek := hok evs[k] (List.getElem_mem hlt);clear hcell hev hev' hv';generalize legOf id l (evs.take k) = S at *;generalize evs[k] = E at *;obtain ⟨kind, ⟨mk, mf, mt, mi, ml, mp, mg, ma, mm⟩, held⟩ := E;obtain ⟨s1, ⟨nk, nf, nt, ni, nl, np, ng, na, nm⟩, s3⟩ := S;obtain ⟨hk4, hmk, hmf, hmt, hmi, hml, hmp, hmg, hma⟩ := hek;simp only [Ev.cells, List.getElem?_cons_zero, List.getElem?_cons_succ, Nat.add_zero] at c0 c1 c2 c3 c4 c5 c6 c7 c8 c9 c10 hk4 hmk hmf hmt hmi hml hmp hmg hma;simp only [Msg.cells] at hm hm0;by_cases hz : kind = 0
   ·have dz : ((kind : Int) == 0) = true := by simp; omega
    have hq : Hid (legOf id l (evs.take (k + 1)) = (s1, ⟨nk, nf, nt, ni, nl, np, ng, na, nm⟩, s3)) := hide (by rw [hs.out]; simp [legStep, hz]);clear hs hz;go_wp2;exact ⟨⟨k + 1, hlt, by go_num, by rw [hq.out], by rw [hq.out], by rw [hq.out]; exact hT.alloc _⟩, by simp [intOf]; omega⟩
   ·have dz : ((kind : Int) == 0) = false := by simp; omega
    by_cases hi : mi = id
    ·have di : ((mi : Int) != (id : Int)) = false := by simp; omega
     by_cases hl : ml = l
     ·have dl : ((ml : Int) != (l : Int)) = false := by simp; omega
      by_cases h1 : kind = 1
      ·have d1 : ((kind : Int) == 1) = true := by simp; omega
       cases held with
       | true =>
        have hq : Hid (legOf id l (evs.take (k + 1)) = (1, ⟨mk, mf, mt, mi, ml, mp, mg, ma, mm⟩, true)) := hide (by rw [hs.out]; simp [legStep, hi, hl, h1]);clear hs hz hi hl h1;go_wp2;exact ⟨⟨k + 1, hlt, by go_num, by rw [hq.out]; rfl, by rw [hq.out], by rw [hq.out]; exact (hT.putTwo ⟨mk, mf, mt, mi, ml, mp, mg, ma, mm⟩).alloc _⟩, by simp [intOf]; omega⟩
       | false =>
        have hq : Hid (legOf id l (evs.take (k + 1)) = (2, ⟨mk, mf, mt, mi, ml, mp, mg, ma, mm⟩, true)) := hide (by rw [hs.out]; simp [legStep, hi, hl, h1]);clear hs hz hi hl h1;go_wp2;exact ⟨⟨k + 1, hlt, by go_num, by rw [hq.out]; rfl, by rw [hq.out], by rw [hq.out]; exact (hT.putTwo ⟨mk, mf, mt, mi, ml, mp, mg, ma, mm⟩).alloc _⟩, by simp [intOf]; omega⟩
      ·have d1 : ((kind : Int) == 1) = false := by simp; omega
       by_cases h2 : kind = 2
       ·have d2 : ((kind : Int) == 2) = true := by simp; omega
        have hq : Hid (legOf id l (evs.take (k + 1)) = (3, ⟨nk, nf, nt, ni, nl, np, ng, na, nm⟩, s3)) := hide (by rw [hs.out]; simp [legStep, hi, hl, h2]);clear hs hz hi hl h1 h2;go_wp2;exact ⟨⟨k + 1, hlt, by go_num, by rw [hq.out]; rfl, by rw [hq.out], by rw [hq.out]; exact hT.alloc _⟩, by simp [intOf]; omega⟩
       ·have d2 : ((kind : Int) == 2) = false := by simp; omega
        have hq : Hid (legOf id l (evs.take (k + 1)) = (4, ⟨nk, nf, nt, ni, nl, np, ng, na, nm⟩, s3)) := hide (by rw [hs.out]; simp [legStep, hz, hi, hl, h1, h2]);clear hs hz hi hl h1 h2;go_wp2;exact ⟨⟨k + 1, hlt, by go_num, by rw [hq.out]; rfl, by rw [hq.out], by rw [hq.out]; exact hT.alloc _⟩, by simp [intOf]; omega⟩
     ·have dl : ((ml : Int) != (l : Int)) = true := by simp; omega
      have hq : Hid (legOf id l (evs.take (k + 1)) = (s1, ⟨nk, nf, nt, ni, nl, np, ng, na, nm⟩, s3)) := hide (by rw [hs.out]; simp [legStep, hl]);clear hs hz hi hl;go_wp2;exact ⟨⟨k + 1, hlt, by go_num, by rw [hq.out], by rw [hq.out], by rw [hq.out]; exact hT.alloc _⟩, by simp [intOf]; omega⟩
    ·have di : ((mi : Int) != (id : Int)) = true := by simp; omega
     have hq : Hid (legOf id l (evs.take (k + 1)) = (s1, ⟨nk, nf, nt, ni, nl, np, ng, na, nm⟩, s3)) := hide (by rw [hs.out]; simp [legStep, hi]);clear hs hz hi;go_wp2;exact ⟨⟨k + 1, hlt, by go_num, by rw [hq.out], by rw [hq.out], by rw [hq.out]; exact hT.alloc _⟩, by simp [intOf]; omega⟩
  ·obtain rfl : k = evs.length := by omega
   simp only [List.take_length] at hT hm ⊢;have hbd := legOf_ok id l evs hok;clear hev;generalize hS : legOf id l evs = S at *;have HS := hide hS;clear hS;obtain ⟨s1, z, s3⟩ := S;have hT2 := hT.putOne z;obtain ⟨nk, nf, nt, ni, nl, np, ng, na, nm⟩ := z;simp only [Msg.cells, noMsg] at hm hm0 hT2;go_wp2
   go_region
   go_wp2;have hc2 := fun o => cell_at hT2.one o;have hb2 := hT2.bel;simp only [putL, Msg.cells] at hc2 hb2;generalize World.setCell _ _ _ = u at *;exact bodyPost_ret (v := .tuple #[.int .i64 (s1 : Int), .agg #[.int .u8 (nk : Int), .int .u8 (nf : Int), .int .u8 (nt : Int), .int .u32 (ni : Int), .int .u8 (nl : Int), .int .u16 (np : Int), .int .u16 (ng : Int), .int .u32 (na : Int), .string (bs nm)], .bool s3]) (by simp [results, Tryz.results82, go_sem, hc2]) rfl ⟨by rw [HS.out]; rfl, hb2.drew⟩
theorem bytes_laid2 (w : World) (F : List UInt8) : ∃ (W : World) (cap : Nat),
  (∀ ty : World, ty = w → (convert 9 193 (.string (bs F))).run Tryz.prog ty = .ok (.slice (some ⟨w.heap.size, 0, none⟩) F.length cap) W) ∧
  Below w.heap.size w W ∧ W.heap.size = w.heap.size + 1 ∧ (∀ j, j < F.length → W.cell? ⟨w.heap.size, j, none⟩ = some (.int .u8 ((F.getD j 0).toNat : Int))) ∧ (∀ j, j < F.length → W.frozen? ⟨w.heap.size, j, none⟩ = false) := by
 have hsz := bs_size F
 have hcs : F.length ≤ (Lib.bytesCells w 5 (bs F)).size := by
  have e : (bs F).data.size = F.length := by simp [bs]
  simp [Lib.bytesCells, e]
 refine ⟨Lib.bytesWorld w 5 (bs F), grownCap w F.length 0 5, fun ty h => ?_, ?_, Lib.bytesWorld_size _ _ _, fun j hj => ?_, fun j hj => ?_⟩
 ·subst h;have h := Lib.run_convert_string_bytes (P := Tryz.prog) ty 9 193 5 (bs F) Tryz.underlying9 Tryz.underlying193 Tryz.underlying5;rw [hsz] at h;exact h
 ·exact ⟨rfl, rfl, rfl, by rw [Lib.bytesWorld_size]; omega, fun k hk => Lib.bytesWorld_at_old _ _ _ k hk⟩
 ·have h := Lib.bytesWorld_cell w 5 (bs F) j (by rw [hsz]; exact hj);rw [bs_data] at h;exact h
 ·unfold World.frozen?;rw [Lib.bytesWorld_at_new];simp;omega
theorem bytes_read (W : World) (N cap : Nat) (F : List UInt8) (hc : ∀ j, j < F.length → W.cell? ⟨N, j, none⟩ = some (.int .u8 ((F.getD j 0).toNat : Int))) :
  (convert 193 9 (.slice (some ⟨N, 0, none⟩) F.length cap)).run Tryz.prog W = .ok (.string (bs F)) W := by
 have h := run_convert_bytes_arg (P := Tryz.prog) W 193 5 Tryz.underlying193 Tryz.underlying5 N 0 F.length cap (F.map fun b => (b.toNat : Int)) (by simp) (fun j hj => by
  rw [Nat.zero_add, hc j hj]
  simp [List.getD_eq_getElem?_getD, List.getElem?_eq_getElem hj]) 9 Tryz.underlying9
 have hid : ((fun n : Int => UInt8.ofNat n.toNat) ∘ fun b : UInt8 => (b.toNat : Int)) = id := by
  funext b
  simp
 have e : strOfNums (F.map fun b => (b.toNat : Int)) = bs F := by rw [strOfNums_bs, List.map_map, hid, List.map_id]
 rw [h, e]
theorem termsOf_any (k f t i l p g a : Nat) (m : List UInt8) (hm : m.length ≤ 64) (kk : Int) (w : World) :
  Calls Tryz.prog 166 #[.agg #[.int .u8 kk, .int .u8 (f : Int), .int .u8 (t : Int), .int .u32 (i : Int), .int .u8 (l : Int), .int .u16 (p : Int), .int .u16 (g : Int), .int .u32 (a : Int), .string (bs m)]] w fun e w' => e = .returned (.agg #[.int .u16 (p : Int), .int .u16 (g : Int), .int .u32 (a : Int), .string (bs m)]) ∧ Below w.heap.size w w' := by
 obtain ⟨W, cap, h1, h2, h3, h4, h5⟩ := bytes_laid2 ((w.alloc (.cells #[.int .u8 kk, .int .u8 (f : Int), .int .u8 (t : Int), .int .u32 (i : Int), .int .u8 (l : Int), .int .u16 (p : Int), .int .u16 (g : Int), .int .u32 (a : Int), .string (bs m)] 102)).alloc (.cells #[.int .u16 0, .int .u16 0, .int .u32 0, .string ⟨#[]⟩] 149)) m
 have h6 := bytes_read W _ cap m h4
 have h1' := h1 _ rfl
 have hN : ((w.alloc (.cells #[.int .u8 kk, .int .u8 (f : Int), .int .u8 (t : Int), .int .u32 (i : Int), .int .u8 (l : Int), .int .u16 (p : Int), .int .u16 (g : Int), .int .u32 (a : Int), .string (bs m)] 102)).alloc (.cells #[.int .u16 0, .int .u16 0, .int .u32 0, .string ⟨#[]⟩] 149)).heap.size = w.heap.size + 1 + 1 := by simp
 rw [hN] at h1' h6 h3
 have B2 : W.heap[w.heap.size]? = some (.cells #[.int .u8 kk, .int .u8 (f : Int), .int .u8 (t : Int), .int .u32 (i : Int), .int .u8 (l : Int), .int .u16 (p : Int), .int .u16 (g : Int), .int .u32 (a : Int), .string (bs m)] 102 (0, 0)) := by
  rw [h2.block _ (by rw [hN]; omega), Below.heap_alloc _ _ _ (by simp)];exact heap_alloc_self _ _
 have B3 : W.heap[w.heap.size + 1]? = some (.cells #[.int .u16 0, .int .u16 0, .int .u32 0, .string ⟨#[]⟩] 149 (0, 0)) := by
  rw [h2.block _ (by rw [hN]; omega)];have e : w.heap.size + 1 = (w.alloc (.cells #[.int .u8 kk, .int .u8 (f : Int), .int .u8 (t : Int), .int .u32 (i : Int), .int .u8 (l : Int), .int .u16 (p : Int), .int .u16 (g : Int), .int .u32 (a : Int), .string (bs m)] 102)).heap.size := by simp
  rw [e];exact heap_alloc_self _ _
 have hbel : Below w.heap.size w W := (((Below.refl _ _).alloc (Nat.le_refl _) _).alloc (by simp) _).trans (h2.mono (by rw [hN]; omega))
 have hc2 : ∀ o, _ = _ := fun o => cell_at B2 o
 have hc3 : ∀ o, _ = _ := fun o => cell_at B3 o
 have hf3 : ∀ o, _ = _ := fun o => frozen_at B3 o
 have hl3 := block_lt B3
 have hP := putL_whole [.int .u16 (p : Int), .int .u16 (g : Int), .int .u32 (a : Int), .string (bs m)] B3 rfl
 have hB := hbel.trans ((putL_kept [.int .u16 (p : Int), .int .u16 (g : Int), .int .u32 (a : Int), .string (bs m)] W (w.heap.size + 1) 0).below hbel.size (fun k e => by omega))
 clear h1 h2 h4 h5 hN B2 B3 hbel
 go_enter Tryz.func166, Tryz.ntmps166
 go_wp2
 have hq := fun o => cell_at hP o
 simp only [putL] at hq hB
 generalize World.setCell _ _ _ = u at *
 exact bodyPost_ret (v := .agg #[.int .u16 (p : Int), .int .u16 (g : Int), .int .u32 (a : Int), .string (bs m)]) (by simp [results, Tryz.results166, go_sem, hq]) rfl ⟨rfl, hB⟩
theorem new_any (n : Nat) (hn : n < 256) (w : World) :
  Calls Tryz.prog 37 #[.int .u8 (n : Int)] w fun e w' => (e = if bankB n then .returned (.tuple #[.agg #[.int .u8 (n : Int), .slice none 0 0, .slice none 0 0], .int .i64 0]) else .returned (.tuple #[.agg #[.int .u8 0, .slice none 0 0, .slice none 0 0], .int .i64 4])) ∧ Below w.heap.size w w' := by
 have hI := hide (fun u => isBank_any n hn u)
 generalize bankB n = bb at *
 cases bb with
 | true =>
  simp only [if_true];go_enter Tryz.func37, Tryz.ntmps37;go_wp2_with fail
  refine (hI.out _).mono ?_;rintro e w1 ⟨rfl, rfl⟩;clear hI;go_wp2;exact bodyPost_ret (v := .tuple #[.agg #[.int .u8 (n : Int), .slice none 0 0, .slice none 0 0], .int .i64 0]) (by simp [results, Tryz.results37, go_sem]) rfl ⟨rfl, (Below.refl _ _).alloc (Nat.le_refl _) _⟩
 | false =>
  simp only [Bool.false_eq_true, if_false];go_enter Tryz.func37, Tryz.ntmps37;go_wp2_with fail
  refine (hI.out _).mono ?_;rintro e w1 ⟨rfl, rfl⟩;clear hI;go_wp2;exact bodyPost_ret (v := .tuple #[.agg #[.int .u8 0, .slice none 0 0, .slice none 0 0], .int .i64 4]) (by simp [results, Tryz.results37, go_sem]) rfl ⟨rfl, (Below.refl _ _).alloc (Nat.le_refl _) _⟩
theorem _root_.Go.RowKit.Below.drewN {B : Nat} {a w : World} (h : Below B a w) (n : Nat) : Below B a (w.drewN n) := ⟨h.os, h.tape, h.output, h.size, h.block⟩
theorem first_any (i : Nat) (w : World) (B node : Nat) (evs : List Ev) (v : Value) (hR : RB w B node evs v) (hok : ∀ e, e ∈ evs → e.ok) (hlen : evs.length ≤ 1000000) (hi : i < evs.length) :
  Calls Tryz.prog 117 #[.pointer (some ⟨B, 0, none⟩), .int .i64 (i : Int)] w fun e w' =>
   e = .returned (.bool (firstB evs i)) ∧ Below w.heap.size w w' := by
 obtain ⟨ad, cap, hv, hev⟩ := hR.form
 subst hv
 obtain ⟨g, hg, hcell, _⟩ := hev i hi
 subst hg
 have hc : ∀ o, _ = _ := fun o => cell_at hR.blk o
 have i0 := hcell 0 (by decide)
 have hfe := hide (firstB_at hi)
 have hei := hok evs[i] (List.getElem_mem hi)
 have hgi : (i : Int) < (evs.length : Int) := by omega
 clear hcell
 generalize hE : evs[i] = E at *
 have HE := hide hE
 clear hE
 obtain ⟨kind, ⟨ik, jf, it, ii, il, ip, ig, ia, im⟩, iheld⟩ := E
 obtain ⟨ik4, imk, imf, imt, imi, iml, imp, img, ima⟩ := hei
 simp only [Ev.cells, List.getElem?_cons_zero, Nat.add_zero] at i0 ik4 imk imf imt imi iml imp img ima
 by_cases hz : kind = 0
 ·have dz : ((kind : Int) == 0) = true := by simp; omega
  have hq : Hid (firstB evs i = false) := hide (by rw [hfe.out]; simp [hz]);clear hz hfe hev;go_enter Tryz.func117, Tryz.ntmps117;go_wp2;go_ret;exact ⟨by rw [hq.out]; rfl, Below.refl _ _⟩
 ·have dz : ((kind : Int) == 0) = false := by simp; omega
  have hfe2 : Hid (firstB evs i = (evs.take i).all fun x => !ofLeg ii il x) := hide (by rw [hfe.out]; simp [hz]);clear hz hfe;go_enter Tryz.func117, Tryz.ntmps117;go_wp2
  go_loopw [5] (fun c u => ∃ k : Nat, k ≤ i ∧ c = .int .i64 k ∧ ((evs.take k).all fun x => !ofLeg ii il x) = true ∧ Below w.heap.size w u) (fun c _ => i - (intOf c).toNat)
  case atStart => exact ⟨0, Nat.zero_le _, rfl, rfl, Below.refl _ _⟩
  case round =>
   obtain ⟨k, hk, rfl, hall, hb⟩ := hrel;replace hall := hide hall;have hRu := hR.below hb;clear hc i0;have hc : ∀ o, _ = _ := fun o => cell_at hRu.blk o;by_cases hlt : k < i
   ·have hkl : k < evs.length := by omega
    obtain ⟨ad', cap', hv', hev'⟩ := hRu.form;obtain ⟨g', hg, hcell, _⟩ := hev' k hkl;obtain ⟨g2, hg2, icell, _⟩ := hev' i hi;have ead : some ⟨g, 0, none⟩ = ad' := by injection hv'
    subst ead;obtain rfl : g = g' := by injection hg with h; injection h
    obtain rfl : g = g2 := by injection hg2 with h; injection h
    rw [HE.out] at icell;have hBl := hRu.lt;have hgl : g < wr.heap.size := hRu.row.lt rfl;have i0 := icell 0 (by decide);have i4 := icell 4 (by decide);have i5 := icell 5 (by decide);have hs : Hid (((evs.take (k + 1)).all fun x => !ofLeg ii il x) = (((evs.take k).all fun x => !ofLeg ii il x) && !ofLeg ii il evs[k])) := hide (by rw [take_snoc_ev evs k hkl, List.all_append]; simp only [List.all_cons, List.all_nil, Bool.and_true]);have hmem : Hid (evs[k] ∈ evs.take i) := hide (by rw [List.mem_take_iff_getElem]; exact ⟨k, by omega, rfl⟩);have c0 := hcell 0 (by decide);have c1 := hcell 1 (by decide);have c2 := hcell 2 (by decide);have c3 := hcell 3 (by decide);have c4 := hcell 4 (by decide);have c5 := hcell 5 (by decide);have c6 := hcell 6 (by decide);have c7 := hcell 7 (by decide);have c8 := hcell 8 (by decide);have c9 := hcell 9 (by decide);have c10 := hcell 10 (by decide);have hek := hok evs[k] (List.getElem_mem hkl);clear hcell icell hev hev' hv' hg hg2 HE;generalize evs[k] = E at *;obtain ⟨kk, ⟨mk, mf, mt, mi, ml, mp, mg, ma, mm⟩, held⟩ := E;obtain ⟨hk4, hmk, hmf, hmt, hmi, hml, hmp, hmg, hma⟩ := hek;simp only [Ev.cells, List.getElem?_cons_zero, List.getElem?_cons_succ, Nat.add_zero] at i0 i4 i5 c0 c1 c2 c3 c4 c5 c6 c7 c8 c9 c10 hk4 hmk hmf hmt hmi hml hmp hmg hma;by_cases hkz : kk = 0
    ·have ek : ((kk : Int) != 0) = false := by simp; omega
     have hq : Hid (((evs.take (k + 1)).all fun x => !ofLeg ii il x) = true) := hide (by rw [hs.out, hall.out]; simp [ofLeg, hkz]);clear hs hkz hmem;go_wp2;go_quiet (fail)
     go_wp2;exact ⟨⟨k + 1, hlt, by go_num, hq.out, (hb.alloc hb.size _).drewN _⟩, by simp [intOf]; omega⟩
    ·have ek : ((kk : Int) != 0) = true := by simp; omega
     by_cases hmi2 : mi = ii
     ·have ei : ((mi : Int) == (ii : Int)) = true := by simp; omega
      by_cases hml2 : ml = il
      ·have el : ((ml : Int) == (il : Int)) = true := by simp; omega
       have hq : Hid (firstB evs i = false) := hide (by
        rw [hfe2.out, List.all_eq_false]
        exact ⟨_, hmem.out, by simp [ofLeg, hkz, hmi2, hml2]⟩)
       clear hs hkz hmi2 hml2 hmem;go_wp2;go_quiet (fail)
       go_wp2;go_ret;exact ⟨by rw [hq.out]; rfl, (hb.alloc hb.size _).drewN _⟩
      ·have el : ((ml : Int) == (il : Int)) = false := by simp; omega
       have hq : Hid (((evs.take (k + 1)).all fun x => !ofLeg ii il x) = true) := hide (by rw [hs.out, hall.out]; simp [ofLeg, hml2]);clear hs hkz hmi2 hml2 hmem;go_wp2;go_quiet (fail)
       go_wp2;exact ⟨⟨k + 1, hlt, by go_num, hq.out, (hb.alloc hb.size _).drewN _⟩, by simp [intOf]; omega⟩
     ·have ei : ((mi : Int) == (ii : Int)) = false := by simp; omega
      have hq : Hid (((evs.take (k + 1)).all fun x => !ofLeg ii il x) = true) := hide (by rw [hs.out, hall.out]; simp [ofLeg, hmi2]);clear hs hkz hmi2 hmem;go_wp2;go_quiet (fail)
      go_wp2;exact ⟨⟨k + 1, hlt, by go_num, hq.out, (hb.alloc hb.size _).drewN _⟩, by simp [intOf]; omega⟩
   ·obtain rfl : k = i := by omega
    have hq : Hid (firstB evs k = true) := hide (by rw [hfe2.out]; exact hall.out);go_wp2;go_ret;exact ⟨by rw [hq.out]; rfl, hb⟩
theorem kept_any (w : World) (B node : Nat) (evs : List Ev) (v : Value) (hR : RB w B node evs v) (hok : ∀ e, e ∈ evs → e.ok) (hlen : evs.length ≤ 1000000) :
  Calls Tryz.prog 118 #[.pointer (some ⟨B, 0, none⟩)] w fun e w' =>
   e = .returned (.int .i64 ((keysOf evs).length : Int)) ∧ Below w.heap.size w w' := by
 obtain ⟨ad, cap, hv, hev⟩ := hR.form
 subst hv
 clear hev
 go_enter Tryz.func118, Tryz.ntmps118
 go_wp2
 go_loopw [3, 4] (fun x c u => ∃ k : Nat, k ≤ evs.length ∧ c = .int .i64 k ∧ x = .int .i64 ((keysTo evs k).length : Int) ∧ Below w.heap.size w u) (fun _ c _ => evs.length - (intOf c).toNat)
 case atStart => exact ⟨0, Nat.zero_le _, rfl, rfl, Below.refl _ _⟩
 case round =>
  obtain ⟨k, hk, rfl, rfl, hb⟩ := hrel;have hRu := hR.below hb;have hc : ∀ o, _ = _ := fun o => cell_at hRu.blk o;have hkl := keysTo_length evs k;by_cases hlt : k < evs.length
  ·have hy := hide (@keysTo_yes evs k hlt);have hn := hide (@keysTo_no evs k hlt);have hF := hide (first_any k wr B node evs _ hRu hok hlen hlt);generalize hf : firstB evs k = fv at *;clear hf;go_wp2_with fail
   refine hF.out.mono ?_;rintro e w1 ⟨rfl, hb1⟩;have hb2 := hb.trans (hb1.mono hb.size)
   have hq : Hid ((keysTo evs (k + 1)).length = (keysTo evs k).length + (if fv then 1 else 0)) := hide (by
    cases fv with
    | true => rw [hy.out rfl]; simp
    | false => rw [hn.out rfl]; simp)
   clear hy hn hF hb1 hc;cases fv with
   | true =>
    go_wp2;exact ⟨⟨k + 1, hlt, by go_num, by rw [hq.out]; go_num, hb2⟩, by simp [intOf]; omega⟩
   | false =>
    go_wp2;exact ⟨⟨k + 1, hlt, by go_num, by rw [hq.out]; rfl, hb2⟩, by simp [intOf]; omega⟩
  ·obtain rfl : k = evs.length := by omega
   go_wp2;go_ret;exact ⟨rfl, hb⟩
theorem amt_cases (a t1 : Nat) (m : Msg) (t3 : Bool) : ∃ b3 b1 bp bg : Bool, ((t1 : Int) == 3) = b3 ∧ ((t1 : Int) == 1) = b1 ∧ ((m.p : Int) == (a : Int)) = bp ∧ ((m.g : Int) == (a : Int)) = bg ∧
  amtGet 3 a (t1, m, t3) = (if t3 && b3 && bg then m.a else 0) ∧ amtPay 3 a (t1, m, t3) = (if t3 && b3 && bp then m.a else 0) ∧ amtPay 1 a (t1, m, t3) = (if t3 && b1 && bp then m.a else 0) ∧ amtGet 1 a (t1, m, t3) = (if t3 && b1 && bg then m.a else 0) ∧
  (t3 = false ∨ (t3 = true ∧ b3 = false ∧ b1 = false) ∨ (t3 = true ∧ ((b3 = true ∧ b1 = false) ∨ (b3 = false ∧ b1 = true)) ∧ ((bp = true ∧ bg = true) ∨ (bp = true ∧ bg = false) ∨ (bp = false ∧ bg = true) ∨ (bp = false ∧ bg = false)))) := by
 have e3 : ((t1 : Int) == 3) = decide (t1 = 3) := by rw [Bool.eq_iff_iff]; simp; omega
 have e1 : ((t1 : Int) == 1) = decide (t1 = 1) := by rw [Bool.eq_iff_iff]; simp; omega
 have ep : ((m.p : Int) == (a : Int)) = decide (m.p = a) := by rw [Bool.eq_iff_iff]; simp; omega
 have eg : ((m.g : Int) == (a : Int)) = decide (m.g = a) := by rw [Bool.eq_iff_iff]; simp; omega
 refine ⟨_, _, _, _, e3, e1, ep, eg, ?_, ?_, ?_, ?_, ?_⟩
 all_goals first | (simp [amtGet, amtPay, and_assoc]; done) | (by_cases h3 : t1 = 3 <;> by_cases h1 : t1 = 1 <;> by_cases hp : m.p = a <;> by_cases hg : m.g = a <;> cases t3 <;> simp_all)
theorem funds_any (a : Nat) (ha : a < 65536) (w : World) (B node : Nat) (evs : List Ev) (v : Value) (hR : RB w B node evs v) (hok : ∀ e, e ∈ evs → e.ok) (hlen : evs.length ≤ 1000000)
  (hge : outOf a evs (keysOf evs) ≤ (openedOf a evs).1 + inOf a evs (keysOf evs)) :
  Calls Tryz.prog 81 #[.pointer (some ⟨B, 0, none⟩), .int .u16 (a : Int)] w fun e w' =>
   e = .returned (.tuple #[.int .u64 (((openedOf a evs).1 + inOf a evs (keysOf evs) - outOf a evs (keysOf evs) : Nat) : Int), .int .u64 (staysOf a evs (keysOf evs) : Int), .int .u64 (comesOf a evs (keysOf evs) : Int), .bool (openedOf a evs).2.1]) ∧ Below w.heap.size w w' := by
 have hO := hide (opened_any a ha w B node evs v hR hok hlen)
 have hbd := openedOf_bd a evs hok
 obtain ⟨ad, cap, hv, hev⟩ := hR.form
 subst hv
 clear hev
 replace hge := hide hge
 generalize hS : openedOf a evs = S at *
 replace hS := hide hS
 obtain ⟨s1, s2, s3⟩ := S
 go_enter Tryz.func81, Tryz.ntmps81
 go_wp2_with fail
 refine hO.out.mono ?_
 rintro e w1 ⟨rfl, hb1⟩
 clear hO
 go_wp2
 go_loopw [11, 12, 13, 14, 15] (fun x y z t c u => ∃ k : Nat, k ≤ evs.length ∧ c = .int .i64 k ∧ x = .int .u64 (inOf a evs (keysTo evs k) : Int) ∧ y = .int .u64 (outOf a evs (keysTo evs k) : Int) ∧ z = .int .u64 (staysOf a evs (keysTo evs k) : Int) ∧ t = .int .u64 (comesOf a evs (keysTo evs k) : Int) ∧ Below w.heap.size w u) (fun _ _ _ _ c _ => evs.length - (intOf c).toNat)
 case atStart => exact ⟨0, Nat.zero_le _, rfl, rfl, rfl, rfl, rfl, hb1⟩
 case round =>
  obtain ⟨k, hk, rfl, rfl, rfl, rfl, rfl, hb⟩ := hrel;have hRu := hR.below hb;have hc : ∀ o, _ = _ := fun o => cell_at hRu.blk o;have hkl := keysTo_length evs k;have hsb := sums_bd a evs hok (keysTo evs k) (by omega);by_cases hlt : k < evs.length
  ·have hy := hide (@keysTo_yes evs k hlt);have hn := hide (@keysTo_no evs k hlt);have hF := hide (first_any k wr B node evs _ hRu hok hlen hlt);generalize hf : firstB evs k = fv at *;clear hf;cases fv with
   | false =>
    have hq : Hid (keysTo evs (k + 1) = keysTo evs k) := hide (hn.out rfl);clear hy hn;go_wp2_with fail
    refine hF.out.mono ?_;rintro e w2 ⟨rfl, hb1⟩;have hb2 := hb.trans (hb1.mono hb.size);clear hF hb1 hc;go_wp2;exact ⟨⟨k + 1, hlt, by go_num, by rw [hq.out], by rw [hq.out], by rw [hq.out], by rw [hq.out], hb2⟩, by simp [intOf]; omega⟩
   | true =>
    have hq : Hid (keysTo evs (k + 1) = keysTo evs k ++ [(evs[k].msg.i, evs[k].msg.l)]) := hide (hy.out rfl);clear hy hn;go_wp2_with fail
    refine hF.out.mono ?_;rintro e w2 ⟨rfl, hb1⟩;have hb2 := hb.trans (hb1.mono hb.size);have hRv := hRu.below hb1;clear hF hb1 hc;have hc : ∀ o, _ = _ := fun o => cell_at hRv.blk o;obtain ⟨ad', cap', hv', hev'⟩ := hRv.form;obtain ⟨g, hg, hcell, _⟩ := hev' k hlt;have ead : ad = ad' := by injection hv'
    subst ead;subst hg;have c4 := hcell 4 (by decide);have c5 := hcell 5 (by decide);simp only [Ev.cells, List.getElem?_cons_zero, List.getElem?_cons_succ] at c4 c5;clear hcell hev' hv';have hBl : B < w2.heap.size := hRv.lt;have hgl : g < w2.heap.size := hRv.row.lt rfl;have hek := hok evs[k] (List.getElem_mem hlt);have hi4 := hek.2.2.2.2.1;have hl8 := hek.2.2.2.2.2.1;have hL := hide (fun u (hu : (u.cell? ⟨B, 1, none⟩ = some (.slice (some ⟨g, 0, none⟩) evs.length cap) ∧ u.cell? ⟨g, k * 11 + 4, none⟩ = some (.int .u32 (evs[k].msg.i : Int)) ∧ u.cell? ⟨g, k * 11 + 5, none⟩ = some (.int .u8 (evs[k].msg.l : Int))) ∧ Below w2.heap.size w2 u) => leg_any evs[k].msg.i evs[k].msg.l hi4 hl8 u B node evs _ (hRv.below hu.2) hok hlen);have hlo := legOf_ok evs[k].msg.i evs[k].msg.l evs hok;clear hek;generalize hii : evs[k].msg.i = ii at *;generalize hll : evs[k].msg.l = il at *;clear hii hll;generalize hT : legOf ii il evs = T at *;replace hT := hide hT;obtain ⟨t1, ⟨nk, nf, nt, ni, nl, np, ng, na, nm⟩, t3⟩ := T;simp only [Msg.v, Msg.cells] at hL;have hin : Hid (inOf a evs (keysTo evs (k + 1)) = inOf a evs (keysTo evs k) + amtGet 3 a (t1, ⟨nk, nf, nt, ni, nl, np, ng, na, nm⟩, t3)) := hide (by rw [hq.out, ← hT.out]; exact sumBy_snoc _ _ _);have hout : Hid (outOf a evs (keysTo evs (k + 1)) = outOf a evs (keysTo evs k) + amtPay 3 a (t1, ⟨nk, nf, nt, ni, nl, np, ng, na, nm⟩, t3)) := hide (by rw [hq.out, ← hT.out]; exact sumBy_snoc _ _ _);have hst : Hid (staysOf a evs (keysTo evs (k + 1)) = staysOf a evs (keysTo evs k) + amtPay 1 a (t1, ⟨nk, nf, nt, ni, nl, np, ng, na, nm⟩, t3)) := hide (by rw [hq.out, ← hT.out]; exact sumBy_snoc _ _ _);have hco : Hid (comesOf a evs (keysTo evs (k + 1)) = comesOf a evs (keysTo evs k) + amtGet 1 a (t1, ⟨nk, nf, nt, ni, nl, np, ng, na, nm⟩, t3)) := hide (by rw [hq.out, ← hT.out]; exact sumBy_snoc _ _ _);have c1 : w2.cell? ⟨B, 1, none⟩ = some (.slice (some ⟨g, 0, none⟩) evs.length cap) := hc 1;go_wp2_with fail
    go_region_held3 (fun u => (u.cell? ⟨B, 1, none⟩ = some (.slice (some ⟨g, 0, none⟩) evs.length cap) ∧ u.cell? ⟨g, k * 11 + 4, none⟩ = some (.int .u32 (ii : Int)) ∧ u.cell? ⟨g, k * 11 + 5, none⟩ = some (.int .u8 (il : Int))) ∧ Below w2.heap.size w2 u)
     (first
      | (with_reducible refine keep3_set hBl hgl hgl (by assumption) ?_; repeat (first | with_reducible exact Below.refl _ _ | with_reducible refine setHere ?_ (Nat.le_refl _)))
      | with_reducible exact keep3_drew ⟨c1, c4, c5⟩
      | with_reducible exact keep3_start hBl hgl hgl ⟨c1, c4, c5⟩ _
      | with_reducible exact keep3_alloc hBl hgl hgl (by assumption) _
      | with_reducible exact keep3_call hBl hgl hgl (by assumption) hb9
      | with_reducible exact keep3_again hBl hgl hgl hs9 _ (by assumption)
      | fail)
     (first
      | (go_at_call 82; refine (hL.out _ ?_).mono ?_; assumption; rintro e u2 ⟨rfl, hb9⟩; (try have hf9 : ∀ o, u2.frozen? ⟨w2.heap.size, o, none⟩ = false := fun o => fro_kept (undrew hb9) o); (try have hc9 : ∀ o, u2.cell? ⟨w2.heap.size, o, none⟩ = _ := fun o => cel_kept (undrew hb9) o); have hs9 : w2.heap.size ≤ u2.heap.size := (by first | exact hb9.size | exact Nat.le_of_lt (lt_kept (undrew hb9)))))
    focus
     have hB2 := (undrew hb9).alloc hs9 (.cells #[.int .u8 (nk : Int), .int .u8 (nf : Int), .int .u8 (nt : Int), .int .u32 (ni : Int), .int .u8 (nl : Int), .int .u16 (np : Int), .int .u16 (ng : Int), .int .u32 (na : Int), .string (bs nm)] 102);have hB3 := hb2.trans (hB2.mono hb2.size);have hm : ∀ o, (u2.alloc (.cells #[.int .u8 (nk : Int), .int .u8 (nf : Int), .int .u8 (nt : Int), .int .u32 (ni : Int), .int .u8 (nl : Int), .int .u16 (np : Int), .int .u16 (ng : Int), .int .u32 (na : Int), .string (bs nm)] 102)).cell? ⟨u2.heap.size, o, none⟩ = (#[.int .u8 (nk : Int), .int .u8 (nf : Int), .int .u8 (nt : Int), .int .u32 (ni : Int), .int .u8 (nl : Int), .int .u16 (np : Int), .int .u16 (ng : Int), .int .u32 (na : Int), .string (bs nm)] : Array Value)[o]? := fun o => World.cell?_alloc_new ..;clear hB2 hb9 hs9;generalize u2.alloc _ = u3 at hB3 hm ⊢;generalize u2.heap.size = mB at hm ⊢
    rotate_left 1
    focus
     have hk9 := putL_kept [.int .u8 (nk : Int), .int .u8 (nf : Int), .int .u8 (nt : Int), .int .u32 (ni : Int), .int .u8 (nl : Int), .int .u16 (np : Int), .int .u16 (ng : Int), .int .u32 (na : Int), .string (bs nm)] u2 w2.heap.size 0;have hB2 := (all_kept (undrew hb9)).trans (hk9.below hs9 (fun i e => by omega));have hB3 := hb2.trans (hB2.mono hb2.size);have hm := fun o => cell_at (putL_whole [.int .u8 (nk : Int), .int .u8 (nf : Int), .int .u8 (nt : Int), .int .u32 (ni : Int), .int .u8 (nl : Int), .int .u16 (np : Int), .int .u16 (ng : Int), .int .u32 (na : Int), .string (bs nm)] (blk_kept (undrew hb9)) rfl) o;clear hB2 hb9 hs9 hk9 hf9 hc9;simp only [putL] at hm hB3;generalize World.setCell _ _ _ = u3 at hB3 hm ⊢;generalize w2.heap.size = mB at hm ⊢
    all_goals (
     have hna : na < 4294967296 := hlo.2.2.2.2.2.2.2.2;have hnp : np < 65536 := hlo.2.2.2.2.2.2.1;have hng : ng < 65536 := hlo.2.2.2.2.2.2.2.1;have ht5 : t1 < 5 := hlo.1;obtain ⟨hb1', hb2', hb3', hb4'⟩ := hsb;have W1 : IntKind.u64.wrap ((inOf a evs (keysTo evs k) : Int) + (na : Int)) = ((inOf a evs (keysTo evs k) + na : Nat) : Int) := by rw [IntKind.wrap_u64]; omega
     have W2 : IntKind.u64.wrap ((outOf a evs (keysTo evs k) : Int) + (na : Int)) = ((outOf a evs (keysTo evs k) + na : Nat) : Int) := by rw [IntKind.wrap_u64]; omega
     have W3 : IntKind.u64.wrap ((staysOf a evs (keysTo evs k) : Int) + (na : Int)) = ((staysOf a evs (keysTo evs k) + na : Nat) : Int) := by rw [IntKind.wrap_u64]; omega
     have W4 : IntKind.u64.wrap ((comesOf a evs (keysTo evs k) : Int) + (na : Int)) = ((comesOf a evs (keysTo evs k) + na : Nat) : Int) := by rw [IntKind.wrap_u64]; omega
     clear hlo c1 c4 c5 hc hL hT hq hgl hBl hRv hRu hR hb hb2;obtain ⟨b3, b1, bp, bg, d3, d1, dp, dg, A1, A2, A3, A4, H⟩ := amt_cases a t1 ⟨nk, nf, nt, ni, nl, np, ng, na, nm⟩ t3;simp only at dp dg A1 A2 A3 A4;rw [A1] at hin;rw [A2] at hout;rw [A3] at hst;rw [A4] at hco;clear A1 A2 A3 A4;rcases H with rfl | ⟨rfl, rfl, rfl⟩ | ⟨rfl, ⟨rfl, rfl⟩ | ⟨rfl, rfl⟩, ⟨rfl, rfl⟩ | ⟨rfl, rfl⟩ | ⟨rfl, rfl⟩ | ⟨rfl, rfl⟩⟩
     all_goals (
      simp only [Bool.true_and, Bool.false_and, Bool.and_true, Bool.and_false, Bool.and_self, Bool.false_eq_true, if_true, if_false, Nat.add_zero] at hin hout hst hco;go_wp2;refine ⟨⟨k + 1, hlt, by go_num, ?_, ?_, ?_, ?_, hB3⟩, by simp [intOf]; omega⟩ <;> first | rw [hin.out] | rw [hout.out] | rw [hst.out] | rw [hco.out]
      all_goals go_num))
  ·obtain rfl : k = evs.length := by omega
   have hge' := hge.out;change outOf a evs (keysTo evs evs.length) ≤ s1 + inOf a evs (keysTo evs evs.length) at hge';have W0 : IntKind.u64.wrap ((s1 : Int) + (inOf a evs (keysTo evs evs.length) : Int) - (outOf a evs (keysTo evs evs.length) : Int)) = ((s1 + inOf a evs (keysTo evs evs.length) - outOf a evs (keysTo evs evs.length) : Nat) : Int) := by rw [IntKind.wrap_u64]; omega
   clear hge';go_wp2;exact bodyPost_ret (v := .tuple #[.int .u64 ((s1 + inOf a evs (keysTo evs evs.length) - outOf a evs (keysTo evs evs.length) : Nat) : Int), .int .u64 (staysOf a evs (keysTo evs evs.length) : Int), .int .u64 (comesOf a evs (keysTo evs evs.length) : Int), .bool s2]) (by simp [results, Tryz.results81]) rfl ⟨rfl, hb⟩
end Go.Proofs.YtjkhbjgfoopomabGreat
