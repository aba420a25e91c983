import Derived.Test.YtjkhbjgfoopomabGreatA28
import Derived.Test.YtjkhbjgfoopomabGreatA29
import Derived.Test.YtjkhbjgfoopomabGreatA21
import Derived.Test.YtjkhbjgfoopomabGreatA30
namespace Go.Proofs.YtjkhbjgfoopomabGreat
open Go.RowKit
set_option maxRecDepth 100000
set_option maxHeartbeats 4000000
set_option linter.unusedVariables false
set_option linter.unusedSimpArgs false
theorem hearX_fine {x : Xp} (h : x.fine) (k : Nat) {l : Nat} (hl : l < 4) : (hearX x k l).1.fine ∧ (hearX x k l).1.pm = x.pm := by
 have hw := withOf_lt x.held l h.held hl
 have hd := withOf_lt x.done l h.done hl
 unfold hearX prepX refX doneX
 split
 ·split
  ·split
   ·exact ⟨⟨⟨h.ok.1, by show (2 : Nat) < 256; omega, by show withOf x.held l < 256; omega, h.ok.2.2.2⟩, ⟨by show (1 : Nat) ≤ 2; omega, by show (2 : Nat) ≤ 3; omega⟩, h.memo, h.few, hw, h.done⟩, rfl⟩
   ·exact ⟨⟨⟨h.ok.1, h.ok.2.1, by show withOf x.held l < 256; omega, h.ok.2.2.2⟩, h.st, h.memo, h.few, hw, h.done⟩, rfl⟩
  ·exact ⟨h, rfl⟩
 ·split
  ·split
   ·exact ⟨h, rfl⟩
   ·split
    ·exact ⟨h, rfl⟩
    ·exact ⟨⟨⟨h.ok.1, by show (3 : Nat) < 256; omega, h.ok.2.2⟩, ⟨by show (1 : Nat) ≤ 3; omega, by show (3 : Nat) ≤ 3; omega⟩, h.memo, h.few, h.held, h.done⟩, rfl⟩
  ·split
   ·exact ⟨h, rfl⟩
   ·exact ⟨⟨⟨h.ok.1, h.ok.2.1, h.ok.2.2.1, by show withOf x.done l < 256; omega⟩, h.st, h.memo, h.few, h.held, hd⟩, rfl⟩
def sameSt (x y : Xp) : Prop := x.st = y.st ∧ x.held = y.held ∧ x.done = y.done
instance (x y : Xp) : Decidable (sameSt x y) := inferInstanceAs (Decidable (_ ∧ _ ∧ _))
def TakenX (w w' : World) (B ck : Nat) (ps : List Xp) (v : Value) (m : Msg) (x : Xp) (j : Nat) (e : Ending) : Prop :=
 if (hearX x m.k m.l).2.2 = 0 then ∃ lv, e = .returned (.tuple #[lv, .string (bs (if sameSt (hearX x m.k m.l).1 x then [] else frameOf m)), .int .i64 0]) ∧ XDHanded w w' B ck ps (ps.set j (hearX x m.k m.l).1) v v lv (hearX x m.k m.l).2.1
 else e = .returned (.tuple #[.slice none 0 0, .string ⟨#[]⟩, .int .i64 ((hearX x m.k m.l).2.2 : Int)]) ∧ XDTo w w' B ck ps ps v v
theorem xTaken_hear (s : ByteArray) (hs : s.size ≤ maxLen) (w : World) (B ck : Nat) (ps : List Xp) (v : Value) (hX : XD w B ck ps v) (hap : XDap B ps v) (hfine : ∀ y, y ∈ ps → y.fine) (hlen : ps.length ≤ 1000) (he0 : decErr s.data.toList = 0) (ht0 : (decMsg s.data.toList).t = 0) (hj : findX (decMsg s.data.toList).i ps < ps.length)
  (hhl : hasLegB ps[findX (decMsg s.data.toList).i ps].pm (decMsg s.data.toList).l (decMsg s.data.toList).f = true) :
  Calls Tryz.prog 113 #[.pointer (some ⟨B, 0, none⟩), .string s] w fun e w' => TakenX w w' B ck ps v (decMsg s.data.toList) ps[findX (decMsg s.data.toList).i ps] (findX (decMsg s.data.toList).i ps) e := by
 have hfn := fault_notary (decMsg_fault _ he0) ht0
 have hm64 := fault_zero_memo (decMsg_fault _ he0)
 have hD := hide (decode_any s hs)
 have hxok := decMsg_ok s.data.toList
 rw [he0] at hD
 clear he0
 generalize decMsg s.data.toList = x at *
 have hF := hide (fun u hu => xfind_any x.i hxok.2.2.2.1 u B ck ps v hu (fun y hy => (hfine y hy).ok) (by omega))
 have hmem := List.getElem_mem hj
 have hfx := hfine _ hmem
 have hH := hide (fun (u : World) b (hu : PBox u b ps[findX x.i ps]) => hasLeg_any ps[findX x.i ps] hfx.ok hfx.few x.l x.f hxok.2.2.2.2.1 hxok.2.1 u b hu)
 rw [hhl] at hH
 have hPb := hide (fun (u : World) (hb : Below w.heap.size w u) => box_of hX hmem hb)
 have hHr := hide (fun (u : World) b (hu : PBox u b ps[findX x.i ps]) (hn : ∀ g, ps[findX x.i ps].pm.lv.ownBlock = some g → g ≠ b) => hear_any ps[findX x.i ps] hfx x.k x.l hfn.1 hfn.2.1 u b hu hn)
 have hlgo : ∀ g, ps[findX x.i ps].pm.lv.ownBlock = some g → g < w.heap.size := fun g hg => (hX.legs _ hmem).lt hg
 have hmemX := hide hmem
 obtain ⟨hzf, hzp⟩ := hearX_fine hfx x.k hfn.2.1
 have hSp := hide (fun u => spell_any x hxok hm64 u)
 have hSt1 := hide (fun (u : World) b (hu : PBox u b ps[findX x.i ps]) => pstatus_any u b _ hfx.ok hu)
 have hSt2 := hide (fun (u : World) b (hu : PBox u b (hearX ps[findX x.i ps] x.k x.l).1) => pstatus_any u b _ hzf.ok hu)
 obtain ⟨ad, cap, hv, hev⟩ := hX.row.form Xp.cells_length
 obtain ⟨g', hg, hcell0, _⟩ := hev _ hj
 subst hg
 subst hv
 have hgl : g' < w.heap.size := hX.row.lt rfl
 clear hhl hmem
 replace hzf := hide hzf
 replace hfx := hide hfx
 unfold TakenX
 generalize hearX ps[findX x.i ps] x.k x.l = Z at *
 generalize ps[findX x.i ps] = E at *
 generalize findX x.i ps = j at *
 obtain ⟨⟨ei, ed, em, el, ea, ec⟩, es, eh, en⟩ := E
 obtain ⟨k, f, t, i, l, p, g, a, m⟩ := x
 obtain ⟨⟨⟨zi, zd, zm, zl, za, zc⟩, zs, zh, zn⟩, ZO, ZE⟩ := Z
 simp only [Msg.v, Msg.cells, Xp.cells] at hD ht0 hF hH hPb hSp hHr hSt1 hSt2 hzp ⊢
 subst ht0
 have d0 : decide ((j : Int) ≥ (ps.length : Int)) = false := by simp; omega
 have d0' : decide ((ps.length : Int) ≤ (j : Int)) = false := by simp; omega
 have hji : (j : Int) < (ps.length : Int) := by omega
 replace hxok := hide hxok
 generalize frameOf ⟨k, f, 0, i, l, p, g, a, m⟩ = FR at *
 go_enter Tryz.func113, Tryz.ntmps113
 go_wp2_with fail
 refine (hD.out _).mono ?_
 rintro e w1 ⟨rfl, hb⟩
 clear hD
 go_wp2_with fail
 have B1 := Box.mk0 w1 #[Value.int .u8 (k : Int), .int .u8 (f : Int), .int .u8 0, .int .u32 (i : Int), .int .u8 (l : Int), .int .u16 (p : Int), .int .u16 (g : Int), .int .u32 (a : Int), .string (bs m)] 102
 generalize World.alloc _ _ = W2 at B1 ⊢
 have hb2 := hb.trans (B1.bel.mono hb.size)
 have hX2 := hX.below hb2
 have hcB : ∀ o, W2.cell? ⟨B, o, none⟩ = (#[.int .u64 (ck : Int), .slice (some ⟨g', 0, none⟩) ps.length cap] : Array Value)[o]? := fun o => cell_at hX2.blk o
 have hBl := hX2.lt
 have hcm := B1.cell
 have hlm := B1.lt
 have hcell : ∀ o, o < 7 → W2.cell? ⟨g', j * 7 + o, none⟩ = (Xp.cells ⟨⟨ei, ed, em, el, ea, ec⟩, es, eh, en⟩)[o]? := fun o ho => (hb2.cell (p := ⟨g', j * 7 + o, none⟩) hgl).trans (hcell0 o ho)
 have c0 := hcell 0 (by decide)
 have c1 := hcell 1 (by decide)
 have c2 := hcell 2 (by decide)
 have c3 := hcell 3 (by decide)
 have c4 := hcell 4 (by decide)
 have c5 := hcell 5 (by decide)
 have c6 := hcell 6 (by decide)
 simp only [Xp.cells, List.getElem?_cons_zero, List.getElem?_cons_succ, Nat.add_zero] at c0 c1 c2 c3 c4 c5 c6
 replace hcell0 := hide hcell0
 clear hcell hev
 refine (hF.out _ hX2).mono ?_
 rintro e w3 ⟨rfl, rfl⟩
 clear hF
 have hPB := hide (hPb.out _ hb2)
 have hb4 := hide (hb2.alloc hb2.size (.cells #[.int .u32 (ei : Int), .int .u64 (ed : Int), .string (bs em), .slice ea el.length ec, .int .u8 (es : Int), .int .u8 (eh : Int), .int .u8 (en : Int)] 135))
 go_wp2_with fail
 refine (hH.out _ _ hPB.out).mono ?_
 rintro e w4 ⟨rfl, hb5⟩
 have hB5 := hide (hb4.out.trans (hb5.mono hb4.out.size))
 have hPB1 := hPB.out.below hb5
 have B4 := (B1.alloc (.cells #[.int .u32 (ei : Int), .int .u64 (ed : Int), .string (bs em), .slice ea el.length ec, .int .u8 (es : Int), .int .u8 (eh : Int), .int .u8 (en : Int)] 135)).below hb5
 have hcm4 := B4.cell
 have hlm4 := B4.lt
 have hc1 : ∀ o, w4.cell? ⟨w3.heap.size, o, none⟩ = (#[.int .u32 (ei : Int), .int .u64 (ed : Int), .string (bs em), .slice ea el.length ec, .int .u8 (es : Int), .int .u8 (eh : Int), .int .u8 (en : Int)] : Array Value)[o]? := fun o => cell_at hPB1.blk o
 have hl1 := hPB1.lt
 have hw4 := hB5.out.size
 have hPB2 : Hid (PBox (w4.alloc (.cells #[.int .u32 (ei : Int), .int .u64 (ed : Int), .string (bs em), .slice ea el.length ec, .int .u8 (es : Int), .int .u8 (eh : Int), .int .u8 (en : Int)] 135)) w4.heap.size ⟨⟨ei, ed, em, el, ea, ec⟩, es, eh, en⟩) := hide ⟨heap_alloc_self _ _, hPB1.legs.below ((Below.refl _ _).alloc (Nat.le_refl _) _)⟩
 have hn2 : ∀ q, (Value.slice ea el.length ec).ownBlock = some q → q ≠ w4.heap.size := fun q hq => by have := hlgo q hq; omega
 have B5 := B4.alloc (.cells #[.int .u32 (ei : Int), .int .u64 (ed : Int), .string (bs em), .slice ea el.length ec, .int .u8 (es : Int), .int .u8 (eh : Int), .int .u8 (en : Int)] 135)
 have hb6 := (Below.refl w4.heap.size w4).alloc (Nat.le_refl _) (.cells #[.int .u32 (ei : Int), .int .u64 (ed : Int), .string (bs em), .slice ea el.length ec, .int .u8 (es : Int), .int .u8 (eh : Int), .int .u8 (en : Int)] 135)
 have hP15 := hPB1.below hb6
 have hw5 : w4.heap.size < (w4.alloc (.cells #[.int .u32 (ei : Int), .int .u64 (ed : Int), .string (bs em), .slice ea el.length ec, .int .u8 (es : Int), .int .u8 (eh : Int), .int .u8 (en : Int)] 135)).heap.size := by simp
 have hB6 := hB5.out.trans (hb6.mono hw4)
 clear hH hPB c0 c1 c2 c3 c4 c5 c6 hcB hcm hPb hb4
 go_wp2_with fail
 refine (hHr.out _ _ hPB2.out hn2).mono ?_
 rintro e w6 ⟨lv, rfl, hH6⟩
 clear hHr hcm4 hc1 hPB2
 generalize w4.alloc (.cells #[.int .u32 (ei : Int), .int .u64 (ed : Int), .string (bs em), .slice ea el.length ec, .int .u8 (es : Int), .int .u8 (eh : Int), .int .u8 (en : Int)] 135) = A5 at *
 have hw1 := hb.size
 have hw3 := hb2.size
 have hBw6 : Below w.heap.size w w6 := hB6.trans (hH6.kept.below hB6.size (fun q e => by omega))
 have hX6 := hX.below hBw6
 by_cases hze : ZE = 0
 ·subst hze;have hP26 := hH6.box;have hc26 : ∀ o, w6.cell? ⟨w4.heap.size, o, none⟩ = (#[.int .u32 (zi : Int), .int .u64 (zd : Int), .string (bs zm), .slice za zl.length zc, .int .u8 (zs : Int), .int .u8 (zh : Int), .int .u8 (zn : Int)] : Array Value)[o]? := fun o => cell_at hP26.blk o;have hl26 := hP26.lt;have hcm6 : ∀ o, w6.cell? ⟨w1.heap.size, o, none⟩ = (#[.int .u8 (k : Int), .int .u8 (f : Int), .int .u8 0, .int .u32 (i : Int), .int .u8 (l : Int), .int .u16 (p : Int), .int .u16 (g : Int), .int .u32 (a : Int), .string (bs m)] : Array Value)[o]? := fun o => (hH6.kept.cell (p := ⟨w1.heap.size, o, none⟩) B5.lt (by show ¬ w1.heap.size = w4.heap.size; omega)).trans (B5.cell o);have hlm6 : w1.heap.size < w6.heap.size := Nat.lt_of_lt_of_le B5.lt hH6.kept.size
  have hb16 : w6.heap[w3.heap.size]? = some (.cells #[.int .u32 (ei : Int), .int .u64 (ed : Int), .string (bs em), .slice ea el.length ec, .int .u8 (es : Int), .int .u8 (eh : Int), .int .u8 (en : Int)] 135 (0, 0)) := by
   rw [hH6.kept.block _ hP15.lt (by show ¬ w3.heap.size = w4.heap.size; omega)];exact hP15.blk
  have hcB : ∀ o, w6.cell? ⟨B, o, none⟩ = (#[.int .u64 (ck : Int), .slice (some ⟨g', 0, none⟩) ps.length cap] : Array Value)[o]? := fun o => cell_at hX6.blk o;have hBl6 := hX6.lt;have hg6 : g' < w6.heap.size := Nat.lt_of_lt_of_le hgl hBw6.size;obtain ⟨adq, capq, hvq, hevq⟩ := hX6.row.form Xp.cells_length;obtain ⟨gq, hgq, hcq, hfro⟩ := hevq j hj;have eg : g' = gq := by rw [hgq] at hvq; injection hvq with h1; injection h1 with h1; injection h1 with h1
  subst eg;clear hevq hvq hgq hcq;have hcell : ∀ o, o < 7 → w6.cell? ⟨g', j * 7 + o, none⟩ = (Xp.cells ⟨⟨ei, ed, em, el, ea, ec⟩, es, eh, en⟩)[o]? := fun o ho => (hBw6.cell (p := ⟨g', j * 7 + o, none⟩) hgl).trans (hcell0.out o ho);have c0 := hcell 0 (by decide);have c1 := hcell 1 (by decide);have c2 := hcell 2 (by decide);have c3 := hcell 3 (by decide);have c4 := hcell 4 (by decide);have c5 := hcell 5 (by decide);have c6 := hcell 6 (by decide);simp only [Xp.cells, List.getElem?_cons_zero, List.getElem?_cons_succ, Nat.add_zero] at c0 c1 c2 c3 c4 c5 c6;clear hcell;obtain ⟨W7, hW7⟩ : ∃ W7, W7 = putL w6 g' (j * 7) (Xp.cells ⟨⟨zi, zd, zm, zl, za, zc⟩, zs, zh, zn⟩) := ⟨_, rfl⟩;have hT7 : XDTo w W7 B ck ps (ps.set j ⟨⟨zi, zd, zm, zl, za, zc⟩, zs, zh, zn⟩) (.slice (some ⟨g', 0, none⟩) ps.length cap) (.slice (some ⟨g', 0, none⟩) ps.length cap) := by rw [hW7]; exact (XDTo.same hX hap hBw6).putP j hj ⟨⟨zi, zd, zm, zl, za, zc⟩, zs, zh, zn⟩ ⟨_, hmemX.out, hzp.symm⟩
  have kp : Kept (fun q => q = g') w6 W7 := by rw [hW7]; exact putL_kept _ _ _ _
  simp only [putL, Xp.cells, Nat.add_assoc, Nat.reduceAdd] at hW7;replace hW7 := hide hW7;have hb17 : W7.heap[w3.heap.size]? = some (.cells #[.int .u32 (ei : Int), .int .u64 (ed : Int), .string (bs em), .slice ea el.length ec, .int .u8 (es : Int), .int .u8 (eh : Int), .int .u8 (en : Int)] 135 (0, 0)) := by rw [kp.block _ (block_lt hb16) (by show ¬ w3.heap.size = g'; omega)]; exact hb16
  have hb27 : W7.heap[w4.heap.size]? = some (.cells #[.int .u32 (zi : Int), .int .u64 (zd : Int), .string (bs zm), .slice za zl.length zc, .int .u8 (zs : Int), .int .u8 (zh : Int), .int .u8 (zn : Int)] 135 (0, 0)) := by rw [kp.block _ hl26 (by show ¬ w4.heap.size = g'; omega)]; exact hP26.blk
  have hcm7 : ∀ o, W7.cell? ⟨w1.heap.size, o, none⟩ = (#[.int .u8 (k : Int), .int .u8 (f : Int), .int .u8 0, .int .u32 (i : Int), .int .u8 (l : Int), .int .u16 (p : Int), .int .u16 (g : Int), .int .u32 (a : Int), .string (bs m)] : Array Value)[o]? := fun o => (kp.cell (p := ⟨w1.heap.size, o, none⟩) hlm6 (by show ¬ w1.heap.size = g'; omega)).trans (hcm6 o);have hlm7 : w1.heap.size < W7.heap.size := Nat.lt_of_lt_of_le hlm6 kp.size;have hr7 : RowOf W7 9 1 txtCell lv ZO := hH6.row.kept kp (fun q hq e => by have := hH6.fresh q hq; have e' : q = g' := e; omega);have hlf7 : ∀ q, lv.ownBlock = some q → A5.heap.size ≤ q := hH6.fresh;have hA5 := hB6.size
  have hH7 : Hid (XDHanded w W7 B ck ps (ps.set j ⟨⟨zi, zd, zm, zl, za, zc⟩, zs, zh, zn⟩) (.slice (some ⟨g', 0, none⟩) ps.length cap) (.slice (some ⟨g', 0, none⟩) ps.length cap) lv ZO) := hide ⟨hT7, hr7, fun q hq => ⟨Nat.le_trans hA5 (hlf7 q hq), fun hk => by
   have h9 := hlf7 q hq;have h8 := hX.lt;rcases hk with rfl | hk | ⟨x, hx, hk⟩
   ·omega
   ·have : q = g' := by simpa [Value.ownBlock] using hk.symm
    omega
   ·rcases List.mem_or_eq_of_mem_set hx with hx | rfl
    ·have := (hX.legs x hx).lt hk; omega
    ·have := hlgo q (by rw [← hzp]; exact hk); omega⟩⟩
  have hPb1 : PBox W7 w3.heap.size ⟨⟨ei, ed, em, el, ea, ec⟩, es, eh, en⟩ := ⟨hb17, ((hX.legs _ hmemX.out).kept hT7.kept (fun q hq e => by
   have h9 := hap.l _ hmemX.out q hq;rcases e with e | e
   ·exact h9.1 e
   ·exact h9.2 e))⟩
  have hPb2 : PBox W7 w4.heap.size ⟨⟨zi, zd, zm, zl, za, zc⟩, zs, zh, zn⟩ := ⟨hb27, by
   have := hP26.legs
   exact this.kept kp (fun q hq e => by
    have e' : q = g' := e;subst e';have h9 := (hap.l _ hmemX.out q (by rw [← hzp]; exact hq)).2
    exact h9 rfl)⟩
  clear hH6 hX6 hb16 hb17 hb27;replace hzp := hide hzp;replace hPb1 := hide hPb1;replace hPb2 := hide hPb2;replace hT7 := hide hT7;replace hr7 := hide hr7;go_wp2_with fail
  go_region
  go_wp2_with fail
  rw [← hW7.out];have hbd : Below W7.heap.size W7 W7.drew := (Below.refl _ _).drew;refine (hSt1.out _ _ (hPb1.out.below hbd)).mono ?_;rintro e w8 ⟨rfl, hb8⟩;have hb78 := hbd.trans hb8;clear c0 c1 c2 c3 c4 c5 c6 hc26 hcm6 hcB hW7 hSt1;have B9 := Box.mk0 w8 #[Value.int .u8 (es : Int), .int .u8 (eh : Int), .int .u8 (en : Int)] 73;have hSt3 := hide (fun (u : World) (hu : (u.cell? ⟨w8.heap.size, 0, none⟩ = some (.int .u8 (es : Int)) ∧ u.cell? ⟨w8.heap.size, 1, none⟩ = some (.int .u8 (eh : Int)) ∧ u.cell? ⟨w8.heap.size, 2, none⟩ = some (.int .u8 (en : Int))) ∧ Below (w8.alloc (.cells #[.int .u8 (es : Int), .int .u8 (eh : Int), .int .u8 (en : Int)] 73)).heap.size (w8.alloc (.cells #[.int .u8 (es : Int), .int .u8 (eh : Int), .int .u8 (en : Int)] 73)) u) => hSt2.out u _ ((hPb2.out.below hb78).below (B9.bel.trans (hu.2.mono B9.bel.size))));go_wp2_with fail
  have e9 := B9.cell;have hl9 := B9.lt;have hb9b := B9.bel;clear B9;generalize w8.alloc (.cells #[.int .u8 (es : Int), .int .u8 (eh : Int), .int .u8 (en : Int)] 73) = W9 at *;have e0 : W9.cell? ⟨w8.heap.size, 0, none⟩ = some (.int .u8 (es : Int)) := e9 0;have e1 : W9.cell? ⟨w8.heap.size, 1, none⟩ = some (.int .u8 (eh : Int)) := e9 1;have e2 : W9.cell? ⟨w8.heap.size, 2, none⟩ = some (.int .u8 (en : Int)) := e9 2;clear e9;have hmm : Hid (⟨k, f, 0, i, l, p, g, a, m⟩ : Msg).ok := hxok;have hcm9 : ∀ o, W9.cell? ⟨w1.heap.size, o, none⟩ = (#[.int .u8 (k : Int), .int .u8 (f : Int), .int .u8 0, .int .u32 (i : Int), .int .u8 (l : Int), .int .u16 (p : Int), .int .u16 (g : Int), .int .u32 (a : Int), .string (bs m)] : Array Value)[o]? := fun o => ((hb78.trans (hb9b.mono hb78.size)).cell (p := ⟨w1.heap.size, o, none⟩) hlm7).trans (hcm7 o);have hlm9 : w1.heap.size < W9.heap.size := Nat.lt_of_lt_of_le hlm7 (hb78.trans (hb9b.mono hb78.size)).size;have hb79 := hide (hb78.trans (hb9b.mono hb78.size));clear hcm7 hb78 hb9b hb8;by_cases hsame : sameSt ⟨⟨zi, zd, zm, zl, za, zc⟩, zs, zh, zn⟩ ⟨⟨ei, ed, em, el, ea, ec⟩, es, eh, en⟩
  ·have hss := hide hsame;obtain ⟨s0, s1, s2⟩ := hsame;simp only at s0 s1 s2;have q0 : ((zs : Int) == (es : Int)) = true := by simp; omega
   have q1 : ((zh : Int) == (eh : Int)) = true := by simp; omega
   have q2 : ((zn : Int) == (en : Int)) = true := by simp; omega
   clear s0 s1 s2
   go_region_held3 (fun u => (u.cell? ⟨w8.heap.size, 0, none⟩ = some (.int .u8 (es : Int)) ∧ u.cell? ⟨w8.heap.size, 1, none⟩ = some (.int .u8 (eh : Int)) ∧ u.cell? ⟨w8.heap.size, 2, none⟩ = some (.int .u8 (en : Int))) ∧ Below W9.heap.size W9 u)
    (first
     | with_reducible exact keep3_drew ⟨e0, e1, e2⟩
     | with_reducible exact keep3_call hl9 hl9 hl9 (by assumption) hb9)
    (first
     | (go_at_call 67; refine (hSt3.out _ ?_).mono ?_; assumption; rintro e u2 ⟨rfl, hb9⟩))
   have hbT := hb79.out.trans ((undrew hb9).mono hb79.out.size);go_wp2;go_ret3
   try rw [if_pos hss.out]
   exact ⟨_, rfl, hH7.out.then hbT⟩
  ·have hss := hide hsame
   have hqq : (((zs : Int) == (es : Int)) = false) ∨ (((zs : Int) == (es : Int)) = true ∧ ((zh : Int) == (eh : Int)) = false) ∨ (((zs : Int) == (es : Int)) = true ∧ ((zh : Int) == (eh : Int)) = true ∧ ((zn : Int) == (en : Int)) = false) := by
    by_cases s0 : zs = es
    ·by_cases s1 : zh = eh
     ·have s2 : ¬ zn = en := fun s2 => hsame ⟨s0, s1, s2⟩;exact .inr (.inr ⟨by simp; omega, by simp; omega, by simp; omega⟩)
     ·exact .inr (.inl ⟨by simp; omega, by simp; omega⟩)
    ·exact .inl (by simp; omega)
   clear hsame;rcases hqq with q0 | ⟨q0, q1⟩ | ⟨q0, q1, q2⟩
   all_goals (
    go_region_held3 (fun u => (u.cell? ⟨w8.heap.size, 0, none⟩ = some (.int .u8 (es : Int)) ∧ u.cell? ⟨w8.heap.size, 1, none⟩ = some (.int .u8 (eh : Int)) ∧ u.cell? ⟨w8.heap.size, 2, none⟩ = some (.int .u8 (en : Int))) ∧ Below W9.heap.size W9 u)
     (first
      | with_reducible exact keep3_drew ⟨e0, e1, e2⟩
      | with_reducible exact keep3_call hl9 hl9 hl9 (by assumption) hb9)
     (first
      | (go_at_call 67; refine (hSt3.out _ ?_).mono ?_; assumption; rintro e u2 ⟨rfl, hb9⟩))
    have hbT := hb79.out.trans ((undrew hb9).mono hb79.out.size);have hcm10 : ∀ o, u2.cell? ⟨w1.heap.size, o, none⟩ = (#[.int .u8 (k : Int), .int .u8 (f : Int), .int .u8 0, .int .u32 (i : Int), .int .u8 (l : Int), .int .u16 (p : Int), .int .u16 (g : Int), .int .u32 (a : Int), .string (bs m)] : Array Value)[o]? := fun o => ((undrew hb9).cell (p := ⟨w1.heap.size, o, none⟩) hlm9).trans (hcm9 o);clear hcm9;go_wp2_with fail
    refine (hSp.out _).mono ?_;rintro e w11 ⟨rfl, hb11⟩;have hbT2 := hbT.trans (hb11.mono hbT.size);go_wp2;go_ret3
    try rw [if_neg hss.out]
    exact ⟨_, rfl, hH7.out.then hbT2⟩)
 ·have dz : ((ZE : Int) != 0) = true := by simp; omega
  have hTT := hide (XDTo.same hX hap hBw6);replace hze := hide hze;clear hH6;go_wp2;go_ret3;exact ⟨rfl, hTT.out⟩
def core (p : Pm) : Pm := ⟨p.id, p.dl, p.memo, p.legs, none, 0⟩
theorem core_st (p : Pm) (acts : List Dt) : stOf (core p) acts = stOf p acts := rfl
theorem core_id {p q : Pm} (h : core p = core q) : p.id = q.id := by
 have := congrArg Pm.id h; exact this
theorem core_asks (p : Pm) (k but : Nat) : asksOf (core p) k but = asksOf p k but := by
 obtain ⟨i, d, m, l, la, lc⟩ := p
 exact asksOf_at i d d m l none la 0 lc k but
theorem core_rem (p : Pm) (acts : List Dt) : remindsOf (core p) acts = remindsOf p acts := by
 unfold remindsOf
 rw [core_st, core_asks, core_asks]
theorem st_core {p q : Pm} (h : core p = core q) (acts : List Dt) : stOf p acts = stOf q acts := by rw [← core_st p, h, core_st]
theorem asks_core {p q : Pm} (h : core p = core q) (k but : Nat) : asksOf p k but = asksOf q k but := by rw [← core_asks p, h, core_asks]
theorem rem_core {p q : Pm} (h : core p = core q) (acts : List Dt) : remindsOf p acts = remindsOf q acts := by rw [← core_rem p, h, core_rem]
theorem legs_core {p q : Pm} (h : core p = core q) : p.legs = q.legs := by
 have := congrArg Pm.legs h; exact this
theorem wrong_core {p q : Pm} (h : core p = core q) : wrongOf p = wrongOf q := by
 have : wrongOf (core p) = wrongOf (core q) := by rw [h]
 exact this
theorem same_core {p q r : Pm} (h : core p = core q) : sameOf r p = sameOf r q := by
 have : sameOf r (core p) = sameOf r (core q) := by rw [h]
 exact this
theorem lsSame_comm : ∀ (a b : List Pl), lsSame a b = lsSame b a
 | [], [] => rfl
 | [], _ :: _ => rfl
 | _ :: _, [] => rfl
 | x :: r, y :: s => by
  have h1 : plSame x y = plSame y x := by
   obtain ⟨a, b, c, d⟩ := x;obtain ⟨a', b', c', d'⟩ := y;simp only [plSame, Bool.beq_comm (a := a), Bool.beq_comm (a := b), Bool.beq_comm (a := c), Bool.beq_comm (a := d)]
  simp only [lsSame, h1, lsSame_comm r s]
theorem sameOf_comm (p q : Pm) : sameOf p q = sameOf q p := by
 unfold sameOf
 rw [lsSame_comm p.legs, Bool.beq_comm (a := p.id), Bool.beq_comm (a := p.dl), Bool.beq_comm (a := p.memo), Bool.beq_comm (a := p.legs.length)]
theorem bit_less (b n : Nat) (hb : b < 16) (hn : n < 4) : bitB (15 - b) n = !bitB b n := by
 have : ∀ b : Fin 16, ∀ n : Fin 4, bitB (15 - b.val) n.val = !bitB b.val n.val := by decide
 exact this ⟨b, hb⟩ ⟨n, hn⟩
theorem bit_one (l n : Nat) (hl : l < 4) (hn : n < 4) : bitB (2 ^ l) n = decide (n = l) := by
 have : ∀ l : Fin 4, ∀ n : Fin 4, bitB (2 ^ l.val) n.val = decide (n.val = l.val) := by decide
 exact this ⟨l, hl⟩ ⟨n, hn⟩
theorem with_same (b n : Nat) : withOf b n = b ↔ bitB b n = true := by
 unfold withOf bitB
 split
 ·rename_i h; simp [h]
 ·rename_i h;have : 0 < 2 ^ n := Nat.pow_pos (by omega);simp [h]
theorem full_all (b n : Nat) (hn : n ≤ 4) (hb : b < 2 ^ n) : allTo b n = decide (b = fullOf n) := by
 have h0 : ∀ b : Fin 1, allTo b.val 0 = decide (b.val = fullOf 0) := by decide
 have h1 : ∀ b : Fin 2, allTo b.val 1 = decide (b.val = fullOf 1) := by decide
 have h2 : ∀ b : Fin 4, allTo b.val 2 = decide (b.val = fullOf 2) := by decide
 have h3 : ∀ b : Fin 8, allTo b.val 3 = decide (b.val = fullOf 3) := by decide
 have h4 : ∀ b : Fin 16, allTo b.val 4 = decide (b.val = fullOf 4) := by decide
 match n, hn with
 | 0, _ => exact h0 ⟨b, hb⟩
 | 1, _ => exact h1 ⟨b, hb⟩
 | 2, _ => exact h2 ⟨b, hb⟩
 | 3, _ => exact h3 ⟨b, hb⟩
 | 4, _ => exact h4 ⟨b, hb⟩
theorem with_pow (b l n : Nat) (hn : n ≤ 4) (hb : b < 2 ^ n) (hl : l < n) : withOf b l < 2 ^ n := by
 have h1 : ∀ b : Fin 2, ∀ l : Fin 1, withOf b.val l.val < 2 ^ 1 := by decide
 have h2 : ∀ b : Fin 4, ∀ l : Fin 2, withOf b.val l.val < 2 ^ 2 := by decide
 have h3 : ∀ b : Fin 8, ∀ l : Fin 3, withOf b.val l.val < 2 ^ 3 := by decide
 have h4 : ∀ b : Fin 16, ∀ l : Fin 4, withOf b.val l.val < 2 ^ 4 := by decide
 match n, hn with
 | 0, _ => omega
 | 1, _ => exact h1 ⟨b, hb⟩ ⟨l, hl⟩
 | 2, _ => exact h2 ⟨b, hb⟩ ⟨l, hl⟩
 | 3, _ => exact h3 ⟨b, hb⟩ ⟨l, hl⟩
 | 4, _ => exact h4 ⟨b, hb⟩ ⟨l, hl⟩
theorem legsErr_mem : ∀ (l : List Pl), legsErr l = 0 → ∀ x, x ∈ l → plErr x = 0
 | [], _, x, hx => by cases hx
 | y :: r, h, x, hx => by
  simp only [legsErr] at h;split at h
  ·rename_i h0;rcases List.mem_cons.1 hx with rfl | hx
   ·exact h0
   ·exact legsErr_mem r h x hx
  ·rename_i h0; exact absurd h h0
theorem ask_fine {p : Pm} (hw : wrongOf p = 0) {x : Pl} (hx : x ∈ p.legs) {n st : Nat} (hn : n < 4) : faultOf (askMsg p x n (askKind st)) = 0 := by
 have h4 := wrongOf_few hw
 unfold wrongOf at hw
 split at hw
 ·omega
 ·split at hw
  ·rename_i h0;split at hw
   ·rename_i hm;have hp := legsErr_mem _ h0 x hx;unfold plErr at hp;split at hp
    ·omega
    ·split at hp
     ·omega
     ·rename_i hb ha;have hk : askKind st = 1 ∨ askKind st = 2 ∨ askKind st = 3 := by unfold askKind; (repeat' split) <;> simp
      rcases hk with hk | hk | hk <;> rw [hk] <;> simp [askMsg, faultOf, kindB, wayB, bankB, bareB, termsOf] <;> first | rw [if_neg (by omega), if_neg (by omega), if_neg (by omega), if_pos hm] | rw [if_neg (by omega), if_neg (by omega)]
   ·omega
  ·omega
theorem say_asks_to {p : Pm} (hw : wrongOf p = 0) (st but : Nat) (hb : but < 16) : ∀ n, n ≤ 4 → sayTo p st (15 - but) n = asksTo p (askKind st) but n
 | 0, _ => rfl
 | n + 1, h => by
  simp only [sayTo, asksTo, say_asks_to hw st but hb n (by omega), bit_less but n hb (by omega)]
  congr 1
  by_cases h1 : bitB but n = true
  ·simp [h1, (with_same but n).2 h1]
  ·have h2 : ¬ withOf but n = but := fun e => h1 ((with_same but n).1 e);simp only [Bool.not_eq_true] at h1;rw [if_neg h2, h1];simp only [Bool.not_false, if_true];cases hl : p.legs[n]? with
   | none => rfl
   | some x =>
    obtain ⟨hn, rfl⟩ := List.getElem?_eq_some_iff.1 hl;simp only [sayFr, askOf, encOf, ask_fine hw (List.getElem_mem hn) (n := n) (st := st) (by omega), if_true]
theorem say_asks {p : Pm} (hw : wrongOf p = 0) (st but : Nat) (hb : but < 16) : sayL p st (15 - but) = asksOf p (askKind st) but :=
 say_asks_to hw st but hb _ (wrongOf_few hw)
theorem say_one_to (p : Pm) (st l : Nat) (hl : l < 4) : ∀ n, n ≤ 4 → sayTo p st (2 ^ l) n = if l < n then (match p.legs[l]? with | none => [] | some x => [sayFr p x l st]) else []
 | 0, _ => by simp [sayTo]
 | n + 1, h => by
  simp only [sayTo, say_one_to p st l hl n (by omega), bit_one l n hl (by omega)];by_cases h1 : n = l
  ·subst h1; simp; cases p.legs[n]? <;> rfl
  ·simp only [h1, decide_false, Bool.false_eq_true, if_false, List.append_nil];by_cases h2 : l < n
   ·rw [if_pos h2, if_pos (by omega)]
   ·rw [if_neg h2, if_neg (by omega)]
theorem say_one {p : Pm} (hw : wrongOf p = 0) (st l : Nat) (hl : l < p.legs.length) : sayL p st (2 ^ l) = [askOf p p.legs[l] l (askKind st)] := by
 have h4 := wrongOf_few hw
 unfold sayL
 rw [say_one_to p st l (by omega) _ h4, if_pos hl, List.getElem?_eq_getElem hl]
 simp only [sayFr, askOf, encOf, ask_fine hw (List.getElem_mem hl) (n := l) (st := st) (by omega), if_true]
theorem revInd {α : Type} {P : List α → Prop} (h0 : P []) (hs : ∀ l x, P l → P (l ++ [x])) (l : List α) : P l := by
 rw [← List.reverse_reverse l]
 induction l.reverse with
 | nil => exact h0
 | cons x r ih => rw [List.reverse_cons]; exact hs _ _ ih
theorem find_true {id : Nat} : ∀ {acts : List Dt} {x : Dt}, x ∈ acts → x.kind = -1 → x.pay.id = id → (findOf id acts).2.1 = true := by
 intro acts
 induction acts using revInd with
 | h0 => intro x hx; cases hx
 | hs r y ih =>
  intro x hx hk hi;rw [findOf_snoc];rcases List.mem_append.1 hx with h | h
  ·have := ih h hk hi;unfold findStep;split
   ·split <;> simp [this]
   ·exact this
  ·obtain rfl : x = y := by simpa using h
   simp [findStep, hk, hi]
theorem stOf_clock (p : Pm) (acts : List Dt) : (stOf p acts).2.2.2 = clockOf acts := by
 induction acts using revInd with
 | h0 => rfl
 | hs r y ih =>
  rw [stOf_snoc, clockOf_snoc];unfold stStep clockStep;split
  ·simp [ih]
  ·(repeat' split) <;> simp_all
theorem findX_none (id : Nat) (ps : List Xp) : ps.length ≤ findX id ps ↔ ∀ y, y ∈ ps → y.pm.id ≠ id := by
 constructor
 ·intro h y hy;obtain ⟨i, hi, rfl⟩ := List.getElem_of_mem hy;exact findX_no id ps i hi (by omega)
 ·intro h;rcases Nat.lt_or_ge (findX id ps) ps.length with x | x
  ·exact absurd (findX_at id ps x) (h _ (List.getElem_mem x))
  ·exact x
structure Stands (acts : List Dt) (y : Xp) : Prop where
 fine : y.fine
 right : wrongOf y.pm = 0
 st : y.st = (stOf y.pm acts).1
 held : y.held = (stOf y.pm acts).2.1
 done : y.done = (stOf y.pm acts).2.2.1
 room : y.held < 2 ^ y.pm.legs.length
structure DRel (acts : List Dt) (ck : Nat) (ps : List Xp) : Prop where
 clk : ck = clockOf acts
 ok : ∀ x, x ∈ acts → x.ok
 few : ∀ x, x ∈ acts → few4 x
 pay : ∀ x, x ∈ acts → PayOk x
 good : ∀ y, y ∈ ps → Stands acts y
 pays : ∃ qs, Pays acts qs ∧ qs.map core = ps.map (fun y => core y.pm)
 cnt : ∀ id, (findOf id acts).2.2 = ps.length
 len : ps.length ≤ 32
 new : ∀ p : Pm, (∀ y, y ∈ ps → y.pm.id ≠ p.id) → (stOf p acts).2.1 = 0 ∧ (stOf p acts).2.2.1 = 0
theorem DRel.start : DRel [] 0 [] :=
 ⟨rfl, fun x h => by simp at h, fun x h => by simp at h, fun x h => by simp at h, fun x h => by simp at h, ⟨[], ⟨List.Pairwise.nil, fun p => by simp⟩, rfl⟩, fun id => rfl, by simp, fun p h => ⟨rfl, rfl⟩⟩
theorem uniq_id {qs : List Pm} (h : qs.Pairwise fun a b => a.id < b.id) {a b : Pm} (ha : a ∈ qs) (hb : b ∈ qs) (e : a.id = b.id) : a = b := by
 obtain ⟨i, hi, rfl⟩ := List.getElem_of_mem ha
 obtain ⟨j, hj, rfl⟩ := List.getElem_of_mem hb
 have hp := List.pairwise_iff_getElem.1 h
 rcases Nat.lt_trichotomy i j with h1 | h1 | h1
 ·have := hp i j hi hj h1; omega
 ·subst h1; rfl
 ·have := hp j i hj hi h1; omega
theorem DRel.find_in {acts : List Dt} {ck : Nat} {ps : List Xp} (h : DRel acts ck ps) (id : Nat) (hf : findX id ps < ps.length) : (findOf id acts).2.1 = true ∧ core (findOf id acts).1 = core ps[findX id ps].pm := by
 obtain ⟨qs, hP, hm⟩ := h.pays
 have hat := findX_at id ps hf
 have h1 : core ps[findX id ps].pm ∈ qs.map core := by rw [hm]; exact List.mem_map.2 ⟨_, List.getElem_mem hf, rfl⟩
 obtain ⟨q, hq, hc⟩ := List.mem_map.1 h1
 obtain ⟨x, hx, hk, hxq⟩ := (hP.mem q).1 hq
 have hqi : q.id = id := (core_id hc).trans hat
 have ht : (findOf id acts).2.1 = true := find_true hx hk (by rw [hxq]; exact hqi)
 refine ⟨ht, ?_⟩
 obtain ⟨x', hx', hk', hi', hp'⟩ := findOf_mem ht
 have : x'.pay = q := uniq_id hP.sort ((hP.mem _).2 ⟨x', hx', hk', rfl⟩) hq (by rw [hi', hqi])
 rw [hp', this]; exact hc
theorem DRel.find_no {acts : List Dt} {ck : Nat} {ps : List Xp} (h : DRel acts ck ps) (id : Nat) (hf : ps.length ≤ findX id ps) : (findOf id acts).2.1 = false := by
 cases ht : (findOf id acts).2.1 with
 | false => rfl
 | true =>
  obtain ⟨qs, hP, hm⟩ := h.pays;obtain ⟨x', hx', hk', hi', hp'⟩ := findOf_mem ht;have h1 : core x'.pay ∈ ps.map (fun y => core y.pm) := by rw [← hm]; exact List.mem_map.2 ⟨_, (hP.mem _).2 ⟨x', hx', hk', rfl⟩, rfl⟩
  obtain ⟨y, hy, hc⟩ := List.mem_map.1 h1;exact absurd ((core_id hc).trans hi') ((findX_none id ps).1 hf y hy)
theorem Stands.rem {acts : List Dt} {y : Xp} (h : Stands acts y) : remX y = remindsOf y.pm acts := by
 unfold remX remindsOf
 rw [← h.st, ← h.held, ← h.done]
 have hf := h.fine
 by_cases h1 : y.st = 1
 ·rw [if_pos h1, if_pos h1, say_asks h.right _ _ hf.held, h1]; rfl
 ·rw [if_neg h1, if_neg h1, say_asks h.right _ _ hf.done]
theorem Pays.other {acts : List Dt} {qs : List Pm} (h : Pays acts qs) {x : Dt} (hx : x.kind ≠ -1) : Pays (acts ++ [x]) qs :=
 ⟨h.sort, fun p => by
  rw [h.mem p];constructor
  ·rintro ⟨y, hy, h1, h2⟩; exact ⟨y, List.mem_append_left _ hy, h1, h2⟩
  ·rintro ⟨y, hy, h1, h2⟩;rcases List.mem_append.1 hy with h3 | h3
   ·exact ⟨y, h3, h1, h2⟩
   ·obtain rfl : y = x := by simpa using h3
    exact absurd h1 hx⟩
theorem find_other {id : Nat} {acts : List Dt} {x : Dt} (hx : x.kind ≠ -1) : findOf id (acts ++ [x]) = findOf id acts := by
 rw [findOf_snoc]; simp [findStep, hx]
theorem DRel.tick {acts : List Dt} {ck : Nat} {ps : List Xp} (h : DRel acts ck ps) : DRel (acts ++ [tickAct]) (ck + 1) (ps.map (lateX (ck + 1))) := by
 have hn : tickAct.kind ≠ -1 := by decide
 have hin : ∀ x, x ∈ acts ++ [tickAct] → x ∈ acts ∨ x = tickAct := fun x hx => by simpa using hx
 refine ⟨?_, ?_, ?_, ?_, ?_, ?_, ?_, ?_, ?_⟩
 ·rw [clockOf_snoc, h.clk]; rfl
 ·intro x hx;rcases hin x hx with hx | rfl
  ·exact h.ok x hx
  ·refine ⟨by decide, by decide, ⟨by decide, by decide, fun l hl => by simp [tickAct, noPm] at hl⟩, by simp [Msg.ok, tickAct, zeroMsg]⟩
 ·intro x hx;rcases hin x hx with hx | rfl
  ·exact h.few x hx
  ·intro h4; exact absurd h4 (by decide)
 ·intro x hx;rcases hin x hx with hx | rfl
  ·exact h.pay x hx
  ·exact ⟨by decide, by decide⟩
 ·intro y hy;obtain ⟨z, hz, rfl⟩ := List.mem_map.1 hy;have g := h.good z hz;have hc := stOf_clock z.pm acts;have hck := h.clk
  have e : stOf z.pm (acts ++ [tickAct]) = (if (stOf z.pm acts).1 = 1 ∧ z.pm.dl ≤ ck + 1 then 3 else (stOf z.pm acts).1, (stOf z.pm acts).2.1, (stOf z.pm acts).2.2.1, (stOf z.pm acts).2.2.2 + 1) := by
   rw [stOf_snoc, hck, ← hc]; rfl
  refine ⟨lateX_fine _ g.fine, by rw [lateX_pm]; exact g.right, ?_, ?_, ?_, ?_⟩
  ·rw [lateX_pm, e, ← g.st]; unfold lateX; split <;> rfl
  ·rw [lateX_pm, e]; unfold lateX; split <;> exact g.held
  ·rw [lateX_pm, e]; unfold lateX; split <;> exact g.done
  ·rw [lateX_pm]; unfold lateX; split <;> exact g.room
 ·obtain ⟨qs, hP, hm⟩ := h.pays;refine ⟨qs, hP.other hn, ?_⟩;rw [hm, List.map_map];apply List.map_congr_left;intro y _;simp [lateX_pm]
 ·intro id;rw [find_other hn, h.cnt, List.length_map]
 ·rw [List.length_map]; exact h.len
 ·intro p hp
  have := h.new p (fun y hy => by
   have := hp _ (List.mem_map.2 ⟨y, hy, rfl⟩)
   rwa [lateX_pm] at this)
  rw [stOf_snoc];exact this
end Go.Proofs.YtjkhbjgfoopomabGreat
