import Derived.Test.YtjkhbjgfoopomaaR18
/-
  The program's notary: Handle, of a leg that is there.
-/
namespace Go.Proofs.Ytjkhbjgfoopomaa
open Go.RowKit
set_option linter.unusedVariables false
set_option linter.unusedSimpArgs false
theorem hearX_fine {x : Xp} (h : x.fine) (k : Nat) {l : Nat} (hl : l < 4) : (hearX x k l).1.fine ∧ (hearX x k l).1.pm = x.pm := by
  have hw := withOf_lt x.held l h.held hl
  have hd := withOf_lt x.done l h.done hl
  unfold hearX prepX refX doneX
  split
  · split
    · split
      · exact ⟨⟨⟨h.ok.1, by show (2 : Nat) < 256; omega, by show withOf x.held l < 256; omega, h.ok.2.2.2⟩, ⟨by show (1 : Nat) ≤ 2; omega, by show (2 : Nat) ≤ 3; omega⟩, h.memo, h.few, hw, h.done⟩, rfl⟩
      · exact ⟨⟨⟨h.ok.1, h.ok.2.1, by show withOf x.held l < 256; omega, h.ok.2.2.2⟩, h.st, h.memo, h.few, hw, h.done⟩, rfl⟩
    · exact ⟨h, rfl⟩
  · split
    · split
      · exact ⟨h, rfl⟩
      · split
        · exact ⟨h, rfl⟩
        · exact ⟨⟨⟨h.ok.1, by show (3 : Nat) < 256; omega, h.ok.2.2⟩, ⟨by show (1 : Nat) ≤ 3; omega, by show (3 : Nat) ≤ 3; omega⟩, h.memo, h.few, h.held, h.done⟩, rfl⟩
    · split
      · exact ⟨h, rfl⟩
      · exact ⟨⟨⟨h.ok.1, h.ok.2.1, h.ok.2.2.1, by show withOf x.done l < 256; omega⟩, h.st, h.memo, h.few, h.held, hd⟩, rfl⟩
/-- does the payment stand as it did? -/
def sameSt (x y : Xp) : Prop := x.st = y.st ∧ x.held = y.held ∧ x.done = y.done
instance (x y : Xp) : Decidable (sameSt x y) := inferInstanceAs (Decidable (_ ∧ _ ∧ _))
/-- what Handle answers, of a leg that is there -/
def TakenX (w w' : World) (B ck : Nat) (ps : List Xp) (v : Value) (m : Msg) (x : Xp) (j : Nat) (e : Ending) : Prop :=
  if (hearX x m.k m.l).2.2 = 0 then ∃ lv, e = .returned (.tuple #[lv, .string (bs (if sameSt (hearX x m.k m.l).1 x then [] else frameOf m)), .int .i64 0]) ∧ XDHanded w w' B ck ps (ps.set j (hearX x m.k m.l).1) v v lv (hearX x m.k m.l).2.1
  else e = .returned (.tuple #[.slice none 0 0, .string ⟨#[]⟩, .int .i64 ((hearX x m.k m.l).2.2 : Int)]) ∧ XDTo w w' B ck ps ps v v
set_option maxRecDepth 100000 in
set_option maxHeartbeats 4000000 in
theorem xTaken_hear (s : ByteArray) (hs : s.size ≤ maxLen) (w : World) (B ck : Nat) (ps : List Xp) (v : Value) (hX : XD w B ck ps v) (hap : XDap B ps v) (hfine : ∀ y, y ∈ ps → y.fine) (hlen : ps.length ≤ 1000) (he0 : decErr s.data.toList = 0) (ht0 : (decMsg s.data.toList).t = 0) (hj : findX (decMsg s.data.toList).i ps < ps.length)
    (hhl : hasLegB ps[findX (decMsg s.data.toList).i ps].pm (decMsg s.data.toList).l (decMsg s.data.toList).f = true) :
    Calls Try.prog 103 #[.pointer (some ⟨B, 0, none⟩), .string s] w fun e w' => TakenX w w' B ck ps v (decMsg s.data.toList) ps[findX (decMsg s.data.toList).i ps] (findX (decMsg s.data.toList).i ps) e := by
  have hfn := fault_notary (decMsg_fault _ he0) ht0
  have hm64 := fault_zero_memo (decMsg_fault _ he0)
  have hD := hide (decode_any s hs)
  have hxok := decMsg_ok s.data.toList
  rw [he0] at hD
  clear he0
  generalize decMsg s.data.toList = x at *
  have hF := hide (fun u hu => xfind_any x.i hxok.2.2.2.1 u B ck ps v hu (fun y hy => (hfine y hy).ok) (by omega))
  have hmem := List.getElem_mem hj
  have hfx := hfine _ hmem
  have hH := hide (fun (u : World) b (hu : PBox u b ps[findX x.i ps]) => hasLeg_any ps[findX x.i ps] hfx.ok hfx.few x.l x.f hxok.2.2.2.2.1 hxok.2.1 u b hu)
  rw [hhl] at hH
  have hPb := hide (fun (u : World) (hb : Below w.heap.size w u) => box_of hX hmem hb)
  have hHr := hide (fun (u : World) b (hu : PBox u b ps[findX x.i ps]) (hn : ∀ g, ps[findX x.i ps].pm.lv.ownBlock = some g → g ≠ b) => hear_any ps[findX x.i ps] hfx x.k x.l hfn.1 hfn.2.1 u b hu hn)
  have hlgo : ∀ g, ps[findX x.i ps].pm.lv.ownBlock = some g → g < w.heap.size := fun g hg => (hX.legs _ hmem).lt hg
  have hmemX := hide hmem
  obtain ⟨hzf, hzp⟩ := hearX_fine hfx x.k hfn.2.1
  have hSp := hide (fun u => spell_any x hxok hm64 u)
  have hSt1 := hide (fun (u : World) b (hu : PBox u b ps[findX x.i ps]) => pstatus_any u b _ hfx.ok hu)
  have hSt2 := hide (fun (u : World) b (hu : PBox u b (hearX ps[findX x.i ps] x.k x.l).1) => pstatus_any u b _ hzf.ok hu)
  obtain ⟨ad, cap, hv, hev⟩ := hX.row.form Xp.cells_length
  obtain ⟨g', hg, hcell0, _⟩ := hev _ hj
  subst hg
  subst hv
  have hgl : g' < w.heap.size := hX.row.lt rfl
  clear hhl hmem
  replace hzf := hide hzf
  replace hfx := hide hfx
  unfold TakenX
  generalize hearX ps[findX x.i ps] x.k x.l = Z at *
  generalize ps[findX x.i ps] = E at *
  generalize findX x.i ps = j at *
  obtain ⟨⟨ei, ed, em, el, ea, ec⟩, es, eh, en⟩ := E
  obtain ⟨k, f, t, i, l, p, g, a, m⟩ := x
  obtain ⟨⟨⟨zi, zd, zm, zl, za, zc⟩, zs, zh, zn⟩, ZO, ZE⟩ := Z
  simp only [Msg.v, Msg.cells, Xp.cells] at hD ht0 hF hH hPb hSp hHr hSt1 hSt2 hzp ⊢
  subst ht0
  have d0 : decide ((j : Int) ≥ (ps.length : Int)) = false := by simp; omega
  have d0' : decide ((ps.length : Int) ≤ (j : Int)) = false := by simp; omega
  have hji : (j : Int) < (ps.length : Int) := by omega
  replace hxok := hide hxok
  generalize frameOf ⟨k, f, 0, i, l, p, g, a, m⟩ = FR at *
  go_enter Try.func103, Try.ntmps103
  go_wp2_with fail
  refine (hD.out _).mono ?_
  rintro e w1 ⟨rfl, hb⟩
  clear hD
  go_wp2_with fail
  have B1 := Box.mk0 w1 #[Value.int .u8 (k : Int), .int .u8 (f : Int), .int .u8 0, .int .u32 (i : Int), .int .u8 (l : Int), .int .u16 (p : Int), .int .u16 (g : Int), .int .u32 (a : Int), .string (bs m)] 32
  generalize World.alloc _ _ = W2 at B1 ⊢
  have hb2 := hb.trans (B1.bel.mono hb.size)
  have hX2 := hX.below hb2
  have hcB : ∀ o, W2.cell? ⟨B, o, none⟩ = (#[.int .u64 (ck : Int), .slice (some ⟨g', 0, none⟩) ps.length cap] : Array Value)[o]? := fun o => cell_at hX2.blk o
  have hBl := hX2.lt
  have hcm := B1.cell
  have hlm := B1.lt
  have hcell : ∀ o, o < 7 → W2.cell? ⟨g', j * 7 + o, none⟩ = (Xp.cells ⟨⟨ei, ed, em, el, ea, ec⟩, es, eh, en⟩)[o]? := fun o ho => (hb2.cell (p := ⟨g', j * 7 + o, none⟩) hgl).trans (hcell0 o ho)
  have c0 := hcell 0 (by decide)
  have c1 := hcell 1 (by decide)
  have c2 := hcell 2 (by decide)
  have c3 := hcell 3 (by decide)
  have c4 := hcell 4 (by decide)
  have c5 := hcell 5 (by decide)
  have c6 := hcell 6 (by decide)
  simp only [Xp.cells, List.getElem?_cons_zero, List.getElem?_cons_succ, Nat.add_zero] at c0 c1 c2 c3 c4 c5 c6
  replace hcell0 := hide hcell0
  clear hcell hev
  refine (hF.out _ hX2).mono ?_
  rintro e w3 ⟨rfl, rfl⟩
  clear hF
  have hPB := hide (hPb.out _ hb2)
  have hb4 := hide (hb2.alloc hb2.size (.cells #[.int .u32 (ei : Int), .int .u64 (ed : Int), .string (bs em), .slice ea el.length ec, .int .u8 (es : Int), .int .u8 (eh : Int), .int .u8 (en : Int)] 139))
  go_wp2_with fail
  refine (hH.out _ _ hPB.out).mono ?_
  rintro e w4 ⟨rfl, hb5⟩
  have hB5 := hide (hb4.out.trans (hb5.mono hb4.out.size))
  have hPB1 := hPB.out.below hb5
  have B4 := (B1.alloc (.cells #[.int .u32 (ei : Int), .int .u64 (ed : Int), .string (bs em), .slice ea el.length ec, .int .u8 (es : Int), .int .u8 (eh : Int), .int .u8 (en : Int)] 139)).below hb5
  have hcm4 := B4.cell
  have hlm4 := B4.lt
  have hc1 : ∀ o, w4.cell? ⟨w3.heap.size, o, none⟩ = (#[.int .u32 (ei : Int), .int .u64 (ed : Int), .string (bs em), .slice ea el.length ec, .int .u8 (es : Int), .int .u8 (eh : Int), .int .u8 (en : Int)] : Array Value)[o]? := fun o => cell_at hPB1.blk o
  have hl1 := hPB1.lt
  have hw4 := hB5.out.size
  have hPB2 : Hid (PBox (w4.alloc (.cells #[.int .u32 (ei : Int), .int .u64 (ed : Int), .string (bs em), .slice ea el.length ec, .int .u8 (es : Int), .int .u8 (eh : Int), .int .u8 (en : Int)] 139)) w4.heap.size ⟨⟨ei, ed, em, el, ea, ec⟩, es, eh, en⟩) := hide ⟨heap_alloc_self _ _, hPB1.legs.below ((Below.refl _ _).alloc (Nat.le_refl _) _)⟩
  have hn2 : ∀ q, (Value.slice ea el.length ec).ownBlock = some q → q ≠ w4.heap.size := fun q hq => by have := hlgo q hq; omega
  have B5 := B4.alloc (.cells #[.int .u32 (ei : Int), .int .u64 (ed : Int), .string (bs em), .slice ea el.length ec, .int .u8 (es : Int), .int .u8 (eh : Int), .int .u8 (en : Int)] 139)
  have hb6 := (Below.refl w4.heap.size w4).alloc (Nat.le_refl _) (.cells #[.int .u32 (ei : Int), .int .u64 (ed : Int), .string (bs em), .slice ea el.length ec, .int .u8 (es : Int), .int .u8 (eh : Int), .int .u8 (en : Int)] 139)
  have hP15 := hPB1.below hb6
  have hw5 : w4.heap.size < (w4.alloc (.cells #[.int .u32 (ei : Int), .int .u64 (ed : Int), .string (bs em), .slice ea el.length ec, .int .u8 (es : Int), .int .u8 (eh : Int), .int .u8 (en : Int)] 139)).heap.size := by simp
  have hB6 := hB5.out.trans (hb6.mono hw4)
  clear hH hPB c0 c1 c2 c3 c4 c5 c6 hcB hcm hPb hb4
  go_wp2_with fail
  refine (hHr.out _ _ hPB2.out hn2).mono ?_
  rintro e w6 ⟨lv, rfl, hH6⟩
  clear hHr hcm4 hc1 hPB2
  generalize w4.alloc (.cells #[.int .u32 (ei : Int), .int .u64 (ed : Int), .string (bs em), .slice ea el.length ec, .int .u8 (es : Int), .int .u8 (eh : Int), .int .u8 (en : Int)] 139) = A5 at *
  have hw1 := hb.size
  have hw3 := hb2.size
  have hBw6 : Below w.heap.size w w6 := hB6.trans (hH6.kept.below hB6.size (fun q e => by omega))
  have hX6 := hX.below hBw6
  by_cases hze : ZE = 0
  · subst hze
    have hP26 := hH6.box
    have hc26 : ∀ o, w6.cell? ⟨w4.heap.size, o, none⟩ = (#[.int .u32 (zi : Int), .int .u64 (zd : Int), .string (bs zm), .slice za zl.length zc, .int .u8 (zs : Int), .int .u8 (zh : Int), .int .u8 (zn : Int)] : Array Value)[o]? := fun o => cell_at hP26.blk o
    have hl26 := hP26.lt
    have hcm6 : ∀ o, w6.cell? ⟨w1.heap.size, o, none⟩ = (#[.int .u8 (k : Int), .int .u8 (f : Int), .int .u8 0, .int .u32 (i : Int), .int .u8 (l : Int), .int .u16 (p : Int), .int .u16 (g : Int), .int .u32 (a : Int), .string (bs m)] : Array Value)[o]? := fun o => (hH6.kept.cell (p := ⟨w1.heap.size, o, none⟩) B5.lt (by show ¬ w1.heap.size = w4.heap.size; omega)).trans (B5.cell o)
    have hlm6 : w1.heap.size < w6.heap.size := Nat.lt_of_lt_of_le B5.lt hH6.kept.size
    have hb16 : w6.heap[w3.heap.size]? = some (.cells #[.int .u32 (ei : Int), .int .u64 (ed : Int), .string (bs em), .slice ea el.length ec, .int .u8 (es : Int), .int .u8 (eh : Int), .int .u8 (en : Int)] 139 (0, 0)) := by
      rw [hH6.kept.block _ hP15.lt (by show ¬ w3.heap.size = w4.heap.size; omega)]
      exact hP15.blk
    have hcB : ∀ o, w6.cell? ⟨B, o, none⟩ = (#[.int .u64 (ck : Int), .slice (some ⟨g', 0, none⟩) ps.length cap] : Array Value)[o]? := fun o => cell_at hX6.blk o
    have hBl6 := hX6.lt
    have hg6 : g' < w6.heap.size := Nat.lt_of_lt_of_le hgl hBw6.size
    obtain ⟨adq, capq, hvq, hevq⟩ := hX6.row.form Xp.cells_length
    obtain ⟨gq, hgq, hcq, hfro⟩ := hevq j hj
    have eg : g' = gq := by rw [hgq] at hvq; injection hvq with h1; injection h1 with h1; injection h1 with h1
    subst eg
    clear hevq hvq hgq hcq
    have hcell : ∀ o, o < 7 → w6.cell? ⟨g', j * 7 + o, none⟩ = (Xp.cells ⟨⟨ei, ed, em, el, ea, ec⟩, es, eh, en⟩)[o]? := fun o ho => (hBw6.cell (p := ⟨g', j * 7 + o, none⟩) hgl).trans (hcell0.out o ho)
    have c0 := hcell 0 (by decide)
    have c1 := hcell 1 (by decide)
    have c2 := hcell 2 (by decide)
    have c3 := hcell 3 (by decide)
    have c4 := hcell 4 (by decide)
    have c5 := hcell 5 (by decide)
    have c6 := hcell 6 (by decide)
    simp only [Xp.cells, List.getElem?_cons_zero, List.getElem?_cons_succ, Nat.add_zero] at c0 c1 c2 c3 c4 c5 c6
    clear hcell
    obtain ⟨W7, hW7⟩ : ∃ W7, W7 = putL w6 g' (j * 7) (Xp.cells ⟨⟨zi, zd, zm, zl, za, zc⟩, zs, zh, zn⟩) := ⟨_, rfl⟩
    have hT7 : XDTo w W7 B ck ps (ps.set j ⟨⟨zi, zd, zm, zl, za, zc⟩, zs, zh, zn⟩) (.slice (some ⟨g', 0, none⟩) ps.length cap) (.slice (some ⟨g', 0, none⟩) ps.length cap) := by rw [hW7]; exact (XDTo.same hX hap hBw6).putP j hj ⟨⟨zi, zd, zm, zl, za, zc⟩, zs, zh, zn⟩ ⟨_, hmemX.out, hzp.symm⟩
    have kp : Kept (fun q => q = g') w6 W7 := by rw [hW7]; exact putL_kept _ _ _ _
    simp only [putL, Xp.cells, Nat.add_assoc, Nat.reduceAdd] at hW7
    replace hW7 := hide hW7
    have hb17 : W7.heap[w3.heap.size]? = some (.cells #[.int .u32 (ei : Int), .int .u64 (ed : Int), .string (bs em), .slice ea el.length ec, .int .u8 (es : Int), .int .u8 (eh : Int), .int .u8 (en : Int)] 139 (0, 0)) := by rw [kp.block _ (block_lt hb16) (by show ¬ w3.heap.size = g'; omega)]; exact hb16
    have hb27 : W7.heap[w4.heap.size]? = some (.cells #[.int .u32 (zi : Int), .int .u64 (zd : Int), .string (bs zm), .slice za zl.length zc, .int .u8 (zs : Int), .int .u8 (zh : Int), .int .u8 (zn : Int)] 139 (0, 0)) := by rw [kp.block _ hl26 (by show ¬ w4.heap.size = g'; omega)]; exact hP26.blk
    have hcm7 : ∀ o, W7.cell? ⟨w1.heap.size, o, none⟩ = (#[.int .u8 (k : Int), .int .u8 (f : Int), .int .u8 0, .int .u32 (i : Int), .int .u8 (l : Int), .int .u16 (p : Int), .int .u16 (g : Int), .int .u32 (a : Int), .string (bs m)] : Array Value)[o]? := fun o => (kp.cell (p := ⟨w1.heap.size, o, none⟩) hlm6 (by show ¬ w1.heap.size = g'; omega)).trans (hcm6 o)
    have hlm7 : w1.heap.size < W7.heap.size := Nat.lt_of_lt_of_le hlm6 kp.size
    have hr7 : RowOf W7 9 1 txtCell lv ZO := hH6.row.kept kp (fun q hq e => by have := hH6.fresh q hq; have e' : q = g' := e; omega)
    have hlf7 : ∀ q, lv.ownBlock = some q → A5.heap.size ≤ q := hH6.fresh
    have hA5 := hB6.size
    have hH7 : Hid (XDHanded w W7 B ck ps (ps.set j ⟨⟨zi, zd, zm, zl, za, zc⟩, zs, zh, zn⟩) (.slice (some ⟨g', 0, none⟩) ps.length cap) (.slice (some ⟨g', 0, none⟩) ps.length cap) lv ZO) := hide ⟨hT7, hr7, fun q hq => ⟨Nat.le_trans hA5 (hlf7 q hq), fun hk => by
      have h9 := hlf7 q hq
      have h8 := hX.lt
      rcases hk with rfl | hk | ⟨x, hx, hk⟩
      · omega
      · have : q = g' := by simpa [Value.ownBlock] using hk.symm
        omega
      · rcases List.mem_or_eq_of_mem_set hx with hx | rfl
        · have := (hX.legs x hx).lt hk; omega
        · have := hlgo q (by rw [← hzp]; exact hk); omega⟩⟩
    have hPb1 : PBox W7 w3.heap.size ⟨⟨ei, ed, em, el, ea, ec⟩, es, eh, en⟩ := ⟨hb17, ((hX.legs _ hmemX.out).kept hT7.kept (fun q hq e => by
      have h9 := hap.l _ hmemX.out q hq
      rcases e with e | e
      · exact h9.1 e
      · exact h9.2 e))⟩
    have hPb2 : PBox W7 w4.heap.size ⟨⟨zi, zd, zm, zl, za, zc⟩, zs, zh, zn⟩ := ⟨hb27, by
      have := hP26.legs
      exact this.kept kp (fun q hq e => by
        have e' : q = g' := e
        subst e'
        have h9 := (hap.l _ hmemX.out q (by rw [← hzp]; exact hq)).2
        exact h9 rfl)⟩
    clear hH6 hX6 hb16 hb17 hb27
    replace hzp := hide hzp
    replace hPb1 := hide hPb1
    replace hPb2 := hide hPb2
    replace hT7 := hide hT7
    replace hr7 := hide hr7
    go_wp2_with fail
    go_region
    go_wp2_with fail
    rw [← hW7.out]
    have hbd : Below W7.heap.size W7 W7.drew := (Below.refl _ _).drew
    refine (hSt1.out _ _ (hPb1.out.below hbd)).mono ?_
    rintro e w8 ⟨rfl, hb8⟩
    have hb78 := hbd.trans hb8
    clear c0 c1 c2 c3 c4 c5 c6 hc26 hcm6 hcB hW7 hSt1
    have B9 := Box.mk0 w8 #[Value.int .u8 (es : Int), .int .u8 (eh : Int), .int .u8 (en : Int)] 76
    have hSt3 := hide (fun (u : World) (hu : (u.cell? ⟨w8.heap.size, 0, none⟩ = some (.int .u8 (es : Int)) ∧ u.cell? ⟨w8.heap.size, 1, none⟩ = some (.int .u8 (eh : Int)) ∧ u.cell? ⟨w8.heap.size, 2, none⟩ = some (.int .u8 (en : Int))) ∧ Below (w8.alloc (.cells #[.int .u8 (es : Int), .int .u8 (eh : Int), .int .u8 (en : Int)] 76)).heap.size (w8.alloc (.cells #[.int .u8 (es : Int), .int .u8 (eh : Int), .int .u8 (en : Int)] 76)) u) => hSt2.out u _ ((hPb2.out.below hb78).below (B9.bel.trans (hu.2.mono B9.bel.size))))
    go_wp2_with fail
    have e9 := B9.cell
    have hl9 := B9.lt
    have hb9b := B9.bel
    clear B9
    generalize w8.alloc (.cells #[.int .u8 (es : Int), .int .u8 (eh : Int), .int .u8 (en : Int)] 76) = W9 at *
    have e0 : W9.cell? ⟨w8.heap.size, 0, none⟩ = some (.int .u8 (es : Int)) := e9 0
    have e1 : W9.cell? ⟨w8.heap.size, 1, none⟩ = some (.int .u8 (eh : Int)) := e9 1
    have e2 : W9.cell? ⟨w8.heap.size, 2, none⟩ = some (.int .u8 (en : Int)) := e9 2
    clear e9
    have hmm : Hid (⟨k, f, 0, i, l, p, g, a, m⟩ : Msg).ok := hxok
    have hcm9 : ∀ o, W9.cell? ⟨w1.heap.size, o, none⟩ = (#[.int .u8 (k : Int), .int .u8 (f : Int), .int .u8 0, .int .u32 (i : Int), .int .u8 (l : Int), .int .u16 (p : Int), .int .u16 (g : Int), .int .u32 (a : Int), .string (bs m)] : Array Value)[o]? := fun o => ((hb78.trans (hb9b.mono hb78.size)).cell (p := ⟨w1.heap.size, o, none⟩) hlm7).trans (hcm7 o)
    have hlm9 : w1.heap.size < W9.heap.size := Nat.lt_of_lt_of_le hlm7 (hb78.trans (hb9b.mono hb78.size)).size
    have hb79 := hide (hb78.trans (hb9b.mono hb78.size))
    clear hcm7 hb78 hb9b hb8
    by_cases hsame : sameSt ⟨⟨zi, zd, zm, zl, za, zc⟩, zs, zh, zn⟩ ⟨⟨ei, ed, em, el, ea, ec⟩, es, eh, en⟩
    · have hss := hide hsame
      obtain ⟨s0, s1, s2⟩ := hsame
      simp only at s0 s1 s2
      have q0 : ((zs : Int) == (es : Int)) = true := by simp; omega
      have q1 : ((zh : Int) == (eh : Int)) = true := by simp; omega
      have q2 : ((zn : Int) == (en : Int)) = true := by simp; omega
      clear s0 s1 s2
      go_region_held3 (fun u => (u.cell? ⟨w8.heap.size, 0, none⟩ = some (.int .u8 (es : Int)) ∧ u.cell? ⟨w8.heap.size, 1, none⟩ = some (.int .u8 (eh : Int)) ∧ u.cell? ⟨w8.heap.size, 2, none⟩ = some (.int .u8 (en : Int))) ∧ Below W9.heap.size W9 u)
        (first
          | with_reducible exact keep3_drew ⟨e0, e1, e2⟩
          | with_reducible exact keep3_call hl9 hl9 hl9 (by assumption) hb9)
        (first
          | (go_at_call 82; refine (hSt3.out _ ?_).mono ?_; assumption; rintro e u2 ⟨rfl, hb9⟩))
      have hbT := hb79.out.trans ((undrew hb9).mono hb79.out.size)
      go_wp2
      go_ret3
      try rw [if_pos hss.out]
      exact ⟨_, rfl, hH7.out.then hbT⟩
    · have hss := hide hsame
      have hqq : (((zs : Int) == (es : Int)) = false) ∨ (((zs : Int) == (es : Int)) = true ∧ ((zh : Int) == (eh : Int)) = false) ∨ (((zs : Int) == (es : Int)) = true ∧ ((zh : Int) == (eh : Int)) = true ∧ ((zn : Int) == (en : Int)) = false) := by
        by_cases s0 : zs = es
        · by_cases s1 : zh = eh
          · have s2 : ¬ zn = en := fun s2 => hsame ⟨s0, s1, s2⟩
            exact .inr (.inr ⟨by simp; omega, by simp; omega, by simp; omega⟩)
          · exact .inr (.inl ⟨by simp; omega, by simp; omega⟩)
        · exact .inl (by simp; omega)
      clear hsame
      rcases hqq with q0 | ⟨q0, q1⟩ | ⟨q0, q1, q2⟩
      all_goals (
        go_region_held3 (fun u => (u.cell? ⟨w8.heap.size, 0, none⟩ = some (.int .u8 (es : Int)) ∧ u.cell? ⟨w8.heap.size, 1, none⟩ = some (.int .u8 (eh : Int)) ∧ u.cell? ⟨w8.heap.size, 2, none⟩ = some (.int .u8 (en : Int))) ∧ Below W9.heap.size W9 u)
          (first
            | with_reducible exact keep3_drew ⟨e0, e1, e2⟩
            | with_reducible exact keep3_call hl9 hl9 hl9 (by assumption) hb9)
          (first
            | (go_at_call 82; refine (hSt3.out _ ?_).mono ?_; assumption; rintro e u2 ⟨rfl, hb9⟩))
        have hbT := hb79.out.trans ((undrew hb9).mono hb79.out.size)
        have hcm10 : ∀ o, u2.cell? ⟨w1.heap.size, o, none⟩ = (#[.int .u8 (k : Int), .int .u8 (f : Int), .int .u8 0, .int .u32 (i : Int), .int .u8 (l : Int), .int .u16 (p : Int), .int .u16 (g : Int), .int .u32 (a : Int), .string (bs m)] : Array Value)[o]? := fun o => ((undrew hb9).cell (p := ⟨w1.heap.size, o, none⟩) hlm9).trans (hcm9 o)
        clear hcm9
        go_wp2_with fail
        refine (hSp.out _).mono ?_
        rintro e w11 ⟨rfl, hb11⟩
        have hbT2 := hbT.trans (hb11.mono hbT.size)
        go_wp2
        go_ret3
        try rw [if_neg hss.out]
        exact ⟨_, rfl, hH7.out.then hbT2⟩)
  · have dz : ((ZE : Int) != 0) = true := by simp; omega
    have hTT := hide (XDTo.same hX hap hBw6)
    replace hze := hide hze
    clear hH6
    go_wp2
    go_ret3
    exact ⟨rfl, hTT.out⟩
end Go.Proofs.Ytjkhbjgfoopomaa
