import Derived.Test.YtjkhbjgfoopomabGreatS17
import Derived.Test.YtjkhbjgfoopomabGreatS7
import Derived.Test.YtjkhbjgfoopomabGreatS8
/-
  The program's notary: Handle, where it answers an error.
-/
namespace Go.Proofs.YtjkhbjgfoopomabGreat
open Go.RowKit
set_option linter.unusedVariables false
set_option linter.unusedSimpArgs false
set_option maxRecDepth 100000 in
set_option maxHeartbeats 1000000 in
theorem xTaken_dec (s : ByteArray) (hs : s.size ≤ maxLen) (w : World) (B : Nat) (he0 : decErr s.data.toList ≠ 0) (her : decErr s.data.toList < 100) :
    Calls Tryz.prog 113 #[.pointer (some ⟨B, 0, none⟩), .string s] w fun e w' => e = .returned (.tuple #[.slice none 0 0, .string ⟨#[]⟩, .int .i64 (decErr s.data.toList : Int)]) ∧ Below w.heap.size w w' := by
  have hD := hide (decode_any s hs)
  generalize decErr s.data.toList = er at *
  generalize decMsg s.data.toList = x at *
  obtain ⟨k, f, t', i, l, p, g, a, m⟩ := x
  simp only [Msg.v, Msg.cells] at hD
  have d0 : ((er : Int) != 0) = true := by simp; omega
  go_enter Tryz.func113, Tryz.ntmps113
  go_wp2_with fail
  refine (hD.out _).mono ?_
  rintro e w1 ⟨rfl, hb⟩
  clear hD
  go_wp2
  go_ret3
  exact ⟨rfl, hb.alloc hb.size _⟩
set_option maxRecDepth 100000 in
set_option maxHeartbeats 1000000 in
theorem xTaken_node (s : ByteArray) (hs : s.size ≤ maxLen) (w : World) (B : Nat) (he0 : decErr s.data.toList = 0) (ht0 : (decMsg s.data.toList).t ≠ 0) :
    Calls Tryz.prog 113 #[.pointer (some ⟨B, 0, none⟩), .string s] w fun e w' => e = .returned (.tuple #[.slice none 0 0, .string ⟨#[]⟩, .int .i64 4]) ∧ Below w.heap.size w w' := by
  have hD := hide (decode_any s hs)
  have hxok := decMsg_ok s.data.toList
  rw [he0] at hD
  clear he0
  generalize decMsg s.data.toList = x at *
  obtain ⟨k, f, t, i, l, p, g, a, m⟩ := x
  have ht8 : t < 256 := hxok.2.2.1
  simp only [Msg.v, Msg.cells] at hD ht0
  have d0 : ((t : Int) != 0) = true := by simp; omega
  clear hxok
  go_enter Tryz.func113, Tryz.ntmps113
  go_wp2_with fail
  refine (hD.out _).mono ?_
  rintro e w1 ⟨rfl, hb⟩
  clear hD
  go_wp2
  go_ret3
  exact ⟨rfl, hb.alloc hb.size _⟩
set_option maxRecDepth 100000 in
set_option maxHeartbeats 1000000 in
theorem xTaken_none (s : ByteArray) (hs : s.size ≤ maxLen) (w : World) (B ck : Nat) (ps : List Xp) (v : Value) (hX : XD w B ck ps v) (hok : ∀ y, y ∈ ps → y.ok) (hlen : ps.length ≤ 1000) (he0 : decErr s.data.toList = 0) (ht0 : (decMsg s.data.toList).t = 0) (hno : ps.length ≤ findX (decMsg s.data.toList).i ps) :
    Calls Tryz.prog 113 #[.pointer (some ⟨B, 0, none⟩), .string s] w fun e w' => e = .returned (.tuple #[.slice none 0 0, .string ⟨#[]⟩, .int .i64 13]) ∧ Below w.heap.size w w' := by
  have hD := hide (decode_any s hs)
  have hxok := decMsg_ok s.data.toList
  rw [he0] at hD
  clear he0
  generalize decMsg s.data.toList = x at *
  have hF := hide (fun u hu => xfind_any x.i hxok.2.2.2.1 u B ck ps v hu hok (by omega))
  have hfl := findX_le x.i ps
  generalize findX x.i ps = j at *
  obtain ⟨ad, cap, hv, _⟩ := hX.row.form Xp.cells_length
  subst hv
  obtain ⟨k, f, t, i, l, p, g, a, m⟩ := x
  simp only [Msg.v, Msg.cells] at hD ht0 hF
  subst ht0
  have d0 : decide ((j : Int) ≥ (ps.length : Int)) = true := by simp; omega
  have d0' : decide ((ps.length : Int) ≤ (j : Int)) = true := by simp; omega
  clear hxok
  go_enter Tryz.func113, Tryz.ntmps113
  go_wp2_with fail
  refine (hD.out _).mono ?_
  rintro e w1 ⟨rfl, hb⟩
  have B1 := Box.mk0 w1 #[Value.int .u8 (k : Int), .int .u8 (f : Int), .int .u8 0, .int .u32 (i : Int), .int .u8 (l : Int), .int .u16 (p : Int), .int .u16 (g : Int), .int .u32 (a : Int), .string (bs m)] 102
  have hb2 := hb.trans (B1.bel.mono hb.size)
  have hX2 := hX.below hb2
  have hcB : ∀ o, _ = (#[.int .u64 (ck : Int), .slice ad ps.length cap] : Array Value)[o]? := fun o => cell_at hX2.blk o
  have hBl := hX2.lt
  clear hD
  go_wp2_with fail
  refine (hF.out _ hX2).mono ?_
  rintro e w3 ⟨rfl, rfl⟩
  clear hF
  go_wp2
  go_ret3
  exact ⟨rfl, hb2⟩
/-- a payment in its box, out of the row -/
theorem box_of {w u : World} {B ck : Nat} {ps : List Xp} {v : Value} {x : Xp} (hX : XD w B ck ps v) (hx : x ∈ ps) (hb : Below w.heap.size w u) : PBox (u.alloc (.cells x.cells.toArray 135)) u.heap.size x :=
  ⟨heap_alloc_self _ _, ((hX.legs x hx).below hb).below ((Below.refl _ _).alloc (Nat.le_refl _) _)⟩
set_option maxRecDepth 100000 in
set_option maxHeartbeats 1000000 in
theorem xTaken_leg (s : ByteArray) (hs : s.size ≤ maxLen) (w : World) (B ck : Nat) (ps : List Xp) (v : Value) (hX : XD w B ck ps v) (hfine : ∀ y, y ∈ ps → y.fine) (hlen : ps.length ≤ 1000) (he0 : decErr s.data.toList = 0) (ht0 : (decMsg s.data.toList).t = 0) (hj : findX (decMsg s.data.toList).i ps < ps.length)
    (hhl : hasLegB ps[findX (decMsg s.data.toList).i ps].pm (decMsg s.data.toList).l (decMsg s.data.toList).f = false) :
    Calls Tryz.prog 113 #[.pointer (some ⟨B, 0, none⟩), .string s] w fun e w' => e = .returned (.tuple #[.slice none 0 0, .string ⟨#[]⟩, .int .i64 13]) ∧ Below w.heap.size w w' := by
  have hD := hide (decode_any s hs)
  have hxok := decMsg_ok s.data.toList
  rw [he0] at hD
  clear he0
  generalize decMsg s.data.toList = x at *
  have hF := hide (fun u hu => xfind_any x.i hxok.2.2.2.1 u B ck ps v hu (fun y hy => (hfine y hy).ok) (by omega))
  have hmem := List.getElem_mem hj
  have hfx := hfine _ hmem
  have hH := hide (fun (u : World) b (hu : PBox u b ps[findX x.i ps]) => hasLeg_any ps[findX x.i ps] hfx.ok hfx.few x.l x.f hxok.2.2.2.2.1 hxok.2.1 u b hu)
  rw [hhl] at hH
  have hPb := hide (fun (u : World) (hb : Below w.heap.size w u) => box_of hX hmem hb)
  obtain ⟨ad, cap, hv, hev⟩ := hX.row.form Xp.cells_length
  obtain ⟨g', hg, hcell0, _⟩ := hev _ hj
  subst hg
  subst hv
  have hgl : g' < w.heap.size := hX.row.lt rfl
  clear hhl hmem hfx
  generalize ps[findX x.i ps] = E at *
  generalize findX x.i ps = j at *
  obtain ⟨⟨ei, ed, em, el, ea, ec⟩, es, eh, en⟩ := E
  obtain ⟨k, f, t, i, l, p, g, a, m⟩ := x
  simp only [Msg.v, Msg.cells, Xp.cells] at hD ht0 hF hH hPb
  subst ht0
  have d0 : decide ((j : Int) ≥ (ps.length : Int)) = false := by simp; omega
  have d0' : decide ((ps.length : Int) ≤ (j : Int)) = false := by simp; omega
  have hji : (j : Int) < (ps.length : Int) := by omega
  clear hxok
  go_enter Tryz.func113, Tryz.ntmps113
  go_wp2_with fail
  refine (hD.out _).mono ?_
  rintro e w1 ⟨rfl, hb⟩
  clear hD
  go_wp2_with fail
  have B1 := Box.mk0 w1 #[Value.int .u8 (k : Int), .int .u8 (f : Int), .int .u8 0, .int .u32 (i : Int), .int .u8 (l : Int), .int .u16 (p : Int), .int .u16 (g : Int), .int .u32 (a : Int), .string (bs m)] 102
  generalize World.alloc _ _ = W2 at B1 ⊢
  have hb2 := hb.trans (B1.bel.mono hb.size)
  have hX2 := hX.below hb2
  have hcB : ∀ o, W2.cell? ⟨B, o, none⟩ = (#[.int .u64 (ck : Int), .slice (some ⟨g', 0, none⟩) ps.length cap] : Array Value)[o]? := fun o => cell_at hX2.blk o
  have hBl := hX2.lt
  have hcm := B1.cell
  have hlm := B1.lt
  have hcell : ∀ o, o < 7 → W2.cell? ⟨g', j * 7 + o, none⟩ = (Xp.cells ⟨⟨ei, ed, em, el, ea, ec⟩, es, eh, en⟩)[o]? := fun o ho => (hb2.cell (p := ⟨g', j * 7 + o, none⟩) hgl).trans (hcell0 o ho)
  have c0 := hcell 0 (by decide)
  have c1 := hcell 1 (by decide)
  have c2 := hcell 2 (by decide)
  have c3 := hcell 3 (by decide)
  have c4 := hcell 4 (by decide)
  have c5 := hcell 5 (by decide)
  have c6 := hcell 6 (by decide)
  simp only [Xp.cells, List.getElem?_cons_zero, List.getElem?_cons_succ, Nat.add_zero] at c0 c1 c2 c3 c4 c5 c6
  clear hcell hcell0 hev
  refine (hF.out _ hX2).mono ?_
  rintro e w3 ⟨rfl, rfl⟩
  clear hF
  have hPB := hide (hPb.out _ hb2)
  have hb4 := hide (hb2.alloc hb2.size (.cells #[.int .u32 (ei : Int), .int .u64 (ed : Int), .string (bs em), .slice ea el.length ec, .int .u8 (es : Int), .int .u8 (eh : Int), .int .u8 (en : Int)] 135))
  go_wp2_with fail
  refine (hH.out _ _ hPB.out).mono ?_
  rintro e w4 ⟨rfl, hb5⟩
  have hB5 := hide (hb4.out.trans (hb5.mono hb4.out.size))
  clear hH hPb hPB c0 c1 c2 c3 c4 c5 c6 hcB hcm
  go_wp2
  go_ret3
  exact ⟨rfl, hB5.out⟩
end Go.Proofs.YtjkhbjgfoopomabGreat
