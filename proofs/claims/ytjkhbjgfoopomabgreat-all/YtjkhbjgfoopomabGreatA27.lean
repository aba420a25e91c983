import Derived.Test.YtjkhbjgfoopomabGreatA26
import Derived.Test.YtjkhbjgfoopomabGreatA13
namespace Go.Proofs.YtjkhbjgfoopomabGreat
open Go.RowKit
set_option maxRecDepth 100000
set_option maxHeartbeats 2000000
set_option linter.unusedVariables false
set_option linter.unusedSimpArgs false
def xdfoot (B : Nat) (ps : List Xp) (v : Value) (k : Nat) : Prop := k = B ∨ v.ownBlock = some k ∨ ∃ x, x ∈ ps ∧ x.pm.lv.ownBlock = some k
structure XDap (B : Nat) (ps : List Xp) (v : Value) : Prop where
 a : v.ownBlock ≠ some B
 l : ∀ x, x ∈ ps → ∀ g, x.pm.lv.ownBlock = some g → g ≠ B ∧ v.ownBlock ≠ some g
structure XDTo (w w' : World) (B ck' : Nat) (ps ps' : List Xp) (v v' : Value) : Prop where
 xd : XD w' B ck' ps' v'
 kept : Kept (fun k => k = B ∨ v.ownBlock = some k) w w'
 ownv : ∀ k, v'.ownBlock = some k → v.ownBlock = some k ∨ w.heap.size ≤ k
 ownl : ∀ x, x ∈ ps' → ∀ k, x.pm.lv.ownBlock = some k → (∃ y, y ∈ ps ∧ y.pm.lv.ownBlock = some k) ∨ w.heap.size ≤ k
 ap : XDap B ps' v'
theorem XDTo.own {w w' : World} {B ck' : Nat} {ps ps' : List Xp} {v v' : Value} (h : XDTo w w' B ck' ps ps' v v') : ∀ k, xdfoot B ps' v' k → xdfoot B ps v k ∨ w.heap.size ≤ k := by
 rintro k (rfl | h1 | ⟨x, hx, h1⟩)
 ·exact .inl (.inl rfl)
 ·exact (h.ownv k h1).imp_left (fun h2 => .inr (.inl h2))
 ·exact (h.ownl x hx k h1).imp_left (fun h2 => .inr (.inr h2))
theorem XDTo.same {w u : World} {B ck : Nat} {ps : List Xp} {v : Value} (hX : XD w B ck ps v) (hap : XDap B ps v) (hb : Below w.heap.size w u) : XDTo w u B ck ps ps v v :=
 ⟨hX.below hb, Kept.of_below hb, fun k h => .inl h, fun x hx k h => .inl ⟨x, hx, h⟩, hap⟩
theorem XDTo.then {w u u2 : World} {B ck : Nat} {ps ps' : List Xp} {v v' : Value} (h : XDTo w u B ck ps ps' v v') (hb : Below u.heap.size u u2) : XDTo w u2 B ck ps ps' v v' :=
 ⟨h.xd.below hb, h.kept.trans (Kept.of_below (S := fun _ => False) hb) (fun i hi => hi.elim), h.ownv, h.ownl, h.ap⟩
theorem XD.foot_lt {w : World} {B ck : Nat} {ps : List Xp} {v : Value} (h : XD w B ck ps v) {k : Nat} (hk : xdfoot B ps v k) : k < w.heap.size := by
 rcases hk with rfl | hk | ⟨x, hx, hk⟩
 ·exact h.lt
 ·exact h.row.lt hk
 ·exact (h.legs x hx).lt hk
theorem XD.grow {w0 w w2 : World} {B ck g n cap : Nat} {ps : List Xp} {e : Xp} {v : Value} (hX : XD w0 B ck ps v) (hap : XDap B ps v) (hb : Below w0.heap.size w0 w) (hrow : RowOf w2 135 7 Xp.cells (.slice (some ⟨g, 0, none⟩) n cap) (ps ++ [e])) (hk : Kept (fun k => v.ownBlock = some k) w w2) (hg : v.ownBlock = some g ∨ w.heap.size ≤ g)
  (hL : RowOf w 67 4 Pl.cells e.pm.lv e.pm.legs) (hLf : ∀ h, e.pm.lv.ownBlock = some h → w0.heap.size ≤ h) : XDTo w0 (w2.setCell ⟨B, 1, none⟩ (.slice (some ⟨g, 0, none⟩) n cap)) B ck ps (ps ++ [e]) v (.slice (some ⟨g, 0, none⟩) n cap) := by
 have one : ∀ g', (Value.slice (some ⟨g, 0, none⟩) n cap).ownBlock = some g' → g' = g := fun g' h' => by simpa [Value.ownBlock] using h'.symm
 have hXw := hX.below hb
 have hBl := hX.lt
 have hs0 := hb.size
 have hB : w2.heap[B]? = some (.cells #[.int .u64 (ck : Int), v] (tyAt w B) (0, 0)) := by rw [hk.block B hXw.lt hap.a]; exact hXw.blk
 have hvl : ∀ k, v.ownBlock = some k → k < w0.heap.size := fun k h => hX.row.lt h
 have hgB : g ≠ B := by
  rcases hg with h | h
  ·intro e; subst e; exact hap.a h
  ·omega
 have hgl : ∀ x, x ∈ ps → ∀ h, x.pm.lv.ownBlock = some h → g ≠ h := fun x hx h hh e => by
  subst e;rcases hg with h' | h'
  ·exact (hap.l x hx _ hh).2 h'
  ·have := (hXw.legs x hx).lt hh; omega
 have hge : ∀ h, e.pm.lv.ownBlock = some h → g ≠ h := fun h hh e => by
  subst e;rcases hg with h' | h'
  ·have := hvl _ h'; have := hLf _ hh; omega
  ·have := hL.lt hh; omega
 refine ⟨⟨ty_of (heap_set_self hB 1 _), hrow.kept (Kept.of_setCell _ _ _) (fun g' h' => by rw [one g' h']; exact hgB), ?_⟩, ?_, ?_, ?_, ⟨fun e => hgB (one _ e).symm, ?_⟩⟩
 ·intro x hx;rcases List.mem_append.1 hx with hx | hx
  ·exact ((hXw.legs x hx).kept hk (fun h hh e => (hap.l x hx h hh).2 e)).kept (Kept.of_setCell _ _ _) (fun h hh => (hap.l x hx h hh).1)
  ·rw [List.mem_singleton] at hx;subst hx
   exact (hL.kept hk (fun h hh e => by have := hvl _ e; have := hLf _ hh; omega)).kept (Kept.of_setCell _ _ _) (fun h hh e => by
    have h1 := hLf _ hh;have h2 : h = B := e
    omega)
 ·exact ((Kept.of_below hb).trans hk (fun i h => .inl (.inr h))).trans (Kept.of_setCell _ _ _) (fun i h => .inl (.inl h))
 ·intro k h;rw [one k h];rcases hg with h' | h'
  ·exact .inl h'
  ·exact .inr (by omega)
 ·intro x hx k h;rcases List.mem_append.1 hx with hx | hx
  ·exact .inl ⟨x, hx, h⟩
  ·rw [List.mem_singleton] at hx;subst hx;exact .inr (hLf _ h)
 ·intro x hx h hh;rcases List.mem_append.1 hx with hx | hx
  ·exact ⟨(hap.l x hx h hh).1, fun e => hgl x hx h hh (one _ e).symm⟩
  ·rw [List.mem_singleton] at hx;subst hx;exact ⟨by have := hLf _ hh; omega, fun e => hge h hh (one _ e).symm⟩
theorem XDTo.rowP {w u u' : World} {B ck : Nat} {ps ps1 ps2 : List Xp} {v v1 : Value} (h : XDTo w u B ck ps ps1 v v1) (hk : Kept (fun k => v1.ownBlock = some k) u u') (hrow : RowOf u' 135 7 Xp.cells v1 ps2) (hl : ∀ x, x ∈ ps2 → ∃ y, y ∈ ps1 ∧ y.pm = x.pm) : XDTo w u' B ck ps ps2 v v1 := by
 refine ⟨⟨ty_of (by rw [hk.block B h.xd.lt h.ap.a]; exact h.xd.blk), hrow, fun x hx => ?_⟩, h.kept.trans hk (fun i hi => (h.ownv i hi).imp_left .inr), h.ownv, fun x hx k hk' => ?_, ⟨h.ap.a, fun x hx g hg => ?_⟩⟩
 ·obtain ⟨y, hy, e⟩ := hl x hx;rw [← e];exact (h.xd.legs y hy).kept hk (fun g hg e2 => (h.ap.l y hy g hg).2 e2)
 ·obtain ⟨y, hy, e⟩ := hl x hx;exact h.ownl y hy k (by rw [e]; exact hk')
 ·obtain ⟨y, hy, e⟩ := hl x hx;exact h.ap.l y hy g (by rw [e]; exact hg)
theorem set_from {l : List Xp} {k : Nat} {y : Xp} (hy : ∃ z, z ∈ l ∧ z.pm = y.pm) : ∀ x, x ∈ l.set k y → ∃ z, z ∈ l ∧ z.pm = x.pm := fun x hx => by
 rcases List.mem_or_eq_of_mem_set hx with h | h
 ·exact ⟨x, h, rfl⟩
 ·rw [h]; exact hy
theorem XDTo.putP {w u : World} {B ck : Nat} {ps ps1 : List Xp} {v : Value} {g n cap : Nat} (h : XDTo w u B ck ps ps1 v (.slice (some ⟨g, 0, none⟩) n cap)) (k : Nat) (hk : k < ps1.length) (x : Xp) (hx : ∃ z, z ∈ ps1 ∧ z.pm = x.pm) :
  XDTo w (putL u g (k * 7) x.cells) B ck ps (ps1.set k x) v (.slice (some ⟨g, 0, none⟩) n cap) :=
 h.rowP ((putL_kept x.cells u g (k * 7)).mono (fun i _ e => by subst e; rfl)) (h.xd.row.put Xp.cells_length rfl k hk x) (set_from hx)
theorem twice_box {u : World} {g b n m : Nat} {o : Obj} (hb : u.heap[b]? = some o) (hne : b ≠ g) (xs ys : List Value) : (putL (putL u g n xs) g m ys).drew.heap[b]? = some o := by
 have k1 := putL_kept xs u g n
 have k2 := putL_kept ys (putL u g n xs) g m
 have h1 : (putL u g n xs).heap[b]? = some o := by rw [k1.block _ (block_lt hb) hne]; exact hb
 generalize putL u g n xs = u1 at *
 have h2 : (putL u1 g m ys).heap[b]? = some o := by rw [k2.block _ (block_lt h1) hne]; exact h1
 generalize putL u1 g m ys = u2 at *
 exact h2
theorem twice_kept (u : World) (g n m : Nat) (xs ys : List Value) : Kept (fun k => k = g) u (putL (putL u g n xs) g m ys).drew := by
 have k1 := putL_kept xs u g n
 have k2 := putL_kept ys (putL u g n xs) g m
 have k3 := k1.trans k2 (fun i h => .inl h)
 generalize putL (putL u g n xs) g m ys = z at *
 exact k3.drew
theorem XDTo.twice {w u : World} {B ck : Nat} {ps ps1 ps2 : List Xp} {v : Value} {g n cap : Nat} (h : XDTo w u B ck ps ps1 v (.slice (some ⟨g, 0, none⟩) n cap)) (i j : Nat) (hi : i < ps1.length) (hj : j < ps1.length) (e x : Xp) (h2 : ps2 = (ps1.set i e).set j x) (hl : ∀ y, y ∈ ps2 → ∃ z, z ∈ ps1 ∧ z.pm = y.pm) :
  XDTo w (putL (putL u g (i * 7) e.cells) g (j * 7) x.cells).drew B ck ps ps2 v (.slice (some ⟨g, 0, none⟩) n cap) := by
 have k1 := putL_kept e.cells u g (i * 7)
 have r1 := h.xd.row.put Xp.cells_length rfl i hi e
 have k2 := putL_kept x.cells (putL u g (i * 7) e.cells) g (j * 7)
 have r2 := r1.put Xp.cells_length rfl j (by rw [List.length_set]; exact hj) x
 rw [← h2] at r2
 have hR := h.rowP ((k1.trans k2 (fun i h => .inl h)).mono (fun i _ e => by subst e; rfl)) r2 hl
 generalize putL (putL u g (i * 7) e.cells) g (j * 7) x.cells = z at *
 exact hR.then ((Below.refl _ _).drew)
theorem xpInfo : (Tryz.prog.info? 135).map (fun i => (i.zero, i.size, i.bytes)) = some (some (.agg #[.int .u32 0, .int .u64 0, .string ByteArray.empty, .slice none 0 0, .int .u8 0, .int .u8 0, .int .u8 0]), 7, 64) := by kernel_rfl
theorem xp_one (e : Xp) : ∀ u ∈ e.cells, u.oneCell' = true := by
 intro u hu
 simp only [Xp.cells, List.mem_cons, List.not_mem_nil, or_false] at hu
 rcases hu with h | h | h | h | h | h | h <;> subst h <;> rfl
def insX (x : Xp) (k : Nat) (ls : List Xp) : List Xp := ls.take k ++ x :: ls.drop k
theorem insX_length (x : Xp) (k : Nat) (ls : List Xp) : (insX x k ls).length = ls.length + 1 := by simp [insX]; omega
theorem insX_end (x : Xp) (ls : List Xp) : insX x ls.length ls = ls ++ [x] := by simp [insX]
theorem insX_get (x : Xp) (k : Nat) (ls : List Xp) (hk : k < ls.length) : (insX x (k + 1) ls)[k]? = some ls[k] := by
 have h : k < (ls.take (k + 1)).length := by simp; omega
 unfold insX
 rw [List.getElem?_append_left h, List.getElem?_take_of_lt (by omega), List.getElem?_eq_getElem hk]
theorem insX_self (x : Xp) (k : Nat) (ls : List Xp) (hk : k ≤ ls.length) : (insX x k ls)[k]'(by rw [insX_length]; omega) = x := by
 have h4 : (ls.take k).length = k := by simp; omega
 simp only [insX]
 rw [List.getElem_append_right (by omega)]
 simp [h4]
theorem insX_mem (x : Xp) (k : Nat) (ls : List Xp) : x ∈ insX x k ls := by simp [insX]
theorem insX_iff (x y : Xp) (k : Nat) (ls : List Xp) : y ∈ insX x k ls ↔ y = x ∨ y ∈ ls := by
 have h : y ∈ ls ↔ y ∈ ls.take k ∨ y ∈ ls.drop k := by rw [← List.mem_append, List.take_append_drop]
 simp only [insX, List.mem_append, List.mem_cons, h]
 constructor
 ·rintro (h | h | h)
  ·exact .inr (.inl h)
  ·exact .inl h
  ·exact .inr (.inr h)
 ·rintro (h | h | h)
  ·exact .inr (.inl h)
  ·exact .inl h
  ·exact .inr (.inr h)
theorem insX_step (x : Xp) (k : Nat) (ls : List Xp) (hk : k < ls.length) : insX x k ls = ((insX x (k + 1) ls).set (k + 1) ls[k]).set k x := by
 have h1 : (ls.take (k + 1)).length = k + 1 := by simp; omega
 have h2 : ls.drop k = ls[k] :: ls.drop (k + 1) := List.drop_eq_getElem_cons hk
 have h3 : ls.take (k + 1) = ls.take k ++ [ls[k]] := List.take_succ_eq_append_getElem hk
 have h4 : (ls.take k).length = k := by simp; omega
 unfold insX
 rw [List.set_append_right _ _ (by omega), h1, Nat.sub_self, List.set_cons_zero, h3, List.append_assoc, List.set_append_right _ _ (by omega), h4, Nat.sub_self, h2]
 rfl
theorem keepD_any (x : Xp) (hx : x.ok) (w0 w : World) (B ck : Nat) (ps : List Xp) (v : Value) (hX0 : XD w0 B ck ps v) (hap : XDap B ps v) (hb0 : Below w0.heap.size w0 w) (hL : RowOf w 67 4 Pl.cells x.pm.lv x.pm.legs) (hLf : ∀ h, x.pm.lv.ownBlock = some h → w0.heap.size ≤ h) (hok : ∀ y, y ∈ ps → y.ok) (hlen : ps.length < 100) :
  Calls Tryz.prog 64 #[.pointer (some ⟨B, 0, none⟩), .agg x.cells.toArray] w fun e w' =>
   e = .returned (.tuple #[]) ∧ ∃ k v', k ≤ ps.length ∧ (∀ q (hq : q < ps.length), k ≤ q → x.pm.id < ps[q].pm.id) ∧ (∀ j (hj : j < ps.length), k = j + 1 → ¬ x.pm.id < ps[j].pm.id) ∧ XDTo w0 w' B ck ps (insX x k ps) v v' ∧ Kept (fun k => k = B ∨ v.ownBlock = some k) w w' := by
 obtain ⟨i0, hi, y0, y1, y2⟩ := info_parts xpInfo
 obtain ⟨ad, cap, hv, hev⟩ := hX0.row.form Xp.cells_length
 subst hv
 clear hev
 have hX := hX0.below hb0
 obtain ⟨⟨xi, xd, xm, xl, xa, xc⟩, xs, xh, xn⟩ := x
 obtain ⟨⟨hx1, hx2, hx3⟩, _⟩ := hx
 have hc : ∀ o, w.cell? ⟨B, o, none⟩ = (#[.int .u64 (ck : Int), .slice ad ps.length cap] : Array Value)[o]? := fun o => cell_at hX.blk o
 have hBl := hX.lt
 simp only [Xp.cells] at *
 go_enter Tryz.func64, Tryz.ntmps64
 go_wp2_with fail
 have B1 := Box.mk0 w #[.int .u32 (xi : Int), .int .u64 (xd : Int), .string (bs xm), .slice xa xl.length xc, .int .u8 (xs : Int), .int .u8 (xh : Int), .int .u8 (xn : Int)] 135
 have hblk1 := heap_alloc_self w (.cells #[.int .u32 (xi : Int), .int .u64 (xd : Int), .string (bs xm), .slice xa xl.length xc, .int .u8 (xs : Int), .int .u8 (xh : Int), .int .u8 (xn : Int)] 135)
 generalize World.alloc _ _ = w1 at B1 hblk1 ⊢
 have hX1 := hX.below B1.bel
 have hb1 : Below w0.heap.size w0 w1 := hb0.trans (B1.bel.mono hb0.size)
 have hL1 := hL.below B1.bel
 have hcm := B1.cell
 have hltm := B1.lt
 clear hc
 have hc : ∀ o, w1.cell? ⟨B, o, none⟩ = (#[.int .u64 (ck : Int), .slice ad ps.length cap] : Array Value)[o]? := fun o => cell_at hX1.blk o
 have hf : ∀ o, w1.frozen? ⟨B, o, none⟩ = false := fun o => frozen_at hX1.blk o
 have hBl1 := hX1.lt
 have hrow1 := hX1.row
 have hneB : w.heap.size ≠ B := by omega
 have hneB' : B ≠ w.heap.size := by omega
 have hown : ∀ k, (Value.slice ad ps.length cap).ownBlock = some k → k < w.heap.size := fun k hk => hX.row.lt hk
 have hWb : Below w1.heap.size w1 (w1.alloc (.cells (Xp.cells ⟨⟨xi, xd, xm, xl, xa, xc⟩, xs, xh, xn⟩).toArray 135)).drew := ((Below.refl _ _).alloc (Nat.le_refl _) _).drew
 have hWr := hide (hrow1.below hWb)
 have hWa : Hid ((w1.alloc (.cells (Xp.cells ⟨⟨xi, xd, xm, xl, xa, xc⟩, xs, xh, xn⟩).toArray 135)).drew.heap[w1.heap.size]? = some (.cells (Xp.cells ⟨⟨xi, xd, xm, xl, xa, xc⟩, xs, xh, xn⟩).toArray 135 (0, 0))) := hide (heap_alloc_self w1 _)
 have hWk : Hid (Kept (fun k => (Value.slice ad ps.length cap).ownBlock = some k) w1 (w1.alloc (.cells (Xp.cells ⟨⟨xi, xd, xm, xl, xa, xc⟩, xs, xh, xn⟩).toArray 135)).drew) := hide (Kept.of_below hWb)
 simp only [Xp.cells] at hWb hWr hWa hWk
 go_region_law (refine step_row Xp.cells_length (by rfl) _ _ 82 (by rfl) 135 i0 _ 64 Tryz.underlying82 hi y0 y1 y2 rfl (by decide) (.slice ad ps.length cap) ps w1.heap.size 1 ⟨⟨xi, xd, xm, xl, xa, xc⟩, xs, xh, xn⟩ (xp_one _) (by unfold maxLen; omega) (by omega) (by first | rfl | simp [Act.eval, Act.put]) (by first | rfl | simp [Act.eval, Act.put]) (by exact hWr.out) (by exact hWa.out) ?_; intro g' cap' w6 hrow2 hk2 hg2 hlt2; replace hk2 := hWk.out.trans hk2 (fun i hi => .inl hi); replace hg2 := hg2.imp_right (fun h => Nat.le_trans hWb.size h); have hblk : w6.heap[B]? = some (.cells #[.int .u64 (ck : Int), .slice ad ps.length cap] (tyAt w1 B) (0, 0)) := (by rw [hk2.block B hBl1 hap.a]; exact hX1.blk); have hc2 := fun o => cell_at hblk o; have hf2 := fun o => frozen_at hblk o; have hlt6 := Nat.lt_of_lt_of_le B1.lt hk2.size; have X9 : Hid (RowOf w6 135 7 Xp.cells (.slice (some ⟨g', 0, none⟩) (ps.length + 1) cap') (ps ++ [⟨⟨xi, xd, xm, xl, xa, xc⟩, xs, xh, xn⟩]) ∧ Kept (fun k => (Value.slice ad ps.length cap).ownBlock = some k) w1 w6 ∧ ((Value.slice ad ps.length cap).ownBlock = some g' ∨ w1.heap.size ≤ g')) := hide ⟨hrow2, hk2, hg2⟩; clear hrow2 hk2 hg2 hblk)
 all_goals (
  have hto := (XD.grow hX0 hap hb1 X9.out.1 X9.out.2.1 X9.out.2.2 hL1 hLf)
  have hbox : (w6.setCell ⟨B, 1, none⟩ (.slice (some ⟨g', 0, none⟩) (ps.length + 1) cap')).heap[w.heap.size]? = w1.heap[w.heap.size]? := by
   rw [(Kept.of_setCell w6 ⟨B, 1, none⟩ _).block _ hlt6 hneB];exact X9.out.2.1.block _ B1.lt (fun h => by have := hown _ h; omega)
  have hgw : g' ≠ w.heap.size := by
   rcases X9.out.2.2 with h | h
   ·have := hown _ h; omega
   ·have := B1.lt; omega
  have hgk : ∀ i, i = g' → (i = B ∨ (Value.slice ad ps.length cap).ownBlock = some i) ∨ w.heap.size ≤ i := fun i e => by
   subst e;rcases X9.out.2.2 with h | h
   ·exact .inl (.inr h)
   ·exact .inr (Nat.le_trans B1.bel.size h)
  have hkw : Kept (fun k => k = B ∨ (Value.slice ad ps.length cap).ownBlock = some k) w (w6.setCell ⟨B, 1, none⟩ (.slice (some ⟨g', 0, none⟩) (ps.length + 1) cap')) := ((Kept.of_below B1.bel).trans X9.out.2.1 (fun i h => .inl (.inr h))).trans (Kept.of_setCell _ _ _) (fun i h => .inl (.inl h));clear hcm hWb hWr hWa hWk hc hf hc2 hf2 X9;generalize World.setCell _ _ _ = u0 at *;generalize hn1 : ps.length + 1 = n1 at *;have hn2 : n1 ≤ 100 := by omega
  have hn3 : 1 ≤ n1 := by omega
  replace hn1 := hide hn1;have hc : ∀ o, u0.cell? ⟨B, o, none⟩ = (#[.int .u64 (ck : Int), .slice (some ⟨g', 0, none⟩) n1 cap'] : Array Value)[o]? := fun o => cell_at hto.xd.blk o;have hbx : u0.heap[w.heap.size]? = some (.cells #[.int .u32 (xi : Int), .int .u64 (xd : Int), .string (bs xm), .slice xa xl.length xc, .int .u8 (xs : Int), .int .u8 (xh : Int), .int .u8 (xn : Int)] 135 (0, 0)) := by rw [hbox]; exact hblk1
  clear hbox;go_wp2_with fail
  go_loopw [4] (fun c u => ∃ k : Nat, k ≤ ps.length ∧ c = .int .i64 k ∧ (∀ q (hq : q < ps.length), k ≤ q → xi < ps[q].pm.id) ∧ u.heap[w.heap.size]? = some (.cells #[.int .u32 (xi : Int), .int .u64 (xd : Int), .string (bs xm), .slice xa xl.length xc, .int .u8 (xs : Int), .int .u8 (xh : Int), .int .u8 (xn : Int)] 135 (0, 0)) ∧ XDTo w0 u B ck ps (insX ⟨⟨xi, xd, xm, xl, xa, xc⟩, xs, xh, xn⟩ k ps) (.slice ad ps.length cap) (.slice (some ⟨g', 0, none⟩) n1 cap') ∧ Kept (fun k => k = B ∨ (Value.slice ad ps.length cap).ownBlock = some k) w u) (fun c _ => (intOf c).toNat)
  case atStart => exact ⟨ps.length, Nat.le_refl _, by rw [show ((n1 : Int) - 1) = (ps.length : Int) by have := hn1.out; omega], fun q h1 h2 => by omega, hbx, by rw [insX_end]; exact hto, hkw⟩
  case round =>
   obtain ⟨k, hk, rfl, hah, hbx2, hT, hKw⟩ := hrel;clear hc hto hbx hkw;replace hah := hide hah;have hc : ∀ o, wr.cell? ⟨B, o, none⟩ = (#[.int .u64 (ck : Int), .slice (some ⟨g', 0, none⟩) n1 cap'] : Array Value)[o]? := fun o => cell_at hT.xd.blk o;have hcb : ∀ o, wr.cell? ⟨w.heap.size, o, none⟩ = (#[.int .u32 (xi : Int), .int .u64 (xd : Int), .string (bs xm), .slice xa xl.length xc, .int .u8 (xs : Int), .int .u8 (xh : Int), .int .u8 (xn : Int)] : Array Value)[o]? := fun o => cell_at hbx2 o;have hBu := hT.xd.lt;have hbl := block_lt hbx2;cases k with
   | zero =>
    go_wp2_with fail
    go_quiet (fail)
    go_wp2;refine bodyPost_end (results_none rfl _ _ _) rfl ?_;exact ⟨rfl, 0, _, Nat.zero_le _, hah.out, fun jj hj e => by omega, hT.then ((Below.refl _ _).drewN _), hKw.trans (Kept.of_below (S := fun _ => False) ((Below.refl _ _).drewN _)) (fun i h => h.elim)⟩
   | succ j =>
    obtain ⟨adx, capx, hvx, hevx⟩ := hT.xd.row.form Xp.cells_length;have hjl : j < ps.length := by omega
    have hgi : j < (insX ⟨⟨xi, xd, xm, xl, xa, xc⟩, xs, xh, xn⟩ (j + 1) ps).length := by rw [insX_length]; omega
    obtain ⟨gx, hgx, hcell, hfro⟩ := hevx j hgi;have eg : g' = gx := by rw [hgx] at hvx; injection hvx with h1; injection h1 with h1; injection h1 with h1
    subst eg
    have hge : (insX ⟨⟨xi, xd, xm, xl, xa, xc⟩, xs, xh, xn⟩ (j + 1) ps)[j] = ps[j] := by
     have h := insX_get ⟨⟨xi, xd, xm, xl, xa, xc⟩, xs, xh, xn⟩ j ps hjl;rw [List.getElem?_eq_getElem hgi] at h;injection h
    rw [hge] at hcell;have hgi2 : j + 1 < (insX ⟨⟨xi, xd, xm, xl, xa, xc⟩, xs, xh, xn⟩ (j + 1) ps).length := by rw [insX_length]; omega
    have hst : Hid (insX ⟨⟨xi, xd, xm, xl, xa, xc⟩, xs, xh, xn⟩ j ps = ((insX ⟨⟨xi, xd, xm, xl, xa, xc⟩, xs, xh, xn⟩ (j + 1) ps).set (j + 1) ps[j]).set j ⟨⟨xi, xd, xm, xl, xa, xc⟩, xs, xh, xn⟩) := hide (insX_step ⟨⟨xi, xd, xm, xl, xa, xc⟩, xs, xh, xn⟩ j ps hjl);have hen := hok ps[j] (List.getElem_mem hjl);have hmj : ps[j] ∈ insX ⟨⟨xi, xd, xm, xl, xa, xc⟩, xs, xh, xn⟩ (j + 1) ps := by rw [← hge]; exact List.getElem_mem hgi
    have hstop : Hid (¬ xi < ps[j].pm.id → ∀ jj (hj : jj < ps.length), j + 1 = jj + 1 → ¬ xi < ps[jj].pm.id) := hide (fun h jj hj e => by obtain rfl : j = jj := (by omega); exact h)
    have hgo : Hid (xi < ps[j].pm.id → ∀ q (hq : q < ps.length), j ≤ q → xi < ps[q].pm.id) := hide (fun h q hq hjq => by
     by_cases e : q = j
     ·subst e; exact h
     ·exact hah.out q hq (by omega))
    have hgB : g' ≠ B := fun e => hT.ap.a (by rw [e]; rfl);have hgu : g' < wr.heap.size := hT.xd.row.lt rfl;have e0 := hcell 0 (by decide);have e1 := hcell 1 (by decide);have e2 := hcell 2 (by decide);have e3 := hcell 3 (by decide);have e4 := hcell 4 (by decide);have e5 := hcell 5 (by decide);have e6 := hcell 6 (by decide);obtain ⟨gy, hgy, hcell2, _⟩ := hevx (j + 1) hgi2;have eg : g' = gy := by rw [hgy] at hvx; injection hvx with h1; injection h1 with h1; injection h1 with h1
    subst eg;rw [insX_self _ _ _ hk] at hcell2;have f0 := hcell2 0 (by decide);have f1 := hcell2 1 (by decide);have f2 := hcell2 2 (by decide);have f3 := hcell2 3 (by decide);have f4 := hcell2 4 (by decide);have f5 := hcell2 5 (by decide);have f6 := hcell2 6 (by decide);clear hcell hcell2 hvx hevx hgx hgy;generalize hE : ps[j] = E at *;obtain ⟨⟨ei, ed, em, el, ea, ec⟩, es, eh, en⟩ := E;obtain ⟨⟨q1, _, _⟩, _⟩ := hen;simp only [Xp.cells, List.getElem?_cons_zero, List.getElem?_cons_succ, Nat.add_zero] at e0 e1 e2 e3 e4 e5 e6 f0 f1 f2 f3 f4 f5 f6 q1 hstop hgo;have hW6 := wrap_nat j (by omega);have hj0 : (0 : Int) ≤ (j : Int) := by omega
    have hj1 : (j : Int) < (n1 : Int) := by have := hn1.out; omega
    have hj2 : (j : Int) + 1 < (n1 : Int) := by have := hn1.out; omega
    have hpos : decide ((0 : Int) < (j : Int) + 1) = true := decide_eq_true (by omega);have hpos2 : decide ((j : Int) + 1 > 0) = true := decide_eq_true (by omega);by_cases hab : xi < ei
    ·have dab : decide ((xi : Int) < (ei : Int)) = true := by simp; omega
     have dab2 : decide (xi < ei) = true := by simp; omega
     have hput : Hid (∀ m, XDTo w0 (putL (putL (wr.drewN m) g' ((j + 1) * 7) (Xp.cells ⟨⟨ei, ed, em, el, ea, ec⟩, es, eh, en⟩)) g' (j * 7) (Xp.cells ⟨⟨xi, xd, xm, xl, xa, xc⟩, xs, xh, xn⟩)).drew B ck ps (insX ⟨⟨xi, xd, xm, xl, xa, xc⟩, xs, xh, xn⟩ j ps) (.slice ad ps.length cap) (.slice (some ⟨g', 0, none⟩) n1 cap')) := hide (fun m =>
      (hT.then ((Below.refl _ _).drewN m)).twice (j + 1) j hgi2 hgi ⟨⟨ei, ed, em, el, ea, ec⟩, es, eh, en⟩ ⟨⟨xi, xd, xm, xl, xa, xc⟩, xs, xh, xn⟩ hst.out (fun y hy => ⟨y, (insX_iff _ _ _ _).2 ((insX_iff _ _ _ _).1 hy), rfl⟩))
     have hgB2 : B ≠ g' := fun e => hgB e.symm;have hgw2 : w.heap.size ≠ g' := fun e => hgw e.symm;have hbm : ∀ m, (wr.drewN m).heap[w.heap.size]? = some (.cells #[.int .u32 (xi : Int), .int .u64 (xd : Int), .string (bs xm), .slice xa xl.length xc, .int .u8 (xs : Int), .int .u8 (xh : Int), .int .u8 (xn : Int)] 135 (0, 0)) := fun m => by rw [((Below.refl wr.heap.size wr).drewN m).block _ hbl]; exact hbx2
     have hbx4 := fun m => twice_box (hbm m) hgw2 (n := (j + 1) * 7) (m := j * 7) (Xp.cells ⟨⟨ei, ed, em, el, ea, ec⟩, es, eh, en⟩) (Xp.cells ⟨⟨xi, xd, xm, xl, xa, xc⟩, xs, xh, xn⟩);have hKm : ∀ m, Kept (fun k => k = B ∨ (Value.slice ad ps.length cap).ownBlock = some k) w (putL (putL (wr.drewN m) g' ((j + 1) * 7) (Xp.cells ⟨⟨ei, ed, em, el, ea, ec⟩, es, eh, en⟩)) g' (j * 7) (Xp.cells ⟨⟨xi, xd, xm, xl, xa, xc⟩, xs, xh, xn⟩)).drew := fun m => (hKw.trans (Kept.of_below (S := fun _ => False) ((Below.refl _ _).drewN m)) (fun i h => h.elim)).trans (twice_kept _ _ _ _ _ _) hgk;have hgo2 := hide (hgo.out hab);have hp := hput.out;simp only [putL, Xp.cells, Nat.add_assoc, Nat.reduceAdd] at hbx4 hp hKm;replace hKm := hide hKm;replace hbx4 := hide hbx4;replace hp := hide hp;clear hab hgo hstop hput;go_wp2_with fail
     go_quiet (fail)
     go_wp2
     go_region
     go_wp2
     go_region
     go_wp2;refine ⟨⟨j, by omega, rfl, hgo2.out, ?_, ?_, ?_⟩, by simp [intOf]⟩
     ·exact hbx4.out (nq + 1)
     ·exact hp.out (nq + 1)
     ·exact hKm.out (nq + 1)
    ·have dab : decide ((xi : Int) < (ei : Int)) = false := by simp; omega
     have dab2 : decide (xi < ei) = false := by simp; omega
     have hq := hide (hstop.out hab);clear hab hgo hstop;go_wp2_with fail
     go_quiet (fail)
     go_wp2;refine bodyPost_end (results_none rfl _ _ _) rfl ?_
     exact ⟨rfl, j + 1, _, hk, hah.out, hq.out, hT.then ((Below.refl _ _).drewN _), hKw.trans (Kept.of_below (S := fun _ => False) ((Below.refl _ _).drewN _)) (fun i h => h.elim)⟩)
def lateX (ck : Nat) (x : Xp) : Xp := if x.st = 1 ∧ x.pm.dl ≤ ck then { x with st := 3 } else x
theorem lateX_pm (ck : Nat) (x : Xp) : (lateX ck x).pm = x.pm := by unfold lateX; split <;> rfl
def lateTo (ck : Nat) (ps : List Xp) (k : Nat) : List Xp := (ps.take k).map (lateX ck) ++ ps.drop k
theorem lateTo_length (ck : Nat) (ps : List Xp) (k : Nat) : (lateTo ck ps k).length = ps.length := by simp [lateTo]; omega
theorem lateTo_zero (ck : Nat) (ps : List Xp) : lateTo ck ps 0 = ps := by simp [lateTo]
theorem lateTo_all (ck : Nat) (ps : List Xp) : lateTo ck ps ps.length = ps.map (lateX ck) := by simp [lateTo]
theorem lateTo_at (ck : Nat) (ps : List Xp) (k : Nat) (hk : k < ps.length) : (lateTo ck ps k)[k]'(by rw [lateTo_length]; exact hk) = ps[k] := by
 have h : ((ps.take k).map (lateX ck)).length = k := by simp; omega
 simp only [lateTo]
 rw [List.getElem_append_right (by omega)]
 simp only [h, Nat.sub_self, List.getElem_drop, Nat.add_zero]
theorem lateTo_step (ck : Nat) (ps : List Xp) (k : Nat) (hk : k < ps.length) : lateTo ck ps (k + 1) = (lateTo ck ps k).set k (lateX ck ps[k]) := by
 have h : ((ps.take k).map (lateX ck)).length = k := by simp; omega
 have h2 : ps.drop k = ps[k] :: ps.drop (k + 1) := List.drop_eq_getElem_cons hk
 simp only [lateTo]
 rw [List.set_append_right _ _ (by omega), h, Nat.sub_self, h2, List.set_cons_zero, List.take_succ_eq_append_getElem hk, List.map_append, List.append_assoc]
 rfl
theorem goOn_end (w : World) (B ck : Nat) (ps : List Xp) (v : Value) (hX : XD w B ck ps v) (hck : 1000000 ≤ ck) (hck2 : ck < 18446744073709551616) :
  Calls Tryz.prog 107 #[.pointer (some ⟨B, 0, none⟩)] w fun e w' => e = .returned (.int .i64 15) ∧ w' = w := by
 have hc : ∀ o, w.cell? ⟨B, o, none⟩ = (#[.int .u64 (ck : Int), v] : Array Value)[o]? := fun o => cell_at hX.blk o
 have d1 : decide ((ck : Int) ≥ 1000000) = true := by simp; omega
 have d2 : decide ((1000000 : Int) ≤ (ck : Int)) = true := by simp; omega
 go_enter Tryz.func107, Tryz.ntmps107
 go_wp2
 go_ret
 exact ⟨rfl, rfl⟩
theorem goOn_any (w : World) (B ck : Nat) (ps : List Xp) (v : Value) (hX : XD w B ck ps v) (hap : XDap B ps v) (hok : ∀ y, y ∈ ps → y.ok) (hlen : ps.length ≤ 1000) (hck : ck < 1000000) :
  Calls Tryz.prog 107 #[.pointer (some ⟨B, 0, none⟩)] w fun e w' => e = .returned (.int .i64 0) ∧ XDTo w w' B (ck + 1) ps (ps.map (lateX (ck + 1))) v v := by
 have hc : ∀ o, w.cell? ⟨B, o, none⟩ = (#[.int .u64 (ck : Int), v] : Array Value)[o]? := fun o => cell_at hX.blk o
 have hf : ∀ o, w.frozen? ⟨B, o, none⟩ = false := fun o => frozen_at hX.blk o
 have hBl := hX.lt
 have d1 : decide ((ck : Int) ≥ 1000000) = false := by simp; omega
 have d2 : decide ((1000000 : Int) ≤ (ck : Int)) = false := by simp; omega
 have hT0 : XDTo w (w.setCell ⟨B, 0, none⟩ (.int .u64 ((ck : Int) + 1))) B (ck + 1) ps ps v v := by
  have hk := Kept.of_setCell w ⟨B, 0, none⟩ (.int .u64 ((ck : Int) + 1));refine ⟨⟨?_, hX.row.kept hk (fun g hg e => hap.a (by rw [hg]; exact congrArg some e)), fun x hx => (hX.legs x hx).kept hk (fun g hg => (hap.l x hx g hg).1)⟩, hk.mono (fun i _ h => .inl h), fun k h => .inl h, fun x hx k h => .inl ⟨x, hx, h⟩, hap⟩;exact ty_of (heap_set_self hX.blk 0 _)
 obtain ⟨ad, cap, hv, _⟩ := hX.row.form Xp.cells_length
 subst hv
 go_enter Tryz.func107, Tryz.ntmps107
 go_wp2_with fail
 go_loopw [21] (fun c u => ∃ n : Nat, n ≤ ps.length ∧ c = .int .i64 n ∧ XDTo w u B (ck + 1) ps (lateTo (ck + 1) ps n) (.slice ad ps.length cap) (.slice ad ps.length cap)) (fun c _ => ps.length - (intOf c).toNat)
 case atStart => exact ⟨0, Nat.zero_le _, rfl, by rw [lateTo_zero]; exact hT0⟩
 case round =>
  obtain ⟨n, hn, rfl, hT⟩ := hrel;clear hc hf hT0;have hc : ∀ o, wr.cell? ⟨B, o, none⟩ = (#[.int .u64 (((ck + 1 : Nat) : Int)), .slice ad ps.length cap] : Array Value)[o]? := fun o => cell_at hT.xd.blk o;rw [show ((ck + 1 : Nat) : Int) = (ck : Int) + 1 by omega] at hc;have hBu := hT.xd.lt;by_cases hlt : n < ps.length
  ·have hnl : (n : Int) < (ps.length : Int) := by omega
   have dl : decide ((n : Int) < (ps.length : Int)) = true := by simp; omega
   have hl2 : n < (lateTo (ck + 1) ps n).length := by rw [lateTo_length]; exact hlt
   obtain ⟨ad', cap', hv', hev'⟩ := hT.xd.row.form Xp.cells_length;obtain ⟨g, hg, hcell, hfro⟩ := hev' n hl2;have ead : ad = ad' := by injection hv'
   subst ead;subst hg;rw [lateTo_at _ _ _ hlt] at hcell;have c1 := hcell 1 (by decide);have c4 := hcell 4 (by decide);have hgl : g < wr.heap.size := hT.xd.row.lt rfl;have hgB : g ≠ B := fun e => hT.ap.a (by rw [e]; rfl);have hek := hok ps[n] (List.getElem_mem hlt);have hset := hide (fun (u : World) (hu : RowOf u 135 7 Xp.cells (.slice (some ⟨g, 0, none⟩) ps.length cap) (lateTo (ck + 1) ps n)) => hu.set Xp.cells_length (g := g) rfl n 4 hl2 (by decide) (.int .u8 3) { ps[n] with st := 3 } (by rw [lateTo_at _ _ _ hlt]; rfl));have hs1 : Hid ((ps[n].st = 1 ∧ ps[n].pm.dl ≤ ck + 1) → lateTo (ck + 1) ps (n + 1) = (lateTo (ck + 1) ps n).set n { ps[n] with st := 3 }) := hide (fun h => by rw [lateTo_step _ _ _ hlt]; unfold lateX; rw [if_pos h])
   have hs2 : Hid (¬ (ps[n].st = 1 ∧ ps[n].pm.dl ≤ ck + 1) → lateTo (ck + 1) ps (n + 1) = lateTo (ck + 1) ps n) := hide (fun h => by
    rw [lateTo_step _ _ _ hlt];have : lateX (ck + 1) ps[n] = (lateTo (ck + 1) ps n)[n] := by unfold lateX; rw [if_neg h, lateTo_at _ _ _ hlt]
    rw [this, List.set_getElem_self])
   have hmem : Hid (∃ z, z ∈ lateTo (ck + 1) ps n ∧ z.pm = ({ ps[n] with st := 3 } : Xp).pm) := hide ⟨_, List.getElem_mem hl2, by rw [lateTo_at _ _ _ hlt]⟩;clear hcell hev' hv';generalize ps[n] = E at *;obtain ⟨⟨ei, ed, em, el, ea, ec⟩, es, eh, en⟩ := E;obtain ⟨⟨q1, q2, _⟩, q3, _⟩ := hek;simp only [Xp.cells, List.getElem?_cons_zero, List.getElem?_cons_succ, Nat.add_zero] at c1 c4 q2 q3 hs1 hs2 hmem;have f4 : wr.frozen? ⟨g, n * 7 + 4, none⟩ = false := hfro _;by_cases h1 : es = 1
   ·subst h1;by_cases h2 : ed ≤ ck + 1
    ·have d9 : decide ((ed : Int) ≤ (ck : Int) + 1) = true := by simp; omega
     have d9n : decide (ed ≤ ck + 1) = true := by simp; omega
     have hq := hide (hs1.out ⟨rfl, h2⟩)
     have hT9 : Hid (∀ m, XDTo w ((wr.drewN m).setCell ⟨g, n * 7 + 4, none⟩ (.int .u8 3)) B (ck + 1) ps (lateTo (ck + 1) ps (n + 1)) (.slice (some ⟨g, 0, none⟩) ps.length cap) (.slice (some ⟨g, 0, none⟩) ps.length cap)) := hide (fun m => by
      have hTm := hT.then ((Below.refl _ _).drewN m);rw [hq.out]
      exact hTm.rowP ((Kept.of_setCell _ ⟨g, n * 7 + 4, none⟩ _).mono (fun i _ e => by
       have e' : i = g := e
       subst e'; rfl)) (hset.out _ hTm.xd.row) (set_from hmem.out))
     clear hs1 hs2 h2 hset hmem hq;go_wp2_with fail
     go_quiet (fail)
     go_wp2;exact ⟨⟨n + 1, hlt, by go_num, hT9.out nq⟩, by simp [intOf]; omega⟩
    ·have d9 : decide ((ed : Int) ≤ (ck : Int) + 1) = false := by simp; omega
     have d9n : decide (ed ≤ ck + 1) = false := by simp; omega
     have hq := hide (hs2.out (fun h => h2 h.2));clear hs1 hs2 h2 hset hmem;go_wp2_with fail
     go_quiet (fail)
     go_wp2;exact ⟨⟨n + 1, hlt, by go_num, by rw [hq.out]; exact hT.then ((Below.refl _ _).drewN _)⟩, by simp [intOf]; omega⟩
   ·have d8 : ((es : Int) == 1) = false := by simp; omega
    have hq := hide (hs2.out (fun h => h1 h.1));clear hs1 hs2 h1 hset hmem;go_wp2_with fail
    go_quiet (fail)
    go_wp2;exact ⟨⟨n + 1, hlt, by go_num, by rw [hq.out]; exact hT.then ((Below.refl _ _).drewN _)⟩, by simp [intOf]; omega⟩
  ·obtain rfl : n = ps.length := by omega
   have dl : decide ((ps.length : Int) < (ps.length : Int)) = false := by simp
   rw [lateTo_all] at hT;replace hT := hide hT;go_wp2;go_ret;exact ⟨rfl, hT.out⟩
end Go.Proofs.YtjkhbjgfoopomabGreat
