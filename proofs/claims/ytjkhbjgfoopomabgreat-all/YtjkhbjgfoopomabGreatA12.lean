import Derived.Test.YtjkhbjgfoopomabGreatA11
namespace Go.Proofs.YtjkhbjgfoopomabGreat
open Go.RowKit
set_option maxRecDepth 100000
set_option maxHeartbeats 2000000
set_option linter.unusedVariables false
set_option linter.unusedSimpArgs false
theorem stopAt {p : Prop} (h : Hid p) : p := h
theorem wpList_moreH {P : Program} {ops : Array Oper} {rest : List Oper} {o : Oper} {a : Act} {Q : Exit → Act → World → Prop} {α : Type} {f : α → List Value} {sz : Nat} (hf : ∀ x, (f x).length = sz) (w : World) (hgd : o.guard = none) (s x : Operand) (t : TypeId)
  (ho : o.op = .call { callee := .builtin .append, args := #[s, x], argTypes := #[t, t] }) (e : TypeId) (i : TypeInfo) (z : Value) (bytes : Nat) (ht : P.underlying t = some (.slice e)) (hi : P.info? e = some i) (hz : i.zero = some z)
  (hsize : i.size = sz) (hby : i.bytes = bytes) (hzs : z.cells.size = sz) (hsz : 0 < sz) (v : Value) (xs : List α) (hs : a.eval s = v) (hrow : RowOf w e sz f v xs) (c : Nat) (ys : List α) (hys : 0 < ys.length) (m H : Nat) (hm : m = ys.length) (hx : a.eval x = .slice (some ⟨H, 0, none⟩) m c) (hH : w.heap.size = H)
  (h1 : ∀ y, y ∈ ys → ∀ u ∈ f y, u.oneCell' = true) (h63 : xs.length + ys.length ≤ maxLen) (hbytes : (xs.length + ys.length) * bytes ≤ 140737488355328)
  (h : ∀ g cap w', RowOf w' e sz f (.slice (some ⟨g, 0, none⟩) (xs.length + m) cap) (xs ++ ys) → (∀ v2 zs, RowOf w e sz f v2 zs → ((∃ r, xs ++ ys = zs ++ r) ∨ v2.ownBlock ≠ v.ownBlock) → RowOf w' e sz f v2 zs) → Kept (fun k => v.ownBlock = some k) w w' → (v.ownBlock = some g ∨ w.heap.size ≤ g) → g < w'.heap.size → wpList P ops Q rest (a.put o.dst (.slice (some ⟨g, 0, none⟩) (xs.length + m) cap)) w') :
  ∀ W, W = w.alloc (.cells (ys.flatMap f).toArray e) → wpList P ops Q (o :: rest) a W := by
 subst hH
 exact wpList_more hf w hgd s x t ho e i z bytes ht hi hz hsize hby hzs hsz v xs hs hrow c ys hys m hm hx h1 h63 hbytes h
theorem lst_single (ad : Option Addr) (n c k : Nat) (y : Value × Nat) (hy : y ∈ [((.slice ad n c : Value), k)]) : ∀ u ∈ [y.1], u.oneCell' = true := by
 rw [List.mem_singleton] at hy
 subst hy
 intro u hu
 rw [List.mem_singleton] at hu
 subst hu
 rfl
theorem lst_one (x : Value × Nat) (ad : Option Addr) (n c : Nat) (hx : x.1 = .slice ad n c) : ∀ u ∈ lstCell x, u.oneCell' = true := by
 intro u hu
 simp only [lstCell, List.mem_cons, List.not_mem_nil, or_false] at hu
 subst hu
 rw [hx]
 rfl
theorem rep_pre (M : List UInt8) (k n m : Nat) (h : k ≤ n + m) : ∃ r, List.replicate n M ++ List.replicate m M = List.replicate k M ++ r :=
 ⟨List.replicate (n + m - k) M, by rw [List.replicate_append_replicate, List.replicate_append_replicate]; congr 1; omega⟩
theorem set_take_rep (M : List UInt8) (xs : List (List UInt8)) (k : Nat) (hk : k < xs.length) : (List.replicate k M ++ xs.drop k).set k M = List.replicate (k + 1) M ++ xs.drop (k + 1) := by
 rw [List.set_append_right _ _ (by simp), List.length_replicate, Nat.sub_self, List.drop_eq_getElem_cons hk, List.set_cons_zero, List.replicate_succ']
 simp
structure Bk (w u : World) (Wb : Nat) (lg : Bool) (vb vd vl lv vlc : Value) (llc rows : List (Value × Nat)) (M : List UInt8) : Prop where
 blk : u.heap[Wb]? = some (.cells #[.bool lg, vb, vd, vlc] 98 (0, 0))
 lst : RowOf u 38 1 lstCell vlc llc
 full : ∀ r, r ∈ rows → RowOf u 9 1 txtCell r.1 (List.replicate r.2 M)
 rown : ∀ r, r ∈ rows → ∀ g, r.1.ownBlock = some g → lv.ownBlock = some g ∨ w.heap.size ≤ g
 lown : ∀ g, vlc.ownBlock = some g → vl.ownBlock = some g ∨ w.heap.size ≤ g
 apart : ∀ r, r ∈ rows → ∀ g, r.1.ownBlock = some g → vlc.ownBlock ≠ some g ∧ g ≠ Wb
 lap : vlc.ownBlock ≠ some Wb
 kept : Kept (fun k => k = Wb ∨ vl.ownBlock = some k ∨ lv.ownBlock = some k) w u
theorem Bk.lt {w u : World} {Wb : Nat} {lg : Bool} {vb vd vl lv vlc : Value} {llc rows : List (Value × Nat)} {M : List UInt8} (h : Bk w u Wb lg vb vd vl lv vlc llc rows M) : Wb < u.heap.size := block_lt h.blk
theorem Bk.grow {w u u2 : World} {Wb : Nat} {lg : Bool} {vb vd vl lv vlc : Value} {llc rows : List (Value × Nat)} {M : List UInt8} (h : Bk w u Wb lg vb vd vl lv vlc llc rows M) {n m g cap k : Nat} (hk : k = n + m) (hrow : RowOf u2 9 1 txtCell (.slice (some ⟨g, 0, none⟩) k cap) (List.replicate n M ++ List.replicate m M))
  (hoth : ∀ v2 zs, RowOf u 9 1 txtCell v2 zs → ((∃ r, List.replicate n M ++ List.replicate m M = zs ++ r) ∨ v2.ownBlock ≠ lv.ownBlock) → RowOf u2 9 1 txtCell v2 zs) (hle : ∀ r, r ∈ rows → r.2 ≤ n + m)
  (hkp : Kept (fun k => lv.ownBlock = some k) u u2) (hg : lv.ownBlock = some g ∨ u.heap.size ≤ g) (hin : ∃ i, (lv, i) ∈ rows) : Bk w u2 Wb lg vb vd vl lv vlc llc (rows ++ [(.slice (some ⟨g, 0, none⟩) k cap, k)]) M := by
 obtain ⟨i, hin⟩ := hin
 have hWlv : lv.ownBlock ≠ some Wb := fun e => (h.apart _ hin Wb e).2 rfl
 have one : ∀ g', (Value.slice (some ⟨g, 0, none⟩) k cap).ownBlock = some g' → g' = g := fun g' h' => by simpa [Value.ownBlock] using h'.symm
 have hWg : Wb < u.heap.size := h.lt
 subst hk
 refine ⟨by rw [hkp.block Wb hWg hWlv]; exact h.blk, h.lst.kept hkp (fun g' h' e => (h.apart _ hin g' e).1 h'), ?_, ?_, h.lown, ?_, h.lap, h.kept.trans hkp (fun j hj => .inl (.inr (.inr hj)))⟩
 ·intro r hr;rcases List.mem_append.1 hr with hr | hr
  ·exact hoth _ _ (h.full r hr) (.inl (rep_pre M _ _ _ (hle r hr)))
  ·rw [List.mem_singleton] at hr;subst hr;rw [List.replicate_append_replicate] at hrow;exact hrow
 ·intro r hr g' hg';rcases List.mem_append.1 hr with hr | hr
  ·exact h.rown r hr g' hg'
  ·rw [List.mem_singleton] at hr;subst hr;rw [one g' hg'];exact hg.imp_right (fun x => Nat.le_trans h.kept.size x)
 ·intro r hr g' hg';rcases List.mem_append.1 hr with hr | hr
  ·exact h.apart r hr g' hg'
  ·rw [List.mem_singleton] at hr;subst hr;rw [one g' hg'];rcases hg with hg | hg
   ·exact h.apart _ hin g hg
   ·refine ⟨fun e => ?_, fun e => ?_⟩
    ·have := h.lst.lt e; omega
    ·omega
theorem Bk.step {w u u2 : World} {Wb : Nat} {lg : Bool} {vb vd vl lv vlc : Value} {llc rows : List (Value × Nat)} {M : List UInt8} (h : Bk w u Wb lg vb vd vl lv vlc llc rows M) {g n cap : Nat} {x : Value × Nat} (hrow : RowOf u2 38 1 lstCell (.slice (some ⟨g, 0, none⟩) n cap) (llc ++ [x]))
  (hkp : Kept (fun k => vlc.ownBlock = some k) u u2) (hg : vlc.ownBlock = some g ∨ u.heap.size ≤ g) : Bk w (u2.setCell ⟨Wb, 3, none⟩ (.slice (some ⟨g, 0, none⟩) n cap)) Wb lg vb vd vl lv (.slice (some ⟨g, 0, none⟩) n cap) (llc ++ [x]) rows M := by
 have one : ∀ g', (Value.slice (some ⟨g, 0, none⟩) n cap).ownBlock = some g' → g' = g := fun g' h' => by simpa [Value.ownBlock] using h'.symm
 have hB : u2.heap[Wb]? = some (.cells #[.bool lg, vb, vd, vlc] 98 (0, 0)) := by rw [hkp.block Wb h.lt h.lap]; exact h.blk
 have hgW : g ≠ Wb := by
  rcases hg with hg | hg
  ·intro e; subst e; exact h.lap hg
  ·have := h.lt; omega
 refine ⟨heap_set_self hB 3 _, hrow.kept (Kept.of_setCell _ _ _) (fun g' h' => by rw [one g' h']; exact hgW), ?_, h.rown, ?_, ?_, fun e => hgW (one _ e).symm, ?_⟩
 ·intro r hr;have h1 := (h.full r hr).kept hkp (fun g' h' e => (h.apart r hr g' h').1 e);exact h1.kept (Kept.of_setCell _ _ _) (fun g' h' e => (h.apart r hr g' h').2 e)
 ·intro g' h';rw [one g' h'];rcases hg with hg | hg
  ·exact h.lown g hg
  ·exact .inr (Nat.le_trans h.kept.size hg)
 ·intro r hr g' h';refine ⟨fun e => ?_, (h.apart r hr g' h').2⟩;have e2 := one g' e;subst e2;rcases hg with hg | hg
  ·exact (h.apart r hr g' h').1 hg
  ·have := (h.full r hr).lt h';omega
 ·refine (h.kept.trans hkp (fun j hj => ?_)).trans (Kept.of_setCell _ _ _) (fun j hj => .inl (.inl hj));rcases h.lown j hj with x | x
  ·exact .inl (.inr (.inl x))
  ·exact .inr x
def Booked (w w' : World) (Wb : Nat) (lg : Bool) (vb vd vl : Value) (ll : List (Value × Nat)) (lv : Value) (n : Nat) : Prop :=
 ∃ vl' vf vg vh, Bk w w' Wb lg vb vd vl lv vl' (ll ++ [(lv, n)] ++ [(vf, n + 1)] ++ [(vg, n + 2)] ++ [(vh, n + 3)]) [(lv, n), (vf, n + 1), (vg, n + 2), (vh, n + 3)] (markB (ll.length / 4 + 1))
theorem keep4_any (w : World) (Wb : Nat) (lg : Bool) (vb vd vl : Value) (ll : List (Value × Nat)) (hW : w.heap[Wb]? = some (.cells #[.bool lg, vb, vd, vl] 98 (0, 0))) (hL : RowOf w 38 1 lstCell vl ll) (hlen : ll.length ≤ 3999999999000)
  (lv : Value) (xs : List (List UInt8)) (hx6 : xs.length ≤ 1000000) (hX : RowOf w 9 1 txtCell lv xs) (h1 : vl.ownBlock ≠ some Wb) (h2 : lv.ownBlock ≠ some Wb) (h3 : ∀ g, lv.ownBlock = some g → vl.ownBlock ≠ some g) :
  Calls Tryz.prog 86 #[.pointer (some ⟨Wb, 0, none⟩), lv] w fun e w' => e = .returned (.tuple #[]) ∧ Booked w w' Wb lg vb vd vl ll lv xs.length := by
 obtain ⟨i0, hi0, y0, y1, y2⟩ := info_parts txtInfo
 obtain ⟨i1, hi1, z0, z1, z2⟩ := info_parts lstInfo
 obtain ⟨ad, cap, hv, hev⟩ := hL.form lstCell_length
 obtain ⟨ad2, cap2, hv2, hev2⟩ := hX.form txtCell_length
 subst hv hv2
 clear hev hev2
 have hc : ∀ o, _ = _ := fun o => cell_at hW o
 have hWl := block_lt hW
 have hM := hide (fun u => mark_any (ll.length / 4 + 1) (by omega) u)
 rw [show ((ll.length / 4 + 1 : Nat) : Int) = (ll.length : Int) / 4 + 1 by omega] at hM
 obtain ⟨M, hmk⟩ : ∃ M, M = markB (ll.length / 4 + 1) := ⟨_, rfl⟩
 rw [← hmk] at hM
 replace hmk := hide hmk
 go_enter Tryz.func86, Tryz.ntmps86
 go_wp2_with fail
 refine (hM.out _).mono ?_
 rintro e w1 ⟨rfl, hb1⟩
 have hW1 : w1.heap[Wb]? = _ := (hb1.block Wb (block_lt hW)).trans hW
 have hL1 := hL.below hb1
 have hX1 := hX.below hb1
 clear hM hc
 have hc : ∀ o, _ = _ := fun o => cell_at hW1 o
 go_wp2
 go_loopw [5] (fun c u => ∃ k : Nat, k ≤ xs.length ∧ c = .int .i64 k ∧ RowOf u 9 1 txtCell (.slice ad2 xs.length cap2) (List.replicate k M ++ xs.drop k) ∧ Kept (fun b => (Value.slice ad2 xs.length cap2).ownBlock = some b) w1 u) (fun c _ => xs.length - (intOf c).toNat)
 case atStart => exact ⟨0, Nat.zero_le _, rfl, hX1, Kept.refl _ _⟩
 case round =>
  obtain ⟨k, hk, rfl, hrow, hkp⟩ := hrel;by_cases hlt : k < xs.length
  ·obtain ⟨ad', cap', hv', hev'⟩ := hrow.form txtCell_length;have hl' : (List.replicate k M ++ xs.drop k).length = xs.length := by simp; omega
   obtain ⟨g, hg, hcell, hfz⟩ := hev' k (by omega);have ead : ad2 = ad' := by injection hv'
   subst ead;subst hg;have hst := hide (hrow.set txtCell_length rfl k 0 (by omega) (by decide) (.string (bs M)) M (by simp [txtCell]));rw [set_take_rep M xs k hlt] at hst;have hlk : (k : Int) < (xs.length : Int) := by omega
   have hf0 := hfz k;have hlg : g < wr.heap.size := hrow.lt rfl;have c0 := hcell 0 (by decide);have hkp' := hide hkp;simp only [txtCell, List.getElem?_cons_zero, Nat.add_zero, Nat.mul_one] at c0 hst;clear hcell hev' hv' hrow hkp;generalize (List.replicate k M ++ xs.drop k)[k] = X0 at *;go_wp2;exact ⟨⟨k + 1, hlt, by go_num, hst.out, hkp'.out.trans (Kept.of_setCell _ _ _) (fun i hi => .inl (by rw [hi]; rfl))⟩, by simp [intOf]; omega⟩
  ·obtain rfl : k = xs.length := by omega
   rw [List.drop_length, List.append_nil] at hrow
   have K0 : Bk w wr Wb lg vb vd (.slice ad ll.length cap) (.slice ad2 xs.length cap2) (.slice ad ll.length cap) ll [(.slice ad2 xs.length cap2, xs.length)] M := by
    have hkw : Kept (fun b => (Value.slice ad2 xs.length cap2).ownBlock = some b) w wr := (Kept.of_below hb1).trans hkp (fun i hi => .inl hi);refine ⟨by rw [hkw.block Wb (block_lt hW) h2]; exact hW, hL.kept hkw (fun g h' e => h3 g e h'), ?_, ?_, fun g h' => .inl h', ?_, h1, hkw.mono (fun i _ hi => .inr (.inr hi))⟩
    ·intro r hr;rw [List.mem_singleton] at hr;subst hr;exact hrow
    ·intro r hr g hg;rw [List.mem_singleton] at hr;subst hr;exact .inl hg
    ·intro r hr g hg;rw [List.mem_singleton] at hr;subst hr;exact ⟨h3 g hg, fun e => h2 (by rw [← e]; exact hg)⟩
   clear hrow hkp hW1 hL1 hX1 hb1 hc hW hL hX h1 h2 h3;generalize hn : xs.length = n at *;have R0 : RowOf wr 9 1 txtCell (.slice ad2 n cap2) (List.replicate n M) := K0.full _ (List.mem_singleton.2 rfl);have stx : ∀ y, y ∈ List.replicate 1 M ∨ y ∈ List.replicate 2 M ∨ y ∈ List.replicate 3 M → ∀ u ∈ txtCell y, u.oneCell' = true := fun y _ => txt_one y;have lr : ∀ k, (List.replicate k M).length = k := fun k => List.length_replicate;replace stx := hide stx;replace lr := hide lr;go_wp2_with (first | (at_builtin; refine stopAt ?_))
   refine hide ?_;refine wpList_more txtCell_length wr (by rfl) _ _ 38 (by rfl) 9 i0 _ 16 Tryz.underlying38 hi0 y0 y1 y2 rfl (by decide) (.slice ad2 n cap2) (List.replicate n M) (by rfl) R0 1 (List.replicate 1 M) (by rw [lr.out]; decide) 1 (by rw [lr.out]) (by rfl) (fun y hy => stx.out y (.inl hy)) (by rw [lr.out, lr.out]; unfold maxLen; omega) (by rw [lr.out, lr.out]; omega) ?_ _ (by rfl);intro g1 c1 u1 ro1 ot1 kp1 at1 lt1;rw [lr.out] at ro1;rw [lr.out];have K1 := K0.grow (n := n) (m := 1) rfl ro1 ot1 (by intro r hr; rw [List.mem_singleton] at hr; subst hr; exact Nat.le_add_right _ _) kp1 at1 ⟨n, by simp⟩;have R1 : RowOf u1 9 1 txtCell (.slice ad2 n cap2) (List.replicate n M) := K1.full (.slice ad2 n cap2, n) (by simp);clear R0 ro1 ot1 kp1 at1 lt1;replace K1 := hide K1;go_wp2_with (first | (at_builtin; refine stopAt ?_))
   refine hide ?_;refine wpList_more txtCell_length u1 (by rfl) _ _ 38 (by rfl) 9 i0 _ 16 Tryz.underlying38 hi0 y0 y1 y2 rfl (by decide) (.slice ad2 n cap2) (List.replicate n M) (by rfl) R1 2 (List.replicate 2 M) (by rw [lr.out]; decide) 2 (by rw [lr.out]) (by rfl) (fun y hy => stx.out y (.inr (.inl hy))) (by rw [lr.out, lr.out]; unfold maxLen; omega) (by rw [lr.out, lr.out]; omega) ?_ _ (by rfl);intro g2 c2 u2 ro2 ot2 kp2 at2 lt2;rw [lr.out] at ro2;rw [lr.out];have K2 := K1.out.grow (n := n) (m := 2) rfl ro2 ot2 (by intro r hr; simp at hr; rcases hr with hr | hr <;> subst hr <;> simp <;> omega) kp2 at2 ⟨n, by simp⟩;have R2 : RowOf u2 9 1 txtCell (.slice ad2 n cap2) (List.replicate n M) := K2.full (.slice ad2 n cap2, n) (by simp);clear R1 ro2 ot2 kp2 at2 lt2 K1;replace K2 := hide K2;go_wp2_with (first | (at_builtin; refine stopAt ?_))
   refine hide ?_;refine wpList_more txtCell_length u2 (by rfl) _ _ 38 (by rfl) 9 i0 _ 16 Tryz.underlying38 hi0 y0 y1 y2 rfl (by decide) (.slice ad2 n cap2) (List.replicate n M) (by rfl) R2 3 (List.replicate 3 M) (by rw [lr.out]; decide) 3 (by rw [lr.out]) (by rfl) (fun y hy => stx.out y (.inr (.inr hy))) (by rw [lr.out, lr.out]; unfold maxLen; omega) (by rw [lr.out, lr.out]; omega) ?_ _ (by rfl);intro g3 c3 u3 ro3 ot3 kp3 at3 lt3;rw [lr.out] at ro3;rw [lr.out];have K3 := K2.out.grow (n := n) (m := 3) rfl ro3 ot3 (by intro r hr; simp at hr; rcases hr with hr | hr | hr <;> subst hr <;> simp <;> omega) kp3 at3 ⟨n, by simp⟩;clear R2 ro3 ot3 kp3 at3 lt3 K2 K0;have hc3 := fun o => cell_at K3.blk o;have hl3 := K3.lt;replace K3 := hide K3;go_wp2_with (first | (at_builtin; refine stopAt ?_))
   refine hide ?_;refine wpList_more lstCell_length u3 (by rfl) _ _ 96 (by rfl) 38 i1 _ 24 Tryz.underlying96 hi1 z0 z1 z2 rfl (by decide) (.slice ad ll.length cap) ll (by rfl) K3.out.lst 1 [(.slice ad2 n cap2, n)] (by simp) 1 (by rfl) (by rfl) (fun y hy => lst_one y ad2 n cap2 (by rw [List.mem_singleton] at hy; rw [hy])) (by unfold maxLen; simp only [List.length_singleton]; omega) (by simp only [List.length_singleton]; omega) ?_ _ (by rfl);intro g4 c4 u4 ro4 _ kp4 at4 lt4;have hb4 : u4.heap[Wb]? = _ := (kp4.block Wb K3.out.lt K3.out.lap).trans K3.out.blk;have K4 := hide (K3.out.step ro4 kp4 at4);have hc4 := fun o => cell_at hb4 o;have hf4 := fun o => frozen_at hb4 o;clear hc3 hl3 K3 ro4 kp4 at4 lt4 hb4;go_wp2_with (first | (at_builtin; refine stopAt ?_))
   refine hide ?_;refine wpList_moreH lstCell_length _ (by rfl) _ _ 96 (by rfl) 38 i1 _ 24 Tryz.underlying96 hi1 z0 z1 z2 rfl (by decide) _ _ (by rfl) K4.out.lst 1 [(.slice (some ⟨g1, 0, none⟩) (n + 1) c1, n + 1)] (by simp) 1 _ (by rfl) (by rfl) (by first | rfl | simp) (fun y hy => lst_single _ _ _ _ y hy) (by unfold maxLen; simp only [List.length_append, List.length_singleton]; omega) (by simp only [List.length_append, List.length_singleton]; omega) ?_ _ (by rfl);intro g5 c5 u5 ro5 _ kp5 at5 lt5;simp only [List.length_append, List.length_singleton] at ro5 ⊢;have hb5 : u5.heap[Wb]? = _ := (kp5.block Wb K4.out.lt K4.out.lap).trans K4.out.blk;have K5 := hide (K4.out.step ro5 kp5 at5);have hc5 := fun o => cell_at hb5 o;have hf5 := fun o => frozen_at hb5 o;clear hc4 hf4 K4 ro5 kp5 at5 lt5 hb5;go_wp2_with (first | (at_builtin; refine stopAt ?_))
   refine hide ?_;refine wpList_moreH lstCell_length _ (by rfl) _ _ 96 (by rfl) 38 i1 _ 24 Tryz.underlying96 hi1 z0 z1 z2 rfl (by decide) _ _ (by rfl) K5.out.lst 1 [(.slice (some ⟨g2, 0, none⟩) (n + 2) c2, n + 2)] (by simp) 1 _ (by rfl) (by rfl) (by first | rfl | simp) (fun y hy => lst_single _ _ _ _ y hy) (by unfold maxLen; simp only [List.length_append, List.length_singleton]; omega) (by simp only [List.length_append, List.length_singleton]; omega) ?_ _ (by rfl);intro g6 c6 u6 ro6 _ kp6 at6 lt6;simp only [List.length_append, List.length_singleton] at ro6 ⊢;have hb6 : u6.heap[Wb]? = _ := (kp6.block Wb K5.out.lt K5.out.lap).trans K5.out.blk;have K6 := hide (K5.out.step ro6 kp6 at6);have hc6 := fun o => cell_at hb6 o;have hf6 := fun o => frozen_at hb6 o;clear hc5 hf5 K5 ro6 kp6 at6 lt6 hb6;go_wp2_with (first | (at_builtin; refine stopAt ?_))
   refine hide ?_;refine wpList_moreH lstCell_length _ (by rfl) _ _ 96 (by rfl) 38 i1 _ 24 Tryz.underlying96 hi1 z0 z1 z2 rfl (by decide) _ _ (by rfl) K6.out.lst 1 [(.slice (some ⟨g3, 0, none⟩) (n + 3) c3, n + 3)] (by simp) 1 _ (by rfl) (by rfl) (by first | rfl | simp) (fun y hy => lst_single _ _ _ _ y hy) (by unfold maxLen; simp only [List.length_append, List.length_singleton]; omega) (by simp only [List.length_append, List.length_singleton]; omega) ?_ _ (by rfl);intro g7 c7 u7 ro7 _ kp7 at7 lt7;simp only [List.length_append, List.length_singleton] at ro7 ⊢;have hb7 : u7.heap[Wb]? = _ := (kp7.block Wb K6.out.lt K6.out.lap).trans K6.out.blk;have K7 := hide (K6.out.step ro7 kp7 at7);have hc7 := fun o => cell_at hb7 o;have hf7 := fun o => frozen_at hb7 o;clear hc6 hf6 K6 ro7 kp7 at7 lt7 hb7;go_wp2;refine bodyPost_end (results_none rfl _ _ _) rfl ?_;have hK := K7.out;rw [← hn, hmk.out] at hK;exact ⟨rfl, .slice (some ⟨g7, 0, none⟩) (ll.length + 1 + 1 + 1 + 1) c7, .slice (some ⟨g1, 0, none⟩) (xs.length + 1) c1, .slice (some ⟨g2, 0, none⟩) (xs.length + 2) c2, .slice (some ⟨g3, 0, none⟩) (xs.length + 3) c3, hK⟩
end Go.Proofs.YtjkhbjgfoopomabGreat
namespace Go.Proofs.YtjkhbjgfoopomabGreat
theorem fold_split (l : List UInt8) : ∀ v, l.foldl (fun v b => v * 256 + b.toNat) v = v * 256 ^ l.length + val l := by
 induction l with
 | nil => intro v; simp [val]
 | cons b r ih =>
  intro v
  have e : val (b :: r) = b.toNat * 256 ^ r.length + val r := by
   have := ih (0 * 256 + b.toNat);simpa [val] using this
  simp only [List.foldl_cons, List.length_cons];rw [ih, e, Nat.pow_succ, Nat.add_mul, Nat.mul_assoc, Nat.mul_comm 256];omega
theorem be_val : ∀ (l : List UInt8), be l.length (val l) = l := by
 intro l
 have key : ∀ (n : Nat) (l : List UInt8), l.length = n → ∀ v, be n (l.foldl (fun v b => v * 256 + b.toNat) v) = l := by
  intro n
  induction n with
  | zero => intro l hl v; cases l with
   | nil => rfl
   | cons b r => simp at hl
  | succ n ih =>
   intro l hl v;cases l with
   | nil => simp at hl
   | cons b r =>
    have hr : r.length = n := by simpa using hl
    simp only [List.foldl_cons, be];rw [ih r hr]
    congr 1
    have hb := b.toNat_lt;have e := fold_split r (v * 256 + b.toNat);rw [e, hr];have hv := val_lt r;rw [hr] at hv;have hp : 0 < 256 ^ n := Nat.pow_pos (by decide)
    have e2 : ((v * 256 + b.toNat) * 256 ^ n + val r) / 256 ^ n = v * 256 + b.toNat := by
     rw [Nat.mul_comm, Nat.mul_add_div hp, Nat.div_eq_of_lt hv, Nat.add_zero]
    rw [e2, show (v * 256 + b.toNat) % 256 = b.toNat by omega];exact UInt8.ofNat_toNat
 exact key l.length l rfl 0
theorem val_be_mod (n v : Nat) : val (be n v) = v % 256 ^ n := by
 induction n with
 | zero => simp [be, val, Nat.mod_one]
 | succ n ih =>
  have e : val (be (n + 1) v) = (v / 256 ^ n % 256) * 256 ^ n + val (be n v) := by
   have := fold_split (be n v) (v / 256 ^ n % 256);rw [be_length] at this;simp only [be, val, List.foldl_cons] at this ⊢;rw [show 0 * 256 + (UInt8.ofNat (v / 256 ^ n % 256)).toNat = v / 256 ^ n % 256 by simp [UInt8.toNat_ofNat']];exact this
  rw [e, ih, Nat.pow_succ, Nat.mod_mul, Nat.mul_comm, Nat.add_comm]
theorem val_be {n v : Nat} (h : v < 256 ^ n) : val (be n v) = v := by rw [val_be_mod, Nat.mod_eq_of_lt h]
theorem be4_list (v : Nat) : ∃ a b c d, be 4 v = [a, b, c, d] := ⟨_, _, _, _, rfl⟩
theorem be2_list (v : Nat) : ∃ a b, be 2 v = [a, b] := ⟨_, _, rfl⟩
theorem ofNat_toNat8 {n : Nat} (h : n < 256) : (UInt8.ofNat n).toNat = n := by simp [UInt8.toNat_ofNat']; omega
theorem say_list (b0 b1 b2 b3 b4 b5 b6 b7 b8 b9 b10 b11 b12 b13 b14 b15 b16 b17 : UInt8) (r : List UInt8) (hr : 4 ≤ r.length) (l : List UInt8)
  (hl : l = b0 :: b1 :: b2 :: b3 :: b4 :: b5 :: b6 :: b7 :: b8 :: b9 :: b10 :: b11 :: b12 :: b13 :: b14 :: b15 :: b16 :: b17 :: r) :
  l.length = r.length + 18 ∧ at8 l 0 = b0.toNat ∧ at8 l 17 = b17.toNat ∧
  sayOf l = ⟨b1.toNat, b2.toNat, b3.toNat, val [b4, b5, b6, b7], b8.toNat, val [b9, b10], val [b11, b12], val [b13, b14, b15, b16], r.take (r.length - 4)⟩ ∧
  cut l (l.length - 4) l.length = r.drop (r.length - 4) ∧
  cut l 0 (l.length - 4) = b0 :: b1 :: b2 :: b3 :: b4 :: b5 :: b6 :: b7 :: b8 :: b9 :: b10 :: b11 :: b12 :: b13 :: b14 :: b15 :: b16 :: b17 :: r.take (r.length - 4) := by
 have hlen : l.length = r.length + 18 := by rw [hl]; simp
 refine ⟨hlen, by rw [hl]; rfl, by rw [hl]; rfl, ?_, ?_, ?_⟩
 ·unfold sayOf
  have e : cut l 18 (l.length - 4) = r.take (r.length - 4) := by
   unfold cut;rw [hlen, show r.length + 18 - 4 - 18 = r.length - 4 by omega, hl];rfl
  rw [e, hl];rfl
 ·unfold cut;rw [hlen, show r.length + 18 - (r.length + 18 - 4) = 4 by omega, show r.length + 18 - 4 = (r.length - 4) + 18 by omega, hl];have e : List.drop (r.length - 4 + 18) (b0 :: b1 :: b2 :: b3 :: b4 :: b5 :: b6 :: b7 :: b8 :: b9 :: b10 :: b11 :: b12 :: b13 :: b14 :: b15 :: b16 :: b17 :: r) = List.drop (r.length - 4) r := rfl;rw [e];apply List.take_of_length_le;simp;omega
 ·unfold cut;rw [hlen, show r.length + 18 - 4 - 0 = (r.length - 4) + 18 by omega, hl];rfl
theorem cons_of {l : List UInt8} {n : Nat} (h : n + 1 ≤ l.length) : ∃ b r, l = b :: r ∧ n ≤ r.length := by
 cases l with
 | nil => simp at h
 | cons b r => exact ⟨b, r, rfl, by simpa using h⟩
theorem list18 {l : List UInt8} (h : 22 ≤ l.length) : ∃ b0 b1 b2 b3 b4 b5 b6 b7 b8 b9 b10 b11 b12 b13 b14 b15 b16 b17 r, 4 ≤ List.length r ∧ l = b0 :: b1 :: b2 :: b3 :: b4 :: b5 :: b6 :: b7 :: b8 :: b9 :: b10 :: b11 :: b12 :: b13 :: b14 :: b15 :: b16 :: b17 :: r := by
 obtain ⟨b0, r0, e0, h0⟩ := cons_of (n := 21) h
 obtain ⟨b1, r1, e1, h1⟩ := cons_of (n := 20) h0
 obtain ⟨b2, r2, e2, h2⟩ := cons_of (n := 19) h1
 obtain ⟨b3, r3, e3, h3⟩ := cons_of (n := 18) h2
 obtain ⟨b4, r4, e4, h4⟩ := cons_of (n := 17) h3
 obtain ⟨b5, r5, e5, h5⟩ := cons_of (n := 16) h4
 obtain ⟨b6, r6, e6, h6⟩ := cons_of (n := 15) h5
 obtain ⟨b7, r7, e7, h7⟩ := cons_of (n := 14) h6
 obtain ⟨b8, r8, e8, h8⟩ := cons_of (n := 13) h7
 obtain ⟨b9, r9, e9, h9⟩ := cons_of (n := 12) h8
 obtain ⟨b10, r10, e10, h10⟩ := cons_of (n := 11) h9
 obtain ⟨b11, r11, e11, h11⟩ := cons_of (n := 10) h10
 obtain ⟨b12, r12, e12, h12⟩ := cons_of (n := 9) h11
 obtain ⟨b13, r13, e13, h13⟩ := cons_of (n := 8) h12
 obtain ⟨b14, r14, e14, h14⟩ := cons_of (n := 7) h13
 obtain ⟨b15, r15, e15, h15⟩ := cons_of (n := 6) h14
 obtain ⟨b16, r16, e16, h16⟩ := cons_of (n := 5) h15
 obtain ⟨b17, r17, e17, h17⟩ := cons_of (n := 4) h16
 subst e17 e16 e15 e14 e13 e12 e11 e10 e9 e8 e7 e6 e5 e4 e3 e2 e1 e0
 exact ⟨_, _, _, _, _, _, _, _, _, _, _, _, _, _, _, _, _, _, r17, h17, rfl⟩
theorem frame_list (x : Msg) : ∃ i0 i1 i2 i3 p0 p1 g0 g1 a0 a1 a2 a3, be 4 x.i = [i0, i1, i2, i3] ∧ be 2 x.p = [p0, p1] ∧ be 2 x.g = [g0, g1] ∧ be 4 x.a = [a0, a1, a2, a3] ∧
  frameOf x = 69 :: UInt8.ofNat x.k :: UInt8.ofNat x.f :: UInt8.ofNat x.t :: i0 :: i1 :: i2 :: i3 :: UInt8.ofNat x.l :: p0 :: p1 :: g0 :: g1 :: a0 :: a1 :: a2 :: a3 :: UInt8.ofNat x.m.length :: (x.m ++ be 4 (sumOf (bodyOf x))) ∧
  bodyOf x = 69 :: UInt8.ofNat x.k :: UInt8.ofNat x.f :: UInt8.ofNat x.t :: i0 :: i1 :: i2 :: i3 :: UInt8.ofNat x.l :: p0 :: p1 :: g0 :: g1 :: a0 :: a1 :: a2 :: a3 :: UInt8.ofNat x.m.length :: x.m :=
 ⟨_, _, _, _, _, _, _, _, _, _, _, _, rfl, rfl, rfl, rfl, rfl, rfl⟩
theorem dec_frame {x : Msg} (hx : x.ok) (h0 : faultOf x = 0) (h64 : x.m.length ≤ 64) : decErr (frameOf x) = 0 ∧ decMsg (frameOf x) = x ∧ (frameOf x).length = 22 + x.m.length ∧ at8 (frameOf x) 0 = 69 ∧ at8 (frameOf x) 17 = x.m.length ∧
  cut (frameOf x) ((frameOf x).length - 4) (frameOf x).length = be 4 (sumOf (bodyOf x)) ∧ cut (frameOf x) 0 ((frameOf x).length - 4) = bodyOf x := by
 obtain ⟨hk, hf, ht, hi, hl, hp, hg, ha⟩ := hx
 obtain ⟨i0, i1, i2, i3, p0, p1, g0, g1, a0, a1, a2, a3, ei, ep, eg, ea, ef, eb⟩ := frame_list x
 have hbl : (be 4 (sumOf (bodyOf x))).length = 4 := be_length 4 _
 obtain ⟨q1, q2, q3, q4, q5, q6⟩ := say_list _ _ _ _ _ _ _ _ _ _ _ _ _ _ _ _ _ _ (x.m ++ be 4 (sumOf (bodyOf x))) (by simp [hbl]) (frameOf x) ef
 have hrl : (x.m ++ be 4 (sumOf (bodyOf x))).length - 4 = x.m.length := by simp [hbl]
 rw [hrl] at q4 q5 q6
 rw [List.take_left, ← eb] at q6
 rw [List.take_left] at q4
 rw [List.drop_left] at q5
 have hlen : (frameOf x).length = 22 + x.m.length := by rw [q1]; simp [hbl]; omega
 have e17 : at8 (frameOf x) 17 = x.m.length := by rw [q3, ofNat_toNat8 (by omega)]
 have hs := sumOf_lt (bodyOf x)
 have hsay : sayOf (frameOf x) = x := by
  rw [q4, ← ei, ← ep, ← eg, ← ea, val_be (by omega), val_be (by omega), val_be (by omega), val_be (by omega), ofNat_toNat8 hk, ofNat_toNat8 hf, ofNat_toNat8 ht, ofNat_toNat8 hl]
 have hform : formB (frameOf x) = true := by
  simp only [formB, e17, q2, hlen];simp
 have hseal : sealB (frameOf x) = true := by
  simp only [sealB, q5, q6];rw [val_be (by omega)];simp
 have herr : decErr (frameOf x) = 0 := by simp [decErr, hform, hseal, hsay, h0]
 exact ⟨herr, by simp [decMsg, herr, hsay], hlen, by rw [q2]; rfl, e17, q5, q6⟩
theorem enc_say {l : List UInt8} (h : decErr l = 0) : encOf (sayOf l) = l ∧ faultOf (sayOf l) = 0 ∧ decMsg l = sayOf l := by
 have hform : formB l = true := by
  cases hf : formB l with
  | true => rfl
  | false => simp [decErr, hf] at h
 have hseal : sealB l = true := by
  cases hf : sealB l with
  | true => rfl
  | false => simp [decErr, hform, hf] at h
 have hfault : faultOf (sayOf l) = 0 := by simpa [decErr, hform, hseal] using h
 refine ⟨?_, hfault, by simp [decMsg, h]⟩
 simp only [formB, Bool.and_eq_true, decide_eq_true_eq] at hform
 obtain ⟨⟨h22, h0⟩, h17⟩ := hform
 obtain ⟨b0, b1, b2, b3, b4, b5, b6, b7, b8, b9, b10, b11, b12, b13, b14, b15, b16, b17, r, hr, hl⟩ := list18 h22
 obtain ⟨q1, q2, q3, q4, q5, q6⟩ := say_list _ _ _ _ _ _ _ _ _ _ _ _ _ _ _ _ _ _ r hr l hl
 simp only [sealB, decide_eq_true_eq] at hseal
 rw [q5, q6] at hseal
 have hb0 : b0 = 69 := UInt8.toNat_inj.1 (by rw [← q2, h0]; rfl)
 have hml : (r.take (r.length - 4)).length = b17.toNat := by
  rw [List.length_take];omega
 have n4 : ∀ a b c d : UInt8, be 4 (val [a, b, c, d]) = [a, b, c, d] := fun a b c d => be_val [a, b, c, d]
 have n2 : ∀ a b : UInt8, be 2 (val [a, b]) = [a, b] := fun a b => be_val [a, b]
 have hbody : bodyOf (sayOf l) = b0 :: b1 :: b2 :: b3 :: b4 :: b5 :: b6 :: b7 :: b8 :: b9 :: b10 :: b11 :: b12 :: b13 :: b14 :: b15 :: b16 :: b17 :: r.take (r.length - 4) := by
  rw [q4];unfold bodyOf;simp only [n4, n2, hml, UInt8.ofNat_toNat, List.cons_append, List.nil_append, hb0]
 have hframe : frameOf (sayOf l) = l := by
  unfold frameOf;rw [hbody, ← hseal]
  have e4 : be 4 (val (r.drop (r.length - 4))) = r.drop (r.length - 4) := by
   have := be_val (r.drop (r.length - 4))
   rwa [show (r.drop (r.length - 4)).length = 4 by rw [List.length_drop]; omega] at this
  rw [e4, hl];simp only [List.cons_append, List.take_append_drop]
 unfold encOf
 rw [if_pos hfault, hframe]
end Go.Proofs.YtjkhbjgfoopomabGreat
