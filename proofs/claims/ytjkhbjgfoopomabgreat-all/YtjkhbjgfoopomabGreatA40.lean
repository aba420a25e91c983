import Derived.Test.YtjkhbjgfoopomabGreatA39
import Derived.Test.YtjkhbjgfoopomabGreatA37
namespace Go.Proofs.YtjkhbjgfoopomabGreat
open Go.RowKit
set_option maxRecDepth 100000
set_option maxHeartbeats 1000000
set_option linter.unusedVariables false
set_option linter.unusedSimpArgs false
theorem row_flat {α : Type} {f : α → List Value} {sz : Nat} (hf : ∀ x, (f x).length = sz) {w : World} {e : TypeId} {g n cap : Nat} {xs : List α} (h : RowOf w e sz f (.slice (some ⟨g, 0, none⟩) n cap) xs) (j : Nat) (u : Value) (hj : (xs.flatMap f)[j]? = some u) : w.cell? ((⟨g, 0, none⟩ : Addr).add j) = some u := by
 have e0 : ((⟨g, 0, none⟩ : Addr).add j) = ⟨g, j, none⟩ := by unfold Addr.add; split <;> simp_all
 rw [e0]
 rcases h.2 with ⟨h1, h2⟩ | ⟨g', cap', cur, h1, _, h3, h4, _, h6, h7⟩
 ·cases h1
 ·injection h1 with h1
  injection h1 with h1
  injection h1 with h1
  subst h1;rw [cell_at h3]
  have hlt : j < xs.length * sz := by
   have := List.getElem?_eq_some_iff.1 hj;obtain ⟨hl, _⟩ := this
   rwa [flat_length hf] at hl
  have e : cur[j]? = (cur.toList.take (xs.length * sz))[j]? := by rw [List.getElem?_take_of_lt hlt, Array.getElem?_toList]
  rw [e, h7, hj]
def PartSays (w : World) (vg : Value) (R : List UInt8 × Nat × List (List UInt8 × Nat)) (e : Ending) (w' : World) : Prop :=
 ∃ ra rc, e = .returned (.tuple #[.string (bs R.1), .int .i64 (R.2.1 : Int), .slice ra R.2.2.length rc]) ∧ RowOf w' 209 2 logCell (.slice ra R.2.2.length rc) R.2.2 ∧ Below w.heap.size w w' ∧ (.slice ra R.2.2.length rc = vg ∨ ∀ g, (Value.slice ra R.2.2.length rc).ownBlock = some g → w.heap.size ≤ g)
theorem part_none (w : World) (vg : Value) (hR : RowOf w 209 2 logCell vg []) (m : Nat) (c : Int) :
  Calls Tryz.prog 88 #[vg, .int .i64 (m : Int), .int .i64 c] w (PartSays w vg ([], m, [])) := by
 have hW := hide (whole_any w [] vg hR (by simp [flatLg]) (by simp) m)
 obtain ⟨ad, cap, hv, hev⟩ := hR.form logCell_length
 have hv' := hide hv
 simp only [List.length_nil] at hv
 subst hv
 replace hR := hide hR
 clear hev
 go_enter Tryz.func88, Tryz.ntmps88
 go_wp2_with fail
 refine hW.out.mono ?_
 rintro e w2 ⟨rfl, hb⟩
 clear hW
 replace hb := hide hb
 go_wp2
 go_ret3
 exact ⟨ad, cap, rfl, hR.out.below hb.out, hb.out, .inl rfl⟩
theorem part_all (w : World) (L : List (List UInt8 × Nat)) (x : List UInt8 × Nat) (vg : Value) (hR : RowOf w 209 2 logCell vg (L ++ [x])) (hfl : (flatLg (L ++ [x])).length ≤ 140737488351232) (hl : (L ++ [x]).length ≤ 1000000000000) (m : Nat) (c : Int) (hc : -9223372036854775808 ≤ c ∧ c ≤ 9223372036854775807) (hk : pickN c (x.1.length + 1) = x.1.length) :
  Calls Tryz.prog 88 #[vg, .int .i64 (m : Int), .int .i64 c] w (PartSays w vg (flatLg (L ++ [x]), m, L ++ [x])) := by
 have hW := hide (whole_any w (L ++ [x]) vg hR hfl hl m)
 have hP := hide (pick_any c hc (x.1.length + 1) (by omega) (by rw [flatLg_snoc, List.length_append] at hfl; omega) w)
 rw [hk, show ((x.1.length + 1 : Nat) : Int) = (x.1.length : Int) + 1 from by omega] at hP
 obtain ⟨ad, cap, hv, hev⟩ := hR.form logCell_length
 obtain ⟨g, eg, hcc, _⟩ := hev L.length (by simp)
 have hgl : g < w.heap.size := hR.lt (by rw [hv, eg]; rfl)
 have h0 := hcc 0 (by decide)
 simp only [logCell, List.getElem?_cons_zero, Nat.add_zero, List.getElem_concat_length] at h0
 have hlen : (L ++ [x]).length = L.length + 1 := by simp
 rw [hlen] at hv
 subst hv eg
 have hn1 : ((L.length + 1 : Nat) : Int) - 1 = (L.length : Int) := by omega
 have hxs := bs_size x.1
 have hxl : x.1.length ≤ 140737488351232 := by rw [flatLg_snoc, List.length_append] at hfl; omega
 replace hR := hide hR
 clear hev hcc hk hfl
 go_enter Tryz.func88, Tryz.ntmps88
 go_wp2_with fail
 refine hP.out.mono ?_
 rintro e u9 ⟨rfl, hu9⟩
 obtain rfl : w = u9 := hu9.symm
 clear hP hu9
 have dk : ((x.1.length : Int) == (x.1.length : Int)) = true := by simp
 go_wp2_with fail
 refine hW.out.mono ?_
 rintro e w2 ⟨rfl, hb⟩
 clear hW h0
 replace hb := hide hb
 go_wp2
 go_ret3
 exact ⟨some ⟨g, 0, none⟩, cap, by rw [hlen]; rfl, by rw [hlen]; exact hR.out.below hb.out, hb.out, .inl (by rw [hlen])⟩
theorem part_cut (w : World) (L : List (List UInt8 × Nat)) (x : List UInt8 × Nat) (vg : Value) (hR : RowOf w 209 2 logCell vg (L ++ [x])) (hfl : (flatLg (L ++ [x])).length ≤ 140737488351232) (hl : (L ++ [x]).length ≤ 1000000000000) (m : Nat) (c : Int) (hc : -9223372036854775808 ≤ c ∧ c ≤ 9223372036854775807) (k : Nat) (hk : pickN c (x.1.length + 1) = k) (hkl : k < x.1.length) :
  Calls Tryz.prog 88 #[vg, .int .i64 (m : Int), .int .i64 c] w (PartSays w vg (flatLg L ++ x.1.take k, x.2, L)) := by
 obtain ⟨i0, hi0, y0, y1, y2⟩ := info_parts logInfo
 have hfl2 : (flatLg L).length + x.1.length ≤ 140737488351232 := by rw [flatLg_snoc, List.length_append] at hfl; omega
 have hlen : (L ++ [x]).length = L.length + 1 := by simp
 have hW := hide (fun u v (hr : RowOf u 209 2 logCell v L) => whole_any u L v hr (by omega) (by omega) m)
 have hP := hide (pick_any c hc (x.1.length + 1) (by omega) (by omega) w)
 rw [hk, show ((x.1.length + 1 : Nat) : Int) = (x.1.length : Int) + 1 from by omega] at hP
 obtain ⟨ad, cap, hv, hev⟩ := hR.form logCell_length
 have hcap := hR
 rw [hv] at hcap
 have hcap := hcap.cap
 obtain ⟨g, eg, hcc, _⟩ := hev L.length (by simp)
 have hgl : g < w.heap.size := hR.lt (by rw [hv, eg]; rfl)
 have h0 := hcc 0 (by decide)
 have h1 := hcc 1 (by decide)
 simp only [logCell, List.getElem?_cons_zero, List.getElem?_cons_succ, Nat.add_zero, List.getElem_concat_length] at h0 h1
 have hcs := hide (fun u (hu : Below w.heap.size w u) => show u.cell? ⟨g, L.length * 2, none⟩ = some (.string (bs x.1)) ∧ u.cell? ⟨g, L.length * 2 + 1, none⟩ = some (.int .i64 (x.2 : Int)) from ⟨(hu.cell (p := ⟨g, L.length * 2, none⟩) hgl).trans h0, (hu.cell (p := ⟨g, L.length * 2 + 1, none⟩) hgl).trans h1⟩)
 have hA : Hid (∀ j v, (L.flatMap logCell)[j]? = some v → w.cell? ((⟨g, 0, none⟩ : Addr).add j) = some v) := hide (fun j v hj => by
  have h9 := hR;rw [hv, eg] at h9;refine row_flat logCell_length h9 j v ?_;rw [List.flatMap_append, List.getElem?_append_left (List.getElem?_eq_some_iff.1 hj).1]
  exact hj)
 rw [hlen] at hv hcap
 subst hv eg
 have hn1 : ((L.length + 1 : Nat) : Int) - 1 = (L.length : Int) := by omega
 have hxs := bs_size x.1
 have dk : ((k : Int) == (x.1.length : Int)) = false := by simp; omega
 replace hR := hide hR
 clear hev hcc hk h1
 go_enter Tryz.func88, Tryz.ntmps88
 go_wp2_with fail
 refine hP.out.mono ?_
 rintro e u9 ⟨rfl, hu9⟩
 obtain rfl : w = u9 := hu9.symm
 clear hP hu9
 have hLc : (L.length : Int) ≤ (cap : Int) := by omega
 go_wp2_with (first | (at_builtin; refine stopAt ?_))
 refine hide ?_
 refine wpList_spread_at logCell_length w (by rfl) _ _ 156 (by rfl) 209 i0 _ 24 Tryz.underlying156 hi0 y0 y1 y2 rfl (by decide) (.slice none 0 0) ⟨g, 0, none⟩ cap [] L (by rfl) (by rfl) (RowOf.nil _ _) hA.out (fun y _ => log_one y) (by unfold maxLen; simp only [List.length_nil]; omega) (by simp only [List.length_nil]; omega) ?_
 intro v1 u1 r1 r2 r3
 have hb1 : Below w.heap.size w u1 := r2.below (Nat.le_refl _) (fun k hk => by simp [Value.ownBlock] at hk)
 have hv1o := hide (show ∀ k, v1.ownBlock = some k → w.heap.size ≤ k from fun k hk => by
  rcases r3 k hk with h | h
  ·simp [Value.ownBlock] at h
  ·exact h)
 rw [List.nil_append] at r1
 obtain ⟨ad1, cap1, hv1⟩ := r1.slice
 subst hv1
 have hW1 := hide (hW.out u1 _ r1)
 have r1' := hide r1
 clear hW r1 r2 r3 hA h0 hR
 go_wp2_with fail
 refine hW1.out.mono ?_
 rintro e u2 ⟨rfl, hb2⟩
 have hb3 : Below w.heap.size w u2 := hb1.trans (hb2.mono hb1.size)
 obtain ⟨q0, q1⟩ := hcs.out u2 hb3
 have r2 := hide (r1'.out.below hb2)
 have hg2 : g < u2.heap.size := Nat.lt_of_lt_of_le hgl hb3.size
 replace hb3 := hide hb3
 clear hW1 hb1 hb2 hcs r1'
 have hext : (bs x.1).extract 0 k = bs (x.1.take k) := by
  rw [← bs_of ((bs x.1).extract 0 k), cut_of, bs_data];simp [cut]
 have hkI : (k : Int) ≤ (x.1.length : Int) := by omega
 have hadd : ∀ (u : World), (Op.stringOp .add (bs (flatLg L)) (bs (x.1.take k))).run Tryz.prog u = .ok (.string (bs (flatLg L ++ x.1.take k))) u := fun u => by
  rw [run_string_add_sum u _ _ (by rw [bs_size, bs_size, List.length_take]; omega), bs_append]
 go_wp2_with fail
 go_quiet (fail)
 have hbq := hide (hb3.out.trans (((Below.refl u2.heap.size u2).drewN nq).mono hb3.out.size))
 have r3 := hide (r2.out.below ((Below.refl u2.heap.size u2).drewN nq))
 clear hb3 r2
 go_wp2
 go_ret3
 exact ⟨ad1, cap1, rfl, r3.out, hbq.out, .inr hv1o.out⟩
theorem part_any (w : World) (lg : List (List UInt8 × Nat)) (vg : Value) (hR : RowOf w 209 2 logCell vg lg) (hfl : (flatLg lg).length ≤ 140737488351232) (hl : lg.length ≤ 1000000000000) (m : Nat) (c : Int) (hc : -9223372036854775808 ≤ c ∧ c ≤ 9223372036854775807) :
  Calls Tryz.prog 88 #[vg, .int .i64 (m : Int), .int .i64 c] w (PartSays w vg (partOf lg m c)) := by
 rcases List.eq_nil_or_concat lg with rfl | ⟨L, x, hE⟩
 ·exact part_none w vg hR m c
 ·rw [List.concat_eq_append] at hE;subst hE
  have hp : partOf (L ++ [x]) m c = if pickN c (x.1.length + 1) = x.1.length then (flatLg (L ++ [x]), m, L ++ [x]) else (flatLg L ++ x.1.take (pickN c (x.1.length + 1)), x.2, L) := by
   unfold partOf;rw [List.getLast?_concat, List.dropLast_concat]
  rw [hp];split
  ·rename_i h;exact part_all w L x vg hR hfl hl m c hc h
  ·rename_i h;exact part_cut w L x vg hR hfl hl m c hc _ rfl (by have := pick_lt c x.1.length; omega)
def BackSays (w : World) (node : Nat) (E : List Ev) (e : Ending) (w' : World) : Prop :=
 ∃ B' v', e = .returned (.pointer (some ⟨B', 0, none⟩)) ∧ RB w' B' node E v' ∧ v'.ownBlock ≠ some B' ∧ w.heap.size ≤ B' ∧ (∀ g, v'.ownBlock = some g → w.heap.size ≤ g) ∧ Below w.heap.size w w'
theorem row_fresh {α : Type} {f : α → List Value} {sz : Nat} {w u : World} {e : TypeId} {v : Value} {xs : List α} (h : RowOf u e sz f v xs) (hb : Below w.heap.size w u) (node : Nat) (ho : ∀ g, v.ownBlock = some g → w.heap.size ≤ g) {T : TypeId} (Z : Array Value) : RowOf (u.alloc (.cells Z T)) e sz f v xs ∧ v.ownBlock ≠ some u.heap.size ∧ Below w.heap.size w (u.alloc (.cells Z T)) :=
 ⟨h.below ((Below.refl _ _).alloc (Nat.le_refl _) _), fun hx => by have := h.lt hx; omega, hb.alloc hb.size _⟩
theorem refBack_some (w : World) (B node : Nat) (evs : List Ev) (g cap : Nat) (hR : RB w B node evs (.slice (some ⟨g, 0, none⟩) evs.length cap)) (n : Nat) (hn : n ≤ evs.length) (hlen : evs.length ≤ 1000000) :
  Calls Tryz.prog 89 #[.pointer (some ⟨B, 0, none⟩), .int .i64 (n : Int)] w (BackSays w node (evs.take n)) := by
 obtain ⟨i0, hi0, y0, y1, y2⟩ := info_parts evInfo
 have hcap := hR.row.cap
 have hc : ∀ o, w.cell? ⟨B, o, none⟩ = (#[.int .u8 (node : Int), .slice (some ⟨g, 0, none⟩) evs.length cap] : Array Value)[o]? := fun o => cell_at hR.blk o
 have hBl := hR.lt
 have hA : Hid (∀ j v, ((evs.take n).flatMap Ev.cells)[j]? = some v → w.cell? ((⟨g, 0, none⟩ : Addr).add j) = some v) := hide (fun j v hj => by
  refine row_flat Ev.cells_length hR.row j v ?_;rw [← List.take_append_drop n evs, List.flatMap_append, List.getElem?_append_left (List.getElem?_eq_some_iff.1 hj).1]
  exact hj)
 have htl : (evs.take n).length = n := by rw [List.length_take]; omega
 have hnI : (n : Int) ≤ (cap : Int) := by omega
 have hcN := hide (fun (u : World) (hu : Below w.heap.size w u) => show u.cell? ⟨B, 0, none⟩ = some (.int .u8 (node : Int)) ∧ B < u.heap.size from ⟨(hu.cell (p := ⟨B, 0, none⟩) hBl).trans (hc 0), Nat.lt_of_lt_of_le hBl hu.size⟩)
 generalize evs.take n = F at *
 have htl' := hide htl
 clear htl
 go_enter Tryz.func89, Tryz.ntmps89
 go_wp2_with (first | (at_builtin; refine stopAt ?_))
 refine hide ?_
 refine wpList_spread_at Ev.cells_length w (by rfl) _ _ 161 (by rfl) 207 i0 _ 56 Tryz.underlying161 hi0 y0 y1 y2 rfl (by decide) (.slice none 0 0) ⟨g, 0, none⟩ cap [] F (by rfl) (by rw [htl'.out]; rfl) (RowOf.nil _ _) hA.out (fun y _ => ev_one y) (by have := htl'.out; unfold maxLen; simp only [List.length_nil]; omega) (by have := htl'.out; simp only [List.length_nil]; omega) ?_
 intro v1 u1 r1 r2 r3
 have hb1 : Below w.heap.size w u1 := r2.below (Nat.le_refl _) (fun k hk => by simp [Value.ownBlock] at hk)
 have hv1o := hide (show ∀ k, v1.ownBlock = some k → w.heap.size ≤ k from fun k hk => by
  rcases r3 k hk with h | h
  ·simp [Value.ownBlock] at h
  ·exact h)
 rw [List.nil_append] at r1
 obtain ⟨ad1, cap1, hv1⟩ := r1.slice
 subst hv1
 obtain ⟨q0, q1⟩ := hcN.out u1 hb1
 have r1' := hide r1
 have hbs := hb1.size
 replace hb1 := hide hb1
 clear r1 r2 r3 hA hR hc
 go_wp2
 go_ret
 obtain ⟨z1, z2, z3⟩ := row_fresh r1'.out hb1.out node hv1o.out (T := 163) #[.int .u8 (node : Int), .slice ad1 F.length cap1]
 exact ⟨_, _, rfl, ⟨heap_alloc_self _ _, z1⟩, z2, hbs, hv1o.out, z3⟩
theorem refBack_none (w : World) (B node : Nat) (hR : RB w B node [] (.slice none 0 0)) :
  Calls Tryz.prog 89 #[.pointer (some ⟨B, 0, none⟩), .int .i64 0] w (BackSays w node []) := by
 obtain ⟨i0, hi0, y0, y1, y2⟩ := info_parts evInfo
 have hc : ∀ o, w.cell? ⟨B, o, none⟩ = (#[.int .u8 (node : Int), .slice none 0 0] : Array Value)[o]? := fun o => cell_at hR.blk o
 have hBl := hR.lt
 have hvoid := fun (u : World) => run_append_void (P := Tryz.prog) u 161 161 207 i0 Tryz.underlying161 hi0 none 0 0 (Nat.le_refl _)
 clear hR
 go_enter Tryz.func89, Tryz.ntmps89
 go_wp2_with (first | (at_builtin; refine stopAt ?_))
 refine hide ?_
 refine wpList_spread (α := Ev) (f := Ev.cells) Ev.cells_length w (by rfl) _ _ 161 (by rfl) 207 i0 _ 56 Tryz.underlying161 hi0 y0 y1 y2 rfl (by decide) (.slice none 0 0) (.slice none 0 0) [] [] (by rfl) (by rfl) (RowOf.nil _ _) (RowOf.nil _ _) (fun y _ => ev_one y) (by unfold maxLen; simp) (by simp) ?_
 intro v1 u1 r1 r2 r3
 have hb1 : Below w.heap.size w u1 := r2.below (Nat.le_refl _) (fun k hk => by simp [Value.ownBlock] at hk)
 have hv1o := hide (show ∀ k, v1.ownBlock = some k → w.heap.size ≤ k from fun k hk => by
  rcases r3 k hk with h | h
  ·simp [Value.ownBlock] at h
  ·exact h)
 rw [List.nil_append] at r1
 obtain ⟨ad1, cap1, hv1⟩ := r1.slice
 subst hv1
 have q0 : u1.cell? ⟨B, 0, none⟩ = some (.int .u8 (node : Int)) := (hb1.cell (p := ⟨B, 0, none⟩) hBl).trans (hc 0)
 have q1 : B < u1.heap.size := Nat.lt_of_lt_of_le hBl hb1.size
 have r1' := hide r1
 have hbs := hb1.size
 replace hb1 := hide hb1
 clear r1 r2 r3 hc hvoid
 go_wp2
 go_ret
 obtain ⟨z1, z2, z3⟩ := row_fresh r1'.out hb1.out node hv1o.out (T := 163) #[.int .u8 (node : Int), .slice ad1 0 cap1]
 exact ⟨_, _, rfl, ⟨heap_alloc_self _ _, z1⟩, z2, hbs, hv1o.out, z3⟩
theorem refBack_any (w : World) (B node : Nat) (evs : List Ev) (v : Value) (hR : RB w B node evs v) (n : Nat) (hn : n ≤ evs.length) (hlen : evs.length ≤ 1000000) :
  Calls Tryz.prog 89 #[.pointer (some ⟨B, 0, none⟩), .int .i64 (n : Int)] w (BackSays w node (evs.take n)) := by
 rcases hR.row.2 with ⟨h1, h2⟩ | ⟨g, cap, cur, h1, _⟩
 ·have h3 : evs = [] := List.length_eq_zero_iff.1 h2;subst h3 h1;obtain rfl : n = 0 := by simpa using hn
  exact refBack_none w B node hR
 ·subst h1;exact refBack_some w B node evs g cap hR n hn hlen
end Go.Proofs.YtjkhbjgfoopomabGreat
namespace Go.Proofs.YtjkhbjgfoopomabGreat
set_option linter.unusedVariables false
set_option linter.unusedSimpArgs false
theorem BHist.len {node : Nat} (E : List Ev) : BHist node E → (bankTexts E).length ≤ 100 * E.length := by
 refine snoc_ind (P := fun E => BHist node E → (bankTexts E).length ≤ 100 * E.length) (fun _ => Nat.le_refl _) (fun l x ih h => ?_) E
 have h1 := ih h.left
 have h2 : (evText x).length ≤ 100 := by
  rcases h l x [] rfl with ⟨a, b, _, _, rfl, _⟩ | ⟨hk, hm, _⟩
  ·show (openTextOf a b).length ≤ 100;rw [openText_length];omega
  ·unfold evText;rw [if_neg hk];have := hm.enc;rw [← this.2.2.2];exact this.2.2.1
 rw [bankTexts_snoc, List.length_append, List.length_append, List.length_singleton]
 omega
theorem subText_len {p : Pm} {A : List Dt} (h : subIs p A) : (subTextOf p).length ≤ 120 := by
 have h1 := wrong_memo h.1
 have h2 := wrongOf_few h.1
 simp only [subTextOf, List.length_cons, List.length_append, be_length, flat9]
 omega
theorem DHist.len (A : List Dt) : DHist A → (noteTexts A).length ≤ 120 * A.length := by
 refine snoc_ind (P := fun A => DHist A → (noteTexts A).length ≤ 120 * A.length) (fun _ => Nat.le_refl _) (fun l x ih h => ?_) A
 have h1 := ih h.left
 have h2 : (actText l x).length ≤ 120 := by
  rcases h l x [] rfl with ⟨rfl, _⟩ | ⟨p, rfl, _, hp⟩ | ⟨m, rfl, hm, ht, h0⟩
  ·exact (by decide : ([84] : List UInt8).length ≤ 120)
  ·exact subText_len hp
  ·unfold actText;split
   ·simp
   ·split
    ·rename_i hk;have : ((m.k : Nat) : Int) = -1 := hk;omega
    ·split
     ·simp
     ·have := hm.enc;show (frameOf m).length ≤ 120;rw [← this.2.2.2];omega
 rw [noteTexts_snoc, List.length_append, List.length_append, List.length_singleton]
 omega
end Go.Proofs.YtjkhbjgfoopomabGreat
namespace Go.Proofs.YtjkhbjgfoopomabGreat
open Go.RowKit
set_option maxRecDepth 100000
set_option maxHeartbeats 1000000
set_option linter.unusedVariables false
set_option linter.unusedSimpArgs false
def DBackSays (w : World) (A : List Dt) (e : Ending) (w' : World) : Prop :=
 ∃ B' v', e = .returned (.pointer (some ⟨B', 0, none⟩)) ∧ RD w' B' A v' ∧ v'.ownBlock ≠ some B' ∧ w.heap.size ≤ B' ∧ (∀ g, v'.ownBlock = some g → w.heap.size ≤ g) ∧ Below w.heap.size w w'
theorem refDBack_some (w : World) (B : Nat) (acts : List Dt) (g cap : Nat) (hR : RD w B acts (.slice (some ⟨g, 0, none⟩) acts.length cap)) (n : Nat) (hn : n ≤ acts.length) (hlen : acts.length ≤ 1000000000000) :
  Calls Tryz.prog 96 #[.pointer (some ⟨B, 0, none⟩), .int .i64 (n : Int)] w (DBackSays w (acts.take n)) := by
 obtain ⟨i0, rz, hi0, y0, y1, y2, hrc⟩ := dt_parts
 have hcap := hR.row.cap
 have hc : ∀ o, w.cell? ⟨B, o, none⟩ = (#[.slice (some ⟨g, 0, none⟩) acts.length cap] : Array Value)[o]? := fun o => cell_at hR.blk o
 have hBl := hR.lt
 have hA : Hid (∀ j v, ((acts.take n).flatMap Dt.cells)[j]? = some v → w.cell? ((⟨g, 0, none⟩ : Addr).add j) = some v) := hide (fun j v hj => by
  refine row_flat Dt.cells_length hR.row j v ?_;rw [← List.take_append_drop n acts, List.flatMap_append, List.getElem?_append_left (List.getElem?_eq_some_iff.1 hj).1]
  exact hj)
 have htl : (acts.take n).length = n := by rw [List.length_take]; omega
 have hnI : (n : Int) ≤ (cap : Int) := by omega
 have hLg := hide (fun x (hx : x ∈ acts.take n) => hR.legs x (List.mem_of_mem_take hx))
 generalize acts.take n = F at *
 have htl' := hide htl
 clear htl
 go_enter Tryz.func96, Tryz.ntmps96
 go_wp2_with (first | (at_builtin; refine stopAt ?_))
 refine hide ?_
 refine wpList_spread_at Dt.cells_length w (by rfl) _ _ 153 (by rfl) 216 i0 rz 104 Tryz.underlying153 hi0 y0 y1 y2 hrc (by decide) (.slice none 0 0) ⟨g, 0, none⟩ cap [] F (by rfl) (by rw [htl'.out]; rfl) (RowOf.nil _ _) hA.out (fun y _ => dt_each y) (by have := htl'.out; unfold maxLen; simp only [List.length_nil]; omega) (by have := htl'.out; simp only [List.length_nil]; omega) ?_
 intro v1 u1 r1 r2 r3
 have hb1 : Below w.heap.size w u1 := r2.below (Nat.le_refl _) (fun k hk => by simp [Value.ownBlock] at hk)
 have hv1o := hide (show ∀ k, v1.ownBlock = some k → w.heap.size ≤ k from fun k hk => by
  rcases r3 k hk with h | h
  ·simp [Value.ownBlock] at h
  ·exact h)
 rw [List.nil_append] at r1
 obtain ⟨ad1, cap1, hv1⟩ := r1.slice
 subst hv1
 have r1' := hide r1
 have hbs := hb1.size
 replace hb1 := hide hb1
 clear r1 r2 r3 hA hR hc
 go_wp2
 go_ret
 obtain ⟨z1, z2, z3⟩ := row_fresh r1'.out hb1.out 0 hv1o.out (T := 155) #[.slice ad1 F.length cap1]
 exact ⟨_, _, rfl, ⟨heap_alloc_self _ _, z1, fun x hx => (hLg.out x hx).below z3⟩, z2, hbs, hv1o.out, z3⟩
theorem refDBack_none (w : World) (B : Nat) (hR : RD w B [] (.slice none 0 0)) :
  Calls Tryz.prog 96 #[.pointer (some ⟨B, 0, none⟩), .int .i64 0] w (DBackSays w []) := by
 obtain ⟨i0, rz, hi0, y0, y1, y2, hrc⟩ := dt_parts
 have hc : ∀ o, w.cell? ⟨B, o, none⟩ = (#[.slice none 0 0] : Array Value)[o]? := fun o => cell_at hR.blk o
 have hBl := hR.lt
 have hvoid := fun (u : World) => run_append_void (P := Tryz.prog) u 153 153 216 i0 Tryz.underlying153 hi0 none 0 0 (Nat.le_refl _)
 clear hR
 go_enter Tryz.func96, Tryz.ntmps96
 go_wp2_with (first | (at_builtin; refine stopAt ?_))
 refine hide ?_
 refine wpList_spread (α := Dt) (f := Dt.cells) Dt.cells_length w (by rfl) _ _ 153 (by rfl) 216 i0 rz 104 Tryz.underlying153 hi0 y0 y1 y2 hrc (by decide) (.slice none 0 0) (.slice none 0 0) [] [] (by rfl) (by rfl) (RowOf.nil _ _) (RowOf.nil _ _) (fun y _ => dt_each y) (by unfold maxLen; simp) (by simp) ?_
 intro v1 u1 r1 r2 r3
 have hb1 : Below w.heap.size w u1 := r2.below (Nat.le_refl _) (fun k hk => by simp [Value.ownBlock] at hk)
 have hv1o := hide (show ∀ k, v1.ownBlock = some k → w.heap.size ≤ k from fun k hk => by
  rcases r3 k hk with h | h
  ·simp [Value.ownBlock] at h
  ·exact h)
 rw [List.nil_append] at r1
 obtain ⟨ad1, cap1, hv1⟩ := r1.slice
 subst hv1
 have r1' := hide r1
 have hbs := hb1.size
 replace hb1 := hide hb1
 clear r1 r2 r3 hc hvoid
 go_wp2
 go_ret
 obtain ⟨z1, z2, z3⟩ := row_fresh r1'.out hb1.out 0 hv1o.out (T := 155) #[.slice ad1 0 cap1]
 exact ⟨_, _, rfl, ⟨heap_alloc_self _ _, z1, fun x hx => (by cases hx)⟩, z2, hbs, hv1o.out, z3⟩
theorem refDBack_any (w : World) (B : Nat) (acts : List Dt) (v : Value) (hR : RD w B acts v) (n : Nat) (hn : n ≤ acts.length) (hlen : acts.length ≤ 1000000000000) :
  Calls Tryz.prog 96 #[.pointer (some ⟨B, 0, none⟩), .int .i64 (n : Int)] w (DBackSays w (acts.take n)) := by
 rcases hR.row.2 with ⟨h1, h2⟩ | ⟨g, cap, cur, h1, _⟩
 ·have h3 : acts = [] := List.length_eq_zero_iff.1 h2;subst h3 h1;obtain rfl : n = 0 := by simpa using hn
  exact refDBack_none w B hR
 ·subst h1;exact refDBack_some w B acts g cap hR n hn hlen
theorem pl_one1 (x : Pl) : ∀ u ∈ x.cells, u.oneCell' = true := by
 intro u hu
 simp only [Pl.cells, List.mem_cons, List.not_mem_nil, or_false] at hu
 rcases hu with rfl | rfl | rfl | rfl <;> rfl
theorem World.heap_size_alloc' (w : World) (o : Obj) : (w.alloc o).heap.size = w.heap.size + 1 := by simp
theorem subSize_any (s : ByteArray) (hs : s.size ≤ maxLen) (w : World) :
  Calls Tryz.prog 138 #[.string s] w fun e w' => e = .returned (.int .i64 (subSize s.data.toList : Int)) ∧ Below w.heap.size w w' := by
 by_cases h : s.size < 15
 ·have hq : Hid (subSize s.data.toList = 15) := hide (by unfold subSize; rw [if_pos (by rw [list_size]; exact h)]);have d0 : decide ((s.size : Int) < 15) = true := by simp; omega
  go_enter Tryz.func138, Tryz.ntmps138;go_wp2;go_ret;exact ⟨ret_int (by rw [hq.out]; rfl), Below.refl _ _⟩
 ·have p13 : 13 < s.size := by omega
  have p14 : 14 < s.size := by omega
  have hq : Hid (subSize s.data.toList = 15 + s[13].toNat * 9 + s[14].toNat) := hide (by unfold subSize; rw [if_neg (by rw [list_size]; exact h), at8_of s 13 p13, at8_of s 14 p14]);have d0 : decide ((s.size : Int) < 15) = false := by simp; omega
  have i13 : (13 : Int) < (s.size : Int) := by omega
  have i14 : (14 : Int) < (s.size : Int) := by omega
  have b13 := byte_lt s[13];have b14 := byte_lt s[14];go_enter Tryz.func138, Tryz.ntmps138;go_wp2_with fail
  go_quiet (fail)
  go_wp2;go_ret;exact ⟨ret_int (by rw [hq.out]; go_num), (Below.refl _ _).drewN _⟩
theorem tsizeD_any (s : ByteArray) (hs : s.size ≤ maxLen) (w : World) :
  Calls Tryz.prog 108 #[.string s] w fun e w' => e = .returned (.int .i64 (tsizeD s.data.toList : Int)) ∧ Below w.heap.size w w' := by
 by_cases h0 : s.size = 0
 ·have hq : Hid (tsizeD s.data.toList = 0) := hide (by rw [list_empty h0]; rfl);obtain ⟨d1, d2⟩ := text_none h0;go_enter Tryz.func108, Tryz.ntmps108;go_wp2;go_ret;exact ⟨ret_int (by rw [hq.out]; rfl), Below.refl _ _⟩
 ·obtain ⟨d1, d2⟩ := text_some h0;have p0 : 0 < s.size := by omega
  have i0 : (0 : Int) < (s.size : Int) := by omega
  have hne : s.data.toList ≠ [] := fun e => h0 (by rw [← list_size, e]; rfl);have e0 := at8_zero p0;have hF := hide (frSize_any s hs w);have hS := hide (subSize_any s hs w);have hb := byte_lt s[0];by_cases h84 : s[0].toNat = 84
  ·have hq : Hid (tsizeD s.data.toList = 1) := hide (by unfold tsizeD; rw [if_neg hne, if_pos (by rw [e0, h84])]);have d3 : ((s[0].toNat : Int) == 84) = true := by simp; omega
   clear hF hS hne e0;go_enter Tryz.func108, Tryz.ntmps108;go_wp2;go_ret;exact ⟨ret_int (by rw [hq.out]; rfl), Below.refl _ _⟩
  ·have d3 : ((s[0].toNat : Int) == 84) = false := by simp; omega
   by_cases h83 : s[0].toNat = 83
   ·have hq : Hid (tsizeD s.data.toList = subSize s.data.toList) := hide (by unfold tsizeD; rw [if_neg hne, if_neg (by rw [e0]; exact h84), if_pos (by rw [e0, h83])]);have d4 : ((s[0].toNat : Int) == 83) = true := by simp; omega
    clear hne e0 hF;go_enter Tryz.func108, Tryz.ntmps108;go_wp2_with fail
    refine hS.out.mono ?_;rintro e w1 ⟨rfl, hb1⟩;clear hS;go_wp2;go_ret;exact ⟨ret_int (by rw [hq.out]), hb1⟩
   ·have d4 : ((s[0].toNat : Int) == 83) = false := by simp; omega
    by_cases h69 : s[0].toNat = 69
    ·have hq : Hid (tsizeD s.data.toList = frSize s.data.toList) := hide (by unfold tsizeD; rw [if_neg hne, if_neg (by rw [e0]; exact h84), if_neg (by rw [e0]; exact h83), if_pos (by rw [e0, h69])]);have d5 : ((s[0].toNat : Int) == 69) = true := by simp; omega
     clear hne e0 hS;go_enter Tryz.func108, Tryz.ntmps108;go_wp2_with fail
     refine hF.out.mono ?_;rintro e w1 ⟨rfl, rfl⟩;clear hF;go_wp2;go_ret;exact ⟨ret_int (by rw [hq.out]), Below.refl _ _⟩
    ·have hq : Hid (tsizeD s.data.toList = 0) := hide (by unfold tsizeD; rw [if_neg hne, if_neg (by rw [e0]; exact h84), if_neg (by rw [e0]; exact h83), if_neg (by rw [e0]; exact h69)]);have d5 : ((s[0].toNat : Int) == 69) = false := by simp; omega
     clear hF hS hne e0;go_enter Tryz.func108, Tryz.ntmps108;go_wp2;go_ret;exact ⟨ret_int (by rw [hq.out]; rfl), Below.refl _ _⟩
end Go.Proofs.YtjkhbjgfoopomabGreat
