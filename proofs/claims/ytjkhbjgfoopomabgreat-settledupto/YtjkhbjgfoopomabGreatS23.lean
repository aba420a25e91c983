import Derived.Test.YtjkhbjgfoopomabGreatS22
/-
  The program's notary: Status, Clock; package escrow's calls.
-/
namespace Go.Proofs.YtjkhbjgfoopomabGreat
open Go.RowKit
set_option linter.unusedVariables false
set_option linter.unusedSimpArgs false
theorem XDHanded.back {w w1 u : World} {B ck : Nat} {ps ps' : List Xp} {v v' lv : Value} {outs : List (List UInt8)} (h : XDHanded w1 u B ck ps ps' v v' lv outs) (hb : Below w.heap.size w w1) : XDHanded w u B ck ps ps' v v' lv outs :=
  ⟨⟨h.to.xd, (Kept.of_below hb).trans h.to.kept (fun i hi => .inl hi), fun k hk => (h.to.ownv k hk).imp_right (fun x => Nat.le_trans hb.size x), fun x hx k hk => (h.to.ownl x hx k hk).imp_right (fun x => Nat.le_trans hb.size x), h.to.ap⟩, h.row, fun g hg => ⟨Nat.le_trans hb.size (h.fresh g hg).1, (h.fresh g hg).2⟩⟩
/-- Status, as the program answers it -/
def stX (id : Nat) (ps : List Xp) : Nat × Nat × Nat × Nat := match ps[findX id ps]? with
  | none => (0, 0, 0, 13)
  | some x => (x.st, x.held, x.done, 0)
set_option maxRecDepth 100000 in
set_option maxHeartbeats 2000000 in
theorem xStatus_any (id : Nat) (hid : id < 4294967296) (w : World) (B ck : Nat) (ps : List Xp) (v : Value) (hX : XD w B ck ps v) (hok : ∀ y, y ∈ ps → y.ok) (hlen : ps.length ≤ 1000) :
    Calls Tryz.prog 40 #[.pointer (some ⟨B, 0, none⟩), .int .u32 (id : Int)] w fun e w' => e = .returned (.tuple #[.agg #[.int .u8 ((stX id ps).1 : Int), .int .u8 ((stX id ps).2.1 : Int), .int .u8 ((stX id ps).2.2.1 : Int)], .int .i64 ((stX id ps).2.2.2 : Int)]) ∧ Below w.heap.size w w' := by
  have hF := hide (fun u hu => xfind_any id hid u B ck ps v hu hok (by omega))
  have hfl := findX_le id ps
  have hz : Hid (stX id ps = match ps[findX id ps]? with | none => (0, 0, 0, 13) | some x => (x.st, x.held, x.done, 0)) := hide rfl
  generalize stX id ps = Z at *
  have hBl := hX.lt
  have hb1 := (Below.refl w.heap.size w).alloc (Nat.le_refl _) (.cells #[.int .u8 0, .int .u8 0, .int .u8 0] 73)
  have hk1 := heap_alloc_self w (.cells #[.int .u8 0, .int .u8 0, .int .u8 0] 73)
  have hX1 := hX.below hb1
  have hs1 := hb1.size
  rcases Nat.lt_or_ge (findX id ps) ps.length with hj | hj
  · have hmem := List.getElem_mem hj
    have hxo := hok _ hmem
    have hPb := hide (box_of hX hmem hb1)
    have hS := hide (fun (u : World) b (hu : PBox u b ps[findX id ps]) => pstatus_any u b _ hxo hu)
    obtain ⟨ad, cap, hv, hev⟩ := hX1.row.form Xp.cells_length
    obtain ⟨g', hg, hcell, _⟩ := hev _ hj
    subst hg
    subst hv
    have hgl := hX1.row.lt rfl
    have c0 := hcell 0 (by decide)
    have c1 := hcell 1 (by decide)
    have c2 := hcell 2 (by decide)
    have c3 := hcell 3 (by decide)
    have c4 := hcell 4 (by decide)
    have c5 := hcell 5 (by decide)
    have c6 := hcell 6 (by decide)
    have hcB : ∀ o, _ = _ := fun o => cell_at hX1.blk o
    have hq : Hid (Z = (ps[findX id ps].st, ps[findX id ps].held, ps[findX id ps].done, 0)) := hide (by rw [hz.out, List.getElem?_eq_getElem hj])
    clear hcell hev hz hmem hxo
    generalize ps[findX id ps] = E at *
    generalize findX id ps = j at *
    obtain ⟨⟨ei, ed, em, el, ea, ec⟩, es, eh, en⟩ := E
    obtain ⟨z1, z2, z3, z4⟩ := Z
    simp only [Xp.cells, List.getElem?_cons_zero, List.getElem?_cons_succ, Nat.add_zero] at c0 c1 c2 c3 c4 c5 c6 hPb hS hq
    have d0 : decide ((j : Int) ≥ (ps.length : Int)) = false := by simp; omega
    have d0' : decide ((ps.length : Int) ≤ (j : Int)) = false := by simp; omega
    have hji : (j : Int) < (ps.length : Int) := by omega
    go_enter Tryz.func40, Tryz.ntmps40
    go_wp2_with fail
    refine (hF.out _ hX1).mono ?_
    rintro e w3 ⟨rfl, rfl⟩
    clear hF hX1
    generalize w.alloc (.cells #[.int .u8 0, .int .u8 0, .int .u8 0] 73) = W1 at *
    go_wp2_with fail
    refine (hS.out _ _ hPb.out).mono ?_
    rintro e w4 ⟨rfl, hb4⟩
    have hb5 := ((Below.refl W1.heap.size W1).alloc (Nat.le_refl _) (.cells #[.int .u32 (ei : Int), .int .u64 (ed : Int), .string (bs em), .slice ea el.length ec, .int .u8 (es : Int), .int .u8 (eh : Int), .int .u8 (en : Int)] 135)).trans (hb4.mono (by simp))
    have hblk : w4.heap[w.heap.size]? = some (.cells #[.int .u8 0, .int .u8 0, .int .u8 0] 73 (0, 0)) := by rw [hb5.block _ (block_lt hk1)]; exact hk1
    have hb6 := hb1.trans (hb5.mono hs1)
    have hc2 : ∀ o, _ = _ := fun o => cell_at hblk o
    have hf2 : ∀ o, _ = _ := fun o => frozen_at hblk o
    have hlt := block_lt hblk
    have hP := putL_whole [.int .u8 (es : Int), .int .u8 (eh : Int), .int .u8 (en : Int)] hblk rfl
    have hB := hb6.trans ((putL_kept [.int .u8 (es : Int), .int .u8 (eh : Int), .int .u8 (en : Int)] w4 w.heap.size 0).below hb6.size (fun k e => by omega))
    clear hS hPb hb4 hb5 hb6 hblk c0 c1 c2 c3 c4 c5 c6 hcB
    go_wp2
    have hc3 := fun o => cell_at hP o
    simp only [putL] at hc3 hB
    generalize World.setCell _ _ _ = u at *
    have e := hq.out
    simp only [Prod.mk.injEq] at e
    obtain ⟨rfl, rfl, rfl, rfl⟩ := e
    exact bodyPost_ret (v := .tuple #[.agg #[.int .u8 (z1 : Int), .int .u8 (z2 : Int), .int .u8 (z3 : Int)], .int .i64 0]) (by simp [results, Tryz.results40, go_sem, hc3]) rfl ⟨rfl, hB⟩
  · obtain ⟨ad, cap, hv, _⟩ := hX1.row.form Xp.cells_length
    subst hv
    have hcB : ∀ o, _ = _ := fun o => cell_at hX1.blk o
    have hq : Hid (Z = (0, 0, 0, 13)) := hide (by rw [hz.out, List.getElem?_eq_none hj])
    clear hz
    generalize findX id ps = j at *
    have d0 : decide ((j : Int) ≥ (ps.length : Int)) = true := by simp; omega
    have d0' : decide ((ps.length : Int) ≤ (j : Int)) = true := by simp; omega
    go_enter Tryz.func40, Tryz.ntmps40
    go_wp2_with fail
    refine (hF.out _ hX1).mono ?_
    rintro e w3 ⟨rfl, rfl⟩
    clear hF hX1
    generalize w.alloc (.cells #[.int .u8 0, .int .u8 0, .int .u8 0] 73) = W1 at *
    have hc2 : ∀ o, _ = _ := fun o => cell_at hk1 o
    have hf2 : ∀ o, _ = _ := fun o => frozen_at hk1 o
    have hlt := block_lt hk1
    have hP := putL_whole [.int .u8 0, .int .u8 0, .int .u8 0] hk1 rfl
    have hB := hb1.trans ((putL_kept [.int .u8 0, .int .u8 0, .int .u8 0] W1 w.heap.size 0).below hb1.size (fun k e => by omega))
    clear hk1
    go_wp2
    have hc3 := fun o => cell_at hP o
    simp only [putL] at hc3 hB
    generalize World.setCell _ _ _ = u at *
    rw [hq.out]
    exact bodyPost_ret (v := .tuple #[.agg #[.int .u8 0, .int .u8 0, .int .u8 0], .int .i64 13]) (by simp [results, Tryz.results40, go_sem, hc3]) rfl ⟨rfl, hB⟩
set_option maxRecDepth 100000 in
set_option maxHeartbeats 2000000 in
theorem eStatus_any (id : Nat) (hid : id < 4294967296) (w : World) (B ck : Nat) (ps : List Xp) (v : Value) (hX : XD w B ck ps v) (hok : ∀ y, y ∈ ps → y.ok) (hlen : ps.length ≤ 1000) :
    Calls Tryz.prog 22 #[.pointer (some ⟨B, 0, none⟩), .int .u32 (id : Int)] w fun e w' => e = .returned (.tuple #[.agg #[.int .u8 ((stX id ps).1 : Int), .int .u8 ((stX id ps).2.1 : Int), .int .u8 ((stX id ps).2.2.1 : Int)], .int .i64 ((stX id ps).2.2.2 : Int)]) ∧ Below w.heap.size w w' := by
  have hO := hide (fun u hu => xStatus_any id hid u B ck ps v hu hok hlen)
  have hc : ∀ o, _ = _ := fun o => cell_at hX.blk o
  have hBl := hX.lt
  generalize stX id ps = Z at *
  obtain ⟨x, y, z, er⟩ := Z
  simp only at hO ⊢
  go_enter Tryz.func22, Tryz.ntmps22
  go_wp2_with fail
  refine (hO.out _ (hX.below ((Below.refl _ _).alloc (Nat.le_refl _) _))).mono ?_
  rintro e w2 ⟨rfl, hb2⟩
  have hc2 := fun o => cel_kept hb2 o
  have hf2 := fun o => fro_kept hb2 o
  have hlt := lt_kept hb2
  have hP := putL_whole [.int .u8 (x : Int), .int .u8 (y : Int), .int .u8 (z : Int)] (blk_kept hb2) rfl
  have hB := (all_kept hb2).trans ((putL_kept [.int .u8 (x : Int), .int .u8 (y : Int), .int .u8 (z : Int)] w2 w.heap.size 0).below (all_kept hb2).size (fun k e => by omega))
  clear hO hb2 hc
  go_wp2
  have hc3 := fun o => cell_at hP o
  simp only [putL] at hc3 hB
  generalize World.setCell _ _ _ = u at *
  exact bodyPost_ret (v := .tuple #[.agg #[.int .u8 (x : Int), .int .u8 (y : Int), .int .u8 (z : Int)], .int .i64 (er : Int)]) (by simp [results, Tryz.results22, go_sem, hc3]) rfl ⟨rfl, hB⟩
set_option maxRecDepth 100000 in
set_option maxHeartbeats 2000000 in
theorem xClock_any (w : World) (B ck : Nat) (ps : List Xp) (v : Value) (hX : XD w B ck ps v) :
    Calls Tryz.prog 31 #[.pointer (some ⟨B, 0, none⟩)] w fun e w' => e = .returned (.int .u64 (ck : Int)) ∧ w' = w := by
  have hc : ∀ o, _ = _ := fun o => cell_at hX.blk o
  go_enter Tryz.func31, Tryz.ntmps31
  go_wp2
  go_ret
  exact ⟨rfl, rfl⟩
set_option maxRecDepth 100000 in
set_option maxHeartbeats 2000000 in
theorem eClock_any (w : World) (B ck : Nat) (ps : List Xp) (v : Value) (hX : XD w B ck ps v) :
    Calls Tryz.prog 11 #[.pointer (some ⟨B, 0, none⟩)] w fun e w' => e = .returned (.int .u64 (ck : Int)) ∧ w' = w := by
  have hO := hide (xClock_any w B ck ps v hX)
  have hc : ∀ o, _ = _ := fun o => cell_at hX.blk o
  go_enter Tryz.func11, Tryz.ntmps11
  go_wp2_with fail
  refine hO.out.mono ?_
  rintro e w1 ⟨rfl, rfl⟩
  clear hO
  go_wp2
  go_ret
  exact ⟨rfl, rfl⟩
set_option maxRecDepth 100000 in
set_option maxHeartbeats 2000000 in
theorem eSub_any (p : Pm) (hp : p.ok) (hm : p.memo.length ≤ 140737488351232) (hll : p.legs.length ≤ 11728124029269) (w : World) (B ck : Nat) (ps : List Xp) (v : Value) (hX : XD w B ck ps v) (hap : XDap B ps v) (acts : List Dt) (hD : DRel acts ck ps) (hcl : ck < 18446744073709551616) (hL : RowOf w 67 4 Pl.cells p.lv p.legs) (hLd : ∀ g, p.lv.ownBlock = some g → g ≠ B ∧ v.ownBlock ≠ some g) :
    Calls Tryz.prog 20 #[.pointer (some ⟨B, 0, none⟩), p.v] w (SubX w B ck ps v p acts) := by
  have hb1 := (Below.refl w.heap.size w).alloc (Nat.le_refl _) (.cells #[.int .u32 (p.id : Int), .int .u64 (p.dl : Int), .string (bs p.memo), p.lv] 69)
  have hO := hide (fun u (hu : Below w.heap.size w u) => xSub_any p hp hm hll u B ck ps v (hX.below hu) hap acts hD hcl (hL.below hu) hLd)
  have hc : ∀ o, _ = _ := fun o => cell_at hX.blk o
  have hBl := hX.lt
  unfold SubX
  unfold SubX at hO
  generalize subErr p acts = er at *
  generalize subLog p acts = tx at *
  generalize subOuts p acts = SO at *
  generalize subActs p = SA at *
  have hco : ∃ cq, core p = cq := ⟨_, rfl⟩
  obtain ⟨cq, hcq⟩ := hco
  simp only [hcq] at hO ⊢
  clear hcq hL hLd hp hm hll
  obtain ⟨pi, pd, pmm, pl, pa, pc⟩ := p
  simp only [Pm.v, Pm.lv] at hO hb1 ⊢
  go_enter Tryz.func20, Tryz.ntmps20
  go_wp2_with fail
  go_region_with (first
    | (go_at_call 39; refine (hO.out _ (by first | exact hb1 | exact hb1.drew)).mono ?_; rintro e w1 ⟨lv, ps', v', rfl, h2, h3⟩))
  all_goals (
    replace h2 := hide (h2.back hb1.drew)
    replace h3 := hide h3
    clear hO
    go_wp2
    go_ret3
    exact ⟨lv, ps', v', rfl, h2.out, h3.out⟩)
set_option maxRecDepth 100000 in
set_option maxHeartbeats 2000000 in
theorem eTake_any (s : ByteArray) (hs : s.size ≤ maxLen) (w : World) (B ck : Nat) (ps : List Xp) (v : Value) (hX : XD w B ck ps v) (hap : XDap B ps v) (acts : List Dt) (hD : DRel acts ck ps) (her : decErr s.data.toList < 100) :
    Calls Tryz.prog 73 #[.pointer (some ⟨B, 0, none⟩), .string s] w (TakeX w B ck ps v s.data.toList acts) := by
  have hO := hide (xTake_any s hs w B ck ps v hX hap acts hD her)
  have hc : ∀ o, _ = _ := fun o => cell_at hX.blk o
  unfold TakeX
  unfold TakeX at hO
  generalize tErr s.data.toList acts = er at *
  generalize tLog s.data.toList acts = tx at *
  go_enter Tryz.func73, Tryz.ntmps73
  go_wp2_with fail
  refine hO.out.mono ?_
  rintro e w1 ⟨lv, ps', v', rfl, h2, h3⟩
  replace h2 := hide h2
  replace h3 := hide h3
  clear hO
  go_wp2
  go_ret3
  exact ⟨lv, ps', v', rfl, h2.out, h3.out⟩
set_option maxRecDepth 100000 in
set_option maxHeartbeats 2000000 in
theorem eTickD_any (w : World) (B ck : Nat) (ps : List Xp) (v : Value) (hX : XD w B ck ps v) (hap : XDap B ps v) (acts : List Dt) (hD : DRel acts ck ps) (hcl : ck < 18446744073709551616) :
    Calls Tryz.prog 43 #[.pointer (some ⟨B, 0, none⟩)] w (TickX w B ck ps v acts) := by
  have hO := hide (xTick_join w B ck ps v hX hap acts hD hcl)
  have hc : ∀ o, _ = _ := fun o => cell_at hX.blk o
  unfold TickX
  unfold TickX at hO
  generalize kErr acts = er at *
  generalize kLog acts = tx at *
  go_enter Tryz.func43, Tryz.ntmps43
  go_wp2_with fail
  refine hO.out.mono ?_
  rintro e w1 ⟨lv, ck', ps', v', rfl, h2, h3⟩
  replace h2 := hide h2
  replace h3 := hide h3
  clear hO
  go_wp2
  go_ret3
  exact ⟨lv, ck', ps', v', rfl, h2.out, h3.out⟩
set_option maxRecDepth 100000 in
set_option maxHeartbeats 2000000 in
theorem notNew_any (w : World) : Calls Tryz.prog 36 #[] w fun e w' => e = .returned (.agg #[.int .u64 0, .slice none 0 0]) ∧ Below w.heap.size w w' := by
  go_enter Tryz.func36, Tryz.ntmps36
  go_wp2
  exact bodyPost_ret (v := .agg #[.int .u64 0, .slice none 0 0]) (by simp [results, Tryz.results36, go_sem]) rfl ⟨rfl, by first | exact Below.refl _ _ | exact (Below.refl _ _).alloc (Nat.le_refl _) _⟩
set_option maxRecDepth 100000 in
set_option maxHeartbeats 2000000 in
theorem newDeed_any (w : World) : Calls Tryz.prog 17 #[] w fun e w' => (∃ B, w.heap.size ≤ B ∧ e = .returned (.pointer (some ⟨B, 0, none⟩)) ∧ XD w' B 0 [] (.slice none 0 0)) ∧ Below w.heap.size w w' := by
  have hI := hide (fun u => notNew_any u)
  go_enter Tryz.func17, Tryz.ntmps17
  go_wp2_with fail
  refine (hI.out _).mono ?_
  rintro e w1 ⟨rfl, hb⟩
  clear hI
  go_wp2
  go_ret
  refine ⟨⟨w1.heap.size, hb.size, rfl, ⟨?_, RowOf.nil _ _, fun x hx => by cases hx⟩⟩, hb.alloc hb.size _⟩
  exact ty_of (heap_alloc_self _ _)
end Go.Proofs.YtjkhbjgfoopomabGreat
