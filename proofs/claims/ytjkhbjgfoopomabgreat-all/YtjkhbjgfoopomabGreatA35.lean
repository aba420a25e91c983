import Derived.Test.YtjkhbjgfoopomabGreatA34
import Derived.Test.YtjkhbjgfoopomabGreatA12
namespace Go.Proofs.YtjkhbjgfoopomabGreat
open Go.RowKit
set_option maxRecDepth 100000
set_option maxHeartbeats 2000000
set_option linter.unusedVariables false
set_option linter.unusedSimpArgs false
theorem XDHanded.back {w w1 u : World} {B ck : Nat} {ps ps' : List Xp} {v v' lv : Value} {outs : List (List UInt8)} (h : XDHanded w1 u B ck ps ps' v v' lv outs) (hb : Below w.heap.size w w1) : XDHanded w u B ck ps ps' v v' lv outs :=
 ⟨⟨h.to.xd, (Kept.of_below hb).trans h.to.kept (fun i hi => .inl hi), fun k hk => (h.to.ownv k hk).imp_right (fun x => Nat.le_trans hb.size x), fun x hx k hk => (h.to.ownl x hx k hk).imp_right (fun x => Nat.le_trans hb.size x), h.to.ap⟩, h.row, fun g hg => ⟨Nat.le_trans hb.size (h.fresh g hg).1, (h.fresh g hg).2⟩⟩
def stX (id : Nat) (ps : List Xp) : Nat × Nat × Nat × Nat := match ps[findX id ps]? with
 | none => (0, 0, 0, 13)
 | some x => (x.st, x.held, x.done, 0)
theorem xStatus_any (id : Nat) (hid : id < 4294967296) (w : World) (B ck : Nat) (ps : List Xp) (v : Value) (hX : XD w B ck ps v) (hok : ∀ y, y ∈ ps → y.ok) (hlen : ps.length ≤ 1000) :
  Calls Tryz.prog 40 #[.pointer (some ⟨B, 0, none⟩), .int .u32 (id : Int)] w fun e w' => e = .returned (.tuple #[.agg #[.int .u8 ((stX id ps).1 : Int), .int .u8 ((stX id ps).2.1 : Int), .int .u8 ((stX id ps).2.2.1 : Int)], .int .i64 ((stX id ps).2.2.2 : Int)]) ∧ Below w.heap.size w w' := by
 have hF := hide (fun u hu => xfind_any id hid u B ck ps v hu hok (by omega))
 have hfl := findX_le id ps
 have hz : Hid (stX id ps = match ps[findX id ps]? with | none => (0, 0, 0, 13) | some x => (x.st, x.held, x.done, 0)) := hide rfl
 generalize stX id ps = Z at *
 have hBl := hX.lt
 have hb1 := (Below.refl w.heap.size w).alloc (Nat.le_refl _) (.cells #[.int .u8 0, .int .u8 0, .int .u8 0] 73)
 have hk1 := heap_alloc_self w (.cells #[.int .u8 0, .int .u8 0, .int .u8 0] 73)
 have hX1 := hX.below hb1
 have hs1 := hb1.size
 rcases Nat.lt_or_ge (findX id ps) ps.length with hj | hj
 ·have hmem := List.getElem_mem hj;have hxo := hok _ hmem;have hPb := hide (box_of hX hmem hb1);have hS := hide (fun (u : World) b (hu : PBox u b ps[findX id ps]) => pstatus_any u b _ hxo hu);obtain ⟨ad, cap, hv, hev⟩ := hX1.row.form Xp.cells_length;obtain ⟨g', hg, hcell, _⟩ := hev _ hj;subst hg;subst hv;have hgl := hX1.row.lt rfl;have c0 := hcell 0 (by decide);have c1 := hcell 1 (by decide);have c2 := hcell 2 (by decide);have c3 := hcell 3 (by decide);have c4 := hcell 4 (by decide);have c5 := hcell 5 (by decide);have c6 := hcell 6 (by decide);have hcB : ∀ o, _ = _ := fun o => cell_at hX1.blk o;have hq : Hid (Z = (ps[findX id ps].st, ps[findX id ps].held, ps[findX id ps].done, 0)) := hide (by rw [hz.out, List.getElem?_eq_getElem hj]);clear hcell hev hz hmem hxo;generalize ps[findX id ps] = E at *;generalize findX id ps = j at *;obtain ⟨⟨ei, ed, em, el, ea, ec⟩, es, eh, en⟩ := E;obtain ⟨z1, z2, z3, z4⟩ := Z;simp only [Xp.cells, List.getElem?_cons_zero, List.getElem?_cons_succ, Nat.add_zero] at c0 c1 c2 c3 c4 c5 c6 hPb hS hq;have d0 : decide ((j : Int) ≥ (ps.length : Int)) = false := by simp; omega
  have d0' : decide ((ps.length : Int) ≤ (j : Int)) = false := by simp; omega
  have hji : (j : Int) < (ps.length : Int) := by omega
  go_enter Tryz.func40, Tryz.ntmps40;go_wp2_with fail
  refine (hF.out _ hX1).mono ?_;rintro e w3 ⟨rfl, rfl⟩;clear hF hX1;generalize w.alloc (.cells #[.int .u8 0, .int .u8 0, .int .u8 0] 73) = W1 at *;go_wp2_with fail
  refine (hS.out _ _ hPb.out).mono ?_;rintro e w4 ⟨rfl, hb4⟩;have hb5 := ((Below.refl W1.heap.size W1).alloc (Nat.le_refl _) (.cells #[.int .u32 (ei : Int), .int .u64 (ed : Int), .string (bs em), .slice ea el.length ec, .int .u8 (es : Int), .int .u8 (eh : Int), .int .u8 (en : Int)] 135)).trans (hb4.mono (by simp));have hblk : w4.heap[w.heap.size]? = some (.cells #[.int .u8 0, .int .u8 0, .int .u8 0] 73 (0, 0)) := by rw [hb5.block _ (block_lt hk1)]; exact hk1
  have hb6 := hb1.trans (hb5.mono hs1);have hc2 : ∀ o, _ = _ := fun o => cell_at hblk o;have hf2 : ∀ o, _ = _ := fun o => frozen_at hblk o;have hlt := block_lt hblk;have hP := putL_whole [.int .u8 (es : Int), .int .u8 (eh : Int), .int .u8 (en : Int)] hblk rfl;have hB := hb6.trans ((putL_kept [.int .u8 (es : Int), .int .u8 (eh : Int), .int .u8 (en : Int)] w4 w.heap.size 0).below hb6.size (fun k e => by omega));clear hS hPb hb4 hb5 hb6 hblk c0 c1 c2 c3 c4 c5 c6 hcB;go_wp2;have hc3 := fun o => cell_at hP o;simp only [putL] at hc3 hB;generalize World.setCell _ _ _ = u at *;have e := hq.out;simp only [Prod.mk.injEq] at e;obtain ⟨rfl, rfl, rfl, rfl⟩ := e;exact bodyPost_ret (v := .tuple #[.agg #[.int .u8 (z1 : Int), .int .u8 (z2 : Int), .int .u8 (z3 : Int)], .int .i64 0]) (by simp [results, Tryz.results40, go_sem, hc3]) rfl ⟨rfl, hB⟩
 ·obtain ⟨ad, cap, hv, _⟩ := hX1.row.form Xp.cells_length;subst hv;have hcB : ∀ o, _ = _ := fun o => cell_at hX1.blk o;have hq : Hid (Z = (0, 0, 0, 13)) := hide (by rw [hz.out, List.getElem?_eq_none hj]);clear hz;generalize findX id ps = j at *;have d0 : decide ((j : Int) ≥ (ps.length : Int)) = true := by simp; omega
  have d0' : decide ((ps.length : Int) ≤ (j : Int)) = true := by simp; omega
  go_enter Tryz.func40, Tryz.ntmps40;go_wp2_with fail
  refine (hF.out _ hX1).mono ?_;rintro e w3 ⟨rfl, rfl⟩;clear hF hX1;generalize w.alloc (.cells #[.int .u8 0, .int .u8 0, .int .u8 0] 73) = W1 at *;have hc2 : ∀ o, _ = _ := fun o => cell_at hk1 o;have hf2 : ∀ o, _ = _ := fun o => frozen_at hk1 o;have hlt := block_lt hk1;have hP := putL_whole [.int .u8 0, .int .u8 0, .int .u8 0] hk1 rfl;have hB := hb1.trans ((putL_kept [.int .u8 0, .int .u8 0, .int .u8 0] W1 w.heap.size 0).below hb1.size (fun k e => by omega));clear hk1;go_wp2;have hc3 := fun o => cell_at hP o;simp only [putL] at hc3 hB;generalize World.setCell _ _ _ = u at *;rw [hq.out];exact bodyPost_ret (v := .tuple #[.agg #[.int .u8 0, .int .u8 0, .int .u8 0], .int .i64 13]) (by simp [results, Tryz.results40, go_sem, hc3]) rfl ⟨rfl, hB⟩
theorem eStatus_any (id : Nat) (hid : id < 4294967296) (w : World) (B ck : Nat) (ps : List Xp) (v : Value) (hX : XD w B ck ps v) (hok : ∀ y, y ∈ ps → y.ok) (hlen : ps.length ≤ 1000) :
  Calls Tryz.prog 22 #[.pointer (some ⟨B, 0, none⟩), .int .u32 (id : Int)] w fun e w' => e = .returned (.tuple #[.agg #[.int .u8 ((stX id ps).1 : Int), .int .u8 ((stX id ps).2.1 : Int), .int .u8 ((stX id ps).2.2.1 : Int)], .int .i64 ((stX id ps).2.2.2 : Int)]) ∧ Below w.heap.size w w' := by
 have hO := hide (fun u hu => xStatus_any id hid u B ck ps v hu hok hlen)
 have hc : ∀ o, _ = _ := fun o => cell_at hX.blk o
 have hBl := hX.lt
 generalize stX id ps = Z at *
 obtain ⟨x, y, z, er⟩ := Z
 simp only at hO ⊢
 go_enter Tryz.func22, Tryz.ntmps22
 go_wp2_with fail
 refine (hO.out _ (hX.below ((Below.refl _ _).alloc (Nat.le_refl _) _))).mono ?_
 rintro e w2 ⟨rfl, hb2⟩
 have hc2 := fun o => cel_kept hb2 o
 have hf2 := fun o => fro_kept hb2 o
 have hlt := lt_kept hb2
 have hP := putL_whole [.int .u8 (x : Int), .int .u8 (y : Int), .int .u8 (z : Int)] (blk_kept hb2) rfl
 have hB := (all_kept hb2).trans ((putL_kept [.int .u8 (x : Int), .int .u8 (y : Int), .int .u8 (z : Int)] w2 w.heap.size 0).below (all_kept hb2).size (fun k e => by omega))
 clear hO hb2 hc
 go_wp2
 have hc3 := fun o => cell_at hP o
 simp only [putL] at hc3 hB
 generalize World.setCell _ _ _ = u at *
 exact bodyPost_ret (v := .tuple #[.agg #[.int .u8 (x : Int), .int .u8 (y : Int), .int .u8 (z : Int)], .int .i64 (er : Int)]) (by simp [results, Tryz.results22, go_sem, hc3]) rfl ⟨rfl, hB⟩
theorem xClock_any (w : World) (B ck : Nat) (ps : List Xp) (v : Value) (hX : XD w B ck ps v) :
  Calls Tryz.prog 31 #[.pointer (some ⟨B, 0, none⟩)] w fun e w' => e = .returned (.int .u64 (ck : Int)) ∧ w' = w := by
 have hc : ∀ o, _ = _ := fun o => cell_at hX.blk o
 go_enter Tryz.func31, Tryz.ntmps31
 go_wp2
 go_ret
 exact ⟨rfl, rfl⟩
theorem eClock_any (w : World) (B ck : Nat) (ps : List Xp) (v : Value) (hX : XD w B ck ps v) :
  Calls Tryz.prog 11 #[.pointer (some ⟨B, 0, none⟩)] w fun e w' => e = .returned (.int .u64 (ck : Int)) ∧ w' = w := by
 have hO := hide (xClock_any w B ck ps v hX)
 have hc : ∀ o, _ = _ := fun o => cell_at hX.blk o
 go_enter Tryz.func11, Tryz.ntmps11
 go_wp2_with fail
 refine hO.out.mono ?_
 rintro e w1 ⟨rfl, rfl⟩
 clear hO
 go_wp2
 go_ret
 exact ⟨rfl, rfl⟩
theorem eSub_any (p : Pm) (hp : p.ok) (hm : p.memo.length ≤ 140737488351232) (hll : p.legs.length ≤ 11728124029269) (w : World) (B ck : Nat) (ps : List Xp) (v : Value) (hX : XD w B ck ps v) (hap : XDap B ps v) (acts : List Dt) (hD : DRel acts ck ps) (hcl : ck < 18446744073709551616) (hL : RowOf w 67 4 Pl.cells p.lv p.legs) (hLd : ∀ g, p.lv.ownBlock = some g → g ≠ B ∧ v.ownBlock ≠ some g) :
  Calls Tryz.prog 20 #[.pointer (some ⟨B, 0, none⟩), p.v] w (SubX w B ck ps v p acts) := by
 have hb1 := (Below.refl w.heap.size w).alloc (Nat.le_refl _) (.cells #[.int .u32 (p.id : Int), .int .u64 (p.dl : Int), .string (bs p.memo), p.lv] 69)
 have hO := hide (fun u (hu : Below w.heap.size w u) => xSub_any p hp hm hll u B ck ps v (hX.below hu) hap acts hD hcl (hL.below hu) hLd)
 have hc : ∀ o, _ = _ := fun o => cell_at hX.blk o
 have hBl := hX.lt
 unfold SubX
 unfold SubX at hO
 generalize subErr p acts = er at *
 generalize subLog p acts = tx at *
 generalize subOuts p acts = SO at *
 generalize subActs p = SA at *
 have hco : ∃ cq, core p = cq := ⟨_, rfl⟩
 obtain ⟨cq, hcq⟩ := hco
 simp only [hcq] at hO ⊢
 clear hcq hL hLd hp hm hll
 obtain ⟨pi, pd, pmm, pl, pa, pc⟩ := p
 simp only [Pm.v, Pm.lv] at hO hb1 ⊢
 go_enter Tryz.func20, Tryz.ntmps20
 go_wp2_with fail
 go_region_with (first
  | (go_at_call 39; refine (hO.out _ (by first | exact hb1 | exact hb1.drew)).mono ?_; rintro e w1 ⟨lv, ps', v', rfl, h2, h3⟩))
 all_goals (
  replace h2 := hide (h2.back hb1.drew);replace h3 := hide h3;clear hO;go_wp2;go_ret3
  exact ⟨lv, ps', v', rfl, h2.out, h3.out⟩)
theorem eTake_any (s : ByteArray) (hs : s.size ≤ maxLen) (w : World) (B ck : Nat) (ps : List Xp) (v : Value) (hX : XD w B ck ps v) (hap : XDap B ps v) (acts : List Dt) (hD : DRel acts ck ps) (her : decErr s.data.toList < 100) :
  Calls Tryz.prog 73 #[.pointer (some ⟨B, 0, none⟩), .string s] w (TakeX w B ck ps v s.data.toList acts) := by
 have hO := hide (xTake_any s hs w B ck ps v hX hap acts hD her)
 have hc : ∀ o, _ = _ := fun o => cell_at hX.blk o
 unfold TakeX
 unfold TakeX at hO
 generalize tErr s.data.toList acts = er at *
 generalize tLog s.data.toList acts = tx at *
 go_enter Tryz.func73, Tryz.ntmps73
 go_wp2_with fail
 refine hO.out.mono ?_
 rintro e w1 ⟨lv, ps', v', rfl, h2, h3⟩
 replace h2 := hide h2
 replace h3 := hide h3
 clear hO
 go_wp2
 go_ret3
 exact ⟨lv, ps', v', rfl, h2.out, h3.out⟩
theorem eTickD_any (w : World) (B ck : Nat) (ps : List Xp) (v : Value) (hX : XD w B ck ps v) (hap : XDap B ps v) (acts : List Dt) (hD : DRel acts ck ps) (hcl : ck < 18446744073709551616) :
  Calls Tryz.prog 43 #[.pointer (some ⟨B, 0, none⟩)] w (TickX w B ck ps v acts) := by
 have hO := hide (xTick_join w B ck ps v hX hap acts hD hcl)
 have hc : ∀ o, _ = _ := fun o => cell_at hX.blk o
 unfold TickX
 unfold TickX at hO
 generalize kErr acts = er at *
 generalize kLog acts = tx at *
 go_enter Tryz.func43, Tryz.ntmps43
 go_wp2_with fail
 refine hO.out.mono ?_
 rintro e w1 ⟨lv, ck', ps', v', rfl, h2, h3⟩
 replace h2 := hide h2
 replace h3 := hide h3
 clear hO
 go_wp2
 go_ret3
 exact ⟨lv, ck', ps', v', rfl, h2.out, h3.out⟩
theorem notNew_any (w : World) : Calls Tryz.prog 36 #[] w fun e w' => e = .returned (.agg #[.int .u64 0, .slice none 0 0]) ∧ Below w.heap.size w w' := by
 go_enter Tryz.func36, Tryz.ntmps36
 go_wp2
 exact bodyPost_ret (v := .agg #[.int .u64 0, .slice none 0 0]) (by simp [results, Tryz.results36, go_sem]) rfl ⟨rfl, by first | exact Below.refl _ _ | exact (Below.refl _ _).alloc (Nat.le_refl _) _⟩
theorem newDeed_any (w : World) : Calls Tryz.prog 17 #[] w fun e w' => (∃ B, w.heap.size ≤ B ∧ e = .returned (.pointer (some ⟨B, 0, none⟩)) ∧ XD w' B 0 [] (.slice none 0 0)) ∧ Below w.heap.size w w' := by
 have hI := hide (fun u => notNew_any u)
 go_enter Tryz.func17, Tryz.ntmps17
 go_wp2_with fail
 refine (hI.out _).mono ?_
 rintro e w1 ⟨rfl, hb⟩
 clear hI
 go_wp2
 go_ret
 refine ⟨⟨w1.heap.size, hb.size, rfl, ⟨?_, RowOf.nil _ _, fun x hx => by cases hx⟩⟩, hb.alloc hb.size _⟩
 exact ty_of (heap_alloc_self _ _)
end Go.Proofs.YtjkhbjgfoopomabGreat
namespace Go.Proofs.YtjkhbjgfoopomabGreat
set_option linter.unusedVariables false
set_option linter.unusedSimpArgs false
def Fair (m : Msg) : Prop := m.ok ∧ faultOf m = 0
theorem Fair.enc {m : Msg} (h : Fair m) : decErr (encOf m) = 0 ∧ decMsg (encOf m) = m ∧ (encOf m).length ≤ 100 ∧ encOf m = frameOf m := by
 have e : encOf m = frameOf m := by unfold encOf; rw [if_pos h.2]
 have h64 := fault_zero_memo h.2
 have hd := dec_frame h.1 h.2 h64
 rw [e]
 exact ⟨hd.1, hd.2.1, by rw [hd.2.2.1]; omega, rfl⟩
theorem Fair.kinds {m : Msg} (h : Fair m) : 1 ≤ m.k ∧ m.k ≤ 6 ∧ m.l < 4 ∧ (m.k ≤ 3 → m.f = 0 ∧ 1 ≤ m.t ∧ m.t ≤ 7) ∧ (4 ≤ m.k → m.t = 0 ∧ 1 ≤ m.f ∧ m.f ≤ 7) ∧ (m.k ≠ 1 → m.p = 0 ∧ m.g = 0 ∧ m.a = 0 ∧ m.m = []) ∧ (m.k = 1 → m.a ≠ 0) := by
 have h0 := h.2
 unfold faultOf at h0
 by_cases hk : kindB m = true
 ·rw [hk] at h0;by_cases hw : wayB m = true
  ·rw [hw] at h0;by_cases hl : 4 ≤ m.l
   ·simp [hl] at h0
   ·simp only [Bool.not_true, Bool.false_eq_true, if_false, if_neg hl] at h0;simp only [kindB, Bool.and_eq_true, decide_eq_true_eq] at hk;unfold wayB bankB at hw;refine ⟨hk.1, hk.2, by omega, fun h3 => ?_, fun h4 => ?_, fun h1 => ?_, fun h1 => ?_⟩
    ·rw [if_pos h3] at hw;simp only [Bool.and_eq_true, decide_eq_true_eq] at hw;exact hw
    ·rw [if_neg (by omega)] at hw;simp only [Bool.and_eq_true, decide_eq_true_eq] at hw;exact hw
    ·rw [if_neg h1] at h0;by_cases hb : bareB m = true
     ·simp only [bareB, Bool.and_eq_true, decide_eq_true_eq, List.isEmpty_iff] at hb;exact ⟨hb.1.1.1, hb.1.1.2, hb.1.2, hb.2⟩
     ·rw [if_neg hb] at h0; omega
    ·rw [if_pos h1] at h0;unfold termsOf at h0;split at h0
     ·omega
     ·assumption
  ·have : wayB m = false := by simpa using hw
   rw [this] at h0;simp at h0
 ·have : kindB m = false := by simpa using hk
  rw [this] at h0;simp at h0
theorem rErr_enc {m : Msg} (hm : Fair m) {k : Nat} (ht : m.t = k) (E : List Ev) : rErr k (encOf m) E = hErrOf m E := by
 have h := hm.enc
 unfold rErr
 rw [h.1, h.2.1]
 simp [ht]
theorem rEvs_enc {m : Msg} (hm : Fair m) {k : Nat} (ht : m.t = k) {E : List Ev} (h0 : hErrOf m E = 0) : rEvs k (encOf m) E = hEvsOf m E := by
 unfold rEvs
 rw [rErr_enc hm ht, if_pos h0, hm.enc.2.1]
def bankLog (m : Msg) (E : List Ev) : List UInt8 := if (hEvsOf m E).length = E.length then [] else encOf m
theorem rLog_enc {m : Msg} (hm : Fair m) {k : Nat} (ht : m.t = k) {E : List Ev} (h0 : hErrOf m E = 0) : rLog k (encOf m) E = bankLog m E := by
 unfold rLog bankLog
 rw [rEvs_enc hm ht h0, hm.enc.2.1, hm.enc.2.2.2]
def nErr (m : Msg) (A : List Dt) : Nat :=
 if m.t ≠ 0 then 4 else if ((findOf m.i A).2.1 && hasLegB (findOf m.i A).1 m.l m.f) = false then 13
 else if (m.k = 5 ∧ (stOf (findOf m.i A).1 A).1 = 2) ∨ (m.k = 6 ∧ (stOf (findOf m.i A).1 A).1 = 1) then 14 else 0
def msgAct (m : Msg) : Dt := ⟨(m.k : Int), noPm, m⟩
def evText (e : Ev) : List UInt8 := if e.kind = 0 then openTextOf e.msg.p e.msg.a else frameOf e.msg
def EvIs (node : Nat) (pre : List Ev) (e : Ev) : Prop :=
 (∃ a b, a < 65536 ∧ b < 4294967296 ∧ e = openEv a b ∧ openErr a pre = 0) ∨
 (e.kind ≠ 0 ∧ Fair e.msg ∧ e.msg.t = node ∧ hErrOf e.msg pre = 0 ∧ hEvsOf e.msg pre = pre ++ [e])
def BHist (node : Nat) (E : List Ev) : Prop := ∀ pre e suf, E = pre ++ e :: suf → EvIs node pre e
theorem BHist.nil (node : Nat) : BHist node [] := fun pre e suf h => by simp at h
theorem BHist.snoc {node : Nat} {E : List Ev} {e : Ev} (h : BHist node E) (he : EvIs node E e) : BHist node (E ++ [e]) := by
 intro pre x suf hx
 rcases List.eq_nil_or_concat suf with rfl | ⟨s, y, rfl⟩
 ·have := List.append_inj' hx rfl;obtain ⟨rfl, h2⟩ := this;injection h2 with h2
  subst h2;exact he
 ·have h1 : pre ++ x :: (s ++ [y]) = (pre ++ x :: s) ++ [y] := by simp
  rw [List.concat_eq_append, h1] at hx;have := List.append_inj' hx rfl;exact h _ _ _ this.1
theorem BHist.left {node : Nat} {E F : List Ev} (h : BHist node (E ++ F)) : BHist node E := fun pre e suf hx => h pre e (suf ++ F) (by rw [hx]; simp)
theorem BHist.opens {node : Nat} {E : List Ev} (h : BHist node E) (a b : Nat) (ha : a < 65536) (hb : b < 4294967296) : BHist node (openEvs a b E) := by
 unfold openEvs
 split
 ·rename_i h0;exact h.snoc (.inl ⟨a, b, ha, hb, rfl, h0⟩)
 ·exact h
theorem hNew_one (x : Msg) (T : Nat × Msg × Bool) (n : Nat) (c : Bool) : hNewT x T n c = [] ∨ ∃ k h, 1 ≤ k ∧ hNewT x T n c = [⟨k, x, h⟩] := by
 unfold hNewT
 (repeat' split)
 ·exact .inl rfl
 ·exact .inr ⟨1, c, by omega, rfl⟩
 ·exact .inr ⟨2, false, by omega, rfl⟩
 ·exact .inr ⟨3, false, by omega, rfl⟩
 ·exact .inl rfl
theorem hEvs_one (m : Msg) (E : List Ev) : hEvsOf m E = E ∨ ∃ e, e.kind ≠ 0 ∧ e.msg = m ∧ hEvsOf m E = E ++ [e] := by
 unfold hEvsOf
 rcases hNew_one m (legOf m.i m.l E) (keysOf E).length (canB m E) with h | ⟨k, b, hk, h⟩
 ·left; rw [h, List.append_nil]
 ·right; exact ⟨⟨k, m, b⟩, by show k ≠ 0; omega, rfl, by rw [h]⟩
theorem BHist.handle {node : Nat} {E : List Ev} (h : BHist node E) {m : Msg} (hm : Fair m) (ht : m.t = node) (h0 : hErrOf m E = 0) : BHist node (hEvsOf m E) := by
 rcases hEvs_one m E with e | ⟨e, hk, he, hE⟩
 ·rw [e]; exact h
 ·rw [hE];refine h.snoc (.inr ⟨hk, by rw [he]; exact hm, by rw [he]; exact ht, by rw [he]; exact h0, by rw [he]; exact hE⟩)
def bankTexts (E : List Ev) : List UInt8 := E.flatMap evText
theorem bankTexts_snoc (E : List Ev) (e : Ev) : bankTexts (E ++ [e]) = bankTexts E ++ evText e := by simp [bankTexts]
def frSize (l : List UInt8) : Nat := if l.length ≤ 17 then 22 else 22 + at8 l 17
def tsizeB (l : List UInt8) : Nat := if l = [] then 0 else if at8 l 0 = 79 then 7 else if at8 l 0 = 69 then frSize l else 0
def redoB (node : Nat) (t : List UInt8) (E : List Ev) : Option (List Ev) :=
 if t.length = 7 then (if openErr (val (cut t 1 3)) E = 0 ∧ openTextOf (val (cut t 1 3)) (val (cut t 3 7)) = t then some (openEvs (val (cut t 1 3)) (val (cut t 3 7)) E) else none)
 else if rErr node t E = 0 ∧ rLog node t E = t then some (rEvs node t E) else none
def replayB (node : Nat) : Nat → List UInt8 → List Ev → Option (List Ev)
 | 0, _, E => some E
 | f + 1, l, E => if l = [] then some E else if tsizeB l = 0 then none else if l.length < tsizeB l then some E else
  match redoB node (l.take (tsizeB l)) E with
  | none => none
  | some E' => replayB node f (l.drop (tsizeB l)) E'
theorem tsizeB_pos {l : List UInt8} (h : tsizeB l ≠ 0) : 7 ≤ tsizeB l := by
 unfold tsizeB frSize at *
 (repeat' split at h) <;> simp_all <;> (repeat' split) <;> omega
theorem replayB_more (node : Nat) : ∀ (f : Nat) (l : List UInt8) (E : List Ev), l.length ≤ f → replayB node f l E = replayB node l.length l E := by
 intro f
 induction f using Nat.strongRecOn with
 | ind f ih =>
  intro l E hl;cases f with
  | zero =>
   have : l.length = 0 := by omega
   rw [this]
  | succ f =>
   by_cases h0 : l = []
   ·subst h0; rfl
   ·obtain ⟨n, hn⟩ : ∃ n, l.length = n + 1 := ⟨l.length - 1, by have : l.length ≠ 0 := fun e => h0 (List.length_eq_zero_iff.1 e); omega⟩;rw [hn];simp only [replayB];rw [if_neg h0, if_neg h0];by_cases h1 : tsizeB l = 0
    ·rw [if_pos h1, if_pos h1]
    ·rw [if_neg h1, if_neg h1];by_cases h2 : l.length < tsizeB l
     ·rw [if_pos h2, if_pos h2]
     ·rw [if_neg h2, if_neg h2];cases redoB node (l.take (tsizeB l)) E with
      | none => rfl
      | some E' =>
       have h7 := tsizeB_pos h1;have hd : (l.drop (tsizeB l)).length = l.length - tsizeB l := List.length_drop;show replayB node f _ E' = replayB node n _ E';rw [ih f (by omega) _ _ (by omega)];by_cases hfn : n = f
       ·subst hfn;rw [ih n (by omega) _ _ (by omega)]
       ·rw [ih n (by omega) _ _ (by omega)]
def restB (node : Nat) (l : List UInt8) : Option (List Ev) := replayB node l.length l []
theorem at8_append {l r : List UInt8} {k : Nat} (h : k < l.length) : at8 (l ++ r) k = at8 l k := by
 unfold at8
 rw [List.getD_eq_getElem?_getD, List.getD_eq_getElem?_getD, List.getElem?_append_left h]
theorem evText_size {node : Nat} {pre : List Ev} {e : Ev} (h : EvIs node pre e) (r : List UInt8) : tsizeB (evText e ++ r) = (evText e).length ∧ 7 ≤ (evText e).length := by
 rcases h with ⟨a, b, _, _, rfl, _⟩ | ⟨hk, hm, _⟩
 ·have e1 : evText (openEv a b) = openTextOf a b := rfl;rw [e1, openText_length];refine ⟨?_, Nat.le_refl _⟩;unfold tsizeB;rw [if_neg (by simp [openTextOf]), if_pos (by rfl)]
 ·have e1 : evText e = frameOf e.msg := if_neg hk;obtain ⟨_, _, h3, h4, h5, _⟩ := dec_frame hm.1 hm.2 (fault_zero_memo hm.2);rw [e1, h3];refine ⟨?_, by omega⟩;unfold tsizeB frSize
  have hne : frameOf e.msg ++ r ≠ [] := fun e => by
   have := congrArg List.length e;rw [List.length_append, h3] at this;simp at this
  rw [if_neg hne, at8_append (by omega), if_neg (by omega), at8_append (by omega), if_pos h4, if_neg (by rw [List.length_append]; omega), h5]
theorem redo_text {node : Nat} {pre : List Ev} {e : Ev} (h : EvIs node pre e) : redoB node (evText e) pre = some (pre ++ [e]) := by
 rcases h with ⟨a, b, ha, hb, rfl, h0⟩ | ⟨hk, hm, ht, h0, hE⟩
 ·have e1 : evText (openEv a b) = openTextOf a b := rfl;unfold redoB;rw [e1, if_pos (openText_length a b)]
  have c1 : cut (openTextOf a b) 1 3 = be 2 a := by
   unfold cut openTextOf;simp [List.take_append, be_length]
  have c2 : cut (openTextOf a b) 3 7 = be 4 b := by
   unfold cut openTextOf;simp [List.drop_append, List.take_append, be_length];exact List.take_of_length_le (by simp [be_length])
  rw [c1, c2, val_be (by omega), val_be (by omega), if_pos ⟨h0, rfl⟩];unfold openEvs;rw [if_pos h0]
 ·have e1 : evText e = frameOf e.msg := if_neg hk;obtain ⟨_, _, h3, _⟩ := dec_frame hm.1 hm.2 (fault_zero_memo hm.2);unfold redoB;rw [e1, if_neg (by omega), ← hm.enc.2.2.2, rErr_enc hm ht, rEvs_enc hm ht h0, rLog_enc hm ht h0];have hbl : bankLog e.msg pre = encOf e.msg := by unfold bankLog; rw [hE, if_neg (by simp)]
  rw [hbl, if_pos ⟨h0, rfl⟩, hE]
def CutB (c : List UInt8) : Prop := c = [] ∨ (tsizeB c ≠ 0 ∧ c.length < tsizeB c)
theorem at8_take {l : List UInt8} {k n : Nat} (h : k < n) : at8 (l.take n) k = at8 l k := by
 unfold at8
 rw [List.getD_eq_getElem?_getD, List.getD_eq_getElem?_getD, List.getElem?_take_of_lt h]
theorem evText_cut {node : Nat} {pre : List Ev} {e : Ev} (h : EvIs node pre e) (n : Nat) (hn : n < (evText e).length) : CutB ((evText e).take n) := by
 by_cases h0 : n = 0
 ·left; rw [h0]; rfl
 ·right;have hl : ((evText e).take n).length = n := by rw [List.length_take]; omega
  have hne : (evText e).take n ≠ [] := fun e => by rw [e] at hl; simp at hl; omega
  rcases h with ⟨a, b, _, _, rfl, _⟩ | ⟨hk, hm, _⟩
  ·have e1 : evText (openEv a b) = openTextOf a b := rfl;rw [e1] at hl hn hne ⊢;rw [openText_length] at hn;unfold tsizeB;rw [if_neg hne, at8_take (by omega), if_pos (by rfl)];omega
  ·have e1 : evText e = frameOf e.msg := if_neg hk;obtain ⟨_, _, h3, h4, h5, _⟩ := dec_frame hm.1 hm.2 (fault_zero_memo hm.2);rw [e1] at hl hn hne ⊢;unfold tsizeB frSize;rw [if_neg hne, at8_take (by omega), h4, if_neg (by omega), if_pos rfl, hl];by_cases h17 : n ≤ 17
   ·rw [if_pos h17]; omega
   ·rw [if_neg h17, at8_take (by omega), h5]; omega
theorem replay_texts (node : Nat) (c : List UInt8) (hc : CutB c) : ∀ (suf pre : List Ev), BHist node (pre ++ suf) → ∀ f, (bankTexts suf ++ c).length ≤ f → replayB node f (bankTexts suf ++ c) pre = some (pre ++ suf)
 | [], pre, h, f, hf => by
  have e : bankTexts [] ++ c = c := rfl;rw [e] at hf ⊢;rw [List.append_nil];cases f with
  | zero => rfl
  | succ f =>
   simp only [replayB];rcases hc with rfl | ⟨h1, h2⟩
   ·rfl
   ·rw [if_neg (fun e => by rw [e] at h1; exact h1 rfl), if_neg h1, if_pos h2]
 | e :: suf, pre, h, f, hf => by
  have hI := h pre e suf rfl;obtain ⟨s1, s2⟩ := evText_size hI (bankTexts suf ++ c);have e1 : bankTexts (e :: suf) ++ c = evText e ++ (bankTexts suf ++ c) := by simp [bankTexts]
  rw [e1] at hf ⊢;rw [List.length_append] at hf;cases f with
  | zero => omega
  | succ f =>
   simp only [replayB];rw [if_neg (fun h => by have := congrArg List.length (List.append_eq_nil_iff.1 h).1; rw [List.length_nil] at this; omega), s1, if_neg (by omega), if_neg (by rw [List.length_append]; omega), List.take_left, List.drop_left, redo_text hI];show replayB node f _ (pre ++ [e]) = _;rw [replay_texts node c hc suf (pre ++ [e]) (by simpa using h) f (by omega)];simp
theorem rest_texts {node : Nat} {E : List Ev} (h : BHist node E) {c : List UInt8} (hc : CutB c) : restB node (bankTexts E ++ c) = some E := by
 unfold restB
 rw [replay_texts node c hc E [] h _ (Nat.le_refl _)]
 rfl
def xcore (y : Xp) : Xp := ⟨core y.pm, y.st, y.held, y.done⟩
def Twin (ps qs : List Xp) : Prop := ps.map xcore = qs.map xcore
theorem sorted_same : ∀ (a b : List Pm), a.Pairwise (fun x y => x.id < y.id) → b.Pairwise (fun x y => x.id < y.id) → (∀ p, p ∈ a ↔ p ∈ b) → a = b
 | [], [], _, _, _ => rfl
 | [], y :: b, _, _, h => by have := (h y).2 (by simp); simp at this
 | x :: a, [], _, _, h => by have := (h x).1 (by simp); simp at this
 | x :: a, y :: b, ha, hb, h => by
  rw [List.pairwise_cons] at ha hb
  have e : x = y := by
   rcases List.mem_cons.1 ((h x).1 (by simp)) with h1 | h1
   ·exact h1
   ·rcases List.mem_cons.1 ((h y).2 (by simp)) with h2 | h2
    ·exact h2.symm
    ·have h3 := ha.1 y h2;have h4 := hb.1 x h1;omega
  subst e
  congr 1
  refine sorted_same a b ha.2 hb.2 (fun p => ⟨fun hp => ?_, fun hp => ?_⟩)
  ·rcases List.mem_cons.1 ((h p).1 (by simp [hp])) with h1 | h1
   ·subst h1;have := ha.1 p hp;omega
   ·exact h1
  ·rcases List.mem_cons.1 ((h p).2 (by simp [hp])) with h1 | h1
   ·subst h1;have := hb.1 p hp;omega
   ·exact h1
theorem Pays.uniq {A : List Dt} {qs rs : List Pm} (h : Pays A qs) (h2 : Pays A rs) : qs = rs :=
 sorted_same qs rs h.sort h2.sort (fun p => by rw [h.mem, h2.mem])
theorem map_get {α β γ : Type} {f : α → β} {g : α → γ} : ∀ {l r : List α}, (l.map f = r.map f) → (∀ x y, x ∈ l → y ∈ r → f x = f y → g x = g y) → l.map g = r.map g
 | [], [], _, _ => rfl
 | [], _ :: _, h, _ => by simp at h
 | _ :: _, [], h, _ => by simp at h
 | x :: l, y :: r, h, hg => by
  simp only [List.map_cons, List.cons.injEq] at h ⊢;exact ⟨hg x y (by simp) (by simp) h.1, map_get h.2 (fun a b ha hb => hg a b (by simp [ha]) (by simp [hb]))⟩
theorem DRel.uniq {A : List Dt} {ck ck' : Nat} {ps qs : List Xp} (h : DRel A ck ps) (h2 : DRel A ck' qs) : ck = ck' ∧ Twin ps qs := by
 refine ⟨h.clk.trans h2.clk.symm, ?_⟩
 obtain ⟨a, ha, ea⟩ := h.pays
 obtain ⟨b, hb, eb⟩ := h2.pays
 have e := ha.uniq hb
 subst e
 show ps.map xcore = qs.map xcore
 refine map_get (f := fun y : Xp => core y.pm) (ea.symm.trans eb) (fun x y hx hy hc => ?_)
 have g1 := h.good x hx
 have g2 := h2.good y hy
 have hc' : core x.pm = core y.pm := hc
 have es : stOf x.pm A = stOf y.pm A := by rw [← core_st x.pm, ← core_st y.pm, hc']
 unfold xcore
 rw [hc', g1.st, g1.held, g1.done, g2.st, g2.held, g2.done, es]
theorem wrong_cores (p : Pm) : wrongOf (core p) = wrongOf p := rfl
theorem Twin.mem {ps qs : List Xp} (h : Twin ps qs) {y : Xp} (hy : y ∈ qs) : ∃ x, x ∈ ps ∧ xcore x = xcore y := by
 have : xcore y ∈ qs.map xcore := List.mem_map_of_mem hy
 rw [← (show ps.map xcore = qs.map xcore from h)] at this
 obtain ⟨x, hx, e⟩ := List.mem_map.1 this
 exact ⟨x, hx, e⟩
theorem Twin.len {ps qs : List Xp} (h : Twin ps qs) : ps.length = qs.length := by
 have := congrArg List.length (show ps.map xcore = qs.map xcore from h)
 simpa using this
theorem xcore_parts {x y : Xp} (h : xcore x = xcore y) : core x.pm = core y.pm ∧ x.st = y.st ∧ x.held = y.held ∧ x.done = y.done := by
 unfold xcore at h
 simp only [Xp.mk.injEq] at h
 exact h
theorem DRel.recore {A : List Dt} {ck : Nat} {ps qs : List Xp} (h : DRel A ck ps) (hT : Twin ps qs) (hf : ∀ y, y ∈ qs → y.fine) : DRel A ck qs := by
 have hlen := hT.len
 refine ⟨h.clk, h.ok, h.few, h.pay, fun y hy => ?_, ?_, fun id => by rw [← hlen]; exact h.cnt id, by rw [← hlen]; exact h.len, fun p hp => h.new p (fun y hy e => ?_)⟩
 ·obtain ⟨x, hx, e⟩ := hT.mem hy;obtain ⟨hc, e1, e2, e3⟩ := xcore_parts e;have g := h.good x hx;have es : stOf x.pm A = stOf y.pm A := by rw [← core_st x.pm, ← core_st y.pm, hc]
  have ew : wrongOf y.pm = 0 := by rw [← wrong_cores, ← hc, wrong_cores]; exact g.right
  have el : x.pm.legs = y.pm.legs := legs_core hc;exact ⟨hf y hy, ew, by rw [← e1, g.st, es], by rw [← e2, g.held, es], by rw [← e3, g.done, es], by rw [← e2, ← el]; exact g.room⟩
 ·obtain ⟨a, ha, ea⟩ := h.pays;refine ⟨a, ha, ea.trans ?_⟩;refine map_get (f := xcore) (g := fun y : Xp => core y.pm) hT (fun x y _ _ e => (xcore_parts e).1)
 ·obtain ⟨x, hx, e'⟩ := Twin.mem (ps := qs) (qs := ps) (by exact (Eq.symm hT : qs.map xcore = ps.map xcore)) hy;exact hp x hx ((core_id (xcore_parts e').1).trans e)
def AlikeD (A A' : List Dt) : Prop := ∃ ck ps, DRel A ck ps ∧ DRel A' ck ps
theorem AlikeD.to {A A' : List Dt} (h : AlikeD A A') {ck : Nat} {ps : List Xp} (hD : DRel A' ck ps) : DRel A ck ps := by
 obtain ⟨c, qs, h1, h2⟩ := h
 obtain ⟨rfl, hT⟩ := h2.uniq hD
 exact h1.recore hT (fun y hy => (hD.good y hy).fine)
theorem AlikeD.tick {A A' : List Dt} (h : AlikeD A A') : AlikeD (A ++ [tickAct]) (A' ++ [tickAct]) := by
 obtain ⟨c, qs, h1, h2⟩ := h
 exact ⟨c + 1, _, h1.tick, h2.tick⟩
theorem AlikeD.clock {A A' : List Dt} (h : AlikeD A A') : clockOf A' = clockOf A := by
 obtain ⟨c, qs, h1, h2⟩ := h
 rw [← h1.clk, ← h2.clk]
theorem DRel.heard {A : List Dt} {ck : Nat} {ps : List Xp} (h : DRel A ck ps) {m : Msg} (hm : Fair m) (ht : m.t = 0) :
  (ps.length ≤ findX m.i ps → tErr (encOf m) A = 13) ∧
  ∀ hj : findX m.i ps < ps.length, (hasLegB ps[findX m.i ps].pm m.l m.f = false → tErr (encOf m) A = 13) ∧
   (hasLegB ps[findX m.i ps].pm m.l m.f = true → tErr (encOf m) A = (hearX ps[findX m.i ps] m.k m.l).2.2 ∧
    ((hearX ps[findX m.i ps] m.k m.l).2.2 = 0 → actText A (msgAct m) = (if sameSt (hearX ps[findX m.i ps] m.k m.l).1 ps[findX m.i ps] then [] else frameOf m) ∧ DRel (A ++ [msgAct m]) ck (ps.set (findX m.i ps) (hearX ps[findX m.i ps] m.k m.l).1))) := by
 obtain ⟨d1, d2, _, _⟩ := hm.enc
 have hte : tErr (encOf m) A = nErr m A := by
  unfold tErr nErr;rw [d1, d2];simp [ht]
 have hfn := fault_notary hm.2 ht
 refine ⟨fun hj => ?_, fun hj => ⟨fun hl => ?_, fun hl => ?_⟩⟩
 ·rw [hte];unfold nErr;rw [if_neg (by simp [ht]), if_pos (by rw [h.find_no _ hj, Bool.false_and])]
 ·obtain ⟨hf, hc⟩ := h.find_in m.i hj;rw [hte];unfold nErr;rw [if_neg (by simp [ht]), if_pos (by rw [hasLeg_core hc, hl, Bool.and_false])]
 ·obtain ⟨hf, hc⟩ := h.find_in m.i hj;have g := h.good _ (List.getElem_mem hj);have hat := findX_at _ ps hj;obtain ⟨hll, _⟩ := hasLegB_at hl;refine ⟨?_, fun hz => ⟨take_text g hc hfn.1 hat.symm hll hz, h.take hm.1 hfn.1 hfn.2.1 hj hl hz⟩⟩;rw [hte, hear_err g hfn.1];unfold nErr;rw [if_neg (by simp [ht]), if_neg (by rw [hf, hasLeg_core hc, hl]; decide), st_core hc]
theorem AlikeD.take {A A' : List Dt} (h : AlikeD A A') {m : Msg} (hm : Fair m) (ht : m.t = 0) (h0 : tErr (encOf m) A = 0) :
  tErr (encOf m) A' = 0 ∧ actText A' (msgAct m) = actText A (msgAct m) ∧ AlikeD (A ++ [msgAct m]) (A' ++ [msgAct m]) ∧ (actText A (msgAct m) = [] → AlikeD (A ++ [msgAct m]) A') := by
 obtain ⟨c, ps, h1, h2⟩ := h
 obtain ⟨a1, a2⟩ := h1.heard hm ht
 obtain ⟨b1, b2⟩ := h2.heard hm ht
 rcases Nat.lt_or_ge (findX m.i ps) ps.length with hj | hj
 ·cases hl : hasLegB ps[findX m.i ps].pm m.l m.f with
  | false => rw [(a2 hj).1 hl] at h0; omega
  | true =>
   obtain ⟨e1, f1⟩ := (a2 hj).2 hl;obtain ⟨e2, f2⟩ := (b2 hj).2 hl;have hz : (hearX ps[findX m.i ps] m.k m.l).2.2 = 0 := by rw [← e1, h0]
   obtain ⟨t1, r1⟩ := f1 hz;obtain ⟨t2, r2⟩ := f2 hz;refine ⟨by rw [e2, hz], by rw [t1, t2], ⟨c, _, r1, r2⟩, fun hn => ⟨c, ps, r1.recore ?_ (fun y hy => (h2.good y hy).fine), h2⟩⟩
   have hs : sameSt (hearX ps[findX m.i ps] m.k m.l).1 ps[findX m.i ps] := by
    rw [t1] at hn;by_cases hs : sameSt (hearX ps[findX m.i ps] m.k m.l).1 ps[findX m.i ps]
    ·exact hs
    ·rw [if_neg hs] at hn;have := congrArg List.length hn;rw [(dec_frame hm.1 hm.2 (fault_zero_memo hm.2)).2.2.1] at this;simp at this
   have hp := (hearX_fine (h1.good _ (List.getElem_mem hj)).fine m.k (l := m.l) (hm.kinds.2.2.1)).2
   have hx : xcore (hearX ps[findX m.i ps] m.k m.l).1 = xcore ps[findX m.i ps] := by
    unfold xcore;rw [hp, hs.1, hs.2.1, hs.2.2]
   show (ps.set _ _).map xcore = ps.map xcore;rw [List.map_set, hx];have : xcore ps[findX m.i ps] = (ps.map xcore)[findX m.i ps]'(by simpa using hj) := by simp
   rw [this, List.set_getElem_self]
 ·rw [a1 hj] at h0; omega
theorem ins_place {A : List Dt} {ck : Nat} {ps : List Xp} (h : DRel A ck ps) {p : Pm} (hno : ∀ y, y ∈ ps → y.pm.id ≠ p.id) : ∃ k, k ≤ ps.length ∧ (∀ q (hq : q < ps.length), k ≤ q → p.id < ps[q].pm.id) ∧ ∀ j (hj : j < ps.length), k = j + 1 → ¬ p.id < ps[j].pm.id := by
 refine ⟨ps.findIdx (fun y => decide (p.id < y.pm.id)), List.findIdx_le_length, fun q hq hk => ?_, fun j hj hk => ?_⟩
 ·have hl : ps.findIdx (fun y => decide (p.id < y.pm.id)) < ps.length := Nat.lt_of_le_of_lt hk hq;have h1 := List.findIdx_getElem (w := hl);simp only [decide_eq_true_eq] at h1;rcases Nat.lt_or_ge (ps.findIdx (fun y => decide (p.id < y.pm.id))) q with h2 | h2
  ·have := h.sort _ _ hl hq h2;omega
  ·have e : ps.findIdx (fun y => decide (p.id < y.pm.id)) = q := by omega
   simpa [e] using h1
 ·have := List.not_of_lt_findIdx (p := fun y : Xp => decide (p.id < y.pm.id)) (xs := ps) (i := j) (by omega);simpa using this
theorem AlikeD.sub {A A' : List Dt} (h : AlikeD A A') {p : Pm} (hp : p.ok) (hs : subIs p A) {q q' : Pm} (hq : core q = core p) (hq' : core q' = core p) : subIs p A' ∧ AlikeD (A ++ [⟨-1, q, zeroMsg⟩]) (A' ++ [⟨-1, q', zeroMsg⟩]) := by
 obtain ⟨c, ps, h1, h2⟩ := h
 obtain ⟨hw, hf, hd, h32⟩ := hs
 have hj : ps.length ≤ findX p.id ps := by
  rcases Nat.lt_or_ge (findX p.id ps) ps.length with hj | hj
  ·rw [(h1.find_in p.id hj).1] at hf; exact absurd hf (by decide)
  ·exact hj
 have hno := (findX_none _ _).1 hj
 have hl : ps.length < 32 := by rw [← h1.cnt p.id]; exact h32
 obtain ⟨k, k1, k2, k3⟩ := ins_place h1 hno
 exact ⟨⟨hw, h2.find_no _ hj, by rw [← h2.clk, h1.clk]; exact hd, by rw [h2.cnt]; exact hl⟩, c, insX ⟨p, 1, 0, 0⟩ k ps, h1.add hp hw hno hl k1 k2 k3 hq rfl, h2.add hp hw hno hl k1 k2 k3 hq' rfl⟩
structure PN where
 E : Nat → List Ev
 A : List Dt
 wire : List Msg
 lg : Nat → List UInt8
 sm : Nat → Nat
end Go.Proofs.YtjkhbjgfoopomabGreat
