import Derived.Test.YtjkhbjgfoopomabGreatA46
import Derived.Deep.Slices
namespace Go.Proofs.YtjkhbjgfoopomabGreat
open Go.RowKit
set_option maxRecDepth 100000
set_option maxHeartbeats 2000000
set_option linter.unusedVariables false
set_option linter.unusedSimpArgs false
theorem redo_clock {t : List UInt8} {A A' : List Dt} (h : redoD t A = some A') (hc : clockOf A ≤ 1000000) : clockOf A' ≤ 1000000 := by
 unfold redoD at h
 split at h
 ·split at h
  ·injection h with h
   rw [← h, clockOf_snoc];unfold clockStep;split <;> omega
  ·cases h
 ·split at h
  ·split at h
   ·injection h with h
    rw [← h];unfold subActs;split
    ·rw [clockOf_snoc];exact hc
    ·exact hc
   ·cases h
  ·split at h
   ·rename_i h0;injection h with h
    rw [← h];unfold tActs;rw [if_pos h0.1, clockOf_snoc]
    have hde : decErr t = 0 ∧ (decMsg t).t = 0 := by
     have h1 := h0.1;unfold tErr at h1;split at h1
     ·rename_i h2; exact absurd h1 h2
     ·rename_i h2;split at h1
      ·omega
      ·rename_i h3;exact ⟨by simpa using h2, by simpa using h3⟩
    have hk := (fault_notary (decMsg_fault _ hde.1) hde.2).1;unfold clockStep;rw [if_neg (by show ¬ (((decMsg t).k : Nat) : Int) = 0; omega)];exact hc
   ·cases h
def NoteOf (w : World) (A : List Dt) (v : Value) (w' : World) : Prop :=
 ∃ (ck : Nat) (ps : List Xp) (vp : Value), v = .agg #[.int .u64 (ck : Int), vp] ∧ DRel A ck ps ∧ RowOf w' 135 7 Xp.cells vp ps ∧ (∀ x, x ∈ ps → RowOf w' 67 4 Pl.cells x.pm.lv x.pm.legs) ∧ (∀ g, vp.ownBlock = some g → w.heap.size ≤ g) ∧ ∀ x, x ∈ ps → ∀ g, x.pm.lv.ownBlock = some g → w.heap.size ≤ g ∧ vp.ownBlock ≠ some g
def RestSaysD (w : World) (R : Option (List Dt)) (e : Ending) (w' : World) : Prop :=
 match R with
 | none => e = .returned (.tuple #[.agg #[.int .u64 0, .slice none 0 0], .int .i64 16])
 | some A => ∃ v, e = .returned (.tuple #[v, .int .i64 0]) ∧ NoteOf w A v w'
theorem NoteOf.of {w u u' : World} {B ck : Nat} {A : List Dt} {ps : List Xp} {vp : Value} (hX : XD u B ck ps vp) (hap : XDap B ps vp) (hr : DRel A ck ps) (hB : w.heap.size < B) (hva : ∀ g, vp.ownBlock = some g → B < g) (hvl : ∀ x, x ∈ ps → ∀ g, x.pm.lv.ownBlock = some g → B < g) (hk : Kept (fun k => k = w.heap.size) u u') : NoteOf w A (.agg #[.int .u64 (ck : Int), vp]) u' :=
 ⟨ck, ps, vp, rfl, hr, hX.row.kept hk (fun g hg e => by have := hva g hg; omega), fun x hx => (hX.legs x hx).kept hk (fun g hg e => by have := hvl x hx g hg; omega), fun g hg => by have := hva g hg; omega, fun x hx g hg => ⟨by have := hvl x hx g hg; omega, (hap.l x hx g hg).2⟩⟩
def RInvD (w : World) (B N : Nat) (R : Option (List Dt)) (c : Value) (u : World) : Prop :=
 ∃ l A ck ps vp, c = .string (bs l) ∧ l.length ≤ N ∧ XD u B ck ps vp ∧ XDap B ps vp ∧ DRel A ck ps ∧ ck ≤ 1000000 ∧ replayD l.length l A = R ∧ u.heap[w.heap.size]? = some (.cells #[.int .u64 0, .slice none 0 0] 84 (0, 0)) ∧ Below w.heap.size w u ∧ (∀ g, vp.ownBlock = some g → B < g) ∧ ∀ x, x ∈ ps → ∀ g, x.pm.lv.ownBlock = some g → B < g
theorem tsizeD_sub {l : List UInt8} (h : at8 (l.take (tsizeD l)) 0 = 83) (h2 : tsizeD l ≤ l.length) : 15 + 9 * at8 (l.take (tsizeD l)) 13 ≤ tsizeD l := by
 have hz : tsizeD l ≠ 0 := fun e => by rw [e] at h; simp [at8] at h
 have h0 : at8 l 0 = 83 := by rw [at8_take (by omega)] at h; exact h
 have hne : l ≠ [] := fun e => by rw [e] at h0; simp [at8] at h0
 have hs : tsizeD l = subSize l := by unfold tsizeD; rw [if_neg hne, h0, if_neg (by omega), if_pos rfl]
 rw [hs] at h2 ⊢
 unfold subSize at h2 ⊢
 split at h2
 ·omega
 ·rename_i h15;rw [if_neg h15, at8_take (by omega)];omega
theorem restoreD_any (s : ByteArray) (hs : s.size ≤ 140737488351232) (w : World) :
  Calls Tryz.prog 70 #[.string s] w fun e w' => RestSaysD w (restD s.data.toList) e w' ∧ Below w.heap.size w w' := by
 have hN := hide (fun u => notNew_any u)
 obtain ⟨R, hR⟩ : ∃ R, R = restD s.data.toList := ⟨_, rfl⟩
 rw [← hR]
 replace hR := hide hR
 have hb0 := (Below.refl w.heap.size w).alloc (Nat.le_refl _) (.cells #[.int .u64 0, .slice none 0 0] 84)
 have hk0 := heap_alloc_self w (.cells #[.int .u64 0, .slice none 0 0] 84)
 have hs0 : (w.alloc (.cells #[.int .u64 0, .slice none 0 0] 84)).heap.size = w.heap.size + 1 := by simp
 go_enter Tryz.func70, Tryz.ntmps70
 go_wp2_with fail
 refine (hN.out _).mono ?_
 rintro e w1 ⟨rfl, hb1⟩
 clear hN
 generalize World.alloc w _ = w0 at *
 have hsz := hb1.size
 have hst : Hid (RInvD w w1.heap.size s.size R (.string s) (w1.alloc (.cells #[.int .u64 0, .slice none 0 0] 84))) := hide (by
  have hb2 := hb1.alloc hb1.size (.cells #[.int .u64 0, .slice none 0 0] 84);refine ⟨s.data.toList, [], 0, [], .slice none 0 0, by rw [bs_of], by rw [list_size]; exact Nat.le_refl _, ⟨ty_of (heap_alloc_self _ _), RowOf.nil _ _, fun x hx => by cases hx⟩, ⟨by simp [Value.ownBlock], fun x hx => by cases hx⟩, DRel.start, by omega, hR.out.symm, ?_, hb0.trans (hb2.mono (by omega)), fun g hg => by simp [Value.ownBlock] at hg, fun x hx => by cases hx⟩;rw [hb2.block _ (by omega)]
  exact hk0)
 clear hb0 hk0 hb1 hR
 go_wp2_with fail
 go_loopw [0] (fun c u => RInvD w w1.heap.size s.size R c u) (fun c _ => strLen c)
 case atStart => exact hst.out
 case round =>
  clear hst;obtain ⟨l, A, ck, ps, vp, rfl, hl, hX, hap, hr, hck, hre, hbx, hbl, hva, hvl⟩ := hrel;have hBl := hX.lt;have hw1 : w.heap.size < w1.heap.size := by omega
  obtain ⟨aa, ca, ea, _⟩ := hX.row.form Xp.cells_length;have hBk := hide (fun u' hk => NoteOf.of (w := w) (u' := u') hX hap hr hw1 hva hvl hk);have hcB : ∀ o, _ = _ := fun o => cell_at hX.blk o;have hc0 : ∀ o, _ = _ := fun o => cell_at hbx o;have hf0 : ∀ o, _ = _ := fun o => frozen_at hbx o;have hl0 := block_lt hbx;have hP := putL_whole [.int .u64 (ck : Int), vp] hbx rfl;have hPk := hide (putL_kept [.int .u64 (ck : Int), vp] wr w.heap.size 0);have hZ := putL_whole [.int .u64 0, .slice none 0 0] hbx rfl;have hZk := hide (putL_kept [.int .u64 0, .slice none 0 0] wr w.heap.size 0);subst ea;by_cases h0 : l = []
  ·subst h0;have hRe : R = some A := hre.symm;have d0 : (bs []).toList.isEmpty = true := by rw [bs_toList]; rfl
   have d1 : ((bs []).toList == []) = true := by rw [bs_toList]; rfl
   clear hZ hZk;go_wp2;have hc3 := fun o => cell_at hP o;have hB := hbl.trans (hPk.out.below hbl.size (fun k e => by omega));have hK := hBk.out _ hPk.out;simp only [putL] at hc3 hB hK;generalize World.setCell _ _ _ = u at *;rw [hRe];exact bodyPost_ret (v := .tuple #[.agg #[.int .u64 (ck : Int), .slice aa ps.length ca], .int .i64 0]) (by simp [results, Tryz.results70, go_sem, hc3]) rfl ⟨⟨_, rfl, hK⟩, hB⟩
  ·have d0 : (bs l).toList.isEmpty = false := by rw [bs_toList]; simpa using h0
   have d1 : ((bs l).toList == []) = false := by rw [bs_toList]; simpa using h0
   have hT := tsizeD_any (bs l) (by rw [bs_size]; unfold maxLen; omega) wr;rw [bs_data] at hT;obtain ⟨m, hm⟩ : ∃ m, l.length = m + 1 := ⟨l.length - 1, by have : l.length ≠ 0 := fun e => h0 (List.length_eq_zero_iff.1 e); omega⟩;rw [hm] at hre;simp only [replayD] at hre;rw [if_neg h0] at hre;have hsz' := bs_size l;replace hT := hide hT;clear hP hPk hZ hZk hBk hcB hc0 hf0;replace hbx := hide hbx;go_wp2_with fail
   refine hT.out.mono ?_;rintro e w9 ⟨rfl, hb9⟩;clear hT;have hX9 := hX.below hb9
   have hbx9 : w9.heap[w.heap.size]? = some (.cells #[.int .u64 0, .slice none 0 0] 84 (0, 0)) := by
    rw [hb9.block _ hl0];exact hbx.out
   have hbl9 : Below w.heap.size w w9 := hbl.trans (hb9.mono hbl.size);have hs9 := hb9.size;have hBl9 := hX9.lt;have hl09 := block_lt hbx9;clear hX hbl hbx hb9;have hBk := hide (fun u' hk => NoteOf.of (w := w) (u' := u') hX9 hap hr hw1 hva hvl hk);have hcB : ∀ o, _ = _ := fun o => cell_at hX9.blk o;have hc0 : ∀ o, _ = _ := fun o => cell_at hbx9 o;have hf0 : ∀ o, _ = _ := fun o => frozen_at hbx9 o;have hP := putL_whole [.int .u64 (ck : Int), .slice aa ps.length ca] hbx9 rfl;have hPk := hide (putL_kept [.int .u64 (ck : Int), .slice aa ps.length ca] w9 w.heap.size 0);have hZ := putL_whole [.int .u64 0, .slice none 0 0] hbx9 rfl;have hZk := hide (putL_kept [.int .u64 0, .slice none 0 0] w9 w.heap.size 0);by_cases h1 : tsizeD l = 0
   ·rw [if_pos h1] at hre;rw [h1];subst hre;clear h1 hP hPk hBk hm;go_wp2;have hc3 := fun o => cell_at hZ o;have hB := hbl9.trans (hZk.out.below hbl9.size (fun k e => by omega));simp only [putL] at hc3 hB;generalize World.setCell _ _ _ = u at *;exact bodyPost_ret (v := .tuple #[.agg #[.int .u64 0, .slice none 0 0], .int .i64 16]) (by simp [results, Tryz.results70, go_sem, hc3]) rfl ⟨rfl, hB⟩
   ·rw [if_neg h1] at hre;have e1 : ((tsizeD l : Int) == 0) = false := by simp; omega
    by_cases h2 : l.length < tsizeD l
    ·rw [if_pos h2] at hre;have e2 : decide ((tsizeD l : Int) > (l.length : Int)) = true := by simp; omega
     have e3 : decide ((l.length : Int) < (tsizeD l : Int)) = true := by simp; omega
     subst hre;generalize tsizeD l = z at *;clear hm hZ hZk;go_wp2;have hc3 := fun o => cell_at hP o;have hB := hbl9.trans (hPk.out.below hbl9.size (fun k e => by omega));have hK := hBk.out _ hPk.out;simp only [putL] at hc3 hB hK;generalize World.setCell _ _ _ = u at *;exact bodyPost_ret (v := .tuple #[.agg #[.int .u64 (ck : Int), .slice aa ps.length ca], .int .i64 0]) (by simp [results, Tryz.results70, go_sem, hc3]) rfl ⟨⟨_, rfl, hK⟩, hB⟩
    ·rw [if_neg h2] at hre;have e2 : decide ((tsizeD l : Int) > (l.length : Int)) = false := by simp; omega
     have e3 : decide ((l.length : Int) < (tsizeD l : Int)) = false := by simp; omega
     have hzs : ((bs l).extract 0 (tsizeD l)).size = tsizeD l := by rw [ByteArray.size_extract, bs_size]; omega
     have hRd := redoD_any ((bs l).extract 0 (tsizeD l)) (by omega) (by rw [cut_of, bs_data, cut_take, hzs]; intro h; exact tsizeD_sub h (by omega)) w9 w1.heap.size ck ps _ A hr hck hX9 hap;rw [cut_of, bs_data, cut_take] at hRd;have hd : (l.drop (tsizeD l)).length = l.length - tsizeD l := List.length_drop;have hx2 : (bs l).extract (tsizeD l) (m + 1) = bs (l.drop (tsizeD l)) := by rw [bs_cut, cut_drop _ _ _ (by omega)]
     have z1 : tsizeD l ≤ l.length := by omega
     replace hre := hide hre;clear hzs;generalize tsizeD l = z at *;generalize l.take z = t at *;replace hRd := hide hRd;clear hP hPk hBk;replace hbx9 := hide hbx9;have hkck := hr.clk;replace hkck := hide hkck;go_wp2_with fail
     refine hRd.out.mono ?_;rintro e w10 ⟨ck', ps', vp', rfl, hX', hE'⟩;clear hRd
     have hbx' : w10.heap[w.heap.size]? = some (.cells #[.int .u64 0, .slice none 0 0] 84 (0, 0)) := by
      rw [hX'.kept.block _ hl09 (fun h => by
       rcases h with h | h
       ·omega
       ·have := hva _ h; omega)]
      exact hbx9.out
     have hbl' : Below w.heap.size w w10 := hbl9.trans (hX'.kept.below hbl9.size (fun k h => by
       rcases h with h | h
       ·omega
       ·have := hva _ h; omega))
     cases hrd : redoD t A with
     | none =>
      rw [hrd] at hre;have hR := hre.out;subst hR;have hc0' : ∀ o, _ = _ := fun o => cell_at hbx' o;have hf0' : ∀ o, _ = _ := fun o => frozen_at hbx' o;have hl0' := block_lt hbx';have hZ' := putL_whole [.int .u64 0, .slice none 0 0] hbx' rfl;have hZk' := hide (putL_kept [.int .u64 0, .slice none 0 0] w10 w.heap.size 0);clear hc0 hf0 hcB hZ hZk hre hX' hE';go_wp2;have hc3 := fun o => cell_at hZ' o;have hB := hbl'.trans (hZk'.out.below hbl'.size (fun k e => by omega));simp only [putL] at hc3 hB;generalize World.setCell _ _ _ = u at *;exact bodyPost_ret (v := .tuple #[.agg #[.int .u64 0, .slice none 0 0], .int .i64 16]) (by simp [results, Tryz.results70, go_sem, hc3]) rfl ⟨rfl, hB⟩
     | some A2 =>
      rw [hrd] at hre
      have hI : Hid (RInvD w w1.heap.size s.size R (.string (bs (l.drop z))) w10) := hide (by
       have hD2 := hE' _ hrd;refine ⟨l.drop z, A2, ck', ps', vp', rfl, by omega, hX'.xd, hX'.ap, hD2, ?_, ?_, hbx', hbl', fun g hg => ?_, fun x hx g hg => ?_⟩
       ·rw [hD2.clk];exact redo_clock hrd (by rw [← hkck.out]; exact hck)
       ·rw [← hre.out];exact (replayD_more m (l.drop z) A2 (by omega)).symm
       ·rcases hX'.ownv g hg with h | h
        ·exact hva g h
        ·omega
       ·rcases hX'.ownl x hx g hg with ⟨y, hy, h⟩ | h
        ·exact hvl y hy g h
        ·omega)
      clear hc0 hf0 hcB hZ hZk hre hX' hE' hva hvl hap hr hbx' hbl' hbx9;go_wp2;exact ⟨hI.out, by simp [strLen, bs_size]; omega⟩
def BackD (w : World) (A : List Dt) (e : Ending) (w' : World) : Prop :=
 ∃ B ck ps vp, e = .returned (.tuple #[.pointer (some ⟨B, 0, none⟩), .int .i64 0]) ∧ XD w' B ck ps vp ∧ XDap B ps vp ∧ DRel A ck ps ∧ ∀ i, xdfoot B ps vp i → w.heap.size ≤ i
def BackDs (w : World) (R : Option (List Dt)) (e : Ending) (w' : World) : Prop :=
 match R with
 | none => e = .returned (.tuple #[.pointer none, .int .i64 16])
 | some A => BackD w A e w'
theorem eRestD_any (s : ByteArray) (hs : s.size ≤ 140737488351232) (w : World) :
  Calls Tryz.prog 44 #[.string s] w fun e w' => BackDs w (restD s.data.toList) e w' ∧ Below w.heap.size w w' := by
 have hR := hide (fun u => restoreD_any s hs u)
 generalize restD s.data.toList = R at *
 cases R with
 | none =>
  go_enter Tryz.func44, Tryz.ntmps44;go_wp2_with fail
  refine (hR.out _).mono ?_;rintro e w1 ⟨rfl, hb⟩;clear hR;go_wp2;go_ret2;exact ⟨rfl, hb.alloc hb.size _⟩
 | some A =>
  go_enter Tryz.func44, Tryz.ntmps44;go_wp2_with fail
  refine (hR.out _).mono ?_;rintro e w1 ⟨⟨v, rfl, ck, ps, vp, rfl, hr, ha, hl, hva, hvl⟩, hb⟩;clear hR;obtain ⟨aa, ca, ea, _⟩ := ha.form Xp.cells_length
  have hK : Hid (∀ u : World, u = (w1.alloc (.cells #[.int .u64 (ck : Int), vp] 84)).alloc (.cells #[.int .u64 (ck : Int), vp] 86) → BackD w A (.returned (.tuple #[.pointer (some ⟨w1.heap.size + 1, 0, none⟩), .int .i64 0])) u ∧ Below w.heap.size w u) := hide (by
   rintro u rfl;have hs1 := hb.size;have h1 : (w1.alloc (.cells #[.int .u64 (ck : Int), vp] 84)).heap.size = w1.heap.size + 1 := by simp
   have hb2 : Below w1.heap.size w1 ((w1.alloc (.cells #[.int .u64 (ck : Int), vp] 84)).alloc (.cells #[.int .u64 (ck : Int), vp] 86)) := ((Below.refl _ _).alloc (Nat.le_refl _) _).alloc (by omega) _;refine ⟨⟨w1.heap.size + 1, ck, ps, vp, rfl, ⟨?_, ha.below hb2, fun x hx => (hl x hx).below hb2⟩, ⟨fun e => ?_, fun x hx g hg => ⟨fun e => ?_, (hvl x hx g hg).2⟩⟩, hr, fun i hi => ?_⟩, hb.trans (hb2.mono hs1)⟩
   ·refine ty_of (T := 86) ?_;rw [← h1];exact heap_alloc_self _ _
   ·have := ha.lt e; omega
   ·have := (hl x hx).lt hg; omega
   ·rcases hi with rfl | hi | ⟨x, hx, hi⟩
    ·omega
    ·exact hva i hi
    ·exact (hvl x hx i hi).1)
  subst ea;clear ha hl hva hvl hb hr;go_wp2;go_ret2;exact hK.out _ rfl
theorem deed_restore (w0 : DBase) (N : Nat) (hN : N ≤ 999999999999) (w : World) (Wb : Nat) (own : Nat → Nat) (hs : List Office) (ll : List (Value × Nat)) (vd vl : Value) (i : Nat) (hi : i < hs.length) (hb xb rb ck : Nat) (acts : List Dt) (ps : List Xp) (xv v : Value) (lgs : List (List UInt8 × Nat)) (vg : Value)
  (I : DInv w0 w Wb own (hs.set i ⟨hb, xb, rb, ck, acts, ps, xv, v, lgs, vg⟩) ll vd vl) (hok : ∀ h, h ∈ hs → h.ok N) (hR : DRel acts ck ps) (hlg : LgD acts lgs) (hlen : acts.length ≤ N)
  (at_ n : Int) (hn : i64ok n) (s : List UInt8) (k f t mi l p g a : Nat) (m : List UInt8) (pid dead : Int) (memo : List UInt8) (legs : Option Addr) (llen lcap acc amt : Nat) :
  Calls Tryz.prog 52 #[.pointer (some ⟨Wb, 0, none⟩), .pointer (some ⟨hb, 0, none⟩), (⟨14, at_, n, s, ⟨k, f, t, mi, l, p, g, a, m⟩, pid, dead, memo, legs, llen, lcap, acc, amt⟩ : Opr).v] w (DeedSays w0 N Wb hs ll vd i hb) := by
 have H := DInv.at hi I
 have hc : ∀ o, w.cell? ⟨hb, o, none⟩ = (#[.pointer (some ⟨xb, 0, none⟩), .pointer (some ⟨rb, 0, none⟩), vg] : Array Value)[o]? := fun o => cell_at H.blk o
 have hl1 : hb < w.heap.size := block_lt H.blk
 have hl2 : rb < w.heap.size := H.r.lt
 obtain ⟨rad, rcap, hv, _⟩ := H.r.row.form Dt.cells_length
 have hcr : ∀ o, w.cell? ⟨rb, o, none⟩ = (#[.slice rad acts.length rcap] : Array Value)[o]? := fun o => by rw [← (show v = _ from hv)]; exact cell_at H.r.blk o
 obtain ⟨W1, hW1⟩ : ∃ W1, W1 = (w.alloc (.cells (⟨14, at_, n, s, ⟨k, f, t, mi, l, p, g, a, m⟩, pid, dead, memo, legs, llen, lcap, acc, amt⟩ : Opr).cells 104)).drew := ⟨_, rfl⟩
 have hbW : Below w.heap.size w W1 := by rw [hW1]; exact ((Below.refl w.heap.size w).alloc (Nat.le_refl _) _).drew
 have hlW : w.heap.size < W1.heap.size := by rw [hW1]; simp
 have I1 := I.below hbW
 have H1 := DInv.at hi I1
 have e0 : W1.cell? ⟨hb, 2, none⟩ = some vg := cell_at H1.blk 2
 have e1 : W1.cell? ⟨w.heap.size, 2, none⟩ = some (.int .i64 n) := by rw [hW1]; simp [Opr.cells]
 have hlb : hb < W1.heap.size := by omega
 have hlen2 : (flatLg lgs).length ≤ 140737488351232 := by
  have h1 := DHist.len acts hlg.hist;rw [hlg.eq, flat_dlogOf];omega
 have hll : lgs.length ≤ 1000000000000 := by
  have h1 := dlogOf_le acts;rw [hlg.eq];omega
 have hX := hide (part_any W1 lgs vg H1.grow hlen2 hll acts.length n hn)
 have hBP := hide (note_part hlg.hist n)
 rw [← hlg.eq] at hBP
 have hpl := partOf_len lgs acts.length n
 generalize partOf lgs acts.length n = PT at *
 obtain ⟨pt, pn, pl⟩ := PT
 simp only at hBP hpl
 replace I1 := hide I1
 replace hok := hide hok
 have I0 := hide I
 clear H H1 hv I
 simp only [Opr.v, Opr.cells] at *
 replace hW1 := hide hW1
 go_enter Tryz.func52, Tryz.ntmps52
 go_wp2_with fail
 go_region_held3 (fun u => u.cell? ⟨hb, 2, none⟩ = some vg ∧ u.cell? ⟨w.heap.size, 2, none⟩ = some (.int .i64 n))
  (first
   | (rw [← hW1.out]; exact ⟨e0, e1⟩)
   | (with_reducible exact ⟨(hb2.cell (p := ⟨hb, 2, none⟩) hlb).trans e0, (hb2.cell (p := ⟨w.heap.size, 2, none⟩) hlW).trans e1⟩))
  (first
   | (go_at_call 88; rw [← hW1.out]; refine hX.out.mono ?_; rintro e w2 ⟨ra, rc, rfl, hr2, hb2, hfr2⟩))
 have hb12 : Below w.heap.size w w2 := hbW.trans (hb2.mono hbW.size)
 have I2 := hide (I1.out.below hb2)
 obtain ⟨hpn, hpl2, ⟨A', hrest, halike⟩, hhist⟩ := hBP.out
 have hRs2 := eRestD_any (bs pt) (by rw [bs_size]; omega) w2
 rw [bs_data, hrest] at hRs2
 replace hRs2 := hide hRs2
 replace halike := hide halike
 replace hhist := hide hhist
 replace hpl2 := hide hpl2
 have hr2d := hide hr2
 have hfr2' := hide (hfr2.imp_right (fun h g hg => Nat.le_trans hbW.size (h g hg)))
 clear hX hc hcr e0 e1 I1 hBP hrest hr2 hfr2 hbW hb2
 go_wp2_with fail
 refine hRs2.out.mono ?_
 rintro e w3 ⟨⟨B, ck', ps', xv', rfl, hX3, hAp, hRel, hfr3⟩, hb3⟩
 have I3 := I2.out.below hb3
 have H3 := DInv.at hi I3
 have hk3 : w3.heap[hb]? = some (.cells #[.pointer (some ⟨xb, 0, none⟩), .pointer (some ⟨rb, 0, none⟩), vg] 158 (0, 0)) := H3.blk
 have hc3 : ∀ o, w3.cell? ⟨hb, o, none⟩ = (#[.pointer (some ⟨xb, 0, none⟩), .pointer (some ⟨rb, 0, none⟩), vg] : Array Value)[o]? := fun o => cell_at hk3 o
 have hf3 : ∀ o, w3.frozen? ⟨hb, o, none⟩ = false := fun o => frozen_at hk3 o
 have hlb3 : hb < w3.heap.size := block_lt hk3
 have hnr : ∀ k, rdfoot rb acts v k → k ≠ hb := fun k hk e => by have h1 := H3.rown k hk; have h2 : own hb = _ := H3.hown; rw [e] at h1; omega
 have hR4 : RD (w3.setCell ⟨hb, 0, none⟩ (.pointer (some ⟨B, 0, none⟩))) rb acts v := H3.r.kept (Kept.of_setCell w3 ⟨hb, 0, none⟩ _) (fun k hk e => hnr k hk e)
 have hBk := hide (refDBack_any _ rb acts v hR4 pn hpn (by omega))
 have hk4 := heap_set_self hk3 0 (.pointer (some ⟨B, 0, none⟩))
 have hX3' := hide (And.intro hX3 (And.intro hAp (And.intro hRel hfr3)))
 replace hb3 := hide hb3
 replace hb12 := hide hb12
 clear hRs2 H3 I3 hR4 hX3 hAp hRel hfr3 I2
 go_wp2_with fail
 refine hBk.out.mono ?_
 rintro e w5 ⟨R, v', rfl, hRB5, hap5, hR1, hR2, hb5⟩
 have hs4 : (w3.setCell ⟨hb, 0, none⟩ (.pointer (some ⟨B, 0, none⟩))).heap.size = w3.heap.size := by simp [World.setCell]
 have hk5 : w5.heap[hb]? = some (.cells #[.pointer (some ⟨B, 0, none⟩), .pointer (some ⟨rb, 0, none⟩), vg] 158 (0, 0)) := by
  rw [hb5.block _ (by rw [hs4]; exact hlb3)];exact hk4
 have hc5 : ∀ o, w5.cell? ⟨hb, o, none⟩ = (#[.pointer (some ⟨B, 0, none⟩), .pointer (some ⟨rb, 0, none⟩), vg] : Array Value)[o]? := fun o => cell_at hk5 o
 have hf5 : ∀ o, w5.frozen? ⟨hb, o, none⟩ = false := fun o => frozen_at hk5 o
 have hlb5 : hb < w5.heap.size := block_lt hk5
 have hWay : WayOf hb w w2 w3 (w3.setCell ⟨hb, 0, none⟩ (.pointer (some ⟨B, 0, none⟩))) w5 ((w5.setCell ⟨hb, 1, none⟩ (.pointer (some ⟨R, 0, none⟩))).setCell ⟨hb, 2, none⟩ (.slice ra pl.length rc)) := ⟨hb12.out, hb3.out, Kept.of_setCell w3 ⟨hb, 0, none⟩ _, hb5, kept_two _ hb _ _⟩
 obtain ⟨own', J⟩ := I0.out.restored hi hWay (heap_set_self (heap_set_self hk5 1 _) 2 _) hr2d.out hfr2'.out hX3'.out.1 hX3'.out.2.1 hX3'.out.2.2.2 (fun x hx => List.mem_of_mem_take hx) hRB5 hap5 hR1 hR2
 have fin : Hid (DeedSays w0 N Wb hs ll vd i hb (.returned (.bool true)) ((w5.setCell ⟨hb, 1, none⟩ (.pointer (some ⟨R, 0, none⟩))).setCell ⟨hb, 2, none⟩ (.slice ra pl.length rc))) := hide ⟨rfl, dgoes_of J hok.out ⟨halike.out.to hX3'.out.2.2.1, ⟨hpl2.out, hhist.out⟩, by simp only [List.length_take]; omega⟩ (Nat.le_add_right _ _)⟩
 clear J hWay hRB5 hap5 hR1 hR2 hb5 hBk hc3 hf3 hk3 hk4 hk5 hs4 hX3' hr2d hfr2' hb12 hb3 I0
 go_wp2_with fail
 refine (num_any _ _).mono ?_
 rintro e w6 ⟨rfl, rfl⟩
 go_wp2
 go_ret
 exact fin.out
structure Script (W : World) (sv : Value) (ops : List Opr) : Prop where
 form : ∃ ad cap, sv = .slice ad ops.length cap ∧ ∀ k (hk : k < ops.length), ∃ a, ad = some a ∧ a.block < W.heap.size ∧ ∀ j v, ops[k].cells.toList[j]? = some v → W.cell? ((a.add (k * 19)).add j) = some v
 ok : ∀ o, o ∈ ops → o.ok
 len : ops.length ≤ 977343669106
theorem add_block (a : Addr) (n : Nat) : (a.add n).block = a.block := by unfold Addr.add; split <;> rfl
theorem wpList_load_at {P : Program} {ops : Array Oper} {rest : List Oper} {op : Oper} {a : Act} {w : World} {Q : Exit → Act → World → Prop} (hgd : op.guard = none) (ty : TypeId) (x : Operand) (ho : op.op = .load ty x)
  (ad : Addr) (hx : a.eval x = .pointer (some ad)) (cs : List Value) (fs : Array Field) (hc : ∀ j v, cs[j]? = some v → w.cell? (ad.add j) = some v) (hu : P.underlying ty = some (.struct fs)) (hi : (P.info? ty).map (·.size) = some cs.length)
  (h : wpList P ops Q rest (a.put op.dst (.agg cs.toArray)) w) : wpList P ops Q (op :: rest) a w := by
 have hl : (loadCells ad cs.length).run P w = .ok cs.toArray w := run_loadCells_list (P := P) w ad cs hc
 have hv : (loadVar ty ad).run P w = .ok (.agg cs.toArray) w := by
  cases hq : P.info? ty with
  | none => simp [hq] at hi
  | some i =>
   have hs : i.size = cs.length := by simpa [hq] using hi
   have hagg : (isAgg ty).run P w = .ok true w := by
    unfold isAgg;rw [Sem.run_bind, run_underlying hu w];simp
   simp [loadVar, Sem.run_bind, hagg, sizeOf, typeInfo, hq, hs, hl]
 refine wpList_plain hgd fun K hK => ?_
 unfold Oper.wp execOp
 simp only [ho, hx, Instr.loadAt, Instr.sureAddr, Sem.run_bind, Sem.run_pure, Result.andThen_ok, hv]
 exact hK _ _ h
theorem stopLoadP {P : Program} {ops : Array Oper} {rest : List Oper} {a : Act} {w : World} {Q : Exit → Act → World → Prop} {d : Option Tmp} {ty : TypeId} {p : String} {af : Array Edge} {gd : Option (Nat × Bool)} {x : Operand} (T : TypeId) (h : Hid (wpList P ops Q ({ dst := d, op := Op.load T x, type := ty, pos := p, after := af, guard := gd } :: rest) a w)) : wpList P ops Q ({ dst := d, op := Op.load T x, type := ty, pos := p, after := af, guard := gd } :: rest) a w := h
theorem stopStoreP {P : Program} {ops : Array Oper} {rest : List Oper} {a : Act} {w : World} {Q : Exit → Act → World → Prop} {d : Option Tmp} {ty : TypeId} {p : String} {af : Array Edge} {gd : Option (Nat × Bool)} {x y : Operand} (T : TypeId) (h : Hid (wpList P ops Q ({ dst := d, op := Op.store T x y, type := ty, pos := p, after := af, guard := gd } :: rest) a w)) : wpList P ops Q ({ dst := d, op := Op.store T x y, type := ty, pos := p, after := af, guard := gd } :: rest) a w := h
theorem setCells_putL (b : Nat) : ∀ (vs : List Value) (o : Nat) (w : World), w.setCells b o vs = putL w b o vs
 | [], _, _ => rfl
 | v :: r, o, w => setCells_putL b r (o + 1) (w.setCell ⟨b, o, none⟩ v)
theorem there_new (w : World) (Z : Array Value) (T : TypeId) (n : Nat) (h : n ≤ Z.size) : (w.alloc (.cells Z T)).there w.heap.size 0 n := by
 intro j hj
 rw [Nat.zero_add, World.cell?_alloc_new]
 exact ⟨by rw [Array.getElem?_eq_getElem (by omega)]; rfl, by simp⟩
theorem op_one (o : Opr) : o.cells.all (·.oneCell') = true := by
 refine Array.all_eq_true_iff_forall_mem.2 (fun v hv => ?_)
 simp only [Opr.cells, List.mem_toArray, List.mem_cons, List.not_mem_nil, or_false] at hv
 rcases hv with h | h | h | h | h | h | h | h | h | h | h | h | h | h | h | h | h | h | h <;> subst h <;> rfl
theorem boxed {w U : World} {Z : Array Value} {T : TypeId} {cs : List Value} (hU : (w.alloc (.cells Z T)).setCells w.heap.size 0 cs = U) (hz : Z.size = cs.length) : U.heap[w.heap.size]? = some (.cells cs.toArray T (0, 0)) ∧ Below w.heap.size w U := by
 subst hU
 rw [setCells_putL]
 refine ⟨putL_whole cs (heap_alloc_self _ _) hz, ((Below.refl _ _).alloc (Nat.le_refl _) _).trans ((putL_kept cs _ _ _).below (by simp) (fun k e => by omega))⟩
end Go.Proofs.YtjkhbjgfoopomabGreat
namespace Go.Proofs.YtjkhbjgfoopomabGreat
open Go.ChangeShapes Go.WideShapes Go.ChangeAt Go.RowKit
set_option linter.unusedVariables false
set_option linter.unusedSimpArgs false
theorem cellsMsg : Tryz.prog.cellsOf 102 = 9 := by kernel_rfl
theorem cellsKind : Tryz.prog.cellsOf 100 = 1 := by kernel_rfl
theorem cellsNode : Tryz.prog.cellsOf 61 = 1 := by kernel_rfl
theorem cellsID : Tryz.prog.cellsOf 46 = 1 := by kernel_rfl
theorem cellsU8 : Tryz.prog.cellsOf 5 = 1 := by kernel_rfl
theorem cellsAccount : Tryz.prog.cellsOf 54 = 1 := by kernel_rfl
theorem cellsAmount : Tryz.prog.cellsOf 47 = 1 := by kernel_rfl
theorem cellsString : Tryz.prog.cellsOf 9 = 1 := by kernel_rfl
theorem cellsInt : Tryz.prog.cellsOf 3 = 1 := by kernel_rfl
theorem cellsU64 : Tryz.prog.cellsOf 33 = 1 := by kernel_rfl
theorem cellsLegs : Tryz.prog.cellsOf 29 = 1 := by kernel_rfl
theorem cellsPay : Tryz.prog.cellsOf 69 = 4 := by kernel_rfl
theorem cellsOp : Tryz.prog.cellsOf 104 = 19 := by kernel_rfl
theorem bytesOp : Tryz.prog.bytesOf 104 = 144 := by kernel_rfl
theorem u8_of {x : Int} (h : (Lit.int .u8 x).wf = true) : ∃ n : Nat, x = n ∧ n < 256 := by
 simp [Lit.wf, IntKind.min, IntKind.max, IntKind.signed, IntKind.bits] at h
 exact ⟨x.toNat, by omega, by omega⟩
theorem u16_of {x : Int} (h : (Lit.int .u16 x).wf = true) : ∃ n : Nat, x = n ∧ n < 65536 := by
 simp [Lit.wf, IntKind.min, IntKind.max, IntKind.signed, IntKind.bits] at h
 exact ⟨x.toNat, by omega, by omega⟩
theorem u32_of {x : Int} (h : (Lit.int .u32 x).wf = true) : ∃ n : Nat, x = n ∧ n < 4294967296 := by
 simp [Lit.wf, IntKind.min, IntKind.max, IntKind.signed, IntKind.bits] at h
 exact ⟨x.toNat, by omega, by omega⟩
theorem i64_of {x : Int} (h : (Lit.int .i64 x).wf = true) : i64ok x := by
 simp [Lit.wf, IntKind.min, IntKind.max, IntKind.signed, IntKind.bits] at h
 exact ⟨by omega, by omega⟩
def Msg.d {H : Type} (x : Msg) : DataW H := .agg [.lit (.int .u8 (x.k : Int)), .lit (.int .u8 (x.f : Int)), .lit (.int .u8 (x.t : Int)), .lit (.int .u32 (x.i : Int)), .lit (.int .u8 (x.l : Int)), .lit (.int .u16 (x.p : Int)), .lit (.int .u16 (x.g : Int)), .lit (.int .u32 (x.a : Int)), .lit (.string x.m)]
section
variable {H : Type} {enc : TypeId × Value → H} {w : World} {base : Nat} {spare : Nat → Bool} {held : Bool}
theorem open_msgL {n : Nat} {c0 c1 c2 c3 c4 c5 c6 c7 c8 : Value} {x : DataW H × List MemPlace} (h : DataW.trod enc Tryz.prog w base spare held n 102 [c0, c1, c2, c3, c4, c5, c6, c7, c8] = some x) :
  ∃ m : Msg, [c0, c1, c2, c3, c4, c5, c6, c7, c8] = m.cells.toList ∧ x.1 = m.d ∧ m.ok := by
 obtain ⟨xs, n', _, hx, _, hlen, hg⟩ := DataW.trod_struct Tryz.underlying102 h
 have g0 := hg 0 _ rfl
 have g1 := hg 1 _ rfl
 have g2 := hg 2 _ rfl
 have g3 := hg 3 _ rfl
 have g4 := hg 4 _ rfl
 have g5 := hg 5 _ rfl
 have g6 := hg 6 _ rfl
 have g7 := hg 7 _ rfl
 have g8 := hg 8 _ rfl
 clear hg
 have hlen' : xs.length = 9 := hlen
 match xs, hlen' with
 | [y0, y1, y2, y3, y4, y5, y6, y7, y8], _ =>
  simp [cellsKind, cellsNode, cellsID, cellsU8, cellsAccount, cellsAmount, cellsString] at g0 g1 g2 g3 g4 g5 g6 g7 g8;obtain ⟨n0, e0, rfl, w0⟩ := DataW.trod_int Tryz.underlying100 g0;obtain ⟨n1, e1, rfl, w1⟩ := DataW.trod_int Tryz.underlying61 g1;obtain ⟨n2, e2, rfl, w2⟩ := DataW.trod_int Tryz.underlying61 g2;obtain ⟨n3, e3, rfl, w3⟩ := DataW.trod_int Tryz.underlying46 g3;obtain ⟨n4, e4, rfl, w4⟩ := DataW.trod_int Tryz.underlying5 g4;obtain ⟨n5, e5, rfl, w5⟩ := DataW.trod_int Tryz.underlying54 g5;obtain ⟨n6, e6, rfl, w6⟩ := DataW.trod_int Tryz.underlying54 g6;obtain ⟨n7, e7, rfl, w7⟩ := DataW.trod_int Tryz.underlying47 g7;obtain ⟨s, e8, rfl, w8⟩ := DataW.trod_string Tryz.underlying9 g8;simp only [List.cons.injEq, and_true] at e0 e1 e2 e3 e4 e5 e6 e7 e8;subst e0 e1 e2 e3 e4 e5 e6 e7 e8;obtain ⟨k, rfl, hk⟩ := u8_of w0;obtain ⟨f, rfl, hf⟩ := u8_of w1;obtain ⟨t, rfl, ht⟩ := u8_of w2;obtain ⟨i, rfl, hi⟩ := u32_of w3;obtain ⟨l, rfl, hl⟩ := u8_of w4;obtain ⟨p, rfl, hp⟩ := u16_of w5;obtain ⟨g, rfl, hg⟩ := u16_of w6;obtain ⟨a, rfl, ha⟩ := u32_of w7;refine ⟨⟨k, f, t, i, l, p, g, a, s.data.toList⟩, ?_, ?_, ⟨hk, hf, ht, hi, hl, hp, hg, ha⟩⟩
  ·simp only [Msg.cells, bs_of]
  ·rw [hx]; rfl
end
theorem weights_all {H : Type} {P : Program} {e : TypeId} : ∀ (l : List (DataW H)) (d : DataW H), d ∈ l → ∀ n ∈ d.weights P e, n ∈ DataW.weightsAll P e l
 | [], d, h => by simp at h
 | x :: r, d, h => fun n hn => by
  simp only [DataW.weightsAll, List.mem_append];rcases List.mem_cons.1 h with h | h
  ·subst h; exact .inl hn
  ·exact .inr (weights_all r d h n hn)
theorem row_first (a : Addr) (n : Nat) (h : 0 < n) : MemPlace.cell a.block a.off ∈ MemPlace.row a n := List.mem_map.2 ⟨0, List.mem_range.2 h, by simp⟩
end Go.Proofs.YtjkhbjgfoopomabGreat
