import Derived.Test.YtjkhbjgfoopomaaA44
import Derived.Test.YtjkhbjgfoopomaaA36
/-
  The program's notary, restored: Restore, RestoreDeed.
-/
namespace Go.Proofs.Ytjkhbjgfoopomaa
open Go.RowKit
set_option linter.unusedVariables false
set_option linter.unusedSimpArgs false
theorem redo_clock {t : List UInt8} {A A' : List Dt} (h : redoD t A = some A') (hc : clockOf A ≤ 1000000) : clockOf A' ≤ 1000000 := by
  unfold redoD at h
  split at h
  · split at h
    · injection h with h
      rw [← h, clockOf_snoc]
      unfold clockStep
      split <;> omega
    · cases h
  · split at h
    · split at h
      · injection h with h
        rw [← h]
        unfold subActs
        split
        · rw [clockOf_snoc]
          exact hc
        · exact hc
      · cases h
    · split at h
      · rename_i h0
        injection h with h
        rw [← h]
        unfold tActs
        rw [if_pos h0.1, clockOf_snoc]
        have hde : decErr t = 0 ∧ (decMsg t).t = 0 := by
          have h1 := h0.1
          unfold tErr at h1
          split at h1
          · rename_i h2; exact absurd h1 h2
          · rename_i h2
            split at h1
            · omega
            · rename_i h3
              exact ⟨by simpa using h2, by simpa using h3⟩
        have hk := (fault_notary (decMsg_fault _ hde.1) hde.2).1
        unfold clockStep
        rw [if_neg (by show ¬ (((decMsg t).k : Nat) : Int) = 0; omega)]
        exact hc
      · cases h
/-- the parts of a notary that was restored -/
def NoteOf (w : World) (A : List Dt) (v : Value) (w' : World) : Prop :=
  ∃ (ck : Nat) (ps : List Xp) (vp : Value), v = .agg #[.int .u64 (ck : Int), vp] ∧ DRel A ck ps ∧ RowOf w' 139 7 Xp.cells vp ps ∧ (∀ x, x ∈ ps → RowOf w' 57 4 Pl.cells x.pm.lv x.pm.legs) ∧ (∀ g, vp.ownBlock = some g → w.heap.size ≤ g) ∧ ∀ x, x ∈ ps → ∀ g, x.pm.lv.ownBlock = some g → w.heap.size ≤ g ∧ vp.ownBlock ≠ some g
def RestSaysD (w : World) (R : Option (List Dt)) (e : Ending) (w' : World) : Prop :=
  match R with
  | none => e = .returned (.tuple #[.agg #[.int .u64 0, .slice none 0 0], .int .i64 16])
  | some A => ∃ v, e = .returned (.tuple #[v, .int .i64 0]) ∧ NoteOf w A v w'
theorem NoteOf.of {w u u' : World} {B ck : Nat} {A : List Dt} {ps : List Xp} {vp : Value} (hX : XD u B ck ps vp) (hap : XDap B ps vp) (hr : DRel A ck ps) (hB : w.heap.size < B) (hva : ∀ g, vp.ownBlock = some g → B < g) (hvl : ∀ x, x ∈ ps → ∀ g, x.pm.lv.ownBlock = some g → B < g) (hk : Kept (fun k => k = w.heap.size) u u') : NoteOf w A (.agg #[.int .u64 (ck : Int), vp]) u' :=
  ⟨ck, ps, vp, rfl, hr, hX.row.kept hk (fun g hg e => by have := hva g hg; omega), fun x hx => (hX.legs x hx).kept hk (fun g hg e => by have := hvl x hx g hg; omega), fun g hg => by have := hva g hg; omega, fun x hx g hg => ⟨by have := hvl x hx g hg; omega, (hap.l x hx g hg).2⟩⟩
/-- the loop of Restore -/
def RInvD (w : World) (B N : Nat) (R : Option (List Dt)) (c : Value) (u : World) : Prop :=
  ∃ l A ck ps vp, c = .string (bs l) ∧ l.length ≤ N ∧ XD u B ck ps vp ∧ XDap B ps vp ∧ DRel A ck ps ∧ ck ≤ 1000000 ∧ replayD l.length l A = R ∧ u.heap[w.heap.size]? = some (.cells #[.int .u64 0, .slice none 0 0] 111 (0, 0)) ∧ Below w.heap.size w u ∧ (∀ g, vp.ownBlock = some g → B < g) ∧ ∀ x, x ∈ ps → ∀ g, x.pm.lv.ownBlock = some g → B < g
theorem tsizeD_sub {l : List UInt8} (h : at8 (l.take (tsizeD l)) 0 = 83) (h2 : tsizeD l ≤ l.length) : 15 + 9 * at8 (l.take (tsizeD l)) 13 ≤ tsizeD l := by
  have hz : tsizeD l ≠ 0 := fun e => by rw [e] at h; simp [at8] at h
  have h0 : at8 l 0 = 83 := by rw [at8_take (by omega)] at h; exact h
  have hne : l ≠ [] := fun e => by rw [e] at h0; simp [at8] at h0
  have hs : tsizeD l = subSize l := by unfold tsizeD; rw [if_neg hne, h0, if_neg (by omega), if_pos rfl]
  rw [hs] at h2 ⊢
  unfold subSize at h2 ⊢
  split at h2
  · omega
  · rename_i h15
    rw [if_neg h15, at8_take (by omega)]
    omega
set_option maxRecDepth 100000 in
set_option maxHeartbeats 1000000 in
theorem restoreD_any (s : ByteArray) (hs : s.size ≤ 140737488351232) (w : World) :
    Calls Try.prog 61 #[.string s] w fun e w' => RestSaysD w (restD s.data.toList) e w' ∧ Below w.heap.size w w' := by
  have hN := hide (fun u => notNew_any u)
  obtain ⟨R, hR⟩ : ∃ R, R = restD s.data.toList := ⟨_, rfl⟩
  rw [← hR]
  replace hR := hide hR
  have hb0 := (Below.refl w.heap.size w).alloc (Nat.le_refl _) (.cells #[.int .u64 0, .slice none 0 0] 111)
  have hk0 := heap_alloc_self w (.cells #[.int .u64 0, .slice none 0 0] 111)
  have hs0 : (w.alloc (.cells #[.int .u64 0, .slice none 0 0] 111)).heap.size = w.heap.size + 1 := by simp
  go_enter Try.func61, Try.ntmps61
  go_wp2_with fail
  refine (hN.out _).mono ?_
  rintro e w1 ⟨rfl, hb1⟩
  clear hN
  generalize World.alloc w _ = w0 at *
  have hsz := hb1.size
  have hst : Hid (RInvD w w1.heap.size s.size R (.string s) (w1.alloc (.cells #[.int .u64 0, .slice none 0 0] 111))) := hide (by
    have hb2 := hb1.alloc hb1.size (.cells #[.int .u64 0, .slice none 0 0] 111)
    refine ⟨s.data.toList, [], 0, [], .slice none 0 0, by rw [bs_of], by rw [list_size]; exact Nat.le_refl _, ⟨ty_of (heap_alloc_self _ _), RowOf.nil _ _, fun x hx => by cases hx⟩, ⟨by simp [Value.ownBlock], fun x hx => by cases hx⟩, DRel.start, by omega, hR.out.symm, ?_, hb0.trans (hb2.mono (by omega)), fun g hg => by simp [Value.ownBlock] at hg, fun x hx => by cases hx⟩
    rw [hb2.block _ (by omega)]
    exact hk0)
  clear hb0 hk0 hb1 hR
  go_wp2_with fail
  go_loopw [0] (fun c u => RInvD w w1.heap.size s.size R c u) (fun c _ => strLen c)
  case atStart => exact hst.out
  case round =>
    clear hst
    obtain ⟨l, A, ck, ps, vp, rfl, hl, hX, hap, hr, hck, hre, hbx, hbl, hva, hvl⟩ := hrel
    have hBl := hX.lt
    have hw1 : w.heap.size < w1.heap.size := by omega
    obtain ⟨aa, ca, ea, _⟩ := hX.row.form Xp.cells_length
    have hBk := hide (fun u' hk => NoteOf.of (w := w) (u' := u') hX hap hr hw1 hva hvl hk)
    have hcB : ∀ o, _ = _ := fun o => cell_at hX.blk o
    have hc0 : ∀ o, _ = _ := fun o => cell_at hbx o
    have hf0 : ∀ o, _ = _ := fun o => frozen_at hbx o
    have hl0 := block_lt hbx
    have hP := putL_whole [.int .u64 (ck : Int), vp] hbx rfl
    have hPk := hide (putL_kept [.int .u64 (ck : Int), vp] wr w.heap.size 0)
    have hZ := putL_whole [.int .u64 0, .slice none 0 0] hbx rfl
    have hZk := hide (putL_kept [.int .u64 0, .slice none 0 0] wr w.heap.size 0)
    subst ea
    by_cases h0 : l = []
    · subst h0
      have hRe : R = some A := hre.symm
      have d0 : (bs []).toList.isEmpty = true := by rw [bs_toList]; rfl
      have d1 : ((bs []).toList == []) = true := by rw [bs_toList]; rfl
      clear hZ hZk
      go_wp2
      have hc3 := fun o => cell_at hP o
      have hB := hbl.trans (hPk.out.below hbl.size (fun k e => by omega))
      have hK := hBk.out _ hPk.out
      simp only [putL] at hc3 hB hK
      generalize World.setCell _ _ _ = u at *
      rw [hRe]
      exact bodyPost_ret (v := .tuple #[.agg #[.int .u64 (ck : Int), .slice aa ps.length ca], .int .i64 0]) (by simp [results, Try.results61, go_sem, hc3]) rfl ⟨⟨_, rfl, hK⟩, hB⟩
    · have d0 : (bs l).toList.isEmpty = false := by rw [bs_toList]; simpa using h0
      have d1 : ((bs l).toList == []) = false := by rw [bs_toList]; simpa using h0
      have hT := tsizeD_any (bs l) (by rw [bs_size]; unfold maxLen; omega) wr
      rw [bs_data] at hT
      obtain ⟨m, hm⟩ : ∃ m, l.length = m + 1 := ⟨l.length - 1, by have : l.length ≠ 0 := fun e => h0 (List.length_eq_zero_iff.1 e); omega⟩
      rw [hm] at hre
      simp only [replayD] at hre
      rw [if_neg h0] at hre
      have hsz' := bs_size l
      replace hT := hide hT
      clear hP hPk hZ hZk hBk hcB hc0 hf0
      replace hbx := hide hbx
      go_wp2_with fail
      refine hT.out.mono ?_
      rintro e w9 ⟨rfl, hb9⟩
      clear hT
      have hX9 := hX.below hb9
      have hbx9 : w9.heap[w.heap.size]? = some (.cells #[.int .u64 0, .slice none 0 0] 111 (0, 0)) := by
        rw [hb9.block _ hl0]
        exact hbx.out
      have hbl9 : Below w.heap.size w w9 := hbl.trans (hb9.mono hbl.size)
      have hs9 := hb9.size
      have hBl9 := hX9.lt
      have hl09 := block_lt hbx9
      clear hX hbl hbx hb9
      have hBk := hide (fun u' hk => NoteOf.of (w := w) (u' := u') hX9 hap hr hw1 hva hvl hk)
      have hcB : ∀ o, _ = _ := fun o => cell_at hX9.blk o
      have hc0 : ∀ o, _ = _ := fun o => cell_at hbx9 o
      have hf0 : ∀ o, _ = _ := fun o => frozen_at hbx9 o
      have hP := putL_whole [.int .u64 (ck : Int), .slice aa ps.length ca] hbx9 rfl
      have hPk := hide (putL_kept [.int .u64 (ck : Int), .slice aa ps.length ca] w9 w.heap.size 0)
      have hZ := putL_whole [.int .u64 0, .slice none 0 0] hbx9 rfl
      have hZk := hide (putL_kept [.int .u64 0, .slice none 0 0] w9 w.heap.size 0)
      by_cases h1 : tsizeD l = 0
      · rw [if_pos h1] at hre
        rw [h1]
        subst hre
        clear h1 hP hPk hBk hm
        go_wp2
        have hc3 := fun o => cell_at hZ o
        have hB := hbl9.trans (hZk.out.below hbl9.size (fun k e => by omega))
        simp only [putL] at hc3 hB
        generalize World.setCell _ _ _ = u at *
        exact bodyPost_ret (v := .tuple #[.agg #[.int .u64 0, .slice none 0 0], .int .i64 16]) (by simp [results, Try.results61, go_sem, hc3]) rfl ⟨rfl, hB⟩
      · rw [if_neg h1] at hre
        have e1 : ((tsizeD l : Int) == 0) = false := by simp; omega
        by_cases h2 : l.length < tsizeD l
        · rw [if_pos h2] at hre
          have e2 : decide ((tsizeD l : Int) > (l.length : Int)) = true := by simp; omega
          have e3 : decide ((l.length : Int) < (tsizeD l : Int)) = true := by simp; omega
          subst hre
          generalize tsizeD l = z at *
          clear hm hZ hZk
          go_wp2
          have hc3 := fun o => cell_at hP o
          have hB := hbl9.trans (hPk.out.below hbl9.size (fun k e => by omega))
          have hK := hBk.out _ hPk.out
          simp only [putL] at hc3 hB hK
          generalize World.setCell _ _ _ = u at *
          exact bodyPost_ret (v := .tuple #[.agg #[.int .u64 (ck : Int), .slice aa ps.length ca], .int .i64 0]) (by simp [results, Try.results61, go_sem, hc3]) rfl ⟨⟨_, rfl, hK⟩, hB⟩
        · rw [if_neg h2] at hre
          have e2 : decide ((tsizeD l : Int) > (l.length : Int)) = false := by simp; omega
          have e3 : decide ((l.length : Int) < (tsizeD l : Int)) = false := by simp; omega
          have hzs : ((bs l).extract 0 (tsizeD l)).size = tsizeD l := by rw [ByteArray.size_extract, bs_size]; omega
          have hRd := redoD_any ((bs l).extract 0 (tsizeD l)) (by omega) (by rw [cut_of, bs_data, cut_take, hzs]; intro h; exact tsizeD_sub h (by omega)) w9 w1.heap.size ck ps _ A hr hck hX9 hap
          rw [cut_of, bs_data, cut_take] at hRd
          have hd : (l.drop (tsizeD l)).length = l.length - tsizeD l := List.length_drop
          have hx2 : (bs l).extract (tsizeD l) (m + 1) = bs (l.drop (tsizeD l)) := by rw [bs_cut, cut_drop _ _ _ (by omega)]
          have z1 : tsizeD l ≤ l.length := by omega
          replace hre := hide hre
          clear hzs
          generalize tsizeD l = z at *
          generalize l.take z = t at *
          replace hRd := hide hRd
          clear hP hPk hBk
          replace hbx9 := hide hbx9
          have hkck := hr.clk
          replace hkck := hide hkck
          go_wp2_with fail
          refine hRd.out.mono ?_
          rintro e w10 ⟨ck', ps', vp', rfl, hX', hE'⟩
          clear hRd
          have hbx' : w10.heap[w.heap.size]? = some (.cells #[.int .u64 0, .slice none 0 0] 111 (0, 0)) := by
            rw [hX'.kept.block _ hl09 (fun h => by
              rcases h with h | h
              · omega
              · have := hva _ h; omega)]
            exact hbx9.out
          have hbl' : Below w.heap.size w w10 := hbl9.trans (hX'.kept.below hbl9.size (fun k h => by
              rcases h with h | h
              · omega
              · have := hva _ h; omega))
          cases hrd : redoD t A with
          | none =>
            rw [hrd] at hre
            have hR := hre.out
            subst hR
            have hc0' : ∀ o, _ = _ := fun o => cell_at hbx' o
            have hf0' : ∀ o, _ = _ := fun o => frozen_at hbx' o
            have hl0' := block_lt hbx'
            have hZ' := putL_whole [.int .u64 0, .slice none 0 0] hbx' rfl
            have hZk' := hide (putL_kept [.int .u64 0, .slice none 0 0] w10 w.heap.size 0)
            clear hc0 hf0 hcB hZ hZk hre hX' hE'
            go_wp2
            have hc3 := fun o => cell_at hZ' o
            have hB := hbl'.trans (hZk'.out.below hbl'.size (fun k e => by omega))
            simp only [putL] at hc3 hB
            generalize World.setCell _ _ _ = u at *
            exact bodyPost_ret (v := .tuple #[.agg #[.int .u64 0, .slice none 0 0], .int .i64 16]) (by simp [results, Try.results61, go_sem, hc3]) rfl ⟨rfl, hB⟩
          | some A2 =>
            rw [hrd] at hre
            have hI : Hid (RInvD w w1.heap.size s.size R (.string (bs (l.drop z))) w10) := hide (by
              have hD2 := hE' _ hrd
              refine ⟨l.drop z, A2, ck', ps', vp', rfl, by omega, hX'.xd, hX'.ap, hD2, ?_, ?_, hbx', hbl', fun g hg => ?_, fun x hx g hg => ?_⟩
              · rw [hD2.clk]
                exact redo_clock hrd (by rw [← hkck.out]; exact hck)
              · rw [← hre.out]
                exact (replayD_more m (l.drop z) A2 (by omega)).symm
              · rcases hX'.ownv g hg with h | h
                · exact hva g h
                · omega
              · rcases hX'.ownl x hx g hg with ⟨y, hy, h⟩ | h
                · exact hvl y hy g h
                · omega)
            clear hc0 hf0 hcB hZ hZk hre hX' hE' hva hvl hap hr hbx' hbl' hbx9
            go_wp2
            exact ⟨hI.out, by simp [strLen, bs_size]; omega⟩
/-- a notary that was restored, in blocks of its own -/
def BackD (w : World) (A : List Dt) (e : Ending) (w' : World) : Prop :=
  ∃ B ck ps vp, e = .returned (.tuple #[.pointer (some ⟨B, 0, none⟩), .int .i64 0]) ∧ XD w' B ck ps vp ∧ XDap B ps vp ∧ DRel A ck ps ∧ ∀ i, xdfoot B ps vp i → w.heap.size ≤ i
def BackDs (w : World) (R : Option (List Dt)) (e : Ending) (w' : World) : Prop :=
  match R with
  | none => e = .returned (.tuple #[.pointer none, .int .i64 16])
  | some A => BackD w A e w'
set_option maxRecDepth 100000 in
set_option maxHeartbeats 1000000 in
theorem eRestD_any (s : ByteArray) (hs : s.size ≤ 140737488351232) (w : World) :
    Calls Try.prog 39 #[.string s] w fun e w' => BackDs w (restD s.data.toList) e w' ∧ Below w.heap.size w w' := by
  have hR := hide (fun u => restoreD_any s hs u)
  generalize restD s.data.toList = R at *
  cases R with
  | none =>
    go_enter Try.func39, Try.ntmps39
    go_wp2_with fail
    refine (hR.out _).mono ?_
    rintro e w1 ⟨rfl, hb⟩
    clear hR
    go_wp2
    go_ret2
    exact ⟨rfl, hb.alloc hb.size _⟩
  | some A =>
    go_enter Try.func39, Try.ntmps39
    go_wp2_with fail
    refine (hR.out _).mono ?_
    rintro e w1 ⟨⟨v, rfl, ck, ps, vp, rfl, hr, ha, hl, hva, hvl⟩, hb⟩
    clear hR
    obtain ⟨aa, ca, ea, _⟩ := ha.form Xp.cells_length
    have hK : Hid (∀ u : World, u = (w1.alloc (.cells #[.int .u64 (ck : Int), vp] 111)).alloc (.cells #[.int .u64 (ck : Int), vp] 113) → BackD w A (.returned (.tuple #[.pointer (some ⟨w1.heap.size + 1, 0, none⟩), .int .i64 0])) u ∧ Below w.heap.size w u) := hide (by
      rintro u rfl
      have hs1 := hb.size
      have h1 : (w1.alloc (.cells #[.int .u64 (ck : Int), vp] 111)).heap.size = w1.heap.size + 1 := by simp
      have hb2 : Below w1.heap.size w1 ((w1.alloc (.cells #[.int .u64 (ck : Int), vp] 111)).alloc (.cells #[.int .u64 (ck : Int), vp] 113)) := ((Below.refl _ _).alloc (Nat.le_refl _) _).alloc (by omega) _
      refine ⟨⟨w1.heap.size + 1, ck, ps, vp, rfl, ⟨?_, ha.below hb2, fun x hx => (hl x hx).below hb2⟩, ⟨fun e => ?_, fun x hx g hg => ⟨fun e => ?_, (hvl x hx g hg).2⟩⟩, hr, fun i hi => ?_⟩, hb.trans (hb2.mono hs1)⟩
      · refine ty_of (T := 113) ?_
        rw [← h1]
        exact heap_alloc_self _ _
      · have := ha.lt e; omega
      · have := (hl x hx).lt hg; omega
      · rcases hi with rfl | hi | ⟨x, hx, hi⟩
        · omega
        · exact hva i hi
        · exact (hvl x hx i hi).1)
    subst ea
    clear ha hl hva hvl hb hr
    go_wp2
    go_ret2
    exact hK.out _ rfl
end Go.Proofs.Ytjkhbjgfoopomaa
/-
  Networks: a node is restored.
-/
namespace Go.Proofs.Ytjkhbjgfoopomaa
open Go.RowKit
set_option linter.unusedVariables false
set_option linter.unusedSimpArgs false
section
variable {w u : World} {own : Nat → Nat} {nb : Nat} {M : NM} {P : PN}
/-- bank k is another one, in new blocks -/
theorem NetAt.backB (I : NetAt w own nb 3 M P) {k : Nat} (h1 : 1 ≤ k) (h3 : k ≤ 3) (hb : Below w.heap.size w u) {B : Nat} {ac : List Ac} {ls : List Lg} {va vl : Value} {E' : List Ev} (hX : XB u B k ac ls va vl) (hap : Apart B va vl) (hr : Rel E' ac ls) (hf : ∀ i, xfoot B va vl i → w.heap.size ≤ i) :
    NetAt (u.setCell ⟨nb, k, none⟩ (.pointer (some ⟨B, 0, none⟩))) (fun i => if i < w.heap.size then own i else 3 + k) nb 3 { M with bk := upd M.bk k ⟨B, ac, ls, va, vl⟩ } { P with E := upd P.E k E' } ∧
    Frame w (u.setCell ⟨nb, k, none⟩ (.pointer (some ⟨B, 0, none⟩))) own (fun i => if i < w.heap.size then own i else 3 + k) := by
  have hA : ∀ i, i < w.heap.size → (fun i => if i < w.heap.size then own i else 3 + k) i = own i := fun i hi => by simp [hi]
  have hub : u.heap[nb]? = some (.cells (netCells 3 M P) 67 (0, 0)) := by rw [hb.block _ I.lt]; exact I.blk
  have hks := Kept.of_setCell u ⟨nb, k, none⟩ (.pointer (some ⟨B, 0, none⟩))
  have hk : Kept (fun i => i = nb) w (u.setCell ⟨nb, k, none⟩ (.pointer (some ⟨B, 0, none⟩))) := (Kept.of_below hb).trans (hks.mono (fun i _ h => h)) (fun i h => .inl h)
  have hn : ∀ i, i < w.heap.size → i = nb → own i = 1 := fun i _ e => by rw [e]; exact I.nown
  refine ⟨⟨?_, (hA _ I.lt).trans I.nown, fun t t1 t3 => ?_, I.deed.kept hk (fun i hi hs => by rw [hn i hi hs]; omega) hA, I.wrow.kept hk (fun g hg hs => by have := I.wown g hg; rw [hn g (I.wrow.lt hg) hs] at this; omega), fun g hg => (hA g (I.wrow.lt hg)).trans (I.wown g hg)⟩, ⟨hk.mono (fun i hi hs => by show own i ≠ 0; rw [hn i hi hs]; omega), hA⟩⟩
  · rw [heap_set_self hub k _]
    congr 2
    unfold netCells
    have hk3 : k = 1 ∨ k = 2 ∨ k = 3 := by omega
    rcases hk3 with rfl | rfl | rfl <;> rfl
  · by_cases e : t = k
    · subst e
      simp only [upd_self]
      refine ⟨hX.keptS (hks.mono (fun i _ h => h)) (fun i hi e => by have := hf i hi; have := I.lt; have e' : i = nb := e; omega), hap, fun i hi => ?_, hr⟩
      have := hf i hi
      show (if i < w.heap.size then own i else 3 + t) = 3 + t
      rw [if_neg (by omega)]
    · simp only [upd_ne _ _ e]
      exact (I.bank t t1 t3).kept hk (fun i hi hs => by rw [hn i hi hs]; omega) hA
/-- the notary is another one, in new blocks -/
theorem NetAt.backD (I : NetAt w own nb 3 M P) (hb : Below w.heap.size w u) {B ck : Nat} {ps : List Xp} {vp : Value} {A' : List Dt} (hX : XD u B ck ps vp) (hap : XDap B ps vp) (hr : DRel A' ck ps) (hf : ∀ i, xdfoot B ps vp i → w.heap.size ≤ i) :
    NetAt (u.setCell ⟨nb, 4, none⟩ (.pointer (some ⟨B, 0, none⟩))) (fun i => if i < w.heap.size then own i else 2) nb 3 { M with db := B, ck := ck, ps := ps, xv := vp } { P with A := A' } ∧
    Frame w (u.setCell ⟨nb, 4, none⟩ (.pointer (some ⟨B, 0, none⟩))) own (fun i => if i < w.heap.size then own i else 2) := by
  have hA : ∀ i, i < w.heap.size → (fun i => if i < w.heap.size then own i else 2) i = own i := fun i hi => by simp [hi]
  have hub : u.heap[nb]? = some (.cells (netCells 3 M P) 67 (0, 0)) := by rw [hb.block _ I.lt]; exact I.blk
  have hks := Kept.of_setCell u ⟨nb, 4, none⟩ (.pointer (some ⟨B, 0, none⟩))
  have hk : Kept (fun i => i = nb) w (u.setCell ⟨nb, 4, none⟩ (.pointer (some ⟨B, 0, none⟩))) := (Kept.of_below hb).trans (hks.mono (fun i _ h => h)) (fun i h => .inl h)
  have hn : ∀ i, i < w.heap.size → i = nb → own i = 1 := fun i _ e => by rw [e]; exact I.nown
  refine ⟨⟨?_, (hA _ I.lt).trans I.nown, fun t t1 t3 => (I.bank t t1 t3).kept hk (fun i hi hs => by rw [hn i hi hs]; omega) hA, ⟨hX.keptS (hks.mono (fun i _ h => h)) (fun i hi e => by have := hf i hi; have := I.lt; have e' : i = nb := e; omega), hap, fun i hi => ?_, hr⟩, I.wrow.kept hk (fun g hg hs => by have := I.wown g hg; rw [hn g (I.wrow.lt hg) hs] at this; omega), fun g hg => (hA g (I.wrow.lt hg)).trans (I.wown g hg)⟩, ⟨hk.mono (fun i hi hs => by show own i ≠ 0; rw [hn i hi hs]; omega), hA⟩⟩
  · rw [heap_set_self hub 4 _]
    rfl
  · have := hf i hi
    show (if i < w.heap.size then own i else 2) = 2
    rw [if_neg (by omega)]
end
set_option maxRecDepth 100000 in
set_option maxHeartbeats 1000000 in
theorem restore_bank (w : World) (own : Nat → Nat) (nb : Nat) (M : NM) (P : PN) (I : NetAt w own nb 3 M P) (k : Nat) (h1 : 1 ≤ k) (h3 : k ≤ 3) (E' : List Ev) (hR : restB k (P.lg k) = some E') (hlen : (P.lg k).length ≤ 140737488351232) :
    Calls Try.prog 38 #[.pointer (some ⟨nb, 0, none⟩), .int .i64 (k : Int)] w fun e w' => e = .returned (.bool true) ∧ ∃ own' M', NetAt w' own' nb 3 M' { P with E := upd P.E k E' } ∧ Frame w w' own own' := by
  have hC := hide (fun u => eRestB_any k ⟨h1, by omega⟩ (bs (P.lg k)) (by rw [bs_size]; exact hlen) u)
  rw [bs_data, hR] at hC
  have hBk := hide (fun u (hb : Below w.heap.size w u) B ac ls va vl (hX : XB u B k ac ls va vl) hap (hr : Rel E' ac ls) hf => I.backB h1 h3 hb (E' := E') hX hap hr hf)
  have hcell : w.cell? ⟨nb, 5 + k, none⟩ = some (.string (bs (P.lg k))) := by
    rw [cell_at I.blk]
    have hk3 : k = 1 ∨ k = 2 ∨ k = 3 := by omega
    rcases hk3 with rfl | rfl | rfl <;> rfl
  have hblk := hide I.blk
  have hnl := I.lt
  have hk0 : ((k : Int) == 0) = false := by simp; omega
  have hkm : (k : Int) % 256 = (k : Int) := by omega
  have hk4 : (k : Int) < 4 := by omega
  have hk40 : (0 : Int) ≤ (k : Int) := by omega
  generalize P.lg k = L at *
  clear I hR
  go_enter Try.func38, Try.ntmps38
  go_wp2_with fail
  refine (hC.out _).mono ?_
  rintro e w1 ⟨⟨B, ac, ls, va, vl, rfl, hX, hap, hr, hf⟩, hb⟩
  clear hC
  have hN := hide (hBk.out w1 hb B ac ls va vl hX hap hr hf)
  have hb1 : w1.heap[nb]? = some (.cells (netCells 3 M P) 67 (0, 0)) := by rw [hb.block _ hnl]; exact hblk.out
  have hf1 : ∀ o, w1.frozen? ⟨nb, o, none⟩ = false := fun o => frozen_at hb1 o
  have hnl1 := block_lt hb1
  have hc1 : w1.cell? ⟨nb, k, none⟩ = some (.pointer (some ⟨(M.bk k).b, 0, none⟩)) := by rw [cell_at hb1]; exact bank_ptr h1 h3 (Nat.le_refl 3)
  clear hBk hcell hX hap hr hf hb1
  go_wp2
  go_ret
  exact ⟨rfl, _, _, hN.out.1, hN.out.2⟩
set_option maxRecDepth 100000 in
set_option maxHeartbeats 1000000 in
theorem restore_note (w : World) (own : Nat → Nat) (nb : Nat) (M : NM) (P : PN) (I : NetAt w own nb 3 M P) (A0 A' : List Dt) (hR : restD (P.lg 0) = some A0) (ha : AlikeD A' A0) (hlen : (P.lg 0).length ≤ 140737488351232) :
    Calls Try.prog 38 #[.pointer (some ⟨nb, 0, none⟩), .int .i64 0] w fun e w' => e = .returned (.bool true) ∧ ∃ own' M', NetAt w' own' nb 3 M' { P with A := A' } ∧ Frame w w' own own' := by
  have hC := hide (fun u => eRestD_any (bs (P.lg 0)) (by rw [bs_size]; exact hlen) u)
  rw [bs_data, hR] at hC
  have hBk := hide (fun u (hb : Below w.heap.size w u) B ck ps vp (hX : XD u B ck ps vp) hap (hr : DRel A0 ck ps) hf => I.backD hb (A' := A') hX hap (ha.to hr) hf)
  have hcell : w.cell? ⟨nb, 5, none⟩ = some (.string (bs (P.lg 0))) := by
    rw [cell_at I.blk]
    rfl
  have hblk := hide I.blk
  have hnl := I.lt
  generalize P.lg 0 = L at *
  clear I hR
  go_enter Try.func38, Try.ntmps38
  go_wp2_with fail
  refine (hC.out _).mono ?_
  rintro e w1 ⟨⟨B, ck, ps, vp, rfl, hX, hap, hr, hf⟩, hb⟩
  clear hC
  have hN := hide (hBk.out w1 hb B ck ps vp hX hap hr hf)
  have hb1 : w1.heap[nb]? = some (.cells (netCells 3 M P) 67 (0, 0)) := by rw [hb.block _ hnl]; exact hblk.out
  have hf1 : ∀ o, w1.frozen? ⟨nb, o, none⟩ = false := fun o => frozen_at hb1 o
  have hnl1 := block_lt hb1
  have hc1 : w1.cell? ⟨nb, 4, none⟩ = some (.pointer (some ⟨M.db, 0, none⟩)) := by rw [cell_at hb1]; rfl
  clear hBk hcell hX hap hr hf hb1
  go_wp2
  go_ret
  exact ⟨rfl, _, _, hN.out.1, hN.out.2⟩
end Go.Proofs.Ytjkhbjgfoopomaa
