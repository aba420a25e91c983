/-
  The program's Bank.Open.
-/
import Derived.Test.YtjkhbjgfoopomaaGreatXBank
import Derived.Test.YtjkhbjgfoopomaaGreatRowStep
import Derived.Test.YtjkhbjgfoopomaaGreatBytes
namespace Go.Proofs.YtjkhbjgfoopomaaGreat
open Go.RowKit
set_option linter.unusedVariables false
set_option linter.unusedSimpArgs false

/-- the blocks of a bank -/
def xfoot (B : Nat) (va vl : Value) (k : Nat) : Prop := k = B ∨ va.ownBlock = some k ∨ vl.ownBlock = some k
/-- they are apart -/
structure Apart (B : Nat) (va vl : Value) : Prop where
  a : va.ownBlock ≠ some B
  l : vl.ownBlock ≠ some B
  al : ∀ g, va.ownBlock = some g → vl.ownBlock ≠ some g
/-- the program's bank has gone on -/
structure XBTo (w w' : World) (B node : Nat) (ac' : List Ac) (ls' : List Lg) (va vl va' vl' : Value) : Prop where
  xb : XB w' B node ac' ls' va' vl'
  kept : Kept (xfoot B va vl) w w'
  owna : ∀ g, va'.ownBlock = some g → va.ownBlock = some g ∨ w.heap.size ≤ g
  ownl : ∀ g, vl'.ownBlock = some g → vl.ownBlock = some g ∨ w.heap.size ≤ g
  ap : Apart B va' vl'
theorem XBTo.same {w u : World} {B node : Nat} {ac : List Ac} {ls : List Lg} {va vl : Value} (hX : XB w B node ac ls va vl) (hap : Apart B va vl) (hb : Below w.heap.size w u) : XBTo w u B node ac ls va vl va vl :=
  ⟨hX.below hb, Kept.of_below hb, fun g h => .inl h, fun g h => .inl h, hap⟩
theorem XBTo.from {w w1 w2 : World} {B node : Nat} {ac' : List Ac} {ls' : List Lg} {va vl va' vl' : Value} (hb : Below w.heap.size w w1) (h : XBTo w1 w2 B node ac' ls' va vl va' vl') : XBTo w w2 B node ac' ls' va vl va' vl' :=
  ⟨h.xb, (Kept.of_below hb).trans h.kept (fun i hi => .inl hi), fun g hg => (h.owna g hg).imp_right (fun x => Nat.le_trans hb.size x), fun g hg => (h.ownl g hg).imp_right (fun x => Nat.le_trans hb.size x), h.ap⟩
theorem XBTo.then {w u u2 : World} {B node : Nat} {ac' : List Ac} {ls' : List Lg} {va vl va' vl' : Value} (h : XBTo w u B node ac' ls' va vl va' vl') (hb : Below u.heap.size u u2) : XBTo w u2 B node ac' ls' va vl va' vl' :=
  ⟨h.xb.below hb, h.kept.trans (Kept.of_below (S := fun _ => False) hb) (fun i hi => hi.elim), h.owna, h.ownl, h.ap⟩
theorem acInfo : (Tryz.prog.info? 179).map (fun i => (i.zero, i.size, i.bytes)) = some (some (.agg #[.int .u16 0, .int .u32 0]), 2, 8) := by kernel_rfl
theorem ac_one (e : Ac) : ∀ u ∈ e.cells, u.oneCell' = true := by
  intro u hu
  simp only [Ac.cells, List.mem_cons, List.not_mem_nil, or_false] at hu
  rcases hu with h | h <;> subst h <;> rfl
/-- one account more -/
theorem XB.growA {w w2 : World} {B node g n cap : Nat} {ac : List Ac} {ls : List Lg} {e : Ac} {va vl : Value} (hX : XB w B node ac ls va vl) (hap : Apart B va vl) (hrow : RowOf w2 179 2 Ac.cells (.slice (some ⟨g, 0, none⟩) n cap) (ac ++ [e]))
    (hk : Kept (fun k => va.ownBlock = some k) w w2) (hg : va.ownBlock = some g ∨ w.heap.size ≤ g) : XBTo w (w2.setCell ⟨B, 1, none⟩ (.slice (some ⟨g, 0, none⟩) n cap)) B node (ac ++ [e]) ls va vl (.slice (some ⟨g, 0, none⟩) n cap) vl := by
  have hB : w2.heap[B]? = some (.cells #[.int .u8 (node : Int), va, vl] 145 (0, 0)) := by rw [hk.block B hX.lt hap.a]; exact hX.blk
  have one : ∀ g', (Value.slice (some ⟨g, 0, none⟩) n cap).ownBlock = some g' → g' = g := fun g' h' => by simpa [Value.ownBlock] using h'.symm
  have hgB : g ≠ B := by
    rcases hg with h | h
    · intro e; subst e; exact hap.a h
    · have := hX.lt; omega
  have hgl : ∀ g', vl.ownBlock = some g' → g' ≠ g := fun g' h' e => by
    subst e
    rcases hg with h | h
    · exact hap.al _ h h'
    · have := hX.lrow.lt h'; omega
  refine ⟨⟨heap_set_self hB 1 _, hrow.kept (Kept.of_setCell _ _ _) ?_, ?_⟩, ?_, ?_, fun g h => .inl h, ⟨?_, hap.l, ?_⟩⟩
  · intro g' h'; rw [one g' h']; exact hgB
  · refine (hX.lrow.kept hk (fun g' h' e => hap.al g' e h')).kept (Kept.of_setCell _ _ _) (fun g' h' e => hap.l ?_)
    rw [h', e]
  · exact (hk.mono (fun i _ h => .inr (.inl h))).trans (Kept.of_setCell _ _ _) (fun i h => .inl (.inl h))
  · intro g' h'; rw [one g' h']; exact hg
  · intro h'; exact hgB (one _ h').symm
  · intro g' h' h2; exact hgl g' h2 (one g' h')

/-- what Open logs -/
def openTextOf (a b : Nat) : List UInt8 := 79 :: (be 2 a ++ be 4 b)
theorem openText_length (a b : Nat) : (openTextOf a b).length = 7 := by simp [openTextOf, be_length]
attribute [local go_sem] bs_size bs_append conv1 in
set_option maxRecDepth 100000 in
set_option maxHeartbeats 1000000 in
theorem openText_any (a b : Nat) (ha : a < 65536) (hb : b < 4294967296) (w : World) :
    Calls Tryz.prog 93 #[.int .u16 (a : Int), .int .u32 (b : Int)] w fun e w' => e = .returned (.string (bs (openTextOf a b))) ∧ Below w.heap.size w w' := by
  have l2 := be_length 2 a
  have l4 := be_length 4 b
  have hq : Hid (openTextOf a b = 79 :: (be 2 a ++ be 4 b)) := hide rfl
  have h2 := hide (fun u => two_any a ha u)
  have h4 := hide (fun u => four_any b hb u)
  generalize be 2 a = x2 at *
  generalize be 4 b = x4 at *
  go_enter Tryz.func93, Tryz.ntmps93
  go_wp2_with fail
  refine (h2.out _).mono ?_
  rintro e w1 ⟨rfl, hb1⟩
  go_wp2_with fail
  refine (h4.out _).mono ?_
  rintro e w2 ⟨rfl, hb2⟩
  go_wp2
  go_ret
  exact ⟨ret_str hq.out.symm, ((Below.refl _ _).alloc (Nat.le_refl _) _).trans ((hb1.trans (hb2.mono hb1.size)).mono (by simp))⟩
set_option maxRecDepth 100000 in
set_option maxHeartbeats 1000000 in
theorem xOpen_any (a b : Nat) (ha : a < 65536) (hb32 : b < 4294967296) (w : World) (B node : Nat) (ac : List Ac) (ls : List Lg) (va vl : Value) (hX : XB w B node ac ls va vl) (hap : Apart B va vl) (hok : ∀ x, x ∈ ac → x.ok) (hlen : ac.length ≤ 1000000) :
    Calls Tryz.prog 57 #[.pointer (some ⟨B, 0, none⟩), .int .u16 (a : Int), .int .u32 (b : Int)] w fun e w' =>
      ∃ va', (if hasB a ac then e = .returned (.tuple #[.string ⟨#[]⟩, .int .i64 9]) ∧ XBTo w w' B node ac ls va vl va' vl else if 16 ≤ ac.length then e = .returned (.tuple #[.string ⟨#[]⟩, .int .i64 10]) ∧ XBTo w w' B node ac ls va vl va' vl else e = .returned (.tuple #[.string (bs (openTextOf a b)), .int .i64 0]) ∧ XBTo w w' B node (ac ++ [⟨a, b⟩]) ls va vl va' vl) := by
  have hTx := hide (fun u => openText_any a b ha hb32 u)
  have hH := hide (has_any a ha w B node ac ls va vl hX hok hlen)
  obtain ⟨i0, hi, y0, y1, y2⟩ := info_parts acInfo
  obtain ⟨ad, cap, hv, hev⟩ := hX.arow.form Ac.cells_length
  clear hev
  subst hv
  have hc : ∀ o, _ = _ := fun o => cell_at hX.blk o
  have hf : ∀ o, _ = _ := fun o => frozen_at hX.blk o
  have hBl := hX.lt
  have hrow1 := hX.arow
  generalize hasB a ac = hs at *
  cases hs with
  | true =>
    simp only [if_true]
    go_enter Tryz.func57, Tryz.ntmps57
    go_wp2_with fail
    refine hH.out.mono ?_
    rintro e w1 ⟨rfl, rfl⟩
    clear hH
    go_wp2
    go_ret2
    exact ⟨_, rfl, XBTo.same hX hap (Below.refl _ _)⟩
  | false =>
    simp only [Bool.false_eq_true, if_false]
    by_cases h16 : 16 ≤ ac.length
    · have d1 : decide ((ac.length : Int) ≥ 16) = true := by simp; omega
      have d2 : decide ((16 : Int) ≤ (ac.length : Int)) = true := by simp; omega
      simp only [h16, if_true]
      go_enter Tryz.func57, Tryz.ntmps57
      go_wp2_with fail
      refine hH.out.mono ?_
      rintro e w1 ⟨rfl, rfl⟩
      clear hH
      go_wp2
      go_ret2
      exact ⟨_, rfl, XBTo.same hX hap (Below.refl _ _)⟩
    · have d1 : decide ((ac.length : Int) ≥ 16) = false := by simp; omega
      have d2 : decide ((16 : Int) ≤ (ac.length : Int)) = false := by simp; omega
      simp only [h16, if_false]
      go_enter Tryz.func57, Tryz.ntmps57
      go_wp2_with fail
      refine hH.out.mono ?_
      rintro e w1 ⟨rfl, rfl⟩
      clear hH
      go_wp2_with (first
        | (at_builtin; refine wpList_row Ac.cells_length w1 (by rfl) _ _ 138 (by rfl) 179 i0 _ 8 Tryz.underlying138 hi y0 y1 y2 rfl (by decide) (.slice ad ac.length cap) ac (by rfl) hrow1 1 ⟨a, b⟩ (by rfl) (ac_one _) (by unfold maxLen; omega) (by omega) ?_ _ (by rfl); intro g cap' w2 hrow2 hk2 hg2 hlt2; have hblk : w2.heap[B]? = some (.cells #[.int .u8 (node : Int), .slice ad ac.length cap, vl] 145 (0, 0)) := (by rw [hk2.block B hBl hap.a]; exact hX.blk); have hc2 := fun o => cell_at hblk o; have hf2 := fun o => frozen_at hblk o; have X : Hid (RowOf w2 179 2 Ac.cells (.slice (some ⟨g, 0, none⟩) (ac.length + 1) cap') (ac ++ [⟨a, b⟩]) ∧ Kept (fun k => (Value.slice ad ac.length cap).ownBlock = some k) w1 w2 ∧ ((Value.slice ad ac.length cap).ownBlock = some g ∨ w1.heap.size ≤ g)) := hide ⟨hrow2, hk2, hg2⟩; clear hrow2 hk2 hg2 hblk))
      refine (hTx.out _).mono ?_
      rintro e w3 ⟨rfl, hb3⟩
      clear hTx
      go_wp2
      go_ret2
      exact ⟨_, rfl, (XB.growA hX hap X.out.1 X.out.2.1 X.out.2.2).then hb3⟩
end Go.Proofs.YtjkhbjgfoopomaaGreat
