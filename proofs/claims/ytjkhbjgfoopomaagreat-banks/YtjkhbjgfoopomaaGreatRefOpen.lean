/-
  The document's Bank.Open.
-/
import Derived.Test.YtjkhbjgfoopomaaGreatRefBank
import Derived.Test.YtjkhbjgfoopomaaGreatRowAppend
import Derived.WalkKit
namespace Go.Proofs.YtjkhbjgfoopomaaGreat
open Go.RowKit
set_option linter.unusedVariables false
set_option linter.unusedSimpArgs false

/-- the document's bank has gone on -/
structure RBTo (w w' : World) (B node : Nat) (evs' : List Ev) (v v' : Value) : Prop where
  rb : RB w' B node evs' v'
  kept : Kept (fun k => k = B ∨ v.ownBlock = some k) w w'
  own : ∀ g, v'.ownBlock = some g → v.ownBlock = some g ∨ w.heap.size ≤ g
  ap : v'.ownBlock ≠ some B
theorem RBTo.from {w w1 w2 : World} {B node : Nat} {evs' : List Ev} {v v' : Value} (hb : Below w.heap.size w w1) (h : RBTo w1 w2 B node evs' v v') : RBTo w w2 B node evs' v v' :=
  ⟨h.rb, (Kept.of_below hb).trans h.kept (fun i hi => .inl hi), fun g hg => (h.own g hg).imp_right (fun x => Nat.le_trans hb.size x), h.ap⟩
theorem RB.grow {w w2 : World} {B node g n cap : Nat} {evs : List Ev} {e : Ev} {v : Value} (hR : RB w B node evs v) (hap : v.ownBlock ≠ some B) (hrow : RowOf w2 150 11 Ev.cells (.slice (some ⟨g, 0, none⟩) n cap) (evs ++ [e]))
    (hk : Kept (fun k => v.ownBlock = some k) w w2) (hg : v.ownBlock = some g ∨ w.heap.size ≤ g) : RBTo w (w2.setCell ⟨B, 1, none⟩ (.slice (some ⟨g, 0, none⟩) n cap)) B node (evs ++ [e]) v (.slice (some ⟨g, 0, none⟩) n cap) := by
  have hB : w2.heap[B]? = some (.cells #[.int .u8 (node : Int), v] 78 (0, 0)) := by rw [hk.block B hR.lt hap]; exact hR.blk
  have hgB : g ≠ B := by
    rcases hg with h | h
    · intro e; subst e; exact hap h
    · have := hR.lt; omega
  refine ⟨⟨heap_set_self hB 1 _, hrow.kept (Kept.of_setCell _ _ _) ?_⟩, ?_, ?_, ?_⟩
  · intro g' h'
    have : g' = g := by simpa [Value.ownBlock] using h'.symm
    subst this
    exact hgB
  · exact (hk.mono (fun i _ h => .inr h)).trans (Kept.of_setCell _ _ _) (fun i h => .inl (.inl h))
  · intro g' h'
    have : g' = g := by simpa [Value.ownBlock] using h'.symm
    subst this
    exact hg
  · intro h'
    exact hgB (by simpa [Value.ownBlock] using h')
theorem evInfo : (Tryz.prog.info? 150).map (fun i => (i.zero, i.size, i.bytes)) = some (some (.agg #[.int .i64 0, .int .u8 0, .int .u8 0, .int .u8 0, .int .u32 0, .int .u8 0, .int .u16 0, .int .u16 0, .int .u32 0, .string ByteArray.empty, .bool false]), 11, 56) := by kernel_rfl
theorem ev_one (e : Ev) : ∀ u ∈ e.cells, u.oneCell' = true := by
  intro u hu
  simp only [Ev.cells, List.mem_cons, List.not_mem_nil, or_false] at hu
  rcases hu with h | h | h | h | h | h | h | h | h | h | h <;> subst h <;> rfl
def openEv (a b : Nat) : Ev := ⟨0, ⟨0, 0, 0, 0, 0, a, 0, b, []⟩, false⟩
def openErr (a : Nat) (evs : List Ev) : Nat := if (openedOf a evs).2.1 then 9 else if 16 ≤ (openedOf a evs).2.2 then 10 else 0
def openEvs (a b : Nat) (evs : List Ev) : List Ev := if openErr a evs = 0 then evs ++ [openEv a b] else evs

set_option maxRecDepth 100000 in
set_option maxHeartbeats 1000000 in
theorem refOpen_any (a b : Nat) (ha : a < 65536) (hb32 : b < 4294967296) (w : World) (B node : Nat) (evs : List Ev) (v : Value) (hR : RB w B node evs v) (hap : v.ownBlock ≠ some B) (hok : ∀ e, e ∈ evs → e.ok) (hlen : evs.length ≤ 1000000) :
    Calls Tryz.prog 21 #[.pointer (some ⟨B, 0, none⟩), .int .u16 (a : Int), .int .u32 (b : Int)] w fun e w' =>
      e = .returned (.int .i64 (openErr a evs : Int)) ∧ ∃ v', RBTo w w' B node (openEvs a b evs) v v' := by
  have hO := hide (opened_any a ha w B node evs v hR hok hlen)
  have hz : Hid (openErr a evs = if (openedOf a evs).2.1 then 9 else if 16 ≤ (openedOf a evs).2.2 then 10 else 0) := hide rfl
  have hz2 : Hid (openEvs a b evs = if openErr a evs = 0 then evs ++ [openEv a b] else evs) := hide rfl
  have hbd := openedOf_bd a evs hok
  generalize openEvs a b evs = E' at *
  generalize openErr a evs = er at *
  generalize openedOf a evs = S at *
  obtain ⟨s1, s2, s3⟩ := S
  have stay : Hid (∀ u, Below w.heap.size w u → RBTo w u B node evs v v) := hide (fun u hu => ⟨hR.below hu, Kept.of_below hu, fun g h => .inl h, hap⟩)
  obtain ⟨i0, hi, y0, y1, y2⟩ := info_parts evInfo
  obtain ⟨ad, cap, hv, hev⟩ := hR.form
  clear hev
  subst hv
  cases s2 with
  | true =>
    have hq : Hid (er = 9) := hide (by rw [hz.out]; simp)
    have hq2 : Hid (E' = evs) := hide (by rw [hz2.out, hq.out]; simp)
    clear hz hz2
    go_enter Tryz.func21, Tryz.ntmps21
    go_wp2_with fail
    refine hO.out.mono ?_
    rintro e w1 ⟨rfl, hb⟩
    clear hO
    go_wp2
    go_ret
    exact ⟨by rw [hq.out]; rfl, _, by rw [hq2.out]; exact stay.out _ hb⟩
  | false =>
    by_cases h16 : 16 ≤ s3
    · have d16 : decide ((16 : Int) ≤ (s3 : Int)) = true := by simp; omega
      have d16' : decide ((s3 : Int) ≥ 16) = true := by simp; omega
      have hq : Hid (er = 10) := hide (by rw [hz.out]; simp [h16])
      have hq2 : Hid (E' = evs) := hide (by rw [hz2.out, hq.out]; simp)
      clear hz hz2
      go_enter Tryz.func21, Tryz.ntmps21
      go_wp2_with fail
      refine hO.out.mono ?_
      rintro e w1 ⟨rfl, hb⟩
      clear hO
      go_wp2
      go_ret
      exact ⟨by rw [hq.out]; rfl, _, by rw [hq2.out]; exact stay.out _ hb⟩
    · have d16 : decide ((16 : Int) ≤ (s3 : Int)) = false := by simp; omega
      have d16' : decide ((s3 : Int) ≥ 16) = false := by simp; omega
      have hq : Hid (er = 0) := hide (by rw [hz.out]; simp [h16])
      have hq2 : Hid (E' = evs ++ [openEv a b]) := hide (by rw [hz2.out, hq.out]; simp)
      clear hz hz2 stay
      go_enter Tryz.func21, Tryz.ntmps21
      go_wp2_with fail
      refine hO.out.mono ?_
      rintro e w1 ⟨rfl, hb⟩
      have hR1 := hR.below hb
      have hc : ∀ o, _ = _ := fun o => cell_at hR1.blk o
      have hf : ∀ o, _ = _ := fun o => frozen_at hR1.blk o
      have hBl := hR1.lt
      clear hO
      have hrow1 := hR1.row
      go_wp2_with (first
        | (at_builtin; refine wpList_row Ev.cells_length w1 (by rfl) _ _ 76 (by rfl) 150 i0 _ 56 Tryz.underlying76 hi y0 y1 y2 rfl (by decide) (.slice ad evs.length cap) evs (by rfl) hrow1 1 (openEv a b) (by rfl) (ev_one _) (by unfold maxLen; omega) (by omega) ?_ _ (by rfl); intro g cap' w2 hrow2 hk2 hg2 hlt2; have hblk : w2.heap[B]? = some (.cells #[.int .u8 (node : Int), .slice ad evs.length cap] 78 (0, 0)) := (by rw [hk2.block B hBl hap]; exact hR1.blk); have hc2 := fun o => cell_at hblk o; have hf2 := fun o => frozen_at hblk o; have X : Hid (RowOf w2 150 11 Ev.cells (.slice (some ⟨g, 0, none⟩) (evs.length + 1) cap') (evs ++ [openEv a b]) ∧ Kept (fun k => (Value.slice ad evs.length cap).ownBlock = some k) w1 w2 ∧ ((Value.slice ad evs.length cap).ownBlock = some g ∨ w1.heap.size ≤ g)) := hide ⟨hrow2, hk2, hg2⟩; clear hrow2 hk2 hg2 hblk))
      go_ret
      exact ⟨by rw [hq.out]; rfl, _, by rw [hq2.out]; exact RBTo.from hb (RB.grow hR1 hap X.out.1 X.out.2.1 X.out.2.2)⟩
end Go.Proofs.YtjkhbjgfoopomaaGreat
