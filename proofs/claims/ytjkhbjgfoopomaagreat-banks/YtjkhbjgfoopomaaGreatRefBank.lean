/-
  The document's bank in memory: its node, and the list of what has changed it; the walks that only read it.
-/
import Derived.Test.YtjkhbjgfoopomaaGreatBankMath
import Derived.Test.YtjkhbjgfoopomaaGreatLaw
import Derived.Test.YtjkhbjgfoopomaaGreatMem
namespace Go.Proofs.YtjkhbjgfoopomaaGreat
open Go.RowKit
set_option linter.unusedVariables false

/-- a bank of the document's lies at B -/
structure RB (w : World) (B node : Nat) (evs : List Ev) (v : Value) : Prop where
  blk : w.heap[B]? = some (.cells #[.int .u8 (node : Int), v] 78 (0, 0))
  row : RowOf w 150 11 Ev.cells v evs
theorem RB.lt {w : World} {B node : Nat} {evs : List Ev} {v : Value} (h : RB w B node evs v) : B < w.heap.size := block_lt h.blk
/-- it is the same in a world in which nothing of it has turned -/
theorem RB.below {w u : World} {B node : Nat} {evs : List Ev} {v : Value} (h : RB w B node evs v) (hb : Below w.heap.size w u) : RB u B node evs v :=
  ⟨by rw [hb.block B h.lt]; exact h.blk, h.row.below hb⟩
theorem RB.form {w : World} {B node : Nat} {evs : List Ev} {v : Value} (h : RB w B node evs v) : ∃ (ad : Option Addr) (cap : Nat), v = .slice ad evs.length cap ∧ ∀ k (hk : k < evs.length), ∃ g, ad = some ⟨g, 0, none⟩ ∧ (∀ j, j < 11 → w.cell? ⟨g, k * 11 + j, none⟩ = evs[k].cells[j]?) ∧ ∀ j, w.frozen? ⟨g, j, none⟩ = false := h.row.form Ev.cells_length

set_option maxRecDepth 100000 in
set_option maxHeartbeats 1000000 in
theorem opened_any (a : Nat) (ha : a < 65536) (w : World) (B node : Nat) (evs : List Ev) (v : Value) (hR : RB w B node evs v) (hok : ∀ e, e ∈ evs → e.ok) (hlen : evs.length ≤ 1000000) :
    Calls Tryz.prog 58 #[.pointer (some ⟨B, 0, none⟩), .int .u16 (a : Int)] w fun e w' =>
      e = .returned (.tuple #[.int .u64 ((openedOf a evs).1 : Int), .bool (openedOf a evs).2.1, .int .i64 ((openedOf a evs).2.2 : Int)]) ∧ Below w.heap.size w w' := by
  obtain ⟨ad, cap, hv, hev⟩ := hR.form
  subst hv
  go_enter Tryz.func58, Tryz.ntmps58
  go_wp2
  go_loopw [7, 8, 9, 10] (fun x y z c u => ∃ k : Nat, k ≤ evs.length ∧ c = .int .i64 k ∧ x = .int .u64 ((openedOf a (evs.take k)).1 : Int) ∧ y = .bool (openedOf a (evs.take k)).2.1 ∧ z = .int .i64 ((openedOf a (evs.take k)).2.2 : Int) ∧ Below w.heap.size w u) (fun _ _ _ c _ => evs.length - (intOf c).toNat)
  case atStart => exact ⟨0, Nat.zero_le _, rfl, rfl, rfl, rfl, Below.refl _ _⟩
  case round =>
    obtain ⟨k, hk, rfl, rfl, rfl, rfl, hb⟩ := hrel
    have hRu := hR.below hb
    have hc : ∀ o, _ = _ := fun o => cell_at hRu.blk o
    have hbd := openedOf_bd a (evs.take k) (fun e he => hok e (List.mem_of_mem_take he))
    have hl : (evs.take k).length ≤ k := List.length_take_le _ _
    by_cases hlt : k < evs.length
    · obtain ⟨ad', cap', hv', hev'⟩ := hRu.form
      obtain ⟨g, hg, hcell, _⟩ := hev' k hlt
      have ead : ad = ad' := by injection hv'
      subst ead
      subst hg
      have hs : Hid (openedOf a (evs.take (k + 1)) = openedStep a (openedOf a (evs.take k)) evs[k]) := hide (by rw [take_snoc_ev evs k hlt, openedOf_snoc])
      have c0 := hcell 0 (by decide)
      have c1 := hcell 1 (by decide)
      have c2 := hcell 2 (by decide)
      have c3 := hcell 3 (by decide)
      have c4 := hcell 4 (by decide)
      have c5 := hcell 5 (by decide)
      have c6 := hcell 6 (by decide)
      have c7 := hcell 7 (by decide)
      have c8 := hcell 8 (by decide)
      have c9 := hcell 9 (by decide)
      have c10 := hcell 10 (by decide)
      have hek := hok evs[k] (List.getElem_mem hlt)
      clear hcell hev hev' hv'
      generalize openedOf a (evs.take k) = S at *
      generalize evs[k] = E at *
      obtain ⟨kind, ⟨mk, mf, mt, mi, ml, mp, mg, ma, mm⟩, held⟩ := E
      obtain ⟨s1, s2, s3⟩ := S
      obtain ⟨hk4, hmk, hmf, hmt, hmi, hml, hmp, hmg, hma⟩ := hek
      simp only [Ev.cells, List.getElem?_cons_zero, List.getElem?_cons_succ, Nat.add_zero] at c0 c1 c2 c3 c4 c5 c6 c7 c8 c9 c10 hk4 hmk hmf hmt hmi hml hmp hmg hma hbd
      by_cases hz : kind = 0
      · have dz : ((kind : Int) == 0) = true := by simp; omega
        by_cases hp : mp = a
        · have dp : ((mp : Int) == (a : Int)) = true := by simp; omega
          have hq : Hid (openedOf a (evs.take (k + 1)) = (ma, true, s3 + 1)) := hide (by rw [hs.out]; simp [openedStep, hz, hp])
          clear hs hz hp
          go_wp2
          exact ⟨⟨k + 1, hlt, by go_num, by rw [hq.out], by rw [hq.out], by rw [hq.out]; go_num, hb.alloc hb.size _⟩, by simp [intOf]; omega⟩
        · have dp : ((mp : Int) == (a : Int)) = false := by simp; omega
          have hq : Hid (openedOf a (evs.take (k + 1)) = (s1, s2, s3 + 1)) := hide (by rw [hs.out]; simp [openedStep, hz, hp])
          clear hs hz hp
          go_wp2
          exact ⟨⟨k + 1, hlt, by go_num, by rw [hq.out], by rw [hq.out], by rw [hq.out]; go_num, hb.alloc hb.size _⟩, by simp [intOf]; omega⟩
      · have dz : ((kind : Int) == 0) = false := by simp; omega
        have hq : Hid (openedOf a (evs.take (k + 1)) = (s1, s2, s3)) := hide (by rw [hs.out]; simp [openedStep, hz])
        clear hs hz
        go_wp2
        exact ⟨⟨k + 1, hlt, by go_num, by rw [hq.out], by rw [hq.out], by rw [hq.out], hb.alloc hb.size _⟩, by simp [intOf]; omega⟩
    · obtain rfl : k = evs.length := by omega
      rw [List.take_length]
      rw [List.take_length] at hbd
      go_wp2
      go_ret3
      exact ⟨rfl, hb⟩
end Go.Proofs.YtjkhbjgfoopomaaGreat
