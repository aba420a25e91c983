import Derived.Test.YtjkhbjgfoopomaaGreatG2
import Derived.Test.YtjkhbjgfoopomaaGreatG4
import Derived.Test.YtjkhbjgfoopomaaGreatG7
/-
  The statements' lists: sameList, keep, still.
-/
namespace Go.Proofs.YtjkhbjgfoopomaaGreat
open Go.RowKit
set_option linter.unusedVariables false
set_option linter.unusedSimpArgs false

set_option maxRecDepth 100000 in
set_option maxHeartbeats 1000000 in
theorem sameList_any (xs : List (List UInt8)) (va vb : Value) (hlen : xs.length ≤ 1000000) (w : World) (hA : RowOf w 9 1 txtCell va xs) (hB : RowOf w 9 1 txtCell vb xs) :
    Calls Tryz.prog 32 #[va, vb] w fun e w' => e = .returned (.bool true) ∧ Below w.heap.size w w' := by
  obtain ⟨ad, cap, hv, hev⟩ := hA.form txtCell_length
  obtain ⟨ad2, cap2, hv2, hev2⟩ := hB.form txtCell_length
  subst hv hv2
  go_enter Tryz.func32, Tryz.ntmps32
  go_wp2
  go_loopw [5] (fun c u => ∃ k : Nat, k ≤ xs.length ∧ c = .int .i64 k ∧ Below w.heap.size w u ∧ ∀ p, u.cell? p = w.cell? p) (fun c _ => xs.length - (intOf c).toNat)
  case atStart => exact ⟨0, Nat.zero_le _, rfl, Below.refl _ _, fun _ => rfl⟩
  case round =>
    obtain ⟨k, hk, rfl, hb, hsame⟩ := hrel
    by_cases hlt : k < xs.length
    · obtain ⟨g, hg, hcell, _⟩ := hev k hlt
      obtain ⟨g2, hg2, hcell2, _⟩ := hev2 k hlt
      subst hg hg2
      have c0 := hcell 0 (by decide)
      have c1 := hcell2 0 (by decide)
      simp only [txtCell, List.getElem?_cons_zero, Nat.add_zero, Nat.mul_one] at c0 c1
      rw [← hsame] at c0 c1
      replace hsame := hide hsame
      have hlk : (k : Int) < (xs.length : Int) := by omega
      generalize xs[k] = X at *
      clear hcell hcell2 hev hev2
      go_wp2_with fail
      go_quiet (fail)
      go_wp2
      exact ⟨⟨k + 1, hlt, by go_num, ⟨hb.os, hb.tape, hb.output, hb.size, hb.block⟩, hsame.out⟩, by simp [intOf]; omega⟩
    · obtain rfl : k = xs.length := by omega
      clear hev hev2
      go_wp2
      go_ret
      exact ⟨rfl, hb⟩

/-- one of the lists in the book: the slice, and its length -/
def lstCell (x : Value × Nat) : List Value := [x.1]
theorem lstCell_length (x : Value × Nat) : (lstCell x).length = 1 := rfl
theorem lstInfo : (Tryz.prog.info? 59).map (fun i => (i.zero, i.size, i.bytes)) = some (some (.slice none 0 0), 1, 24) := by kernel_rfl
theorem row_mark (w : World) (v : Value) (M : List UInt8) (n : Nat) (h : RowOf w 9 1 txtCell v (List.replicate n M)) (k : Nat) (hk : k < n) : ∃ g cap, v = .slice (some ⟨g, 0, none⟩) n cap ∧ w.cell? ⟨g, k, none⟩ = some (.string (bs M)) := by
  obtain ⟨ad, cap, hv, hev⟩ := h.form txtCell_length
  obtain ⟨g, rfl, hcell, _⟩ := hev k (by simpa using hk)
  have c0 := hcell 0 (by decide)
  simp only [txtCell, List.getElem_replicate, List.getElem?_cons_zero, Nat.add_zero, Nat.mul_one] at c0
  exact ⟨g, cap, by rw [hv, List.length_replicate], c0⟩

set_option maxRecDepth 100000 in
set_option maxHeartbeats 1000000 in
theorem still_any (w : World) (Wb : Nat) (lg : Bool) (vb vd vl : Value) (ll : List (Value × Nat)) (hW : w.heap[Wb]? = some (.cells #[.bool lg, vb, vd, vl] 30 (0, 0))) (hL : RowOf w 59 1 lstCell vl ll) (hlen : ll.length ≤ 3999999999000)
    (hrows : ∀ i (hi : i < ll.length), ll[i].2 ≤ 1000000 ∧ RowOf w 9 1 txtCell ll[i].1 (List.replicate ll[i].2 (markB (i / 4 + 1)))) :
    Calls Tryz.prog 8 #[.pointer (some ⟨Wb, 0, none⟩)] w fun e w' => e = .returned (.bool true) ∧ Below w.heap.size w w' := by
  obtain ⟨ad, cap, hv, hev⟩ := hL.form lstCell_length
  subst hv
  clear hev
  go_enter Tryz.func8, Tryz.ntmps8
  go_wp2
  go_loopw [3] (fun c u => ∃ k : Nat, k ≤ ll.length ∧ c = .int .i64 k ∧ Below w.heap.size w u) (fun c _ => ll.length - (intOf c).toNat)
  case atStart => exact ⟨0, Nat.zero_le _, rfl, Below.refl _ _⟩
  case round =>
    obtain ⟨k, hk, rfl, hb⟩ := hrel
    have hWu : wr.heap[Wb]? = _ := (hb.block Wb (block_lt hW)).trans hW
    have hLu := hL.below hb
    have hc : ∀ o, _ = _ := fun o => cell_at hWu o
    have hWl := block_lt hWu
    by_cases hlt : k < ll.length
    · obtain ⟨ad', cap', hv', hev'⟩ := hLu.form lstCell_length
      obtain ⟨g, hg, hcell, _⟩ := hev' k hlt
      have ead : ad = ad' := by injection hv'
      subst ead
      subst hg
      have hgl : g < wr.heap.size := hLu.lt rfl
      have c0 := hcell 0 (by decide)
      simp only [lstCell, List.getElem?_cons_zero, Nat.add_zero, Nat.mul_one] at c0
      obtain ⟨hn6, hrow⟩ := hrows k hlt
      have hM := hide (fun u => mark_any (k / 4 + 1) (by omega) u)
      rw [show ((k / 4 + 1 : Nat) : Int) = (k : Int) / 4 + 1 by omega] at hM
      have hrow1 := hrow.below hb
      obtain ⟨lad, lcap, hlv⟩ := hrow.slice
      rw [List.length_replicate] at hlv
      generalize hEl : ll[k] = E at *
      obtain ⟨lv, n⟩ := E
      simp only at hn6 hrow hrow1 hlv c0
      subst hlv
      clear hcell hev' hv' hrow
      generalize markB (k / 4 + 1) = M at *
      go_wp2_with fail
      refine (hM.out _).mono ?_
      rintro e w1 ⟨rfl, hb1⟩
      have hW1 : w1.heap[Wb]? = _ := (hb1.block Wb (block_lt hWu)).trans hWu
      have c1 : w1.cell? ⟨g, k, none⟩ = _ := (hb1.cell (p := ⟨g, k, none⟩) hgl).trans c0
      have hrow2 := hrow1.below hb1
      have hgl1 : g < w1.heap.size := Nat.lt_of_lt_of_le hgl hb1.size
      have hb2 := hb.trans (hb1.mono hb.size)
      clear hc hM hrow1 c0
      have hc : ∀ o, _ = _ := fun o => cell_at hW1 o
      go_wp2
      go_loopw [5] (fun c u => ∃ j : Nat, j ≤ n ∧ c = .int .i64 j ∧ u.heap = w1.heap ∧ Below w.heap.size w u) (fun c _ => n - (intOf c).toNat)
      case atStart => exact ⟨0, Nat.zero_le _, rfl, rfl, hb2⟩
      case round =>
        obtain ⟨j, hj, rfl, hheap, hb3⟩ := hrel
        have hW3 : wr.heap[Wb]? = _ := (congrArg (fun h => h[Wb]?) hheap).trans hW1
        have c3 : wr.cell? ⟨g, k, none⟩ = _ := (World.cell?_of_block (congrArg (fun h => h[g]?) hheap)).trans c1
        clear hc
        have hc : ∀ o, _ = _ := fun o => cell_at hW3 o
        have hheap' := hide hheap
        by_cases hjl : j < n
        · obtain ⟨g2, cap2, hvv, cj⟩ := row_mark w1 _ M n hrow2 j hjl
          injection hvv with hv1 hv2 hv3
          subst hv1
          have c4 : wr.cell? ⟨g2, j, none⟩ = _ := (World.cell?_of_block (congrArg (fun h => h[g2]?) hheap)).trans cj
          clear hheap hW3 hW1 hWu hW hrow2 hL hLu hrows c1 cj
          have hjn : (j : Int) < (n : Int) := by omega
          go_wp2
          exact ⟨⟨j + 1, hjl, by go_num, hheap'.out, hb3⟩, by simp [intOf]; omega⟩
        · obtain rfl : j = n := by omega
          clear hheap hW3 hW1 hWu hW hrow2 hL hLu hrows c1
          go_wp2
          exact ⟨⟨k + 1, hlt, by go_num, hb3⟩, by simp [intOf]; omega⟩
    · obtain rfl : k = ll.length := by omega
      go_wp2
      go_ret
      exact ⟨rfl, hb⟩

end Go.Proofs.YtjkhbjgfoopomaaGreat
