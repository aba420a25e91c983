import Derived.Test.YtjkhbjgfoopomaaGreatXReport
import Derived.Test.YtjkhbjgfoopomaaGreatGHandleErr
import Derived.Test.YtjkhbjgfoopomaaGreatXOpen
import Derived.Deep.RegionHeld3
/-
  The program's Bank.Tick.
-/
namespace Go.Proofs.YtjkhbjgfoopomaaGreat
open Go.RowKit
set_option linter.unusedVariables false
set_option linter.unusedSimpArgs false

theorem strInfo : (Tryz.prog.info? 9).map (fun i => (i.zero, i.size, i.bytes)) = some (some (.string ByteArray.empty), 1, 16) := by kernel_rfl
theorem str_one (e : List UInt8) : ∀ u ∈ strCell e, u.oneCell' = true := by
  intro u hu
  simp only [strCell, List.mem_cons, List.not_mem_nil, or_false] at hu
  subst hu
  rfl
/-- the frames of all legs that are held, in the list's order -/
def tickL (node : Nat) (ls : List Lg) : List (List UInt8) := (ls.filter fun x => decide (x.st = 1)).map fun x => ansOf node x.id x.l 1
theorem tickL_yes (node : Nat) (ls : List Lg) (k : Nat) (hk : k < ls.length) (h : ls[k].st = 1) : tickL node (ls.take (k + 1)) = tickL node (ls.take k) ++ [ansOf node ls[k].id ls[k].l 1] := by
  unfold tickL
  rw [List.take_succ_eq_append_getElem hk, List.filter_append, List.map_append]
  simp [h]
theorem tickL_no (node : Nat) (ls : List Lg) (k : Nat) (hk : k < ls.length) (h : ls[k].st ≠ 1) : tickL node (ls.take (k + 1)) = tickL node (ls.take k) := by
  unfold tickL
  rw [List.take_succ_eq_append_getElem hk, List.filter_append, List.map_append]
  simp [h]
theorem tickL_length (node : Nat) (ls : List Lg) : (tickL node ls).length ≤ ls.length := by
  unfold tickL
  rw [List.length_map]
  exact List.length_filter_le _ _
theorem str_empty (w : World) : RowOf (w.alloc (.cells #[] 9)) 9 1 strCell (.slice (some ⟨w.heap.size, 0, none⟩) 0 0) [] :=
  ⟨rfl, .inr ⟨w.heap.size, 0, #[], rfl, Nat.zero_le _, heap_alloc_self _ _, Nat.le_refl _, by unfold maxLen; omega, rfl, rfl⟩⟩

set_option maxRecDepth 100000 in
set_option maxHeartbeats 1000000 in
theorem xTick_any (w : World) (B node : Nat) (hnode : 1 ≤ node ∧ node ≤ 7) (ac : List Ac) (ls : List Lg) (va vl : Value) (hX : XB w B node ac ls va vl) (hok : ∀ x, x ∈ ls → x.ok) (hl4 : ∀ x, x ∈ ls → x.l < 4) (hlen : ls.length ≤ 1000000) :
    Calls Tryz.prog 66 #[.pointer (some ⟨B, 0, none⟩)] w fun e w' => (∃ lv, e = .returned lv ∧ RowOf w' 9 1 strCell lv (tickL node ls) ∧ ∀ g, lv.ownBlock = some g → w.heap.size ≤ g) ∧ Below w.heap.size w w' := by
  obtain ⟨ad, cap, hv, hev⟩ := hX.lrow.form Lg.cells_length
  obtain ⟨i0, hi0, y0, y1, y2⟩ := info_parts strInfo
  subst hv
  clear hev
  have hc : ∀ o, _ = _ := fun o => cell_at hX.blk o
  have hBl := hX.lt
  go_enter Tryz.func66, Tryz.ntmps66
  go_wp2
  go_loopw [3, 12] (fun v c u => ∃ k : Nat, k ≤ ls.length ∧ c = .int .i64 k ∧ (∃ g cap', v = .slice (some ⟨g, 0, none⟩) (tickL node (ls.take k)).length cap' ∧ w.heap.size ≤ g ∧ RowOf u 9 1 strCell (.slice (some ⟨g, 0, none⟩) (tickL node (ls.take k)).length cap') (tickL node (ls.take k))) ∧ Below w.heap.size w u) (fun _ c _ => ls.length - (intOf c).toNat)
  case atStart => exact ⟨0, Nat.zero_le _, rfl, ⟨_, _, rfl, Nat.le_refl _, str_empty w⟩, (Below.refl _ _).alloc (Nat.le_refl _) _⟩
  case round =>
    obtain ⟨k, hk, rfl, ⟨gl, capl, rfl, hgl, hrow⟩, hb⟩ := hrel
    have hXu := hX.below hb
    clear hc
    have hc : ∀ o, _ = _ := fun o => cell_at hXu.blk o
    have hBu := hXu.lt
    by_cases hlt : k < ls.length
    · obtain ⟨ad', cap', hv', hev'⟩ := hXu.lrow.form Lg.cells_length
      obtain ⟨g, hg, hcell, _⟩ := hev' k hlt
      have ead : ad = ad' := by injection hv'
      subst ead
      subst hg
      have hgu : g < wr.heap.size := hXu.lrow.lt rfl
      have hy := hide (tickL_yes node ls k hlt)
      have hn := hide (tickL_no node ls k hlt)
      have c0 := hcell 0 (by decide)
      have c1 := hcell 1 (by decide)
      have c2 := hcell 2 (by decide)
      have hek := hok ls[k] (List.getElem_mem hlt)
      have h4 := hl4 ls[k] (List.getElem_mem hlt)
      have htl : (tickL node (ls.take k)).length ≤ k := Nat.le_trans (tickL_length _ _) (List.length_take_le _ _)
      clear hcell hev' hv'
      generalize ls[k] = E at *
      obtain ⟨ei, el, es, ep, eg, ea, em⟩ := E
      obtain ⟨h1, h2, h3, _, _, _⟩ := hek
      simp only [Lg.cells, List.getElem?_cons_zero, List.getElem?_cons_succ, Nat.add_zero] at c0 c1 c2 h1 h2 h3 h4
      simp only at hy hn
      generalize tickL node (ls.take k) = L at *
      have hlk : (k : Int) < (ls.length : Int) := by omega
      by_cases hst : es = 1
      · have dst : ((es : Int) == 1) = true := by simp; omega
        have hq : Hid (tickL node (ls.take (k + 1)) = L ++ [ansOf node ei el 1]) := hide (hy.out hst)
        have hRp := hide (fun u (hu : (u.cell? ⟨B, 2, none⟩ = some (.slice (some ⟨g, 0, none⟩) ls.length cap) ∧ u.cell? ⟨g, k * 7, none⟩ = some (.int .u32 (ei : Int)) ∧ u.cell? ⟨g, k * 7 + 1, none⟩ = some (.int .u8 (el : Int))) ∧ Below wr.heap.size wr u) => report_any ei el 1 h1 h4 (by omega) u B node hnode ac ls _ _ (hXu.below hu.2))
        change Hid (∀ u, _ → Calls Tryz.prog 97 #[.pointer (some ⟨B, 0, none⟩), .int .u32 (ei : Int), .int .u8 (el : Int), .int .u8 1] u _) at hRp
        have b2 : wr.cell? ⟨B, 2, none⟩ = some (.slice (some ⟨g, 0, none⟩) ls.length cap) := hc 2
        generalize ansOf node ei el 1 = A at *
        clear hy hn hst
        go_wp2_with fail
        go_region_held3 (fun u => (u.cell? ⟨B, 2, none⟩ = some (.slice (some ⟨g, 0, none⟩) ls.length cap) ∧ u.cell? ⟨g, k * 7, none⟩ = some (.int .u32 (ei : Int)) ∧ u.cell? ⟨g, k * 7 + 1, none⟩ = some (.int .u8 (el : Int))) ∧ Below wr.heap.size wr u)
          (first
            | with_reducible exact keep3_drew ⟨b2, c0, c1⟩
            | with_reducible exact keep3_call hBu hgu hgu (by assumption) hb9)
          (first
            | (go_at_call 97; refine (hRp.out _ ?_).mono ?_; assumption; rintro e u2 ⟨rfl, hb9⟩))
        have hb2 := hb.trans ((undrew hb9).mono hb.size)
        have hrow2 := hrow.below (undrew hb9)
        clear hRp hb9 hc c0 c1 c2 b2 hrow
        go_wp2_with (first
          | (at_builtin; refine wpList_row strCell_length u2 (by rfl) _ _ 59 (by rfl) 9 i0 _ 16 Tryz.underlying59 hi0 y0 y1 y2 rfl (by decide) (.slice (some ⟨gl, 0, none⟩) L.length capl) L (by rfl) hrow2 1 A (by rfl) (str_one _) (by unfold maxLen; omega) (by omega) ?_ _ (by rfl); intro g9 cap9 w9 hrow9 hk9 hg9 hlt9; have X : Hid (RowOf w9 9 1 strCell (.slice (some ⟨g9, 0, none⟩) (L.length + 1) cap9) (L ++ [A]) ∧ Kept (fun k => (Value.slice (some ⟨gl, 0, none⟩) L.length capl).ownBlock = some k) u2 w9 ∧ ((Value.slice (some ⟨gl, 0, none⟩) L.length capl).ownBlock = some g9 ∨ u2.heap.size ≤ g9)) := hide ⟨hrow9, hk9, hg9⟩; clear hrow9 hk9 hg9))
        have hown : ∀ k', (Value.slice (some ⟨gl, 0, none⟩) L.length capl).ownBlock = some k' → w.heap.size ≤ k' := fun k' h' => by
          have : k' = gl := by simpa [Value.ownBlock] using h'.symm
          omega
        have hg9 : w.heap.size ≤ g9 := X.out.2.2.elim (hown g9) (fun h => Nat.le_trans hb2.size h)
        have hb9 := hb2.trans (X.out.2.1.below hb2.size hown)
        refine ⟨⟨k + 1, hlt, by go_num, ⟨g9, cap9, by rw [hq.out, List.length_append]; rfl, hg9, ?_⟩, hb9⟩, by simp [intOf]; omega⟩
        rw [hq.out, List.length_append]
        exact X.out.1
      · have dst : ((es : Int) == 1) = false := by simp; omega
        have hq : Hid (tickL node (ls.take (k + 1)) = L) := hide (hn.out hst)
        clear hy hn hst
        go_wp2
        exact ⟨⟨k + 1, hlt, by go_num, ⟨gl, capl, by rw [hq.out], hgl, by rw [hq.out]; exact hrow⟩, hb⟩, by simp [intOf]; omega⟩
    · obtain rfl : k = ls.length := by omega
      simp only [List.take_length] at hrow ⊢
      go_wp2
      go_ret
      exact ⟨⟨_, rfl, hrow, fun g' h' => by have : g' = gl := by simpa [Value.ownBlock] using h'.symm
                                            subst this
                                            exact hgl⟩, hb⟩
end Go.Proofs.YtjkhbjgfoopomaaGreat
/-
  The program's escrow.Bank.Tick.
-/
namespace Go.Proofs.YtjkhbjgfoopomaaGreat
open Go.RowKit
set_option linter.unusedVariables false
set_option linter.unusedSimpArgs false
/-- a fresh list of these texts -/
def FreshL (w : World) (outs : List (List UInt8)) (w' : World) (lv : Value) : Prop := RowOf w' 9 1 strCell lv outs ∧ ∀ g, lv.ownBlock = some g → w.heap.size ≤ g
set_option maxRecDepth 100000 in
set_option maxHeartbeats 1000000 in
theorem eTick_any (w : World) (B node : Nat) (hnode : 1 ≤ node ∧ node ≤ 7) (ac : List Ac) (ls : List Lg) (va vl : Value) (hX : XB w B node ac ls va vl) (hok : ∀ x, x ∈ ls → x.ok) (hl4 : ∀ x, x ∈ ls → x.l < 4) (hlen : ls.length ≤ 1000000) :
    Calls Tryz.prog 34 #[.pointer (some ⟨B, 0, none⟩)] w fun e w' => (∃ lv, e = .returned lv ∧ FreshL w (tickL node ls) w' lv) ∧ Below w.heap.size w w' := by
  have hT := hide (xTick_any w B node hnode ac ls va vl hX hok hl4 hlen)
  have hc : ∀ o, _ = _ := fun o => cell_at hX.blk o
  go_enter Tryz.func34, Tryz.ntmps34
  go_wp2_with fail
  refine hT.out.mono ?_
  rintro e w1 ⟨⟨lv, rfl, h1, h2⟩, hb⟩
  have H : Hid (FreshL w (tickL node ls) w1 lv) := hide ⟨h1, h2⟩
  clear h1 h2 hT hc
  go_wp2
  go_ret
  exact ⟨⟨lv, rfl, H.out⟩, hb⟩
end Go.Proofs.YtjkhbjgfoopomaaGreat
