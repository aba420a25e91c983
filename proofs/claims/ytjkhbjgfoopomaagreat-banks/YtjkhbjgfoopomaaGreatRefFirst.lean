/-
  The document's Bank.first and Bank.kept.
-/
import Derived.Test.YtjkhbjgfoopomaaGreatRefLeg
import Derived.BigQuiet
namespace Go.Proofs.YtjkhbjgfoopomaaGreat
open Go.RowKit
set_option linter.unusedVariables false
theorem _root_.Go.RowKit.Below.drewN {B : Nat} {a w : World} (h : Below B a w) (n : Nat) : Below B a (w.drewN n) := ⟨h.os, h.tape, h.output, h.size, h.block⟩

set_option maxRecDepth 100000 in
set_option maxHeartbeats 1000000 in
theorem first_any (i : Nat) (w : World) (B node : Nat) (evs : List Ev) (v : Value) (hR : RB w B node evs v) (hok : ∀ e, e ∈ evs → e.ok) (hlen : evs.length ≤ 1000000) (hi : i < evs.length) :
    Calls Tryz.prog 60 #[.pointer (some ⟨B, 0, none⟩), .int .i64 (i : Int)] w fun e w' =>
      e = .returned (.bool (firstB evs i)) ∧ Below w.heap.size w w' := by
  obtain ⟨ad, cap, hv, hev⟩ := hR.form
  subst hv
  obtain ⟨g, hg, hcell, _⟩ := hev i hi
  subst hg
  have hc : ∀ o, _ = _ := fun o => cell_at hR.blk o
  have i0 := hcell 0 (by decide)
  have hfe := hide (firstB_at hi)
  have hei := hok evs[i] (List.getElem_mem hi)
  have hgi : (i : Int) < (evs.length : Int) := by omega
  clear hcell
  generalize hE : evs[i] = E at *
  have HE := hide hE
  clear hE
  obtain ⟨kind, ⟨ik, jf, it, ii, il, ip, ig, ia, im⟩, iheld⟩ := E
  obtain ⟨ik4, imk, imf, imt, imi, iml, imp, img, ima⟩ := hei
  simp only [Ev.cells, List.getElem?_cons_zero, Nat.add_zero] at i0 ik4 imk imf imt imi iml imp img ima
  by_cases hz : kind = 0
  · have dz : ((kind : Int) == 0) = true := by simp; omega
    have hq : Hid (firstB evs i = false) := hide (by rw [hfe.out]; simp [hz])
    clear hz hfe hev
    go_enter Tryz.func60, Tryz.ntmps60
    go_wp2
    go_ret
    exact ⟨by rw [hq.out]; rfl, Below.refl _ _⟩
  · have dz : ((kind : Int) == 0) = false := by simp; omega
    have hfe2 : Hid (firstB evs i = (evs.take i).all fun x => !ofLeg ii il x) := hide (by rw [hfe.out]; simp [hz])
    clear hz hfe
    go_enter Tryz.func60, Tryz.ntmps60
    go_wp2
    go_loopw [5] (fun c u => ∃ k : Nat, k ≤ i ∧ c = .int .i64 k ∧ ((evs.take k).all fun x => !ofLeg ii il x) = true ∧ Below w.heap.size w u) (fun c _ => i - (intOf c).toNat)
    case atStart => exact ⟨0, Nat.zero_le _, rfl, rfl, Below.refl _ _⟩
    case round =>
      obtain ⟨k, hk, rfl, hall, hb⟩ := hrel
      replace hall := hide hall
      have hRu := hR.below hb
      clear hc i0
      have hc : ∀ o, _ = _ := fun o => cell_at hRu.blk o
      by_cases hlt : k < i
      · have hkl : k < evs.length := by omega
        obtain ⟨ad', cap', hv', hev'⟩ := hRu.form
        obtain ⟨g', hg, hcell, _⟩ := hev' k hkl
        obtain ⟨g2, hg2, icell, _⟩ := hev' i hi
        have ead : some ⟨g, 0, none⟩ = ad' := by injection hv'
        subst ead
        obtain rfl : g = g' := by injection hg with h; injection h
        obtain rfl : g = g2 := by injection hg2 with h; injection h
        rw [HE.out] at icell
        have hBl := hRu.lt
        have hgl : g < wr.heap.size := hRu.row.lt rfl
        have i0 := icell 0 (by decide)
        have i4 := icell 4 (by decide)
        have i5 := icell 5 (by decide)
        have hs : Hid (((evs.take (k + 1)).all fun x => !ofLeg ii il x) = (((evs.take k).all fun x => !ofLeg ii il x) && !ofLeg ii il evs[k])) := hide (by rw [take_snoc_ev evs k hkl, List.all_append]; simp only [List.all_cons, List.all_nil, Bool.and_true])
        have hmem : Hid (evs[k] ∈ evs.take i) := hide (by rw [List.mem_take_iff_getElem]; exact ⟨k, by omega, rfl⟩)
        have c0 := hcell 0 (by decide)
        have c1 := hcell 1 (by decide)
        have c2 := hcell 2 (by decide)
        have c3 := hcell 3 (by decide)
        have c4 := hcell 4 (by decide)
        have c5 := hcell 5 (by decide)
        have c6 := hcell 6 (by decide)
        have c7 := hcell 7 (by decide)
        have c8 := hcell 8 (by decide)
        have c9 := hcell 9 (by decide)
        have c10 := hcell 10 (by decide)
        have hek := hok evs[k] (List.getElem_mem hkl)
        clear hcell icell hev hev' hv' hg hg2 HE
        generalize evs[k] = E at *
        obtain ⟨kk, ⟨mk, mf, mt, mi, ml, mp, mg, ma, mm⟩, held⟩ := E
        obtain ⟨hk4, hmk, hmf, hmt, hmi, hml, hmp, hmg, hma⟩ := hek
        simp only [Ev.cells, List.getElem?_cons_zero, List.getElem?_cons_succ, Nat.add_zero] at i0 i4 i5 c0 c1 c2 c3 c4 c5 c6 c7 c8 c9 c10 hk4 hmk hmf hmt hmi hml hmp hmg hma
        by_cases hkz : kk = 0
        · have ek : ((kk : Int) != 0) = false := by simp; omega
          have hq : Hid (((evs.take (k + 1)).all fun x => !ofLeg ii il x) = true) := hide (by rw [hs.out, hall.out]; simp [ofLeg, hkz])
          clear hs hkz hmem
          go_wp2
          go_quiet (fail)
          go_wp2
          exact ⟨⟨k + 1, hlt, by go_num, hq.out, (hb.alloc hb.size _).drewN _⟩, by simp [intOf]; omega⟩
        · have ek : ((kk : Int) != 0) = true := by simp; omega
          by_cases hmi2 : mi = ii
          · have ei : ((mi : Int) == (ii : Int)) = true := by simp; omega
            by_cases hml2 : ml = il
            · have el : ((ml : Int) == (il : Int)) = true := by simp; omega
              have hq : Hid (firstB evs i = false) := hide (by
                rw [hfe2.out, List.all_eq_false]
                exact ⟨_, hmem.out, by simp [ofLeg, hkz, hmi2, hml2]⟩)
              clear hs hkz hmi2 hml2 hmem
              go_wp2
              go_quiet (fail)
              go_wp2
              go_ret
              exact ⟨by rw [hq.out]; rfl, (hb.alloc hb.size _).drewN _⟩
            · have el : ((ml : Int) == (il : Int)) = false := by simp; omega
              have hq : Hid (((evs.take (k + 1)).all fun x => !ofLeg ii il x) = true) := hide (by rw [hs.out, hall.out]; simp [ofLeg, hml2])
              clear hs hkz hmi2 hml2 hmem
              go_wp2
              go_quiet (fail)
              go_wp2
              exact ⟨⟨k + 1, hlt, by go_num, hq.out, (hb.alloc hb.size _).drewN _⟩, by simp [intOf]; omega⟩
          · have ei : ((mi : Int) == (ii : Int)) = false := by simp; omega
            have hq : Hid (((evs.take (k + 1)).all fun x => !ofLeg ii il x) = true) := hide (by rw [hs.out, hall.out]; simp [ofLeg, hmi2])
            clear hs hkz hmi2 hmem
            go_wp2
            go_quiet (fail)
            go_wp2
            exact ⟨⟨k + 1, hlt, by go_num, hq.out, (hb.alloc hb.size _).drewN _⟩, by simp [intOf]; omega⟩
      · obtain rfl : k = i := by omega
        have hq : Hid (firstB evs k = true) := hide (by rw [hfe2.out]; exact hall.out)
        go_wp2
        go_ret
        exact ⟨by rw [hq.out]; rfl, hb⟩

set_option maxRecDepth 100000 in
set_option maxHeartbeats 1000000 in
theorem kept_any (w : World) (B node : Nat) (evs : List Ev) (v : Value) (hR : RB w B node evs v) (hok : ∀ e, e ∈ evs → e.ok) (hlen : evs.length ≤ 1000000) :
    Calls Tryz.prog 63 #[.pointer (some ⟨B, 0, none⟩)] w fun e w' =>
      e = .returned (.int .i64 ((keysOf evs).length : Int)) ∧ Below w.heap.size w w' := by
  obtain ⟨ad, cap, hv, hev⟩ := hR.form
  subst hv
  clear hev
  go_enter Tryz.func63, Tryz.ntmps63
  go_wp2
  go_loopw [3, 4] (fun x c u => ∃ k : Nat, k ≤ evs.length ∧ c = .int .i64 k ∧ x = .int .i64 ((keysTo evs k).length : Int) ∧ Below w.heap.size w u) (fun _ c _ => evs.length - (intOf c).toNat)
  case atStart => exact ⟨0, Nat.zero_le _, rfl, rfl, Below.refl _ _⟩
  case round =>
    obtain ⟨k, hk, rfl, rfl, hb⟩ := hrel
    have hRu := hR.below hb
    have hc : ∀ o, _ = _ := fun o => cell_at hRu.blk o
    have hkl := keysTo_length evs k
    by_cases hlt : k < evs.length
    · have hy := hide (@keysTo_yes evs k hlt)
      have hn := hide (@keysTo_no evs k hlt)
      have hF := hide (first_any k wr B node evs _ hRu hok hlen hlt)
      generalize hf : firstB evs k = fv at *
      clear hf
      go_wp2_with fail
      refine hF.out.mono ?_
      rintro e w1 ⟨rfl, hb1⟩
      have hb2 := hb.trans (hb1.mono hb.size)
      have hq : Hid ((keysTo evs (k + 1)).length = (keysTo evs k).length + (if fv then 1 else 0)) := hide (by
        cases fv with
        | true => rw [hy.out rfl]; simp
        | false => rw [hn.out rfl]; simp)
      clear hy hn hF hb1 hc
      cases fv with
      | true =>
        go_wp2
        exact ⟨⟨k + 1, hlt, by go_num, by rw [hq.out]; go_num, hb2⟩, by simp [intOf]; omega⟩
      | false =>
        go_wp2
        exact ⟨⟨k + 1, hlt, by go_num, by rw [hq.out]; rfl, hb2⟩, by simp [intOf]; omega⟩
    · obtain rfl : k = evs.length := by omega
      go_wp2
      go_ret
      exact ⟨rfl, hb⟩
end Go.Proofs.YtjkhbjgfoopomaaGreat
