import Derived.Test.YtjkhbjgfoopomabGreatS51
import Derived.Test.YtjkhbjgfoopomabGreatS52
/-
  The statement Settled: the walk.
-/
namespace Go.Proofs.YtjkhbjgfoopomabGreat
open Go.RowKit
set_option linter.unusedVariables false
set_option linter.unusedSimpArgs false
/-- ahead of tick k of round i -/
def SetJ (fs : List Int) (i k : Nat) (P : PN) : Prop :=
  Sound fs P ∧ Ful P ∧ (i < 3 → clockOf P.A + 3 ≤ 1000000 + i + (if k = 0 then 0 else 1)) ∧ ((i < 3 ∧ 1 ≤ k) ∨ (1 ≤ i ∧ i ≤ 3 ∧ k = 0) → Owed P)
theorem clock_arrive (P : PN) (m : Msg) : clockOf (arriveTo P m).A = clockOf P.A := by
  unfold arriveTo
  split
  · rfl
  · rename_i h
    exact clock_other (msg_kind (m := m) (by omega)).2
theorem set_rolls (fs : List Int) : Rolls (SetJ fs) := by
  refine ⟨fun i k Q h => h.1.clk, fun i Q ms G h hT G' => ?_, fun i k Q ac ls k1 k3 G hr h => ?_, fun i Q m rest G h hw => ?_, fun i Q G h hw => ?_⟩
  · obtain ⟨ck, ps, hd⟩ := G'.dr
    have hd' : DRel (kActs Q.A) ck ps := hd
    refine ⟨h.1.tick hT hd', h.2.1.tick ms, fun hi => ?_, fun hh => ?_⟩
    · have hc := h.2.2.1 hi
      simp only [if_true] at hc
      rw [if_neg (by omega)]
      show clockOf (kActs Q.A) + 3 ≤ _
      rw [show kActs Q.A = Q.A ++ [tickAct] from if_neg (by omega), clockOf_snoc]
      unfold clockStep
      split <;> omega
    · have hi : i < 3 := by omega
      have hc := h.2.2.1 hi
      simp only [if_true] at hc
      exact Owed.tick hT (by omega) hd'
  · obtain ⟨ck, ps, hd⟩ := G.dr
    refine ⟨h.1.tickB hd ⟨k1, k3⟩ hr, h.2.1.same rfl, fun hi => ?_, fun hh => ?_⟩
    · have hc := h.2.2.1 hi
      rw [if_neg (by omega)] at hc ⊢
      exact hc
    · exact (h.2.2.2 (.inl ⟨by omega, k1⟩)).more rfl (fun y hy => List.mem_append_left _ hy)
  · refine ⟨Sound.steady fs Q m rest G h.1 hw, Ful.steady Q m rest G h.2.1 hw, fun hi => ?_, fun hh => ?_⟩
    · rw [clock_arrive]
      exact h.2.2.1 hi
    · exact Owed.steady Q m rest G (h.2.2.2 hh) hw
  · refine ⟨h.1, h.2.1, fun hi => ?_, fun hh => ?_⟩
    · have hc := h.2.2.1 (by omega)
      simp only [if_true]
      rw [if_neg (by omega)] at hc
      omega
    · exact h.2.2.2 (.inl ⟨by omega, by omega⟩)
set_option maxRecDepth 100000 in
set_option maxHeartbeats 2000000 in
theorem settled_walk (w : World) (fv : Value) (fs : List Int) (hF : FundsAt w fv fs) (sv : Value) (ss : List Stp) (hSS : Steps w sv ss) :
    Calls Tryz.prog 4 #[fv, sv] w fun e w' => e = .returned (.bool true) ∧ Below w.heap.size w w' := by
  obtain ⟨ad, cap, rfl, hst⟩ := hSS.at
  have hsok := hide hSS.ok
  have hslen := hSS.len
  replace hst := hide hst
  have hNe := hide (network_any w fv fs hF)
  have hPd := hide (fun u => paid_any u)
  clear hSS hF
  go_enter Tryz.func4, Tryz.ntmps4
  go_wp2_with fail
  refine hNe.out.mono ?_
  rintro e w2 ⟨nb, own, M, rfl, hnb, I2, ho2, hb2⟩
  have S2 := hide (RunSt.start (w := w) I2 ho2 hb2)
  clear hNe I2 ho2 hb2 hnb
  go_wp2_with fail
  refine (hPd.out _).mono ?_
  rintro e w3 ⟨rfl, hb3⟩
  have S3 := hide (S2.out.below hb3)
  clear S2 hPd hb3
  go_wp2_with fail
  go_loopw [6, 8] (fun okv c u => okv = .bool true ∧ ∃ k : Nat, k ≤ ss.length ∧ c = .int .i64 (k : Int) ∧ ∃ own M P, RunSt w u nb fs k own M P) (fun _ c _ => ss.length + 1 - (intOf c).toNat)
  case atStart => exact ⟨rfl, 0, Nat.zero_le _, rfl, _, _, _, S3.out⟩
  case round =>
    clear S3
    obtain ⟨rfl, k, hk, rfl, own, M, P, S⟩ := hrel
    by_cases hlt : k < ss.length
    · have hki : (k : Int) < (ss.length : Int) := by omega
      have dk : decide ((k : Int) < (ss.length : Int)) = true := by simp; omega
      obtain ⟨a, la, lc, ea, hL, hcs⟩ := hst.out k hlt
      subst ea
      obtain ⟨c0, c1, c2, c3⟩ := hcs wr S.bel
      have hPl := hide (S.play (by omega) ss[k] (hsok.out _ (List.getElem_mem hlt)) la lc hL)
      clear hcs S hL
      generalize ss[k] = X at *
      obtain ⟨xk, xa, xb, xl⟩ := X
      simp only at c0 c1 c2 c3
      go_wp2_with fail
      refine hPl.out.mono ?_
      rintro e w4 ⟨rfl, own4, M4, P4, S4, _, _⟩
      replace S4 := hide S4
      clear hPl c0 c1 c2 c3
      go_wp2
      exact ⟨⟨rfl, k + 1, hlt, by go_num, own4, M4, P4, S4.out⟩, by simp [intOf]; omega⟩
    · obtain rfl : k = ss.length := by omega
      have dk : decide ((ss.length : Int) < (ss.length : Int)) = false := by simp
      have hCl := hide (eClock_any wr M.db M.ck M.ps M.xv S.net.deed.x)
      have hc4 : wr.cell? ⟨nb, 4, none⟩ = some (.pointer (some ⟨M.db, 0, none⟩)) := cell_at S.net.blk 4
      have hnl := S.net.lt
      have hclk := hide S.net.deed.rel.clk
      by_cases hcl : 999997 < M.ck
      · have dc : decide ((M.ck : Int) > 999997) = true := by simp; omega
        have dc' : decide ((999997 : Int) < (M.ck : Int)) = true := by simp; omega
        have hC := hide (covered_any wr own nb M fs P S.net S.sound)
        have hbl := hide S.bel
        clear S
        go_wp2_with fail
        refine hCl.out.mono ?_
        rintro e u9 ⟨rfl, hu9⟩
        obtain rfl : wr = u9 := hu9.symm
        clear hCl hu9
        go_wp2_with fail
        refine hC.out.mono ?_
        rintro e w4 ⟨rfl, hb4⟩
        clear hC
        go_wp2
        go_ret
        exact ⟨rfl, hbl.out.trans (hb4.mono hbl.out.size)⟩
      · have dc : decide ((M.ck : Int) > 999997) = false := by simp; omega
        have dc' : decide ((999997 : Int) < (M.ck : Int)) = false := by simp; omega
        have hJ0 : SetJ fs 0 0 P := ⟨S.sound, S.ful, fun _ => by rw [← hclk.out]; simp only [if_true]; omega, fun h => by omega⟩
        have hR := hide (rounds_any (set_rolls fs) wr own nb 3 (by omega) wr ⟨own, M, P, S.net, Frame.refl _ _, S.sound.inv, hJ0, by have := S.wl; omega, fun q => by have := S.ll q; omega, fun h => absurd h (Nat.lt_irrefl 0)⟩)
        have hfr := hide (fun u own' (F : Frame wr u own own') => (S.frame F).2)
        clear S hJ0
        go_wp2_with fail
        refine hCl.out.mono ?_
        rintro e u9 ⟨rfl, hu9⟩
        obtain rfl : wr = u9 := hu9.symm
        clear hCl hu9
        go_wp2_with fail
        refine hR.out.mono ?_
        rintro e w4 ⟨rfl, own4, M4, P4, I4, F4, hI4, hJ4, _, _, hw4⟩
        have hwe := hw4 (by omega) rfl
        have O4 := hJ4.2.2.2 (.inr ⟨by omega, by omega, rfl⟩)
        have hb4 := hfr.out _ _ F4
        have hSet := hide (fun (i : Nat) (hi : i ≤ 6) u (hu : Below w4.heap.size w4 u) => settled_any u own4 nb M4 P4 (I4.below hu) hI4 O4 hJ4.2.1 hwe i (by omega))
        have hFu := hide (fun (i a : Nat) (h1 : 1 ≤ i) (h3 : i ≤ 3) (ha : a < 3) u (hu : Below w4.heap.size w4 u) => eFundsR_any a (by omega) u (M4.bk i).b i _ _ _ _ (P4.E i) ((I4.bank i h1 h3).x.below hu) (I4.bank i h1 h3).rel (hJ4.1.open3 h1 h3 ha))
        have hZ := hide (fun (i a : Nat) (h1 : 1 ≤ i) (h3 : i ≤ 3) => end_funds O4 hJ4.2.1 (I4.good hI4) hwe h1 h3 a)
        have hCv := hide (fun u (hu : Below w4.heap.size w4 u) => covered_any u own4 nb M4 fs P4 (I4.below hu) hJ4.1)
        have hcb := hide (fun (i : Nat) (h1 : 1 ≤ i) (h3 : i ≤ 3) u (hu : Below w4.heap.size w4 u) => show u.cell? ⟨nb, i, none⟩ = some (.pointer (some ⟨(M4.bk i).b, 0, none⟩)) from by rw [cell_at (I4.below hu).blk i]; exact bank_ptr h1 h3 (Nat.le_refl 3))
        have hn4 := I4.lt
        replace hb4 := hide hb4
        clear hR hfr I4 F4 hI4 hJ4 hw4 hwe O4 hc4 hnl
        go_wp2_with fail
        go_loopw [9] (fun c u => ∃ i : Nat, 1 ≤ i ∧ i ≤ 7 ∧ c = .int .i64 (i : Int) ∧ Below w4.heap.size w4 u) (fun c _ => 8 - (intOf c).toNat)
        case atStart => exact ⟨1, by omega, by omega, rfl, Below.refl _ _⟩
        case round =>
          obtain ⟨i, hi1, hi7, rfl, hb⟩ := hrel
          by_cases h6 : i ≤ 6
          · have d1 : decide ((i : Int) ≤ 6) = true := by simp; omega
            have d2 : (i : Int) ≤ 6 := by omega
            have hm : (i : Int) % 4294967296 = (i : Int) := by omega
            have hC := hide (hSet.out i h6 wr hb)
            clear hSet hFu hZ hCv hcb
            go_wp2_with fail
            refine hC.out.mono ?_
            rintro e w5 ⟨rfl, hb5⟩
            have hb6 := hide (hb.trans (hb5.mono hb.size))
            clear hC hb hb5
            go_wp2
            exact ⟨⟨i + 1, by omega, by omega, by go_num, hb6.out⟩, by simp [intOf]; omega⟩
          · have e7 : decide ((i : Int) ≤ 6) = false := by simp; omega
            have e7' : ¬ (i : Int) ≤ 6 := by omega
            obtain ⟨jj, hjj⟩ : ∃ jj : Int, jj = (i : Int) := ⟨_, rfl⟩
            rw [← hjj] at e7 e7' ⊢
            clear hjj h6 hi1 hi7
            replace hb := hide hb
            clear hSet
            go_wp2_with fail
            go_loopw [10] (fun c u => ∃ i : Nat, 1 ≤ i ∧ i ≤ 4 ∧ c = .int .i64 (i : Int) ∧ Below w4.heap.size w4 u) (fun c _ => 5 - (intOf c).toNat)
            case atStart => exact ⟨1, by omega, by omega, rfl, hb.out⟩
            case round =>
              clear hb
              obtain ⟨i, hi1, hi4, rfl, hb⟩ := hrel
              by_cases hi3 : i ≤ 3
              · have d1 : decide ((i : Int) ≤ 3) = true := by simp; omega
                have hiI : (i : Int) < 4 := by omega
                have hiJ : (i : Int) ≤ 3 := by omega
                replace hb := hide hb
                go_wp2_with fail
                go_loopw [11] (fun c u => ∃ a : Nat, a ≤ 3 ∧ c = .int .i64 (a : Int) ∧ Below w4.heap.size w4 u) (fun c _ => 4 - (intOf c).toNat)
                case atStart => exact ⟨0, by omega, rfl, hb.out⟩
                case round =>
                  clear hb
                  obtain ⟨a, ha, rfl, hb⟩ := hrel
                  by_cases ha3 : a < 3
                  · have d2 : decide ((a : Int) < 3) = true := by simp; omega
                    have d3 : (a : Int) < 3 := by omega
                    have hm : (a : Int) % 65536 = (a : Int) := by omega
                    have hC := hFu.out i a hi1 hi3 ha3 wr hb
                    have hcw := hcb.out i hi1 hi3 wr hb
                    obtain ⟨q1, q2⟩ := hZ.out i a hi1 hi3
                    rw [q1, q2] at hC
                    have hnr : nb < wr.heap.size := Nat.lt_of_lt_of_le hn4 hb.size
                    generalize balOf a (P4.E i) = x at *
                    have hC' : Hid (Calls Tryz.prog 15 #[.pointer (some ⟨(M4.bk i).b, 0, none⟩), .int .u16 (a : Int)] wr fun e w' => e = .returned (.tuple #[.agg #[.int .u32 (x : Int), .int .u32 0, .int .u32 0], .int .i64 0]) ∧ Below wr.heap.size wr w') := hide hC
                    clear hFu hZ hCv hcb hC q1 q2
                    go_wp2_with fail
                    refine hC'.out.mono ?_
                    rintro e u1 ⟨rfl, hb1⟩
                    have B1 := Box.mk0 u1 #[.int .u32 (x : Int), .int .u32 0, .int .u32 0] 49
                    have hc1 := B1.cell
                    have hl1 := B1.lt
                    have hb2 := hide ((hb.trans (hb1.mono hb.size)).alloc (by have := hb.size; have := hb1.size; omega) (.cells #[.int .u32 (x : Int), .int .u32 0, .int .u32 0] 49))
                    clear hC' hb hb1 hcw
                    go_wp2
                    exact ⟨⟨a + 1, by omega, by go_num, hb2.out⟩, by simp [intOf]; omega⟩
                  · obtain rfl : a = 3 := by omega
                    replace hb := hide hb
                    clear hFu hZ hCv hcb
                    go_wp2
                    exact ⟨⟨i + 1, by omega, by omega, by go_num, hb.out⟩, by simp [intOf]; omega⟩
              · obtain rfl : i = 4 := by omega
                have hC := hide (hCv.out wr hb)
                have hbl := hide (hb4.out.trans (hb.mono hb4.out.size))
                clear hFu hZ hCv hcb hb
                go_wp2_with fail
                refine hC.out.mono ?_
                rintro e w6 ⟨rfl, hb6⟩
                clear hC
                go_wp2
                go_ret
                exact ⟨rfl, hbl.out.trans (hb6.mono hbl.out.size)⟩
end Go.Proofs.YtjkhbjgfoopomabGreat
