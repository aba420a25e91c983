import Derived.Test.YtjkhbjgfoopomaaA49
import Derived.Deep.RegionHeld3
/-
  The statement Ahead: the walk, for the notary.
-/
namespace Go.Proofs.Ytjkhbjgfoopomaa
open Go.RowKit
set_option linter.unusedVariables false
set_option linter.unusedSimpArgs false
set_option maxRecDepth 100000 in
set_option maxHeartbeats 2000000 in
theorem ahead_walk0 (w : World) (log : ByteArray) (hlog : log.size ≤ 1048576) (wh : Int) (hwh : i64ok wh) (hk0 : pickN wh 4 = 0) (fv : Value) (fs : List Int) (hF : FundsAt w fv fs) (sv : Value) (ss : List Stp) (hSS : Steps w sv ss) :
    Calls Try.prog 12 #[.string log, .int .i64 wh, fv, sv] w fun e w' => e = .returned (.bool true) ∧ Below w.heap.size w w' := by
  obtain ⟨ad, cap, rfl, hst⟩ := hSS.at
  have hsok := hide hSS.ok
  have hslen := hSS.len
  replace hst := hide hst
  have hNe := hide (fun u (hu : Below w.heap.size w u) => network_any u fv fs (hF.below hu))
  have hPd := hide (fun u => paid_any u)
  have hp4 := hide (fun u => kpick_any wh hwh 4 (by omega) (by omega) u)
  have hp3 := hide (fun u => kpick_any wh hwh 3 (by omega) (by omega) u)
  rw [hk0] at hp4
  clear hk0
  have hk3 : pickN wh 3 < 3 := Nat.mod_lt _ (by omega)
  have hD := hide (fun u => deed_ahead log (by omega) u)
  generalize pickN wh 3 = k3 at *
  have hBk0 := fun u => bank_ahead (1 + k3) ⟨by omega, by omega⟩ log (by omega) u
  simp only [show ((1 + k3 : Nat) : Int) = 1 + (k3 : Int) from by omega] at hBk0
  have hBk := hide hBk0
  clear hBk0
  clear hSS hF
  go_enter Try.func12, Try.ntmps12
  go_wp2_with fail
  refine (hp4.out _).mono ?_
  rintro e u9 ⟨rfl, hu9⟩
  obtain rfl : w = u9 := hu9.symm
  clear hp4 hu9
  go_wp2_with fail
  refine (hD.out _).mono ?_
  rintro e w1 ⟨dv, de, rfl, ⟨dp, rfl⟩, hde, hDB, hb1⟩
  replace hDB := hide hDB
  clear hD
  go_wp2_with fail
  refine (hp3.out _).mono ?_
  rintro e u9 ⟨rfl, hu9⟩
  obtain rfl : w1 = u9 := hu9.symm
  clear hp3 hu9
  go_wp2_with fail
  refine (hBk.out _).mono ?_
  rintro e w3 ⟨bv, be, rfl, ⟨bp, rfl⟩, hbe, _, hb3⟩
  have hDB3 := hide (hDB.out.below hb3)
  have hb0 := hide (hb1.trans (hb3.mono hb1.size))
  clear hBk hDB hb3 hb1
  go_wp2_with fail
  refine (hNe.out _ hb0.out).mono ?_
  rintro e w4 ⟨nb, own, M, rfl, hnb, I2, ho2, hb2⟩
  have S2 := hide (RunSt.start (w := w3) I2 ho2 hb2)
  clear hNe I2 ho2 hb2 hnb
  go_wp2_with fail
  refine (hPd.out _).mono ?_
  rintro e w5 ⟨rfl, hb3⟩
  have S3 := hide (S2.out.below hb3)
  clear S2 hPd hb3
  go_wp2_with fail
  go_loopw [15, 17] (fun okv c u => okv = .bool true ∧ ∃ k : Nat, k ≤ ss.length ∧ c = .int .i64 (k : Int) ∧ ∃ own M P, RunSt w3 u nb fs k own M P) (fun _ c _ => ss.length + 1 - (intOf c).toNat)
  case atStart => exact ⟨rfl, 0, Nat.zero_le _, rfl, _, _, _, S3.out⟩
  case round =>
    clear S3
    obtain ⟨rfl, k, hk, rfl, own, M, P, S⟩ := hrel
    by_cases hlt : k < ss.length
    · have hki : (k : Int) < (ss.length : Int) := by omega
      have dk : decide ((k : Int) < (ss.length : Int)) = true := by simp; omega
      obtain ⟨a, la, lc, ea, hL, hcs⟩ := hst.out k hlt
      subst ea
      obtain ⟨c0, c1, c2, c3⟩ := hcs wr (hb0.out.trans (S.bel.mono hb0.out.size))
      have hPl := hide (S.play (by omega) ss[k] (hsok.out _ (List.getElem_mem hlt)) la lc (hL.below hb0.out))
      clear hcs S hL
      generalize ss[k] = X at *
      obtain ⟨xk, xa, xb, xl⟩ := X
      simp only at c0 c1 c2 c3
      go_wp2_with fail
      refine hPl.out.mono ?_
      rintro e w4 ⟨rfl, own4, M4, P4, S4, _, _⟩
      replace S4 := hide S4
      clear hPl c0 c1 c2 c3
      go_wp2
      exact ⟨⟨rfl, k + 1, hlt, by go_num, own4, M4, P4, S4.out⟩, by simp [intOf]; omega⟩
    · obtain rfl : k = ss.length := by omega
      have dk : decide ((ss.length : Int) < (ss.length : Int)) = false := by simp
      rename World => u0
      have hn1 := S.net.lt
      have hlc := lg_cell S.net (k := 0) (by omega)
      have hbl := hide (hb0.out.trans (S.bel.mono hb0.out.size))
      by_cases hEq : bs (P.lg 0) = log
      · subst hEq
        have hX0 := hDB3.out.below S.bel
        rw [bs_data] at hX0
        obtain ⟨B, ck, ps, vp, e1, e2, hX, hR⟩ := hX0.log S.sound.log
        clear hX0
        injection e1 with e1
        subst e1
        have dz : ((de : Int) != 0) = false := by simp [e2]
        clear e2 hde
        have hS1 := hide (fun (i : Nat) (hi : i ≤ 6) u (hu : Below u0.heap.size u0 u) => eStatusR_any i (by omega) u B ck ps vp P.A (hX.below hu) hR)
        have hS2 := hide (fun (i : Nat) (hi : i ≤ 6) u (hu : Below u0.heap.size u0 u) => eStatusR_any i (by omega) u M.db M.ck M.ps M.xv P.A (S.net.deed.x.below hu) S.net.deed.rel)
        have hd2 := hide (fun u (hu : Below u0.heap.size u0 u) => show u.cell? ⟨nb, 4, none⟩ = some (.pointer (some ⟨M.db, 0, none⟩)) from by rw [cell_at (S.net.below hu).blk 4]; rfl)
        have hC1 := hide (fun u (hu : Below u0.heap.size u0 u) => eClock_any u B ck ps vp (hX.below hu))
        have hC2 := hide (fun u (hu : Below u0.heap.size u0 u) => eClock_any u M.db M.ck M.ps M.xv (S.net.deed.x.below hu))
        have hck : ck = M.ck := by rw [hR.clk, S.net.deed.rel.clk]
        rw [hck] at hC1
        clear S hX hR hck hst hsok hDB3 hb0 hlog
        go_wp2_with fail
        go_loopw [18] (fun c u => ∃ q : Nat, 1 ≤ q ∧ q ≤ 7 ∧ c = .int .i64 (q : Int) ∧ Below u0.heap.size u0 u) (fun c _ => 8 - (intOf c).toNat)
        case atStart => exact ⟨1, by omega, by omega, rfl, Below.refl _ _⟩
        case round =>
          obtain ⟨q, hq1, hq7, rfl, hb⟩ := hrel
          by_cases hq6 : q ≤ 6
          · have f1 : decide ((q : Int) ≤ 6) = true := by simp; omega
            have f2 : (q : Int) ≤ 6 := by omega
            have hm : (q : Int) % 4294967296 = (q : Int) := by omega
            have hA := hide (hS1.out q hq6 wr hb)
            have hB := hide (fun u hu => hS2.out q hq6 u hu)
            generalize stR P.A q = T at *
            obtain ⟨t1, t2, t3, t4⟩ := T
            simp only at hA hB
            clear hS1 hS2 hC1 hC2 hlc
            go_wp2_with fail
            refine hA.out.mono ?_
            rintro e u1 ⟨rfl, h1⟩
            have B1 := Box.mk0 u1 #[.int .u8 (t1 : Int), .int .u8 (t2 : Int), .int .u8 (t3 : Int)] 76
            have h2 : Below u0.heap.size u0 (u1.alloc (.cells #[.int .u8 (t1 : Int), .int .u8 (t2 : Int), .int .u8 (t3 : Int)] 76)) := (hb.trans (h1.mono hb.size)).alloc (by have := hb.size; have := h1.size; omega) _
            have hB2 := hide (hB.out _ h2)
            have c3 := hd2.out _ h2
            have hmr : nb < (u1.alloc (.cells #[.int .u8 (t1 : Int), .int .u8 (t2 : Int), .int .u8 (t3 : Int)] 76)).heap.size := Nat.lt_of_lt_of_le hn1 h2.size
            clear hA hB h1 hb hd2
            go_wp2_with fail
            refine hB2.out.mono ?_
            rintro e u2 ⟨rfl, h3⟩
            have B2 := (B1.below h3).alloc (.cells #[.int .u8 (t1 : Int), .int .u8 (t2 : Int), .int .u8 (t3 : Int)] 76)
            have C2 := Box.mk0 u2 #[.int .u8 (t1 : Int), .int .u8 (t2 : Int), .int .u8 (t3 : Int)] 76
            have h4 := hide ((h2.trans (h3.mono h2.size)).alloc (by have := h2.size; have := h3.size; omega) (.cells #[.int .u8 (t1 : Int), .int .u8 (t2 : Int), .int .u8 (t3 : Int)] 76))
            have k1 := B2.cell
            have k2 := B2.lt
            have k3 := C2.cell
            have k4 := C2.lt
            clear hB2 c3 hmr h2 h3 B1 B2 C2
            go_wp2
            exact ⟨⟨q + 1, by omega, by omega, by go_num, h4.out⟩, by simp [intOf]; omega⟩
          · have f1 : decide ((q : Int) ≤ 6) = false := by simp; omega
            have f2 : ¬ (q : Int) ≤ 6 := by omega
            have c2 := hd2.out wr hb
            have hnr : nb < wr.heap.size := Nat.lt_of_lt_of_le hn1 hb.size
            have hbw := hide (hbl.out.trans (hb.mono hbl.out.size))
            clear hS1 hS2 hd2 hbl hlc
            generalize M.ck = ck at *
            go_wp2_with fail
            have c2d : wr.drew.cell? ⟨nb, 4, none⟩ = some (.pointer (some ⟨M.db, 0, none⟩)) := c2
            have hA1 := hide (hC1.out wr.drew hb.drew)
            have hB1 := hide (hC2.out wr.drew hb.drew)
            clear hC1 hC2
            go_region_held3 (fun u => u.cell? ⟨nb, 4, none⟩ = some (.pointer (some ⟨M.db, 0, none⟩)))
              (first
                | (with_reducible exact c2d)
                | fail)
              (first
                | (go_at_call 35; first | (with_reducible refine hA1.out.mono ?_; rintro e u9 ⟨rfl, rfl⟩) | (with_reducible refine hB1.out.mono ?_; rintro e u9 ⟨rfl, rfl⟩)))
            go_wp2
            go_ret
            exact ⟨by simp, hbw.out.drew⟩
      · have hne : ((bs (P.lg 0)).toList == log.toList) = false := by
          rw [beq_eq_false_iff_ne, bs_toList, ByteArray.toList_eq]
          intro h
          exact hEq (by rw [h, bs_of])
        clear S hst hsok hDB3 hb0
        go_wp2
        go_ret
        exact ⟨by simp, hbl.out⟩
end Go.Proofs.Ytjkhbjgfoopomaa
/-
  The statement Ahead: the walk, for a bank.
-/
namespace Go.Proofs.Ytjkhbjgfoopomaa
open Go.RowKit
set_option linter.unusedVariables false
set_option linter.unusedSimpArgs false
set_option maxRecDepth 100000 in
set_option maxHeartbeats 2000000 in
theorem ahead_walkK (w : World) (log : ByteArray) (hlog : log.size ≤ 1048576) (wh : Int) (hwh : i64ok wh) (hk0 : pickN wh 4 ≠ 0) (fv : Value) (fs : List Int) (hF : FundsAt w fv fs) (sv : Value) (ss : List Stp) (hSS : Steps w sv ss) :
    Calls Try.prog 12 #[.string log, .int .i64 wh, fv, sv] w fun e w' => e = .returned (.bool true) ∧ Below w.heap.size w w' := by
  obtain ⟨ad, cap, rfl, hst⟩ := hSS.at
  have hsok := hide hSS.ok
  have hslen := hSS.len
  replace hst := hide hst
  have hNe := hide (fun u (hu : Below w.heap.size w u) => network_any u fv fs (hF.below hu))
  have hPd := hide (fun u => paid_any u)
  have hp4 := hide (fun u => kpick_any wh hwh 4 (by omega) (by omega) u)
  have hp3 := hide (fun u => kpick_any wh hwh 3 (by omega) (by omega) u)
  have hk4 : pickN wh 4 < 4 := Nat.mod_lt _ (by omega)
  generalize pickN wh 4 = kk at *
  have hk3 : pickN wh 3 < 3 := Nat.mod_lt _ (by omega)
  have hD := hide (fun u => deed_ahead log (by omega) u)
  generalize pickN wh 3 = k3 at *
  have hBk0 := fun u => bank_ahead (1 + k3) ⟨by omega, by omega⟩ log (by omega) u
  simp only [show ((1 + k3 : Nat) : Int) = 1 + (k3 : Int) from by omega] at hBk0
  have hBk := hide hBk0
  clear hBk0
  have hBK := hide (fun u => bank_ahead kk ⟨by omega, by omega⟩ log (by omega) u)
  have hg0 : decide ((kk : Int) > 0) = true := by simp; omega
  have hg0' : decide (0 < (kk : Int)) = true := by simp; omega
  have hg1 : (0 : Int) < (kk : Int) := by omega
  have hg2 : ((kk : Int) == 0) = false := by simp; omega
  have hg3 : (kk : Int) % 256 = (kk : Int) := by omega
  have hg4 : (kk : Int) < 4 := by omega
  clear hSS hF
  go_enter Try.func12, Try.ntmps12
  go_wp2_with fail
  refine (hp4.out _).mono ?_
  rintro e u9 ⟨rfl, hu9⟩
  obtain rfl : w = u9 := hu9.symm
  clear hp4 hu9
  go_wp2_with fail
  refine (hD.out _).mono ?_
  rintro e w1 ⟨dv, de, rfl, ⟨dp, rfl⟩, hde, _, hb1⟩
  clear hD
  go_wp2_with fail
  refine (hp3.out _).mono ?_
  rintro e u9 ⟨rfl, hu9⟩
  obtain rfl : w1 = u9 := hu9.symm
  clear hp3 hu9
  go_wp2_with fail
  refine (hBk.out _).mono ?_
  rintro e w2 ⟨bv, be, rfl, ⟨bp, rfl⟩, hbe, _, hb2⟩
  have hb20 := hb1.trans (hb2.mono hb1.size)
  clear hBk hb2 hb1
  go_wp2_with fail
  refine (hBK.out _).mono ?_
  rintro e w3 ⟨fv3, fe, rfl, ⟨fp, rfl⟩, hfe, hBB, hb3⟩
  have hBB3 := hide hBB
  have hb0 := hide (hb20.trans (hb3.mono hb20.size))
  clear hBK hBB hb3 hb20
  go_wp2_with fail
  refine (hNe.out _ hb0.out).mono ?_
  rintro e w4 ⟨nb, own, M, rfl, hnb, I2, ho2, hb2⟩
  have S2 := hide (RunSt.start (w := w3) I2 ho2 hb2)
  clear hNe I2 ho2 hb2 hnb
  go_wp2_with fail
  refine (hPd.out _).mono ?_
  rintro e w5 ⟨rfl, hb3⟩
  have S3 := hide (S2.out.below hb3)
  clear S2 hPd hb3
  go_wp2_with fail
  go_loopw [15, 17] (fun okv c u => okv = .bool true ∧ ∃ k : Nat, k ≤ ss.length ∧ c = .int .i64 (k : Int) ∧ ∃ own M P, RunSt w3 u nb fs k own M P) (fun _ c _ => ss.length + 1 - (intOf c).toNat)
  case atStart => exact ⟨rfl, 0, Nat.zero_le _, rfl, _, _, _, S3.out⟩
  case round =>
    clear S3
    obtain ⟨rfl, k, hk, rfl, own, M, P, S⟩ := hrel
    by_cases hlt : k < ss.length
    · have hki : (k : Int) < (ss.length : Int) := by omega
      have dk : decide ((k : Int) < (ss.length : Int)) = true := by simp; omega
      obtain ⟨a, la, lc, ea, hL, hcs⟩ := hst.out k hlt
      subst ea
      obtain ⟨c0, c1, c2, c3⟩ := hcs wr (hb0.out.trans (S.bel.mono hb0.out.size))
      have hPl := hide (S.play (by omega) ss[k] (hsok.out _ (List.getElem_mem hlt)) la lc (hL.below hb0.out))
      clear hcs S hL
      generalize ss[k] = X at *
      obtain ⟨xk, xa, xb, xl⟩ := X
      simp only at c0 c1 c2 c3
      go_wp2_with fail
      refine hPl.out.mono ?_
      rintro e w4 ⟨rfl, own4, M4, P4, S4, _, _⟩
      replace S4 := hide S4
      clear hPl c0 c1 c2 c3
      go_wp2
      exact ⟨⟨rfl, k + 1, hlt, by go_num, own4, M4, P4, S4.out⟩, by simp [intOf]; omega⟩
    · obtain rfl : k = ss.length := by omega
      have dk : decide ((ss.length : Int) < (ss.length : Int)) = false := by simp
      rename World => u0
      have hn1 := S.net.lt
      have hlc := lg_cell S.net (k := kk) (by omega)
      have hbl := hide (hb0.out.trans (S.bel.mono hb0.out.size))
      by_cases hEq : bs (P.lg kk) = log
      · subst hEq
        have hX0 := hBB3.out.below S.bel
        rw [bs_data] at hX0
        obtain ⟨B, ac, ls, va, vl, e1, e2, hX, hR⟩ := hX0.log S.sound.log (by omega) (by omega)
        clear hX0
        injection e1 with e1
        subst e1
        have dz : ((fe : Int) != 0) = false := by simp [e2]
        clear e2 hfe
        have hop := hide (fun (a : Nat) (ha : a < 3) => show (openedOf a (P.E kk)).2.1 = true from by exact S.sound.open3 (by omega) (by omega) ha)
        have hF1 := hide (fun (a : Nat) (ha : a < 3) u (hu : Below u0.heap.size u0 u) => eFundsR_any a (by omega) u B kk _ _ _ _ (P.E kk) (hX.below hu) hR (hop.out a ha))
        have hF2 := hide (fun (a : Nat) (ha : a < 3) u (hu : Below u0.heap.size u0 u) => eFundsR_any a (by omega) u (M.bk kk).b kk _ _ _ _ (P.E kk) ((S.net.bank kk (by omega) (by omega)).x.below hu) (S.net.bank kk (by omega) (by omega)).rel (hop.out a ha))
        have hb1 := hide (fun u (hu : Below u0.heap.size u0 u) => show u.cell? ⟨nb, kk, none⟩ = some (.pointer (some ⟨(M.bk kk).b, 0, none⟩)) from by rw [cell_at (S.net.below hu).blk kk]; exact bank_ptr (by omega) (by omega) (Nat.le_refl 3))
        clear S hX hR hop hst hsok hBB3 hb0 hlog
        go_wp2_with fail
        go_loopw [23] (fun c u => ∃ a : Nat, a ≤ 3 ∧ c = .int .i64 (a : Int) ∧ Below u0.heap.size u0 u) (fun c _ => 4 - (intOf c).toNat)
        case atStart => exact ⟨0, by omega, rfl, Below.refl _ _⟩
        case round =>
          obtain ⟨a, ha, rfl, hb⟩ := hrel
          by_cases ha3 : a < 3
          · have f1 : decide ((a : Int) < 3) = true := by simp; omega
            have f2 : (a : Int) < 3 := by omega
            have hm : (a : Int) % 65536 = (a : Int) := by omega
            have hA := hide (hF1.out a ha3 wr hb)
            have hB := hide (fun u hu => hF2.out a ha3 u hu)
            have c2 := hide (fun u hu => hb1.out u hu)
            generalize balOf a (P.E kk) = x at *
            generalize heldOf a (P.E kk) = y at *
            generalize dueOf a (P.E kk) = z at *
            clear hF1 hF2 hb1 hlc
            go_wp2_with fail
            refine hA.out.mono ?_
            rintro e u1 ⟨rfl, h1⟩
            have B1 := Box.mk0 u1 #[.int .u32 (x : Int), .int .u32 (y : Int), .int .u32 (z : Int)] 82
            have h2 : Below u0.heap.size u0 (u1.alloc (.cells #[.int .u32 (x : Int), .int .u32 (y : Int), .int .u32 (z : Int)] 82)) := (hb.trans (h1.mono hb.size)).alloc (by have := hb.size; have := h1.size; omega) _
            have hB2 := hide (hB.out _ h2)
            have c3 := c2.out _ h2
            have hmr : nb < (u1.alloc (.cells #[.int .u32 (x : Int), .int .u32 (y : Int), .int .u32 (z : Int)] 82)).heap.size := Nat.lt_of_lt_of_le hn1 h2.size
            clear hA hB c2 h1 hb
            go_wp2_with fail
            refine hB2.out.mono ?_
            rintro e u2 ⟨rfl, h3⟩
            have B2 := (B1.below h3).alloc (.cells #[.int .u32 (x : Int), .int .u32 (y : Int), .int .u32 (z : Int)] 82)
            have C2 := Box.mk0 u2 #[.int .u32 (x : Int), .int .u32 (y : Int), .int .u32 (z : Int)] 82
            have h4 := hide ((h2.trans (h3.mono h2.size)).alloc (by have := h2.size; have := h3.size; omega) (.cells #[.int .u32 (x : Int), .int .u32 (y : Int), .int .u32 (z : Int)] 82))
            have k1 := B2.cell
            have k2 := B2.lt
            have k3 := C2.cell
            have k4 := C2.lt
            clear hB2 c3 hmr h2 h3 B1 B2 C2
            go_wp2
            exact ⟨⟨a + 1, by omega, by go_num, h4.out⟩, by simp [intOf]; omega⟩
          · have f1 : decide ((a : Int) < 3) = false := by simp; omega
            have f2 : ¬ (a : Int) < 3 := by omega
            have hbw := hide (hbl.out.trans (hb.mono hbl.out.size))
            clear hF1 hF2 hb1 hlc hbl
            go_wp2
            go_ret
            exact ⟨by simp, hbw.out⟩
      · have hne : ((bs (P.lg kk)).toList == log.toList) = false := by
          rw [beq_eq_false_iff_ne, bs_toList, ByteArray.toList_eq]
          intro h
          exact hEq (by rw [h, bs_of])
        clear S hst hsok hBB3 hb0
        go_wp2
        go_ret
        exact ⟨by simp, hbl.out⟩
end Go.Proofs.Ytjkhbjgfoopomaa
