import Derived.Test.YtjkhbjgfoopomaaR49
import Derived.Deep.RegionHeld3
import Derived.Test.YtjkhbjgfoopomaaR46
import Derived.Test.YtjkhbjgfoopomaaR50
/-
  The statement Reborn: the walk.
-/
namespace Go.Proofs.Ytjkhbjgfoopomaa
open Go.RowKit
set_option linter.unusedVariables false
set_option linter.unusedSimpArgs false
theorem TwoSt.start {w u v : World} {n m : Nat} {fs : List Int} {o1 o2 : Nat → Nat} {M1 M2 : NM} (I1 : NetAt u o1 n 3 M1 (initPN fs)) (z1 : ∀ i, i < w.heap.size → o1 i = 0) (b1 : Below w.heap.size w u) (I2 : NetAt v o2 m 3 M2 (initPN fs)) (z2 : ∀ i, i < u.heap.size → o2 i = 0) (b2 : Below u.heap.size u v) : TwoSt w v n m fs 0 0 (initPN fs) (initPN fs) := by
  have bw : Below w.heap.size w v := b1.trans (b2.mono b1.size)
  have hs := b1.size
  refine ⟨_, M1, o2, M2, RunSt.start (I1.below0 b2) (fun i hi => ?_) bw, RunSt.start I2 (fun i hi => z2 i (by omega)) bw, fun i hi => ?_⟩
  · show (if i < u.heap.size then o1 i else 0) = 0
    rw [if_pos (by omega)]
    exact z1 i hi
  · by_cases h : i < u.heap.size
    · exact z2 i h
    · exact absurd (by show (if i < u.heap.size then o1 i else 0) = 0; rw [if_neg h]) hi
/-- where the wires lie -/
theorem TwoSt.wires {w u : World} {n m k j : Nat} {fs : List Int} {P Q : PN} (h : TwoSt w u n m fs k j P Q) : ∃ a1 c1 a2 c2, u.cell? ⟨n, 9, none⟩ = some (.slice a1 P.wire.length c1) ∧ u.cell? ⟨m, 9, none⟩ = some (.slice a2 Q.wire.length c2) ∧ n < u.heap.size ∧ m < u.heap.size := by
  obtain ⟨o1, M1, o2, M2, h1, h2, hd⟩ := h
  obtain ⟨a1, c1, e1, _⟩ := h1.net.wrow.form msgCell_length
  obtain ⟨a2, c2, e2, _⟩ := h2.net.wrow.form msgCell_length
  exact ⟨a1, c1, a2, c2, by rw [cell_at h1.net.blk 9, ← e1]; rfl, by rw [cell_at h2.net.blk 9, ← e2]; rfl, h1.net.lt, h2.net.lt⟩
set_option maxRecDepth 100000 in
set_option maxHeartbeats 2000000 in
theorem reborn_walk (w : World) (fv : Value) (fs : List Int) (hF : FundsAt w fv fs) (sv : Value) (ss : List Stp) (hSS : Steps w sv ss) :
    Calls Try.prog 11 #[fv, sv] w fun e w' => e = .returned (.bool true) ∧ Below w.heap.size w w' := by
  obtain ⟨ad, cap, rfl, hst⟩ := hSS.at
  have hsok := hide hSS.ok
  have hslen := hSS.len
  replace hst := hide hst
  have hNe := hide (fun u (hu : Below w.heap.size w u) => network_any u fv fs (hF.below hu))
  have hPd := hide (fun u => paid_any u)
  clear hSS hF
  go_enter Try.func11, Try.ntmps11
  go_wp2_with fail
  refine (hNe.out _ (Below.refl _ _)).mono ?_
  rintro e w2 ⟨n, o1, M1, rfl, _, I1, z1, b1⟩
  have hNe2 := hide (hNe.out _ b1)
  clear hNe
  replace I1 := hide I1
  go_wp2_with fail
  refine hNe2.out.mono ?_
  rintro e w3 ⟨m, o2, M2, rfl, _, I2, z2, b2⟩
  have S3 := hide (TwoSt.start I1.out z1 b1 I2 z2 b2)
  clear hNe2 I1 I2 z1 z2 b1 b2
  go_wp2_with fail
  refine (hPd.out _).mono ?_
  rintro e w4 ⟨rfl, hb4⟩
  have S4 := hide (S3.out.below hb4)
  clear S3 hPd hb4
  go_wp2_with fail
  go_loopw [10] (fun c u => ∃ k : Nat, k ≤ ss.length ∧ c = .int .i64 (k : Int) ∧ ∃ P, TwoSt w u n m fs k k P P) (fun c _ => ss.length + 1 - (intOf c).toNat)
  case atStart => exact ⟨0, Nat.zero_le _, rfl, _, S4.out⟩
  case round =>
    clear S4
    obtain ⟨k, hk, rfl, P, S⟩ := hrel
    by_cases hlt : k < ss.length
    · have hki : (k : Int) < (ss.length : Int) := by omega
      obtain ⟨a, la, lc, ea, hL, hcs⟩ := hst.out k hlt
      subst ea
      have hbw : Below w.heap.size w wr := by obtain ⟨_, _, _, _, h, _⟩ := S; exact h.bel
      obtain ⟨c0, c1, c2, c3⟩ := hcs wr hbw
      have hok := hsok.out _ (List.getElem_mem hlt)
      have hPl := hide (S.play (by omega) ss[k] hok la lc hL)
      have hP2 := hide (fun u P1 (hS : TwoSt w u n m fs (k + 1) k P1 P) => (hS.swap).play (by omega) ss[k] hok la lc hL)
      have hcs' := hide (fun u (hu : Below w.heap.size w u) => hcs u hu)
      clear hcs S hL hbw hok
      generalize ss[k] = X at *
      obtain ⟨xk, xa, xb, xl⟩ := X
      simp only at c0 c1 c2 c3 hcs'
      go_wp2_with fail
      refine hPl.out.mono ?_
      rintro e w5 ⟨rfl, P1, hp1, S5⟩
      have hb5 : Below w.heap.size w w5 := by obtain ⟨_, _, _, _, h, _⟩ := S5; exact h.bel
      obtain ⟨f0, f1, f2, f3⟩ := hcs'.out w5 hb5
      have hPm := hide (hP2.out _ _ S5)
      replace hp1 := hide hp1
      clear hPl hP2 c0 c1 c2 c3 S5 hb5
      go_wp2_with fail
      refine hPm.out.mono ?_
      rintro e w6 ⟨rfl, P2, hp2, S6⟩
      obtain rfl := hp1.out.one hp2
      have S7 := hide S6.swap
      clear hPm f0 f1 f2 f3 hp1 hp2 S6 hcs'
      go_wp2_with fail
      go_loopw [8, 11] (fun tv c u => tv = .bool true ∧ ∃ i : Nat, i ≤ 4 ∧ c = .int .i64 (i : Int) ∧ TwoSt w u n m fs (k + 1) (k + 1) P1 P1) (fun _ c _ => 5 - (intOf c).toNat)
      case atStart => exact ⟨rfl, 0, by omega, rfl, S7.out⟩
      case round =>
        clear S7
        obtain ⟨rfl, i, hi, rfl, S8⟩ := hrel
        by_cases hi3 : i ≤ 3
        · have d1 : decide ((i : Int) ≤ 3) = true := by simp; omega
          have d2 : (i : Int) ≤ 3 := by omega
          have hR := hide (S8.swap.restore (by omega) i hi3)
          clear S8
          go_wp2_with fail
          refine hR.out.mono ?_
          rintro e w7 ⟨rfl, S9⟩
          have S9' := hide S9.swap
          clear hR S9
          go_wp2
          exact ⟨⟨rfl, i + 1, by omega, by go_num, S9'.out⟩, by simp [intOf]; omega⟩
        · have d1 : decide ((i : Int) ≤ 3) = false := by simp; omega
          have d2 : ¬ (i : Int) ≤ 3 := by omega
          obtain ⟨a1, q1, a2, q2, g1, g2, g3, g4⟩ := S8.wires
          replace S8 := hide S8
          go_wp2_with fail
          go_quiet (fail)
          have S9 := hide (S8.out.below ((Below.refl wr.heap.size wr).drewN nq))
          clear S8 g1 g2
          go_wp2
          exact ⟨⟨k + 1, hlt, by go_num, P1, S9.out⟩, by simp [intOf]; omega⟩
    · obtain rfl : k = ss.length := by omega
      have dk : decide ((ss.length : Int) < (ss.length : Int)) = false := by simp
      rename World => u0
      obtain ⟨o1, M1, o2, M2, h1, h2, hd⟩ := S
      obtain ⟨a1, q1, e1, v1⟩ := h1.net.wrow.form msgCell_length
      obtain ⟨a2, q2, e2, v2⟩ := h2.net.wrow.form msgCell_length
      have hw1 := hide (fun u (hu : Below u0.heap.size u0 u) => show u.cell? ⟨n, 9, none⟩ = some (.slice a1 P.wire.length q1) from by rw [cell_at (h1.net.below hu).blk 9, ← e1]; rfl)
      have hw2 := hide (fun u (hu : Below u0.heap.size u0 u) => show u.cell? ⟨m, 9, none⟩ = some (.slice a2 P.wire.length q2) from by rw [cell_at (h2.net.below hu).blk 9, ← e2]; rfl)
      have hn1 := h1.net.lt
      have hn2 := h2.net.lt
      have hv1 := hide (fun u (hu : Below u0.heap.size u0 u) j (hj : j < P.wire.length) => show ∃ g, a1 = some ⟨g, 0, none⟩ ∧ g < u0.heap.size ∧ u.cell? ⟨g, j, none⟩ = some (.string (bs (encOf P.wire[j]))) from by
        obtain ⟨g, eg, hc, _⟩ := v1 j hj
        have hgl : g < u0.heap.size := h1.net.wrow.lt (by rw [e1, eg]; rfl)
        have h0 := hc 0 (by decide)
        simp only [msgCell, List.getElem?_cons_zero, Nat.add_zero, Nat.mul_one] at h0
        exact ⟨g, eg, hgl, by rw [hu.cell (p := ⟨g, j, none⟩) hgl]; exact h0⟩)
      have hv2 := hide (fun u (hu : Below u0.heap.size u0 u) j (hj : j < P.wire.length) => show ∃ g, a2 = some ⟨g, 0, none⟩ ∧ g < u0.heap.size ∧ u.cell? ⟨g, j, none⟩ = some (.string (bs (encOf P.wire[j]))) from by
        obtain ⟨g, eg, hc, _⟩ := v2 j hj
        have hgl : g < u0.heap.size := h2.net.wrow.lt (by rw [e2, eg]; rfl)
        have h0 := hc 0 (by decide)
        simp only [msgCell, List.getElem?_cons_zero, Nat.add_zero, Nat.mul_one] at h0
        exact ⟨g, eg, hgl, by rw [hu.cell (p := ⟨g, j, none⟩) hgl]; exact h0⟩)
      have hop := hide (fun (i a : Nat) (x1 : 1 ≤ i) (x3 : i ≤ 3) (ha : a < 3) => show (openedOf a (P.E i)).2.1 = true from by exact h1.sound.open3 x1 x3 ha)
      have hbel := hide h1.bel
      have hwl := h1.wl
      have hF1 := hide (fun (i a : Nat) (x1 : 1 ≤ i) (x3 : i ≤ 3) (ha : a < 3) u (hu : Below u0.heap.size u0 u) => eFundsR_any a (by omega) u (M1.bk i).b i _ _ _ _ (P.E i) ((h1.net.bank i x1 x3).x.below hu) (h1.net.bank i x1 x3).rel (hop.out i a x1 x3 ha))
      have hF2 := hide (fun (i a : Nat) (x1 : 1 ≤ i) (x3 : i ≤ 3) (ha : a < 3) u (hu : Below u0.heap.size u0 u) => eFundsR_any a (by omega) u (M2.bk i).b i _ _ _ _ (P.E i) ((h2.net.bank i x1 x3).x.below hu) (h2.net.bank i x1 x3).rel (hop.out i a x1 x3 ha))
      have hb1 := hide (fun (i : Nat) (x1 : 1 ≤ i) (x3 : i ≤ 3) u (hu : Below u0.heap.size u0 u) => show u.cell? ⟨n, i, none⟩ = some (.pointer (some ⟨(M1.bk i).b, 0, none⟩)) from by rw [cell_at (h1.net.below hu).blk i]; exact bank_ptr x1 x3 (Nat.le_refl 3))
      have hb2 := hide (fun (i : Nat) (x1 : 1 ≤ i) (x3 : i ≤ 3) u (hu : Below u0.heap.size u0 u) => show u.cell? ⟨m, i, none⟩ = some (.pointer (some ⟨(M2.bk i).b, 0, none⟩)) from by rw [cell_at (h2.net.below hu).blk i]; exact bank_ptr x1 x3 (Nat.le_refl 3))
      have hS1 := hide (fun (i : Nat) (hi : i ≤ 6) u (hu : Below u0.heap.size u0 u) => eStatusR_any i (by omega) u M1.db M1.ck M1.ps M1.xv P.A (h1.net.deed.x.below hu) h1.net.deed.rel)
      have hS2 := hide (fun (i : Nat) (hi : i ≤ 6) u (hu : Below u0.heap.size u0 u) => eStatusR_any i (by omega) u M2.db M2.ck M2.ps M2.xv P.A (h2.net.deed.x.below hu) h2.net.deed.rel)
      have hd1 := hide (fun u (hu : Below u0.heap.size u0 u) => show u.cell? ⟨n, 4, none⟩ = some (.pointer (some ⟨M1.db, 0, none⟩)) from by rw [cell_at (h1.net.below hu).blk 4]; rfl)
      have hd2 := hide (fun u (hu : Below u0.heap.size u0 u) => show u.cell? ⟨m, 4, none⟩ = some (.pointer (some ⟨M2.db, 0, none⟩)) from by rw [cell_at (h2.net.below hu).blk 4]; rfl)
      have hl1 := hide (fun (k : Nat) (hk : k ≤ 3) u (hu : Below u0.heap.size u0 u) => lg_cell (h1.net.below hu) hk)
      have hl2 := hide (fun (k : Nat) (hk : k ≤ 3) u (hu : Below u0.heap.size u0 u) => lg_cell (h2.net.below hu) hk)
      have hC1 := hide (fun u (hu : Below u0.heap.size u0 u) => eClock_any u M1.db M1.ck M1.ps M1.xv (h1.net.deed.x.below hu))
      have hC2 := hide (fun u (hu : Below u0.heap.size u0 u) => eClock_any u M2.db M2.ck M2.ps M2.xv (h2.net.deed.x.below hu))
      have hck : M1.ck = M2.ck := by rw [h1.net.deed.rel.clk, h2.net.deed.rel.clk]
      rw [hck] at hC1
      clear h1 h2 hd v1 v2 e1 e2 hck hst hsok hop
      have hw10 := hw1.out u0 (Below.refl _ _)
      go_wp2_with fail
      go_loopw [12] (fun c u => ∃ j : Nat, j ≤ P.wire.length ∧ c = .int .i64 (j : Int) ∧ Below u0.heap.size u0 u) (fun c _ => P.wire.length + 1 - (intOf c).toNat)
      case atStart => exact ⟨0, Nat.zero_le _, rfl, Below.refl _ _⟩
      case round =>
        obtain ⟨j, hj, rfl, hb⟩ := hrel
        have g1 := hw1.out wr hb
        have g2 := hw2.out wr hb
        have hnr : n < wr.heap.size := Nat.lt_of_lt_of_le hn1 hb.size
        have hmr : m < wr.heap.size := Nat.lt_of_lt_of_le hn2 hb.size
        by_cases hjl : j < P.wire.length
        · have d1 : decide ((j : Int) < (P.wire.length : Int)) = true := by simp; omega
          have d2 : (j : Int) < (P.wire.length : Int) := by omega
          obtain ⟨x1, ex1, lx1, cx1⟩ := hv1.out wr hb j hjl
          obtain ⟨x2, ex2, lx2, cx2⟩ := hv2.out wr hb j hjl
          subst ex1 ex2
          generalize encOf P.wire[j] = F at *
          have hb9 := hide hb
          clear hw1 hw2 hv1 hv2 hF1 hF2 hb1 hb2 hS1 hS2 hd1 hd2 hl1 hl2 hC1 hC2 hb
          go_wp2_with fail
          go_quiet (fail)
          have hbq := hide (hb9.out.trans (((Below.refl wr.heap.size wr).drewN nq).mono hb9.out.size))
          clear hb9
          go_wp2
          exact ⟨⟨j + 1, hjl, by go_num, hbq.out⟩, by simp [intOf]; omega⟩
        · have d1 : decide ((j : Int) < (P.wire.length : Int)) = false := by simp; omega
          clear hw1 hw2 hv1 hv2
          replace hb := hide hb
          go_wp2_with fail
          go_loopw [13] (fun c u => ∃ i : Nat, 1 ≤ i ∧ i ≤ 4 ∧ c = .int .i64 (i : Int) ∧ Below u0.heap.size u0 u) (fun c _ => 5 - (intOf c).toNat)
          case atStart => exact ⟨1, by omega, by omega, rfl, hb.out⟩
          case round =>
            clear hb g1 g2 hnr hmr
            obtain ⟨i, hi1, hi4, rfl, hb⟩ := hrel
            by_cases hi3 : i ≤ 3
            · have e1 : decide ((i : Int) ≤ 3) = true := by simp; omega
              have e2 : (i : Int) < 4 := by omega
              have e3 : (i : Int) ≤ 3 := by omega
              replace hb := hide hb
              go_wp2_with fail
              go_loopw [14] (fun c u => ∃ a : Nat, a ≤ 3 ∧ c = .int .i64 (a : Int) ∧ Below u0.heap.size u0 u) (fun c _ => 4 - (intOf c).toNat)
              case atStart => exact ⟨0, by omega, rfl, hb.out⟩
              case round =>
                clear hb
                obtain ⟨a, ha, rfl, hb⟩ := hrel
                by_cases ha3 : a < 3
                · have f1 : decide ((a : Int) < 3) = true := by simp; omega
                  have f2 : (a : Int) < 3 := by omega
                  have hm : (a : Int) % 65536 = (a : Int) := by omega
                  have hA := hide (hF1.out i a hi1 hi3 ha3 wr hb)
                  have hB := hide (fun u hu => hF2.out i a hi1 hi3 ha3 u hu)
                  have c1 := hb1.out i hi1 hi3 wr hb
                  have c2 := hide (fun u hu => hb2.out i hi1 hi3 u hu)
                  have hnr : n < wr.heap.size := Nat.lt_of_lt_of_le hn1 hb.size
                  generalize balOf a (P.E i) = x at *
                  generalize heldOf a (P.E i) = y at *
                  generalize dueOf a (P.E i) = z at *
                  clear hF1 hF2 hb1 hb2 hS1 hS2 hd1 hd2 hl1 hl2 hC1 hC2
                  go_wp2_with fail
                  refine hA.out.mono ?_
                  rintro e u1 ⟨rfl, h1⟩
                  have B1 := Box.mk0 u1 #[.int .u32 (x : Int), .int .u32 (y : Int), .int .u32 (z : Int)] 82
                  have h2 : Below u0.heap.size u0 (u1.alloc (.cells #[.int .u32 (x : Int), .int .u32 (y : Int), .int .u32 (z : Int)] 82)) := (hb.trans (h1.mono hb.size)).alloc (by have := hb.size; have := h1.size; omega) _
                  have hB2 := hide (hB.out _ h2)
                  have c3 := c2.out _ h2
                  have hmr : m < (u1.alloc (.cells #[.int .u32 (x : Int), .int .u32 (y : Int), .int .u32 (z : Int)] 82)).heap.size := Nat.lt_of_lt_of_le hn2 h2.size
                  clear hA hB c1 c2 h1 hb hnr
                  go_wp2_with fail
                  refine hB2.out.mono ?_
                  rintro e u2 ⟨rfl, h3⟩
                  have B2 := (B1.below h3).alloc (.cells #[.int .u32 (x : Int), .int .u32 (y : Int), .int .u32 (z : Int)] 82)
                  have C2 := Box.mk0 u2 #[.int .u32 (x : Int), .int .u32 (y : Int), .int .u32 (z : Int)] 82
                  have h4 := hide ((h2.trans (h3.mono h2.size)).alloc (by have := h2.size; have := h3.size; omega) (.cells #[.int .u32 (x : Int), .int .u32 (y : Int), .int .u32 (z : Int)] 82))
                  have k1 := B2.cell
                  have k2 := B2.lt
                  have k3 := C2.cell
                  have k4 := C2.lt
                  clear hB2 c3 hmr h2 h3 B1 B2 C2
                  go_wp2
                  exact ⟨⟨a + 1, by omega, by go_num, h4.out⟩, by simp [intOf]; omega⟩
                · have f1 : decide ((a : Int) < 3) = false := by simp; omega
                  replace hb := hide hb
                  clear hF1 hF2 hb1 hb2 hS1 hS2 hd1 hd2 hl1 hl2 hC1 hC2
                  go_wp2
                  exact ⟨⟨i + 1, by omega, by omega, by go_num, hb.out⟩, by simp [intOf]; omega⟩
            · have e1 : decide ((i : Int) ≤ 3) = false := by simp; omega
              have e3 : ¬ (i : Int) ≤ 3 := by omega
              replace hb := hide hb
              clear hF1 hF2 hb1 hb2
              go_wp2_with fail
              go_loopw [19] (fun c u => ∃ q : Nat, 1 ≤ q ∧ q ≤ 7 ∧ c = .int .i64 (q : Int) ∧ Below u0.heap.size u0 u) (fun c _ => 8 - (intOf c).toNat)
              case atStart => exact ⟨1, by omega, by omega, rfl, hb.out⟩
              case round =>
                clear hb
                obtain ⟨q, hq1, hq7, rfl, hb⟩ := hrel
                by_cases hq6 : q ≤ 6
                · have f1 : decide ((q : Int) ≤ 6) = true := by simp; omega
                  have f2 : (q : Int) ≤ 6 := by omega
                  have hm : (q : Int) % 4294967296 = (q : Int) := by omega
                  have hA := hide (hS1.out q hq6 wr hb)
                  have hB := hide (fun u hu => hS2.out q hq6 u hu)
                  have c1 := hd1.out wr hb
                  have hnr : n < wr.heap.size := Nat.lt_of_lt_of_le hn1 hb.size
                  generalize stR P.A q = T at *
                  obtain ⟨t1, t2, t3, t4⟩ := T
                  simp only at hA hB
                  clear hS1 hS2 hd1 hl1 hl2 hC1 hC2
                  go_wp2_with fail
                  refine hA.out.mono ?_
                  rintro e u1 ⟨rfl, h1⟩
                  have B1 := Box.mk0 u1 #[.int .u8 (t1 : Int), .int .u8 (t2 : Int), .int .u8 (t3 : Int)] 76
                  have h2 : Below u0.heap.size u0 (u1.alloc (.cells #[.int .u8 (t1 : Int), .int .u8 (t2 : Int), .int .u8 (t3 : Int)] 76)) := (hb.trans (h1.mono hb.size)).alloc (by have := hb.size; have := h1.size; omega) _
                  have hB2 := hide (hB.out _ h2)
                  have c3 := hd2.out _ h2
                  have hmr : m < (u1.alloc (.cells #[.int .u8 (t1 : Int), .int .u8 (t2 : Int), .int .u8 (t3 : Int)] 76)).heap.size := Nat.lt_of_lt_of_le hn2 h2.size
                  clear hA hB c1 h1 hb hnr hd2
                  go_wp2_with fail
                  refine hB2.out.mono ?_
                  rintro e u2 ⟨rfl, h3⟩
                  have B2 := (B1.below h3).alloc (.cells #[.int .u8 (t1 : Int), .int .u8 (t2 : Int), .int .u8 (t3 : Int)] 76)
                  have C2 := Box.mk0 u2 #[.int .u8 (t1 : Int), .int .u8 (t2 : Int), .int .u8 (t3 : Int)] 76
                  have h4 := hide ((h2.trans (h3.mono h2.size)).alloc (by have := h2.size; have := h3.size; omega) (.cells #[.int .u8 (t1 : Int), .int .u8 (t2 : Int), .int .u8 (t3 : Int)] 76))
                  have k1 := B2.cell
                  have k2 := B2.lt
                  have k3 := C2.cell
                  have k4 := C2.lt
                  clear hB2 c3 hmr h2 h3 B1 B2 C2
                  go_wp2
                  exact ⟨⟨q + 1, by omega, by omega, by go_num, h4.out⟩, by simp [intOf]; omega⟩
                · have f1 : decide ((q : Int) ≤ 6) = false := by simp; omega
                  have f2 : ¬ (q : Int) ≤ 6 := by omega
                  replace hb := hide hb
                  clear hS1 hS2
                  go_wp2_with fail
                  go_loopw [24] (fun c u => ∃ r : Nat, r ≤ 4 ∧ c = .int .i64 (r : Int) ∧ Below u0.heap.size u0 u) (fun c _ => 5 - (intOf c).toNat)
                  case atStart => exact ⟨0, by omega, rfl, hb.out⟩
                  case round =>
                    clear hb
                    obtain ⟨r, hr4, rfl, hb⟩ := hrel
                    have hnr : n < wr.heap.size := Nat.lt_of_lt_of_le hn1 hb.size
                    have hmr : m < wr.heap.size := Nat.lt_of_lt_of_le hn2 hb.size
                    by_cases hr3 : r ≤ 3
                    · have p1 : decide ((r : Int) ≤ 3) = true := by simp; omega
                      have p2 : (r : Int) ≤ 3 := by omega
                      have p3 : (r : Int) < 4 := by omega
                      have c1 := hl1.out r hr3 wr hb
                      have c2 := hl2.out r hr3 wr hb
                      generalize P.lg r = LG at *
                      replace hb := hide hb
                      clear hd1 hd2 hl1 hl2 hC1 hC2
                      go_wp2_with fail
                      first
                        | (go_quiet (fail)
                           have hbq := hide (hb.out.trans (((Below.refl wr.heap.size wr).drewN nq).mono hb.out.size)))
                        | (have hbq := hb)
                      clear hb
                      go_wp2
                      exact ⟨⟨r + 1, by omega, by go_num, hbq.out⟩, by simp [intOf]; omega⟩
                    · have p1 : decide ((r : Int) ≤ 3) = false := by simp; omega
                      have p2 : ¬ (r : Int) ≤ 3 := by omega
                      have c1 := hd1.out wr hb
                      have c2 := hd2.out wr hb
                      have hbl := hide (hbel.out.trans (hb.mono hbel.out.size))
                      have hA := hide (fun u hu => hC1.out u hu)
                      have hB := hide (fun u hu => hC2.out u hu)
                      have hb0 := hb
                      clear hd1 hd2 hl1 hl2 hC1 hC2 hbel
                      generalize M2.ck = ck at *
                      go_wp2_with fail
                      have c1d : wr.drew.cell? ⟨n, 4, none⟩ = some (.pointer (some ⟨M1.db, 0, none⟩)) := c1
                      have c2d : wr.drew.cell? ⟨m, 4, none⟩ = some (.pointer (some ⟨M2.db, 0, none⟩)) := c2
                      have hA1 := hide (hA.out wr.drew hb0.drew)
                      have hB1 := hide (hB.out wr.drew hb0.drew)
                      clear hA hB
                      go_region_held3 (fun u => u.cell? ⟨n, 4, none⟩ = some (.pointer (some ⟨M1.db, 0, none⟩)) ∧ u.cell? ⟨m, 4, none⟩ = some (.pointer (some ⟨M2.db, 0, none⟩)))
                        (first
                          | (with_reducible exact ⟨c1d, c2d⟩)
                          | fail)
                        (first
                          | (go_at_call 35; first | (with_reducible refine hA1.out.mono ?_; rintro e u9 ⟨rfl, rfl⟩) | (with_reducible refine hB1.out.mono ?_; rintro e u9 ⟨rfl, rfl⟩)))
                      go_wp2
                      go_ret
                      exact ⟨by simp, hbl.out.drew⟩
end Go.Proofs.Ytjkhbjgfoopomaa
