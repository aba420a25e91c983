import Derived.Test.YtjkhbjgfoopomaaG45
/-
  The statement Late: the walk.
-/
namespace Go.Proofs.Ytjkhbjgfoopomaa
open Go.RowKit
set_option linter.unusedVariables false
set_option linter.unusedSimpArgs false
theorem late_bit (b l : Nat) (hb : b < 16) (hl : l < 4) (h : bitB b l = false) : (bits .and .u8 ((b : Int) / 2 ^ l) 1 == 1) = false := by
  have key : ∀ b : Fin 16, ∀ l : Fin 4, bits .and .u8 (((b.val : Nat) : Int) / 2 ^ l.val) 1 = (((b.val >>> l.val) &&& 1 : Nat) : Int) := by decide
  rw [key ⟨b, hb⟩ ⟨l, hl⟩]
  show ((((b >>> l) &&& 1 : Nat) : Int) == 1) = false
  rw [shr_and b l hb hl, h]
  rfl
set_option maxRecDepth 100000 in
set_option maxHeartbeats 1000000 in
theorem late_walk (w : World) (la : Option Addr) (lc : Nat) (l : List Pl) (hok : ∀ x, x ∈ l → x.ok) (hL : LegsAt w la l) (hlen : l.length ≤ 1000000000000000) (wait lost : Int) (hwa : i64ok wait) (hlo : i64ok lost) :
    Calls Try.prog 10 #[.slice la l.length lc, .int .i64 wait, .int .i64 lost] w fun e w' => e = .returned (.bool true) ∧ Below w.heap.size w w' := by
  have hLg := hide (legs_any w la lc l hok hL (by omega))
  have hNe := hide (fun u => network_any u (.slice none 0 0) [] (FundsAt.nil u))
  have hPk := hide (fun u => kpick_any wait hwa 30 (by omega) (by omega) u)
  have hPm := hide (fun n (hn : 0 < n) (hn4 : n ≤ 4) u => kpick_any lost hlo n hn (by omega) u)
  obtain ⟨hfe, hf1, hf4⟩ := legsOf_ok hok
  have hH : Payable (legsOf l) := ⟨⟨hf1, hf4⟩, fun k x hx => by
    obtain ⟨_, a1, a2, a3, a4, _⟩ := hfe x (List.mem_of_getElem? hx)
    exact ⟨a1, a2, a3, a4⟩⟩
  go_enter Try.func10, Try.ntmps10
  go_wp2_with fail
  refine hLg.out.mono ?_
  rintro e w1 ⟨⟨lv, rfl, hrow1, hlf1⟩, hb1⟩
  obtain ⟨lad, lcap, hlv⟩ := hrow1.slice
  subst hlv
  have hNe1 := hide (hNe.out w1)
  clear hLg hNe
  replace hrow1 := hide hrow1
  replace hlf1 := hide hlf1
  replace hb1 := hide hb1
  go_wp2_with fail
  refine hNe1.out.mono ?_
  rintro e w2 ⟨nb, own, M, rfl, hnb, I2, ho2, hb2⟩
  clear hNe1
  have hrow2 := hrow1.out.below hb2
  have hck : M.ck = 0 := I2.deed.rel.clk
  have hbel2 := hb1.out.trans (hb2.mono hb1.out.size)
  have S2 : PSt w w2 nb (.slice lad (legsOf l).length lcap) (legsOf l) (fun P => P = initPN []) own M (initPN []) := ⟨I2, init_inv [], rfl, hrow2, fun g hg => ho2 g (hrow1.out.lt hg), fun i hi => ho2 i (Nat.lt_of_lt_of_le hi hb1.out.size), hbel2⟩
  clear I2 ho2 hb2 hrow1 hlf1 hb1 hnb hrow2 hbel2 hL hok hlen
  generalize legsOf l = L at *
  obtain ⟨n, hn⟩ : ∃ n, n = L.length := ⟨_, rfl⟩
  obtain ⟨dy, hdy⟩ : ∃ dy, dy = 1 + pickN wait 30 := ⟨_, rfl⟩
  have hpk30 : pickN wait 30 < 30 := Nat.mod_lt _ (by omega)
  have hSub := sub_net w2 own nb M (initPN []) S2.net ⟨9, dy, [], L, lad, lcap⟩ ⟨by show (9 : Nat) < 4294967296; omega, by show dy < 18446744073709551616; omega, fun x hx => (hfe x hx).1⟩ (by simp) (by show L.length ≤ 1000000; omega) (by rw [hck]; omega) S2.row S2.lown
  have hfst := sub_first hH (fun x hx => ⟨(hfe x hx).1, (hfe x hx).2.2.2.2.2⟩) dy (by omega) lad lcap
  have hA0 : (initPN []).A = [] := rfl
  rw [hA0, hfst.1, hfst.2.1, hfst.2.2.1] at hSub
  have hW1 : IntKind.i64.wrap (1 + (pickN wait 30 : Int)) = (dy : Int) := by rw [IntKind.wrap_i64]; omega
  have hW2 : IntKind.u64.wrap (dy : Int) = (dy : Int) := by rw [IntKind.wrap_u64]; omega
  have hcw : w2.cell? ⟨nb, 4, none⟩ = some (.pointer (some ⟨M.db, 0, none⟩)) := by rw [cell_at S2.net.blk 4]; rfl
  have hnl2 := S2.net.lt
  simp only [Pm.v, Pm.lv] at hSub
  rw [← hn] at hSub hf1 hf4 ⊢
  replace hSub := hide hSub
  replace hfst := hide hfst
  replace hn := hide hn
  replace S2 := hide S2
  replace hdy := hide hdy
  replace hH := hide hH
  replace hfe := hide hfe
  clear hA0 hck
  go_wp2_with fail
  refine (hPk.out _).mono ?_
  rintro e w9 ⟨rfl, rfl⟩
  generalize pickN wait 30 = pw at *
  clear hPk
  go_wp2_with fail
  refine hSub.out.mono ?_
  rintro e w4 ⟨lv2, own4, M4, rfl, I4, F4, hrow4, hlo4, hck4⟩
  generalize subLog ⟨9, dy, [], L, lad, lcap⟩ [] = LGX at *
  obtain ⟨ms, hmsd⟩ : ∃ ms, ms = asksM (core ⟨9, dy, [], L, lad, lcap⟩) 1 0 := ⟨_, rfl⟩
  have hmsl : ms.length = n := by rw [hmsd, hfst.out.2.2.2.2, hn.out]
  rw [← hmsd] at hrow4
  have hrow4' := row_msgs (ms := ms) (fun l => rfl) hrow4
  obtain ⟨oad, ocap, holv⟩ := hrow4'.slice
  rw [hmsl] at holv
  subst holv
  obtain ⟨miss, hmiss⟩ : ∃ miss, miss = pickN lost n := ⟨_, rfl⟩
  have hmn : miss < n := by rw [hmiss]; exact Nat.mod_lt _ (by omega)
  have hS4 : Hid (LSend w nb (.slice lad n lcap) ⟨9, dy, [], L, lad, lcap⟩ (.slice oad n ocap) ms miss 0 w4) := hide (by
    have hpd : { initPN [] with A := [⟨-1, core ⟨9, dy, [], L, lad, lcap⟩, zeroMsg⟩] } = lateP ⟨9, dy, [], L, lad, lcap⟩ [] := rfl
    have hz : NetAt w4 own4 nb 3 M4 (lateP ⟨9, dy, [], L, lad, lcap⟩ []) := by rw [← hpd]; exact I4
    have hS := S2.out
    rw [← hn.out] at hS
    exact ⟨own4, M4, [], hS.go F4 hz (late_inv _ (fun k x hx => ⟨(hH.out.x k x hx).1, (hH.out.x k x hx).2.1⟩) [] (fun y hy => by cases hy) I4.deed.rel) rfl, hrow4', hlo4, fun y hy => (by cases hy), Nat.le_refl _⟩)
  have hPm1 := hide (hPm.out n (by omega) (by omega))
  rw [← hmiss] at hPm1
  replace hmsd := hide hmsd
  replace hmsl := hide hmsl
  clear hSub hcw hPm S2 F4 I4 hrow4 hrow4' hlo4 hck4 hfst hmiss hnl2
  go_wp2_with fail
  refine (hPm1.out _).mono ?_
  rintro e w9 ⟨rfl, rfl⟩
  clear hPm1
  go_wp2_with fail
  go_loopw [15] (fun c u => ∃ k : Nat, k ≤ n ∧ c = .int .i64 (k : Int) ∧ LSend w nb (.slice lad n lcap) ⟨9, dy, [], L, lad, lcap⟩ (.slice oad n ocap) ms miss k u) (fun c _ => n + 1 - (intOf c).toNat)
  case atStart => exact ⟨0, Nat.zero_le _, rfl, hS4.out⟩
  case round =>
    clear hS4
    obtain ⟨k, hk, rfl, hS⟩ := hrel
    by_cases hlt : k < n
    · have hki : (k : Int) < (n : Int) := by omega
      have hkL : k < L.length := by have := hn.out; omega
      have hkm : k < ms.length := by have := hmsl.out; omega
      have hmk : ms[k] = askMsg (core ⟨9, dy, [], L, lad, lcap⟩) L[k] k 1 := by
        have h := (asks_at (core ⟨9, dy, [], L, lad, lcap⟩) 1).2 k L[k] (List.getElem?_eq_getElem hkL)
        rw [← hmsd.out, List.getElem?_eq_getElem hkm] at h
        injection h
      obtain ⟨own5, M5, ws, S5, hr5, ho5, hw5, hl5⟩ := id hS
      have hF : Fair ms[k] := by
        rw [hmk]
        exact late_fair ⟨9, dy, [], L, lad, lcap⟩ rfl S5.net.deed.rel (List.getElem?_eq_getElem hkL)
      have hD := eDecode_any (bs (encOf ms[k])) (by rw [bs_size]; unfold maxLen; have := enc_len _ hF; omega) wr
      rw [bs_data, hF.enc.1, hF.enc.2.1] at hD
      obtain ⟨oad', ocap', hov, hoc⟩ := hr5.form msgCell_length
      obtain ⟨og, eog, hoc1, _⟩ := hoc k hkm
      have hc0 := hoc1 0 (by decide)
      have eo : oad = some ⟨og, 0, none⟩ := by rw [← eog]; injection hov
      have hogl : og < wr.heap.size := hr5.lt (by rw [eo]; rfl)
      obtain ⟨lad', lcap', hlv', hlc⟩ := S5.row.form Pl.cells_length
      obtain ⟨lg, elg, hlc1, _⟩ := hlc k hkL
      have hl0 := hlc1 0 (by decide)
      have el : lad = some ⟨lg, 0, none⟩ := by rw [← elg]; injection hlv'
      have hlgl : lg < wr.heap.size := S5.row.lt (by rw [el]; rfl)
      simp only [msgCell, Pl.cells, List.getElem?_cons_zero, Nat.add_zero, Nat.mul_one] at hc0 hl0
      have hSd : Hid (k ≠ miss → ∀ u, Below wr.heap.size wr u → _) := hide (fun hne u hu => (hS.below hu).send (by omega) (fun j x hx => ⟨(hH.out.x j x hx).1, (hH.out.x j x hx).2.1⟩) (fun y hy => by rw [← hmsd.out]; exact hy) (List.getElem_mem hkm) (by rw [hmk]; rw [(ask_parts _ _ _ _).2.2.2.2]; exact hne))
      have hpt := ask_parts (core ⟨9, dy, [], L, lad, lcap⟩) L[k] k 1
      rw [← hmk] at hpt
      have hok5 := (hfe.out L[k] (List.getElem_mem hkL)).1
      have hfair := hF.1
      generalize encOf ms[k] = F at *
      generalize hms : ms[k] = m at *
      generalize hLx : L[k] = X at *
      obtain ⟨mk, mf, mt, mi, ml, mp, mg, ma, mm⟩ := m
      obtain ⟨xb, xp, xg, xa⟩ := X
      obtain ⟨p1, p2, p3, p4, p5⟩ := hpt
      simp only at p1 p2 p3 p4 p5 hl0 hc0
      subst p3
      subst p5
      simp only [Msg.v, Msg.cells] at hD
      replace hD := hide hD
      replace hS := hide hS
      subst eo
      subst el
      clear S5 hr5 ho5 hw5 hl5 hov hoc hoc1 hlv' hlc hlc1 hmk hF hfair hok5 hms hLx eog elg
      subst p1
      have hnlr : nb < wr.heap.size := by obtain ⟨_, _, _, S, _⟩ := hS.out; exact S.net.lt
      have hS' := hide (fun u hu => hS.out.below (u' := u) hu)
      by_cases hkm' : ml = miss
      · subst hkm'
        clear hSd
        go_wp2_with fail
        refine hD.out.mono ?_
        rintro e u2 ⟨rfl, hb⟩
        clear hD
        have hX := hide (fun u' (h' : Below u2.heap.size u2 u') => (hS'.out u' (hb.trans (h'.mono hb.size))).skip)
        have hco := (World.cell?_of_block (w := wr) (w' := u2) (a := ⟨lg, ml * 4, none⟩) (by exact hb.block _ hlgl)).trans hl0
        have hlg2 : lg < u2.heap.size := Nat.lt_of_lt_of_le hlgl hb.size
        clear hS hS' hc0 hl0
        go_wp2_with fail
        go_quiet (fail)
        have hY := hide (hX.out _ (((Below.refl u2.heap.size u2).alloc (Nat.le_refl _) (.cells #[Value.int IntKind.u8 1, .int .u8 0, .int .u8 (mt : Int), .int .u32 ((core ⟨9, dy, [], L, some ⟨lg, 0, none⟩, lcap⟩).id : Int), .int .u8 (ml : Int), .int .u16 (mp : Int), .int .u16 (mg : Int), .int .u32 (ma : Int), .string (bs mm)] 32)).drewN nq))
        clear hX hco
        go_wp2
        exact ⟨⟨ml + 1, hlt, by go_num, hY.out⟩, by simp [intOf]; omega⟩
      · have hSd1 := hide (hSd.out hkm')
        clear hSd
        go_wp2_with fail
        refine hD.out.mono ?_
        rintro e u2 ⟨rfl, hb⟩
        clear hD
        have hco := (World.cell?_of_block (w := wr) (w' := u2) (a := ⟨lg, ml * 4, none⟩) (by exact hb.block _ hlgl)).trans hl0
        have hcq := (World.cell?_of_block (w := wr) (w' := u2) (a := ⟨og, ml, none⟩) (by exact hb.block _ hogl)).trans hc0
        have hlg2 : lg < u2.heap.size := Nat.lt_of_lt_of_le hlgl hb.size
        have hog2 : og < u2.heap.size := Nat.lt_of_lt_of_le hogl hb.size
        have hmi : ¬ (ml : Int) = (miss : Int) := by omega
        have hmi2 : ((ml : Int) != (miss : Int)) = true := by simp; omega
        clear hS hS' hc0 hl0
        go_wp2_with fail
        go_quiet (fail)
        have hb2 : Below u2.heap.size u2 ((u2.alloc (.cells #[Value.int IntKind.u8 1, .int .u8 0, .int .u8 (mt : Int), .int .u32 ((core ⟨9, dy, [], L, some ⟨lg, 0, none⟩, lcap⟩).id : Int), .int .u8 (ml : Int), .int .u16 (mp : Int), .int .u16 (mg : Int), .int .u32 (ma : Int), .string (bs mm)] 32)).drewN nq) := ((Below.refl u2.heap.size u2).alloc (Nat.le_refl _) _).drewN nq
        have hcr := (World.cell?_of_block (w := u2) (a := ⟨og, ml, none⟩) (by exact hb2.block _ hog2)).trans hcq
        have hog3 := Nat.lt_of_lt_of_le hog2 hb2.size
        have hSd2 := hide (hSd1.out _ (hb.trans (hb2.mono hb.size)))
        generalize World.drewN _ _ = u3 at *
        clear hSd1 hco hcq
        go_wp2_with fail
        refine hSd2.out.mono ?_
        rintro e u4 ⟨rfl, hX4⟩
        replace hX4 := hide hX4
        clear hSd2 hcr
        go_wp2
        exact ⟨⟨ml + 1, hlt, by go_num, hX4.out⟩, by simp [intOf]; omega⟩
    · obtain rfl : k = n := by omega
      have hdy1 : 1 ≤ dy ∧ dy ≤ 30 := by have := hdy.out; omega
      have hmL : miss < L.length := by rw [← hn.out]; exact hmn
      have key : ∀ lv ov q, q = L.length → LSend w nb lv ⟨9, dy, [], L, lad, lcap⟩ ov ms miss q wr → LDay w nb lv L miss dy 1 wr := fun lv ov q hq h => by
        subst hq
        exact LSend.day (p := ⟨9, dy, [], L, lad, lcap⟩) h rfl hmL hdy1.1 (by show L.length ≤ 4; have := hn.out; omega)
      have hD1 := hide (key _ _ k hn.out hS)
      clear key hS hmsd hmsl
      go_wp2_with fail
      go_loopw [18] (fun c u => ∃ i : Nat, 1 ≤ i ∧ i ≤ dy + 1 ∧ c = .int .i64 (i : Int) ∧ LDay w nb (.slice lad k lcap) L miss dy i u) (fun c _ => dy + 2 - (intOf c).toNat)
      case atStart => exact ⟨1, by omega, by omega, rfl, hD1.out⟩
      case round =>
        clear hD1
        obtain ⟨i, hi1, hi2, rfl, hD⟩ := hrel
        by_cases hid : i ≤ dy
        · have dI : decide ((i : Int) ≤ (dy : Int)) = true := by simp; omega
          have hiI : (i : Int) < (dy : Int) + 1 := by omega
          have hiJ : (i : Int) ≤ (dy : Int) := by omega
          have hFl := hide (hD.flush (by omega) hmL)
          clear hD
          go_wp2_with fail
          refine hFl.out.mono ?_
          rintro e w5 ⟨rfl, db, st, held, dn, hA⟩
          have hSt := hide hA.status
          obtain ⟨hc4, hnl⟩ := hA.cell
          obtain ⟨hst, hbit, hh16, hd16, _⟩ := hA.how hmL
          clear hFl hA
          go_wp2_with fail
          refine hSt.out.mono ?_
          rintro e w6 ⟨rfl, hA, hb6⟩
          clear hSt
          have hb7 : Below w6.heap.size w6 (w6.alloc (.cells #[.int .u8 (st : Int), .int .u8 (held : Int), .int .u8 (dn : Int)] 76)) := (Below.refl _ _).alloc (Nat.le_refl _) _
          have B7 := Box.mk0 w6 #[.int .u8 (st : Int), .int .u8 (held : Int), .int .u8 (dn : Int)] 76
          have hA7 := hA.below hb7
          obtain ⟨hc4', hnl'⟩ := hA7.cell
          have hTk := hide (hA7.tick (by omega) hmL)
          have hbt := late_bit held miss hh16 (by omega) hbit
          clear hA hb7 hb6 hc4 hnl hA7
          have hc7 := B7.cell
          have hl7 := B7.lt
          rcases hst with hst | hst
          · subst hst
            have hc4a : (w6.alloc (.cells #[.int .u8 1, .int .u8 (held : Int), .int .u8 (dn : Int)] 76)).cell? ⟨nb, 4, none⟩ = some (.pointer (some ⟨db, 0, none⟩)) := hc4'
            have hnla : nb < (w6.alloc (.cells #[.int .u8 1, .int .u8 (held : Int), .int .u8 (dn : Int)] 76)).heap.size := hnl'
            clear hc4' hc7 hnl'
            go_wp2_with fail
            refine hTk.out.mono ?_
            rintro e w8 ⟨ad, nn, cap, db', st', held', dn', rfl, hn0, hn1, hA8, hst', _⟩
            have hn0 := hn0 (by trivial)
            have hst' := hst' (by trivial)
            generalize bs [84] = LG84 at *
            have hSt8 := hide hA8.status
            obtain ⟨hc8, hnl8⟩ := hA8.cell
            clear hTk hc4a hA8 B7 hl7
            go_wp2_with fail
            refine hSt8.out.mono ?_
            rintro e w9 ⟨rfl, hA9, hb9⟩
            clear hSt8
            have hb10 : Below w9.heap.size w9 (w9.alloc (.cells #[.int .u8 (st' : Int), .int .u8 (held' : Int), .int .u8 (dn' : Int)] 76)) := (Below.refl _ _).alloc (Nat.le_refl _) _
            have B10 := Box.mk0 w9 #[.int .u8 (st' : Int), .int .u8 (held' : Int), .int .u8 (dn' : Int)] 76
            have hi1' : i - 1 + 1 = i := by omega
            rw [hi1'] at hA9 hst'
            have hA10 := hide ((hA9.below hb10).day (fun h => hst'.2 (by omega)))
            have hc10 := B10.cell
            have hl10 := B10.lt
            have dn0 : ((nn : Int) == 0) = false := by simp; omega
            clear hA9 hb10 hb9 hc8 B10
            have dz : ((st' : Int) == 3) = ((i : Int) == (dy : Int)) := by
              by_cases h : i = dy
              · have e1 : st' = 3 := hst'.2 (by omega)
                simp [e1, h]
              · have e1 : st' ≠ 3 := fun e => h (by have := hst'.1 e; omega)
                have a1 : ((st' : Int) == 3) = false := by simp; omega
                have a2 : ((i : Int) == (dy : Int)) = false := by simp; omega
                rw [a1, a2]
            go_wp2
            exact ⟨⟨i + 1, by omega, by omega, by go_num, hA10.out⟩, by simp [intOf]; omega⟩
          · subst hst
            have hc4a : (w6.alloc (.cells #[.int .u8 3, .int .u8 (held : Int), .int .u8 (dn : Int)] 76)).cell? ⟨nb, 4, none⟩ = some (.pointer (some ⟨db, 0, none⟩)) := hc4'
            have hnla : nb < (w6.alloc (.cells #[.int .u8 3, .int .u8 (held : Int), .int .u8 (dn : Int)] 76)).heap.size := hnl'
            clear hc4' hc7 hnl'
            go_wp2_with fail
            refine hTk.out.mono ?_
            rintro e w8 ⟨ad, nn, cap, db', st', held', dn', rfl, _, hn1, hA8, _, hst'⟩
            have hst' := hst' (by trivial)
            generalize bs [84] = LG84 at *
            have hi1' : i - 1 + 1 = i := by omega
            rw [hi1'] at hA8
            have hA10 := hide (hA8.day (fun h => hst'))
            clear hTk hc4a hA8 B7 hl7
            go_wp2
            exact ⟨⟨i + 1, by omega, by omega, by go_num, hA10.out⟩, by simp [intOf]; omega⟩
        · obtain rfl : i = dy + 1 := by omega
          have dI : decide (((dy + 1 : Nat) : Int) ≤ (dy : Int)) = false := by simp; omega
          have hRo := hide (hD.rounds hdy1.2 hmL)
          clear hD
          go_wp2_with fail
          refine hRo.out.mono ?_
          rintro e w5 ⟨rfl, own5, M5, P5, S5, hdn, hnt, hck⟩
          clear hRo
          have hEn := ends_any w5 own5 nb M5 P5 S5.net 9 (by omega)
          rw [hdn, hnt] at hEn
          have hSb := hide (fun u (hu : Below w5.heap.size w5 u) => S5.below hu)
          replace hEn := hide hEn
          clear S5 hdn hnt
          go_wp2_with fail
          refine hEn.out.mono ?_
          rintro e w6 ⟨rfl, hb6⟩
          have S6 := hSb.out _ hb6
          have hc6 : w6.cell? ⟨nb, 4, none⟩ = some (.pointer (some ⟨M5.db, 0, none⟩)) := by rw [cell_at S6.net.blk 4]; rfl
          have hnl6 := S6.net.lt
          have hCl := hide (eClock_any w6 M5.db M5.ck M5.ps M5.xv S6.net.deed.x)
          have hbel := hide S6.bel
          have hckI : (M5.ck : Int) = (dy : Int) + 2 := by omega
          clear hEn hSb hb6 S6
          go_wp2_with fail
          refine hCl.out.mono ?_
          rintro e w7 ⟨rfl, rfl⟩
          clear hCl hc6
          go_wp2
          go_ret
          exact ⟨rfl, hbel.out⟩
end Go.Proofs.Ytjkhbjgfoopomaa
