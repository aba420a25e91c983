import Derived.Test.YtjkhbjgfoopomaaG45
/-
  The statement Prompt: the walk, where an account has less.
-/
namespace Go.Proofs.Ytjkhbjgfoopomaa
open Go.RowKit
set_option linter.unusedVariables false
set_option linter.unusedSimpArgs false
set_option maxRecDepth 100000 in
set_option maxHeartbeats 16000000 in
theorem prompt_short (w : World) (la : Option Addr) (lc : Nat) (l : List Pl) (hok : ∀ x, x ∈ l → x.ok) (hL : LegsAt w la l) (hlen : l.length ≤ 1000000000) (tv : Value) (ts : List Int) (hT : IntsAt w tv ts) (poor : Int) (hpo : i64ok poor) (hsh : pickN poor 3 = 0) :
    Calls Try.prog 9 #[.slice la l.length lc, tv, .int .i64 poor] w fun e w' => e = .returned (.bool true) ∧ Below w.heap.size w w' := by
  obtain ⟨tad, tcap, htv, htc⟩ := hT.form
  subst htv
  have htlen := hT.len
  have htok := hide hT.ok
  replace htc := hide htc
  clear hT
  have hLg := hide (legs_any w la lc l hok hL (by omega))
  have hNe := hide (fun u => network_any u (.slice none 0 0) [] (FundsAt.nil u))
  have hPk := hide (fun u => kpick_any poor hpo 3 (by omega) (by omega) u)
  obtain ⟨hfe, hf1, hf4⟩ := legsOf_ok hok
  go_enter Try.func9, Try.ntmps9
  go_wp2_with fail
  refine hLg.out.mono ?_
  rintro e w1 ⟨⟨lv, rfl, hrow1, hlf1⟩, hb1⟩
  obtain ⟨lad, lcap, hlv⟩ := hrow1.slice
  subst hlv
  have hNe1 := hide (hNe.out w1)
  clear hLg hNe
  replace hrow1 := hide hrow1
  replace hlf1 := hide hlf1
  replace hb1 := hide hb1
  go_wp2_with fail
  refine hNe1.out.mono ?_
  rintro e w2 ⟨nb, own, M, rfl, hnb, I2, ho2, hb2⟩
  clear hNe1
  have hrow2 := hide (hrow1.out.below hb2)
  have hck : M.ck = 0 := I2.deed.rel.clk
  have hII : Hid (NetAt w2 own nb 3 M (initPN []) ∧ (∀ g, (Value.slice lad (legsOf l).length lcap).ownBlock = some g → own g = 0 ∧ w.heap.size ≤ g) ∧ (∀ i, i < w.heap.size → own i = 0) ∧ Below w.heap.size w w2) := hide ⟨I2, fun g hg => ⟨ho2 g (hrow1.out.lt hg), hlf1.out g hg⟩, fun i hi => ho2 i (Nat.lt_of_lt_of_le hi hb1.out.size), hb1.out.trans (hb2.mono hb1.out.size)⟩
  clear I2 ho2 hb2 hrow1 hlf1 hb1 hnb
  obtain ⟨L0, hL0⟩ : ∃ L0, L0 = legsOf l := ⟨_, rfl⟩
  have hpl := hide (fun s => promptL_ok hok s)
  have hpL : Hid (∀ s, promptL l s = if s then (L0.map fewL).modify 0 (fun x => ⟨x.b, x.p, x.g, 1001⟩) else L0.map fewL) := hide (fun s => by rw [hL0]; rfl)
  have hpn : Hid (∀ s, (promptL l s).length = L0.length) := hide (fun s => by rw [hL0]; exact promptL_len l s)
  rw [← hL0] at hrow2 hII hfe hf1 hf4 ⊢
  clear hL0 hok
  obtain ⟨n, hn⟩ : ∃ n, n = L0.length := ⟨_, rfl⟩
  rw [← hn] at hrow2 hII hf1 hf4 ⊢
  replace hn := hide hn
  go_wp2_with fail
  go_loopw [10] (fun c u => ∃ k : Nat, k ≤ n ∧ c = .int .i64 (k : Int) ∧ RowOf u 57 4 Pl.cells (.slice lad n lcap) (mixL L0 k) ∧ Kept (fun g => (Value.slice lad n lcap).ownBlock = some g) w2 u) (fun c _ => 5 - (intOf c).toNat)
  case atStart => exact ⟨0, Nat.zero_le _, rfl, by have h := hrow2.out; unfold mixL; simpa using h, Kept.refl _ _⟩
  case round =>
    clear hrow2
    obtain ⟨k, hk, rfl, hrow, hkp⟩ := hrel
    by_cases hlt : k < n
    · have hki : (k : Int) < (n : Int) := by omega
      have dl : decide ((k : Int) < (n : Int)) = true := by simp; omega
      have hlt' : k < L0.length := by have := hn.out; omega
      have hml : k < (mixL L0 k).length := by rw [mixL_len _ _ (by omega)]; exact hlt'
      obtain ⟨ad', cap', hv', hev⟩ := hrow.form Pl.cells_length
      obtain ⟨g, hg, hcell, hfro⟩ := hev k hml
      have ead : lad = ad' := by injection hv'
      subst ead
      subst hg
      have hgl : g < wr.heap.size := hrow.lt rfl
      have c3 := hcell 3 (by decide)
      rw [mixL_at L0 k hlt'] at c3
      have hx := (hfe L0[k] (List.getElem_mem hlt')).1.2.2.2
      have hset := hrow.set Pl.cells_length (g := g) rfl k 3 hml (by decide) (.int .u32 (1 + (L0[k].a : Int) % 250)) (fewL L0[k]) (by rw [mixL_at L0 k hlt']; simp [Pl.cells, fewL])
      rw [← mixL_step L0 k hlt'] at hset
      have hkp2 := hkp.trans (Kept.of_setCell wr ⟨g, k * 4 + 3, none⟩ (.int .u32 (1 + (L0[k].a : Int) % 250))) (fun q e => .inl (by have e' : q = g := e; rw [e']; rfl))
      generalize L0[k] = X at *
      obtain ⟨xb, xp, xg, xa⟩ := X
      simp only [Pl.cells, List.getElem?_cons_zero, List.getElem?_cons_succ] at c3 hx
      replace hset := hide hset
      replace hkp2 := hide hkp2
      clear hev hcell hrow hkp hv' hfe
      go_wp2
      exact ⟨⟨k + 1, hlt, by go_num, hset.out, hkp2.out⟩, by simp [intOf]; omega⟩
    · obtain rfl : k = n := by omega
      have dl : decide ((k : Int) < (k : Int)) = false := by simp
      have hmx : mixL L0 k = L0.map fewL := by
        unfold mixL
        rw [hn.out, List.take_length, List.drop_length, List.append_nil]
      rw [hmx] at hrow
      clear hmx
      obtain ⟨I2, hlo2, ho2, hb2⟩ := hII.out
      have hb3 : Below w.heap.size w wr := hb2.trans (hkp.below hb2.size (fun q hq => (hlo2 q hq).2))
      have S2 : PSt w wr nb (.slice lad k lcap) (L0.map fewL) (fun P => P = initPN []) own M (initPN []) := ⟨I2.kept hkp (fun i _ h => (hlo2 i h).1) (fun _ _ => rfl), init_inv [], rfl, hrow, fun g hg => (hlo2 g hg).1, ho2, hb3⟩
      have hnw := hII.out.2.1
      clear hII hrow hkp I2 hlo2 ho2 hb2 hb3 hL
      · have hd : ((pickN poor 3 : Int) == 0) = true := by rw [hsh]; rfl
        have hl0 : 0 < (L0.map fewL).length := by rw [List.length_map, ← hn.out]; omega
        obtain ⟨ad', cap', hv', hev⟩ := S2.row.form Pl.cells_length
        obtain ⟨g, hg, hcell, hfro⟩ := hev 0 hl0
        have ead : lad = ad' := by injection hv'
        subst ead
        subst hg
        have hgl : g < wr.heap.size := S2.row.lt rfl
        have c3 := hcell 3 (by decide)
        have hk1 : (0 : Int) < (k : Int) := by omega
        have hset := S2.row.set Pl.cells_length (g := g) rfl 0 3 hl0 (by decide) (.int .u32 1001) ((fun x : Pl => (⟨x.b, x.p, x.g, 1001⟩ : Pl)) (L0.map fewL)[0]) rfl
        have hmod : (L0.map fewL).set 0 ((fun x : Pl => (⟨x.b, x.p, x.g, 1001⟩ : Pl)) (L0.map fewL)[0]) = promptL l true := by
          rw [hpL.out true, if_pos rfl]
          exact modify0 (L0.map fewL) (fun x : Pl => (⟨x.b, x.p, x.g, 1001⟩ : Pl)) hl0
        rw [hmod] at hset
        have S3 : PSt w (wr.setCell ⟨g, 3, none⟩ (.int .u32 1001)) nb (.slice (some ⟨g, 0, none⟩) k lcap) (promptL l true) (fun P => P = initPN []) own M (initPN []) := by
          have hg0 := hnw g rfl
          refine ⟨S2.net.kept (Kept.of_setCell wr ⟨g, 3, none⟩ _) (fun i _ e => by have e' : i = g := e; rw [e']; exact hg0.1) (fun _ _ => rfl), S2.inv, S2.pr, by simpa using hset, S2.lown, S2.zero, S2.bel.trans ((Kept.of_setCell wr ⟨g, 3, none⟩ _).below S2.bel.size (fun q e => by have e' : q = g := e; rw [e']; exact hg0.2))⟩
        simp only [Pl.cells, List.getElem?_cons_zero, List.getElem?_cons_succ, Nat.zero_mul, Nat.zero_add] at c3
        generalize pickN poor 3 = pk at *
        have hcw : wr.cell? ⟨nb, 4, none⟩ = some (.pointer (some ⟨M.db, 0, none⟩)) := by rw [cell_at S2.net.blk 4]; rfl
        have hnwl := S2.net.lt
        have hng : ¬ nb = g := fun e => by
          have h1 := (hnw g rfl).1
          rw [← e, S2.net.nown] at h1
          omega
        clear hev hcell hset hmod hv' S2
        obtain ⟨u3, hu3⟩ : ∃ u3, u3 = wr.setCell ⟨g, 3, none⟩ (.int .u32 1001) := ⟨_, rfl⟩
        rw [← hu3] at S3
        replace hu3 := hide hu3

        -- the payment is submitted
        have hL1 : Payable (promptL l true) := (hpl.out true).1
        have hxok := (hpl.out true).2.1
        have hstp : Hid (∀ P Q m, PrJ (promptL l true) true P → Good P → m ∈ P.wire → After P Q m → PrJ (promptL l true) true Q) := hide (fun P Q m J G hm hA => PrJ.step hL1 (hpl.out true).2.2.1 (hpl.out true).2.2.2 J G hm hA)
        have hsdy : Hid (Steady (PrJ (promptL l true) true)) := hide (PrJ.steady hL1 (hpl.out true).2.2.1 (hpl.out true).2.2.2)
        have hLn := hpn.out true
        rw [← hn.out] at hLn
        clear hpl hpL hpn hfe
        generalize promptL l true = L at *
        have hSub := sub_net u3 own nb M (initPN []) S3.net ⟨9, 5, [], L, (some ⟨g, 0, none⟩), lcap⟩ ⟨by show (9 : Nat) < 4294967296; omega, by show (5 : Nat) < 18446744073709551616; omega, fun x hx => (hxok x hx).1⟩ (by simp) (by show L.length ≤ 1000000; omega) (by rw [hck]; omega) (by show RowOf u3 57 4 Pl.cells (.slice (some ⟨g, 0, none⟩) L.length lcap) L; rw [hLn]; exact S3.row) (by intro g hg; exact S3.lown g (by rw [← hLn]; exact hg))
        have hfst := sub_first hL1 hxok 5 (by omega) (some ⟨g, 0, none⟩) lcap
        have hA0 : (initPN []).A = [] := rfl
        rw [hA0, hfst.1, hfst.2.1, hfst.2.2.1] at hSub
        have hpd := hide (show { initPN [] with A := [⟨-1, core ⟨9, 5, [], L, (some ⟨g, 0, none⟩), lcap⟩, zeroMsg⟩], wire := (initPN []).wire ++ asksM (core ⟨9, 5, [], L, (some ⟨g, 0, none⟩), lcap⟩) 1 0 } = paidPN ⟨9, 5, [], L, (some ⟨g, 0, none⟩), lcap⟩ from rfl)
        have hmsl := hfst.2.2.2.2
        rw [hLn] at hmsl
        have hnv : Hid (∀ ck ps, DRel (paidPN ⟨9, 5, [], L, (some ⟨g, 0, none⟩), lcap⟩).A ck ps → NInv (paidPN ⟨9, 5, [], L, (some ⟨g, 0, none⟩), lcap⟩)) := hide (fun ck ps hdr => NInv.submit (init_inv []) DRel.start (q := core ⟨9, 5, [], L, (some ⟨g, 0, none⟩), lcap⟩) rfl (fun k x hx => ⟨(hL1.x k x hx).1, (hL1.x k x hx).2.1⟩) ⟨ck, ps, hdr⟩ rfl rfl (fun y hy => .inr hy))
        have hJ0 : Hid (PrJ L true (paidPN ⟨9, 5, [], L, (some ⟨g, 0, none⟩), lcap⟩)) := hide (paid_sh ⟨9, 5, [], L, (some ⟨g, 0, none⟩), lcap⟩ rfl (by show 1 ≤ L.length; omega))
        simp only [Pm.v, Pm.lv] at hSub
        rw [hLn] at hSub
        obtain ⟨ms, hms⟩ : ∃ ms, ms = asksM (core ⟨9, 5, [], L, (some ⟨g, 0, none⟩), lcap⟩) 1 0 := ⟨_, rfl⟩
        rw [← hms] at hSub hpd hmsl
        replace hms := hide hms
        replace hmsl := hide hmsl
        replace hSub := hide hSub
        clear hfst hA0
        go_wp2_with fail
        refine (hPk.out _).mono ?_
        rintro e w9 ⟨rfl, rfl⟩
        go_wp2_with fail
        rw [← hu3.out]
        clear hu3 hcw hnwl hng c3
        replace S3 := hide S3
        refine hSub.out.mono ?_
        rintro e w4 ⟨lv2, own4, M4, rfl, I4, F4, hrow4, hlo4, hck4⟩
        generalize subLog ⟨9, 5, [], L, (some ⟨g, 0, none⟩), lcap⟩ [] = LGX at *
        obtain ⟨oad, ocap, holv⟩ := hrow4.slice
        have hol : (ms.map encOf).length = k := by rw [List.length_map]; exact hmsl.out
        rw [hol] at holv
        subst holv
        have hSend := hide (send_any w4 own4 nb M4 _ I4 (.slice oad k ocap) ms (row_msgs (fun l => rfl) hrow4) (by show (0 : Nat) + ms.length ≤ _; have := hmsl.out; omega))
        replace F4 := hide F4
        clear hSub hrow4 hlo4 hol I4
        go_wp2_with fail
        refine hSend.out.mono ?_
        rintro e w5 ⟨rfl, own5, M5, I5, F5, _⟩
        have e5 := hpd.out
        have I5' : NetAt w5 own5 nb 3 M5 (paidPN ⟨9, 5, [], L, (some ⟨g, 0, none⟩), lcap⟩) := by rw [← e5]; exact I5
        have S5 := hide (S3.out.go (F4.out.trans F5) I5' (hnv.out _ _ I5'.deed.rel) hJ0.out)
        have hw5 : Hid ((paidPN ⟨9, 5, [], L, (some ⟨g, 0, none⟩), lcap⟩).wire.length ≤ 4 + 4 * 0 ∧ ∀ j, ((paidPN ⟨9, 5, [], L, (some ⟨g, 0, none⟩), lcap⟩).lg j).length ≤ 1000 + 100 * 0) := hide (by
          refine ⟨?_, fun j => ?_⟩
          · show (asksM (core ⟨9, 5, [], L, (some ⟨g, 0, none⟩), lcap⟩) 1 0).length ≤ _
            rw [← hms.out, hmsl.out]
            omega
          · show (openLg [] j (cntA 4 0 j)).length ≤ _
            rw [openLg_len]
            unfold cntA
            (repeat' split) <;> omega)
        clear hSend F4 F5 I5 I5' hnv hJ0 S3 e5 hpd hms hmsl
        generalize paidPN ⟨9, 5, [], L, (some ⟨g, 0, none⟩), lcap⟩ = P5 at *
        go_wp2_with fail
        go_loopw [9, 15] (fun okv c u => okv = .bool true ∧ ∃ j : Nat, j ≤ ts.length ∧ c = .int .i64 (j : Int) ∧ ∃ own M P, PSt w u nb (.slice (some ⟨g, 0, none⟩) k lcap) L (PrJ L true) own M P ∧ P.wire.length ≤ 4 + 4 * j ∧ ∀ q, (P.lg q).length ≤ 1000 + 100 * j) (fun _ c _ => ts.length + 1 - (intOf c).toNat)
        case atStart => exact ⟨rfl, 0, Nat.zero_le _, rfl, own5, M5, P5, S5.out, hw5.out.1, hw5.out.2⟩
        case round =>
          clear S5 hw5
          obtain ⟨rfl, j, hj, rfl, own6, M6, P6, S6, hwl6, hlg6⟩ := hrel
          obtain ⟨wad, wcap, hwv, hwev⟩ := S6.net.wrow.form msgCell_length
          have hc9 : wr.cell? ⟨nb, 9, none⟩ = some (.slice wad P6.wire.length wcap) := by rw [cell_at S6.net.blk 9, ← hwv]; rfl
          have hnl6 := S6.net.lt
          by_cases hgo : j < ts.length ∧ 0 < P6.wire.length
          · have d1 : decide ((j : Int) < (ts.length : Int)) = true := by simp; omega
            have hji : (j : Int) < (ts.length : Int) := by omega
            have d2 : decide ((P6.wire.length : Int) > 0) = true := by simp; omega
            have d2' : decide ((0 : Int) < (P6.wire.length : Int)) = true := by simp; omega
            obtain ⟨ta, eta, htal, htac⟩ := htc.out j hgo.1
            subst eta
            have htj := htok.out ts[j] (List.getElem_mem hgo.1)
            have hct : wr.cell? (ta.add j) = some (.int .i64 ts[j]) := (World.cell?_of_block (w := w) (by rw [addr_block]; exact S6.bel.block _ htal)).trans htac
            have hP1 := hide (fun u => kpick_any ts[j] htj P6.wire.length hgo.2 (by omega) u)
            have hP2 := hide (fun u => kpick_any ts[j] htj 2 (by omega) (by omega) u)
            have hkk : pickN ts[j] P6.wire.length < P6.wire.length := Nat.mod_lt _ hgo.2
            obtain ⟨wg, ewg, hwc, _⟩ := hwev _ hkk
            subst ewg
            have hwc0 := hwc 0 (by decide)
            simp only [msgCell, List.getElem?_cons_zero, Nat.add_zero, Nat.mul_one] at hwc0
            have hm6 : P6.wire[pickN ts[j] P6.wire.length] ∈ P6.wire := List.getElem_mem hkk
            have hwgl : wg < wr.heap.size := S6.net.wrow.lt (by rw [hwv]; rfl)
            have G6 := S6.net.good S6.inv
            have hon := S6.inv.wire _ hm6
            have hStay : Hid (∀ u, Below wr.heap.size wr u → Calls Try.prog 26 #[.pointer (some ⟨nb, 0, none⟩), .string (bs (encOf P6.wire[pickN ts[j] P6.wire.length]))] u fun e w' => e = .returned (.bool true) ∧ ∃ own M P, PSt w w' nb (.slice (some ⟨g, 0, none⟩) k lcap) L (PrJ L true) own M P ∧ P.wire.length ≤ 4 + 4 * (j + 1) ∧ ∀ q, (P.lg q).length ≤ 1000 + 100 * (j + 1)) := hide (fun u hu => by
              have Su := S6.below hu
              refine (arrive_any u own6 nb M6 P6 Su.net Su.inv _ hon (by omega) (fun q => by have := hlg6 q; omega)).mono ?_
              rintro e w' ⟨rfl, own', M', I', F'⟩
              refine ⟨rfl, own', M', _, Su.go F' I' (arrive_inv Su.net Su.inv hon I') (hstp.out _ _ _ S6.pr G6 hm6 arrive_after_stay), ?_, fun q => ?_⟩
              · have := wire_arrive G6 hon
                omega
              · have h1 := lg_arrive (P := P6) hon.1 q
                have := hlg6 q
                omega)
            have hLose : Hid (∀ u, Below wr.heap.size wr u → Calls Try.prog 27 #[.pointer (some ⟨nb, 0, none⟩), .int .i64 (pickN ts[j] P6.wire.length : Int)] u fun e w' => e = .returned (.string (bs (encOf P6.wire[pickN ts[j] P6.wire.length]))) ∧ ∃ own M, PSt w w' nb (.slice (some ⟨g, 0, none⟩) k lcap) L (fun P => P = { P6 with wire := P6.wire.eraseIdx (pickN ts[j] P6.wire.length) }) own M { P6 with wire := P6.wire.eraseIdx (pickN ts[j] P6.wire.length) }) := hide (fun u hu => by
              have Su := S6.below hu
              refine (lose_any u own6 nb M6 P6 Su.net _ hkk (by omega)).mono ?_
              rintro e w' ⟨rfl, own', M', I', F', _⟩
              exact ⟨rfl, own', M', Su.go F' I' (S6.inv.less rfl rfl (fun y hy => List.mem_of_mem_eraseIdx hy)) rfl⟩)
            have hArr : Hid (∀ u own7 M7, PSt w u nb (.slice (some ⟨g, 0, none⟩) k lcap) L (fun P => P = { P6 with wire := P6.wire.eraseIdx (pickN ts[j] P6.wire.length) }) own7 M7 { P6 with wire := P6.wire.eraseIdx (pickN ts[j] P6.wire.length) } → Calls Try.prog 26 #[.pointer (some ⟨nb, 0, none⟩), .string (bs (encOf P6.wire[pickN ts[j] P6.wire.length]))] u fun e w' => e = .returned (.bool true) ∧ ∃ own M P, PSt w w' nb (.slice (some ⟨g, 0, none⟩) k lcap) L (PrJ L true) own M P ∧ P.wire.length ≤ 4 + 4 * (j + 1) ∧ ∀ q, (P.lg q).length ≤ 1000 + 100 * (j + 1)) := hide (fun u own7 M7 Su => by
              have hle : (P6.wire.eraseIdx (pickN ts[j] P6.wire.length)).length ≤ P6.wire.length := by rw [List.length_eraseIdx]; split <;> omega
              have hon7 : OnW { P6 with wire := P6.wire.eraseIdx (pickN ts[j] P6.wire.length) } P6.wire[pickN ts[j] P6.wire.length] := hon.of_wire rfl rfl
              refine (arrive_any u own7 nb M7 _ Su.net Su.inv _ hon7 (by show (P6.wire.eraseIdx (pickN ts[j] P6.wire.length)).length + 4 ≤ _; omega) (fun q => by show (P6.lg q).length + 100 ≤ _; have := hlg6 q; omega)).mono ?_
              rintro e w' ⟨rfl, own', M', I', F'⟩
              refine ⟨rfl, own', M', _, Su.go F' I' (arrive_inv Su.net Su.inv hon7 I') (hstp.out _ _ _ S6.pr G6 hm6 (arrive_after_erase hkk)), ?_, fun q => ?_⟩
              · have := wire_arrive (Su.net.good Su.inv) hon7
                have e : ({ P6 with wire := P6.wire.eraseIdx (pickN ts[j] P6.wire.length) } : PN).wire.length = (P6.wire.eraseIdx (pickN ts[j] P6.wire.length)).length := rfl
                omega
              · have h1 := lg_arrive (P := { P6 with wire := P6.wire.eraseIdx (pickN ts[j] P6.wire.length) }) hon7.1 q
                have e : ({ P6 with wire := P6.wire.eraseIdx (pickN ts[j] P6.wire.length) } : PN).lg q = P6.lg q := rfl
                rw [e] at h1
                have := hlg6 q
                omega)
            clear S6 hlg6 hwl6 hwev hwc G6 hon hm6 htac htj
            have hkI : (pickN ts[j] P6.wire.length : Int) < (P6.wire.length : Int) := by omega
            clear hwv
            go_wp2_with fail
            go_region_with (first
              | (go_at_call 21; refine (hP1.out _).mono ?_; rintro e u7 ⟨rfl, rfl⟩))
            all_goals (
              have hS7 : Hid (Below wr.heap.size wr wr.drew) := hide (Below.refl _ _).drew
              clear hP1
              go_wp2_with fail
              refine (hP2.out _).mono ?_
              rintro e u8 ⟨rfl, rfl⟩
              by_cases hev : pickN ts[j] 2 = 0
              · have dv : ((pickN ts[j] 2 : Int) == 0) = true := by rw [hev]; rfl
                have hSt := hide (hStay.out _ hS7.out)
                clear hP2 hStay hLose hArr
                go_wp2_with fail
                refine hSt.out.mono ?_
                rintro e u9 ⟨rfl, hX⟩
                replace hX := hide hX
                clear hSt hc9 hct hwc0
                go_wp2
                exact ⟨⟨rfl, j + 1, hgo.1, by go_num, hX.out⟩, by simp [intOf]; omega⟩
              · have dv : ((pickN ts[j] 2 : Int) == 0) = false := by simpa using hev
                have hLo := hide (hLose.out _ hS7.out)
                clear hP2 hStay hLose
                go_wp2_with fail
                refine hLo.out.mono ?_
                rintro e u9 ⟨rfl, own7, M7, S7⟩
                have hAr := hide (hArr.out _ own7 M7 S7)
                clear hLo hArr S7 hc9 hct hwc0
                go_wp2_with fail
                refine hAr.out.mono ?_
                rintro e u10 ⟨rfl, hX⟩
                replace hX := hide hX
                clear hAr
                go_wp2
                exact ⟨⟨rfl, j + 1, hgo.1, by go_num, hX.out⟩, by simp [intOf]; omega⟩)
          · have hcond : ¬ j < ts.length ∨ (j < ts.length ∧ P6.wire.length = 0) := by omega
            have hFl := hide (flush_any (PrJ L true) hsdy.out wr own6 nb M6 P6 S6.net S6.inv S6.pr (by omega) (fun q => by have := hlg6 q; omega))
            have hgoF := hide (fun u own7 M7 P7 (I7 : NetAt u own7 nb 3 M7 P7) (F7 : Frame wr u own6 own7) (h7 : NInv P7) (J7 : PrJ L true P7) => S6.go F7 I7 h7 J7)
            clear S6 hwl6 hlg6 hwev hwv hstp
            clear hgo hj htok htc htlen hn
            rcases hcond with d1 | ⟨d1, d2⟩
            · go_wp2_with fail
              refine hFl.out.mono ?_
              rintro e w7 ⟨rfl, own7, M7, P7, I7, F7, hI7, hJ7, hw7, _⟩
              have S7 := hgoF.out _ _ _ _ I7 F7 hI7 hJ7
              obtain ⟨hst, hdn, hnt, hbal⟩ := hJ7.end_ hL1 (I7.good hI7) hw7
              have hf9 := hJ7.c.f9
              have hSt := eStatusR_any 9 (by omega) w7 M7.db M7.ck M7.ps M7.xv P7.A I7.deed.x I7.deed.rel
              have hstr : stR P7.A 9 = (3, (stA P7.A 9).2.1, (stA P7.A 9).2.2.1, 0) := by unfold stR; rw [if_pos hf9, hst]; rfl
              rw [hstr] at hSt
              have hc4 : w7.cell? ⟨nb, 4, none⟩ = some (.pointer (some ⟨M7.db, 0, none⟩)) := by rw [cell_at I7.blk 4]; rfl
              have hnl7 := I7.lt
              have hEn := hide (fun u (hu : Below w7.heap.size w7 u) => by
                have h := ends_any u own7 nb M7 P7 (I7.below hu) 9 (by omega)
                rw [hdn, hnt] at h
                exact h)
              have hop8 := hide hJ7.c.op
              replace hSt := hide hSt
              replace S7 := hide S7
              replace hbal := hide hbal
              generalize (stA P7.A 9).2.1 = q1 at *
              generalize (stA P7.A 9).2.2.1 = q2 at *
              clear hFl hgoF hc9 hnl6 I7 F7 hI7 hJ7 hw7 hst hdn hnt hf9 hstr
              go_wp2_with fail
              refine hSt.out.mono ?_
              rintro e w8 ⟨rfl, hb8⟩
              have hb9 : Below w7.heap.size w7 (w8.alloc (.cells #[.int .u8 3, .int .u8 (q1 : Int), .int .u8 (q2 : Int)] 76)) := hb8.alloc hb8.size _
              have B9 := Box.mk0 w8 #[.int .u8 3, .int .u8 (q1 : Int), .int .u8 (q2 : Int)] 76
              have hEn8 := hide (hEn.out _ hb9)
              replace hb9 := hide hb9
              clear hSt hEn hb8
              go_wp2_with fail
              refine hEn8.out.mono ?_
              rintro e w10 ⟨rfl, hb10⟩
              have B10 := B9.below hb10
              have hc10 := B10.cell
              have hl10 := B10.lt
              have S10 := hide (S7.out.below (hb9.out.trans (hb10.mono hb9.out.size)))
              clear hEn8 hb9 hb10 B9 B10 S7 hc4 hnl7
              go_wp2_with fail
              go_loopw [21] (fun c u => ∃ i : Nat, 1 ≤ i ∧ i ≤ 4 ∧ c = .int .i64 (i : Int) ∧ PSt w u nb (.slice (some ⟨g, 0, none⟩) k lcap) L (PrJ L true) own7 M7 P7) (fun c _ => 5 - (intOf c).toNat)
              case atStart => exact ⟨1, by omega, by omega, rfl, S10.out⟩
              case round =>
                clear S10 hc10 hl10
                obtain ⟨i, hi1, hi4, rfl, Si⟩ := hrel
                by_cases hi3 : i ≤ 3
                · have d3 : (i : Int) ≤ 3 := by omega
                  have hiI : (i : Int) < 4 := by omega
                  replace Si := hide Si
                  go_wp2_with fail
                  go_loopw [22] (fun c u => ∃ a : Nat, a ≤ 3 ∧ c = .int .i64 (a : Int) ∧ PSt w u nb (.slice (some ⟨g, 0, none⟩) k lcap) L (PrJ L true) own7 M7 P7) (fun c _ => 4 - (intOf c).toNat)
                  case atStart => exact ⟨0, by omega, rfl, Si.out⟩
                  case round =>
                    clear Si
                    obtain ⟨a, ha, rfl, Sa⟩ := hrel
                    by_cases ha3 : a < 3
                    · have dA : (a : Int) < 3 := by omega
                      have hmA : (a : Int) % 65536 = (a : Int) := by omega
                      have hbk := Sa.net.bank i hi1 hi3
                      have hcb : wr.cell? ⟨nb, i, none⟩ = some (.pointer (some ⟨(M7.bk i).b, 0, none⟩)) := by rw [cell_at Sa.net.blk i]; exact bank_ptr hi1 hi3 (Nat.le_refl 3)
                      have hnla := Sa.net.lt
                      have hFu := eFundsR_any a (by omega) wr (M7.bk i).b i _ _ _ _ (P7.E i) hbk.x hbk.rel (hop8.out i hi1 hi3 a ha3).2
                      have hV := hbal.out i a hi1 hi3 ha3
                      rw [hV] at hFu
                      have hMv := hide (fun u (hu : Below wr.heap.size wr u) => moves_any u (.slice (some ⟨g, 0, none⟩) k lcap) L (fun x hx => (hxok x hx).1) (by omega) (Sa.row.below hu) i a hi3 ha3)
                      have hSb := hide (fun u (hu : Below wr.heap.size wr u) => Sa.below hu)
                      replace hFu := hide hFu
                      simp only [if_true] at hFu
                      generalize outTo L i a L.length = OT at *
                      generalize inTo L i a L.length = IT at *
                      generalize heldOf a (P7.E i) = HH at *
                      generalize dueOf a (P7.E i) = DD at *
                      clear hV hbk Sa
                      go_wp2_with fail
                      refine hFu.out.mono ?_
                      rintro e u1 ⟨rfl, hb1⟩
                      have hb2 : Below wr.heap.size wr (u1.alloc (.cells #[.int .u32 1000, .int .u32 (HH : Int), .int .u32 (DD : Int)] 82)) := hb1.alloc hb1.size _
                      have hM1 := hide (hMv.out _ hb2)
                      have hS1 := hide (hSb.out _ hb2)
                      clear hFu hMv hSb hb1 hb2 hcb
                      go_wp2_with fail
                      refine hM1.out.mono ?_
                      rintro e u2 ⟨rfl, rfl⟩
                      clear hM1
                      go_wp2
                      exact ⟨⟨a + 1, ha3, by go_num, hS1.out⟩, by simp [intOf]; omega⟩
                    · obtain rfl : a = 3 := by omega
                      replace Sa := hide Sa
                      go_wp2
                      exact ⟨⟨i + 1, by omega, by omega, by go_num, Sa.out⟩, by simp [intOf]; omega⟩
                · obtain rfl : i = 4 := by omega
                  have hbel := hide Si.bel
                  clear Si
                  go_wp2
                  go_ret
                  exact ⟨rfl, hbel.out⟩
            · rw [d2] at hc9
              clear d2
              go_wp2_with fail
              refine hFl.out.mono ?_
              rintro e w7 ⟨rfl, own7, M7, P7, I7, F7, hI7, hJ7, hw7, _⟩
              have S7 := hgoF.out _ _ _ _ I7 F7 hI7 hJ7
              obtain ⟨hst, hdn, hnt, hbal⟩ := hJ7.end_ hL1 (I7.good hI7) hw7
              have hf9 := hJ7.c.f9
              have hSt := eStatusR_any 9 (by omega) w7 M7.db M7.ck M7.ps M7.xv P7.A I7.deed.x I7.deed.rel
              have hstr : stR P7.A 9 = (3, (stA P7.A 9).2.1, (stA P7.A 9).2.2.1, 0) := by unfold stR; rw [if_pos hf9, hst]; rfl
              rw [hstr] at hSt
              have hc4 : w7.cell? ⟨nb, 4, none⟩ = some (.pointer (some ⟨M7.db, 0, none⟩)) := by rw [cell_at I7.blk 4]; rfl
              have hnl7 := I7.lt
              have hEn := hide (fun u (hu : Below w7.heap.size w7 u) => by
                have h := ends_any u own7 nb M7 P7 (I7.below hu) 9 (by omega)
                rw [hdn, hnt] at h
                exact h)
              have hop8 := hide hJ7.c.op
              replace hSt := hide hSt
              replace S7 := hide S7
              replace hbal := hide hbal
              generalize (stA P7.A 9).2.1 = q1 at *
              generalize (stA P7.A 9).2.2.1 = q2 at *
              clear hFl hgoF hc9 hnl6 I7 F7 hI7 hJ7 hw7 hst hdn hnt hf9 hstr
              go_wp2_with fail
              refine hSt.out.mono ?_
              rintro e w8 ⟨rfl, hb8⟩
              have hb9 : Below w7.heap.size w7 (w8.alloc (.cells #[.int .u8 3, .int .u8 (q1 : Int), .int .u8 (q2 : Int)] 76)) := hb8.alloc hb8.size _
              have B9 := Box.mk0 w8 #[.int .u8 3, .int .u8 (q1 : Int), .int .u8 (q2 : Int)] 76
              have hEn8 := hide (hEn.out _ hb9)
              replace hb9 := hide hb9
              clear hSt hEn hb8
              go_wp2_with fail
              refine hEn8.out.mono ?_
              rintro e w10 ⟨rfl, hb10⟩
              have B10 := B9.below hb10
              have hc10 := B10.cell
              have hl10 := B10.lt
              have S10 := hide (S7.out.below (hb9.out.trans (hb10.mono hb9.out.size)))
              clear hEn8 hb9 hb10 B9 B10 S7 hc4 hnl7
              go_wp2_with fail
              go_loopw [21] (fun c u => ∃ i : Nat, 1 ≤ i ∧ i ≤ 4 ∧ c = .int .i64 (i : Int) ∧ PSt w u nb (.slice (some ⟨g, 0, none⟩) k lcap) L (PrJ L true) own7 M7 P7) (fun c _ => 5 - (intOf c).toNat)
              case atStart => exact ⟨1, by omega, by omega, rfl, S10.out⟩
              case round =>
                clear S10 hc10 hl10
                obtain ⟨i, hi1, hi4, rfl, Si⟩ := hrel
                by_cases hi3 : i ≤ 3
                · have d3 : (i : Int) ≤ 3 := by omega
                  have hiI : (i : Int) < 4 := by omega
                  replace Si := hide Si
                  go_wp2_with fail
                  go_loopw [22] (fun c u => ∃ a : Nat, a ≤ 3 ∧ c = .int .i64 (a : Int) ∧ PSt w u nb (.slice (some ⟨g, 0, none⟩) k lcap) L (PrJ L true) own7 M7 P7) (fun c _ => 4 - (intOf c).toNat)
                  case atStart => exact ⟨0, by omega, rfl, Si.out⟩
                  case round =>
                    clear Si
                    obtain ⟨a, ha, rfl, Sa⟩ := hrel
                    by_cases ha3 : a < 3
                    · have dA : (a : Int) < 3 := by omega
                      have hmA : (a : Int) % 65536 = (a : Int) := by omega
                      have hbk := Sa.net.bank i hi1 hi3
                      have hcb : wr.cell? ⟨nb, i, none⟩ = some (.pointer (some ⟨(M7.bk i).b, 0, none⟩)) := by rw [cell_at Sa.net.blk i]; exact bank_ptr hi1 hi3 (Nat.le_refl 3)
                      have hnla := Sa.net.lt
                      have hFu := eFundsR_any a (by omega) wr (M7.bk i).b i _ _ _ _ (P7.E i) hbk.x hbk.rel (hop8.out i hi1 hi3 a ha3).2
                      have hV := hbal.out i a hi1 hi3 ha3
                      rw [hV] at hFu
                      have hMv := hide (fun u (hu : Below wr.heap.size wr u) => moves_any u (.slice (some ⟨g, 0, none⟩) k lcap) L (fun x hx => (hxok x hx).1) (by omega) (Sa.row.below hu) i a hi3 ha3)
                      have hSb := hide (fun u (hu : Below wr.heap.size wr u) => Sa.below hu)
                      replace hFu := hide hFu
                      simp only [if_true] at hFu
                      generalize outTo L i a L.length = OT at *
                      generalize inTo L i a L.length = IT at *
                      generalize heldOf a (P7.E i) = HH at *
                      generalize dueOf a (P7.E i) = DD at *
                      clear hV hbk Sa
                      go_wp2_with fail
                      refine hFu.out.mono ?_
                      rintro e u1 ⟨rfl, hb1⟩
                      have hb2 : Below wr.heap.size wr (u1.alloc (.cells #[.int .u32 1000, .int .u32 (HH : Int), .int .u32 (DD : Int)] 82)) := hb1.alloc hb1.size _
                      have hM1 := hide (hMv.out _ hb2)
                      have hS1 := hide (hSb.out _ hb2)
                      clear hFu hMv hSb hb1 hb2 hcb
                      go_wp2_with fail
                      refine hM1.out.mono ?_
                      rintro e u2 ⟨rfl, rfl⟩
                      clear hM1
                      go_wp2
                      exact ⟨⟨a + 1, ha3, by go_num, hS1.out⟩, by simp [intOf]; omega⟩
                    · obtain rfl : a = 3 := by omega
                      replace Sa := hide Sa
                      go_wp2
                      exact ⟨⟨i + 1, by omega, by omega, by go_num, Sa.out⟩, by simp [intOf]; omega⟩
                · obtain rfl : i = 4 := by omega
                  have hbel := hide Si.bel
                  clear Si
                  go_wp2
                  go_ret
                  exact ⟨rfl, hbel.out⟩
end Go.Proofs.Ytjkhbjgfoopomaa
