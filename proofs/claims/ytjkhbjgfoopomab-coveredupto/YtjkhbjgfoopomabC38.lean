import Derived.Test.YtjkhbjgfoopomabC37
/-
  Networks: one is made, the walk.
-/
namespace Go.Proofs.Ytjkhbjgfoopomab
open Go.RowKit
set_option linter.unusedVariables false
set_option linter.unusedSimpArgs false
/-- an account is opened -/
theorem open_acc {w : World} {own : Nat → Nat} {nb j : Nat} {M : NM} {fs : List Int} {a : Nat} (h1 : 1 ≤ j) (h3 : j ≤ 3) (ha : a < 3) (I : NetAt w own nb j M (initAt fs (cntA j a))) :
    Calls Try.prog 10 #[.pointer (some ⟨(M.bk j).b, 0, none⟩), .int .u16 (a : Int), .int .u32 (fundAt fs ((j - 1) * 3 + a) : Int)] w fun e w' => e = .returned (.tuple #[.string (bs (openTextOf a (fundAt fs ((j - 1) * 3 + a)))), .int .i64 0]) ∧ Frame w w' own (fun i => if i < w.heap.size then own i else 3 + j) ∧ ∃ M', (M'.bk j).b = (M.bk j).b ∧ NetAt w' (fun i => if i < w.heap.size then own i else 3 + j) nb j M' { initAt fs (cntA j a) with E := fun k => openE fs k (cntA j (a + 1) k) } := by
  have B := I.bank j h1 (Nat.le_refl _)
  have hE : (initAt fs (cntA j a)).E j = openE fs j a := by show openE fs j (cntA j a j) = _; rw [cnt_self j a h1]
  have hr := B.rel
  rw [hE] at hr
  have hf := fundAt_lt fs ((j - 1) * 3 + a)
  have h0 : openX a (M.bk j).ac = 0 := by rw [← hr.openE a]; exact openE_err fs j a (by omega)
  refine (eOpen_any a (fundAt fs ((j - 1) * 3 + a)) (by omega) hf w (M.bk j).b j (M.bk j).ac (M.bk j).ls (M.bk j).va (M.bk j).vl B.x B.ap hr.aok (by have := hr.alen; omega)).mono ?_
  rintro e w' ⟨va', rfl, hT⟩
  have hr' := hr.opens a (fundAt fs ((j - 1) * 3 + a)) (by omega) hf
  have he : openEvs a (fundAt fs ((j - 1) * 3 + a)) (openE fs j a) = openE fs j (a + 1) := by
    unfold openEvs
    rw [if_pos (openE_err fs j a (by omega)), openE_succ]
  rw [he] at hr'
  have J := I.bankTo h1 (Nat.le_refl _) h3 (.slice none 0 0) hT hr' (fun g hg => by simp [Value.ownBlock] at hg)
  have eo : (fun i => if i < w.heap.size then own i else if (Value.slice none 0 0).ownBlock = some i then 0 else 3 + j) = (fun i => if i < w.heap.size then own i else 3 + j) := by
    funext i
    simp [Value.ownBlock]
  rw [eo] at J
  have eu : upd (initAt fs (cntA j a)).E j (openE fs j (a + 1)) = fun k => openE fs k (cntA j (a + 1) k) := (cnt_upd (openE fs) j a h1).symm
  rw [eu] at J
  refine ⟨by unfold openLog; rw [if_pos h0, h0]; rfl, J.2, _, ?_, J.1⟩
  simp [upd]
theorem net_lg {j : Nat} {M : NM} {P : PN} (k : Nat) (hk : k ≤ 3) (x : List UInt8) : (netCells j M P).setIfInBounds (5 + k) (.string (bs x)) = netCells j M { P with lg := upd P.lg k x } := by
  have : k = 0 ∨ k = 1 ∨ k = 2 ∨ k = 3 := by omega
  rcases this with rfl | rfl | rfl | rfl <;> simp [netCells, upd]
theorem net_sm {j : Nat} {M : NM} {P : PN} (k : Nat) (hk : k ≤ 3) (x : Nat) : (netCells j M P).setIfInBounds (10 + k) (.int .u64 (x : Int)) = netCells j M { P with sm := upd P.sm k x } := by
  have : k = 0 ∨ k = 1 ∨ k = 2 ∨ k = 3 := by omega
  rcases this with rfl | rfl | rfl | rfl <;> simp [netCells, upd]
theorem net_lg_at {j : Nat} {M : NM} {P : PN} (k : Nat) (hk : k ≤ 3) : (netCells j M P)[5 + k]? = some (.string (bs (P.lg k))) := by
  have : k = 0 ∨ k = 1 ∨ k = 2 ∨ k = 3 := by omega
  rcases this with rfl | rfl | rfl | rfl <;> rfl
theorem net_sm_at {j : Nat} {M : NM} {P : PN} (k : Nat) (hk : k ≤ 3) : (netCells j M P)[10 + k]? = some (.int .u64 (P.sm k : Int)) := by
  have : k = 0 ∨ k = 1 ∨ k = 2 ∨ k = 3 := by omega
  rcases this with rfl | rfl | rfl | rfl <;> rfl
theorem init_next (fs : List Int) (j a : Nat) : initAt fs (cntA (j + 1) (a + 1)) = ⟨fun k => openE fs k (cntA (j + 1) (a + 1) k), [], [], upd (initAt fs (cntA (j + 1) a)).lg (j + 1) (openLg fs (j + 1) a ++ openTextOf a (fundAt fs (j * 3 + a))), upd (initAt fs (cntA (j + 1) a)).sm (j + 1) (openSm fs (j + 1) a + fundAt fs (j * 3 + a))⟩ := by
  unfold initAt
  congr 1
  · exact cnt_upd (openLg fs) (j + 1) a (by omega)
  · exact cnt_upd (openSm fs) (j + 1) a (by omega)
def Made (w : World) (fs : List Int) (e : Ending) (w' : World) : Prop := ∃ nb own M, e = .returned (.tuple #[.pointer (some ⟨nb, 0, none⟩), .bool true]) ∧ w.heap.size ≤ nb ∧ NetAt w' own nb 3 M (initPN fs) ∧ (∀ i, i < w.heap.size → own i = 0) ∧ Below w.heap.size w w'
attribute [local go_sem] bs_append in
set_option maxRecDepth 100000 in
set_option maxHeartbeats 4000000 in
theorem network_any (w : World) (fv : Value) (fs : List Int) (hfs : FundsAt w fv fs) :
    Calls Try.prog 4 #[fv] w (Made w fs) := by
  obtain ⟨fad, fcap, hfv, hfc⟩ := hfs.form
  have hlen := hfs.len
  subst hfv
  have hN := hide (fun u => newDeed_any u)
  obtain ⟨W1, hW1⟩ : ∃ W1, W1 = w.alloc (.cells #[.pointer none, .pointer none, .pointer none, .pointer none, .pointer none, .string ⟨#[]⟩, .string ⟨#[]⟩, .string ⟨#[]⟩, .string ⟨#[]⟩, .slice none 0 0, .int .u64 0, .int .u64 0, .int .u64 0, .int .u64 0] 41) := ⟨_, rfl⟩
  have hb1 : Below w.heap.size w W1 := by rw [hW1]; exact (Below.refl _ _).alloc (Nat.le_refl _) _
  have hblk1 : W1.heap[w.heap.size]? = some (.cells #[.pointer none, .pointer none, .pointer none, .pointer none, .pointer none, .string ⟨#[]⟩, .string ⟨#[]⟩, .string ⟨#[]⟩, .string ⟨#[]⟩, .slice none 0 0, .int .u64 0, .int .u64 0, .int .u64 0, .int .u64 0] 41 (0, 0)) := by rw [hW1]; exact heap_alloc_self _ _
  replace hW1 := hide hW1
  replace hfc := hide hfc
  go_enter Try.func4, Try.ntmps4
  go_wp2_with fail
  rw [← hW1.out]
  refine (hN.out _).mono ?_
  rintro e w2 ⟨⟨D, hD, rfl, hXD⟩, hb2⟩
  have hnb : w.heap.size < W1.heap.size := block_lt hblk1
  have hblk2 : w2.heap[w.heap.size]? = some (.cells #[.pointer none, .pointer none, .pointer none, .pointer none, .pointer none, .string ⟨#[]⟩, .string ⟨#[]⟩, .string ⟨#[]⟩, .string ⟨#[]⟩, .slice none 0 0, .int .u64 0, .int .u64 0, .int .u64 0, .int .u64 0] 41 (0, 0)) := by rw [hb2.block _ hnb]; exact hblk1
  have hb3 : Below w.heap.size w (w2.setCell ⟨w.heap.size, 4, none⟩ (.pointer (some ⟨D, 0, none⟩))) := (hb1.trans (hb2.mono hb1.size)).trans ((Kept.of_setCell w2 ⟨w.heap.size, 4, none⟩ (.pointer (some ⟨D, 0, none⟩))).below (Nat.le_trans hb1.size hb2.size) (fun k e => by have e' : k = w.heap.size := e; omega))
  have hI0 : Hid (∃ own M, NetAt (w2.setCell ⟨w.heap.size, 4, none⟩ (.pointer (some ⟨D, 0, none⟩))) own w.heap.size 0 M (initAt fs (cntA 1 0)) ∧ (∀ i, i < w.heap.size → own i = 0) ∧ Below w.heap.size w (w2.setCell ⟨w.heap.size, 4, none⟩ (.pointer (some ⟨D, 0, none⟩)))) := hide (by
    refine ⟨fun i => if i = w.heap.size then 1 else if i = D then 2 else 0, ⟨fun _ => ⟨0, [], [], .slice none 0 0, .slice none 0 0⟩, D, 0, [], .slice none 0 0, .slice none 0 0⟩, ⟨?_, by simp, fun k h1 h2 => by omega, ⟨?_, ⟨by simp [Value.ownBlock], fun x hx => by simp at hx⟩, fun i hi => ?_, DRel.start⟩, RowOf.nil _ _, fun g hg => by simp [Value.ownBlock] at hg⟩, fun i hi => ?_, hb3⟩
    · rw [heap_set_self hblk2]
      rfl
    · refine hXD.keptS (Kept.of_setCell w2 ⟨w.heap.size, 4, none⟩ _) (fun i hi e => ?_)
      have e' : i = w.heap.size := e
      rcases hi with rfl | h | ⟨x, hx, _⟩
      · omega
      · simp [Value.ownBlock] at h
      · simp at hx
    · rcases hi with rfl | h | ⟨x, hx, _⟩
      · show (if i = w.heap.size then 1 else if i = i then 2 else 0) = 2
        rw [if_neg (by omega), if_pos rfl]
      · simp [Value.ownBlock] at h
      · simp at hx
    · show (if i = w.heap.size then 1 else if i = D then 2 else 0) = 0
      rw [if_neg (by omega), if_neg (by omega)])
  have hc2 := fun o => cell_at hblk2 o
  have hf2 := fun o => frozen_at hblk2 o
  have hnl2 := block_lt hblk2
  clear hN hXD hb2 hblk1 hblk2 hb1 hb3 hD hnb
  obtain ⟨nb, hnbe⟩ : ∃ nb, nb = w.heap.size := ⟨_, rfl⟩
  replace hnbe := hide hnbe
  rw [← hnbe.out] at hI0 hc2 hf2 hnl2 ⊢
  go_wp2_with fail
  go_loopw [5] (fun c u => ∃ j : Nat, j ≤ 3 ∧ c = .int .i64 ((j + 1 : Nat) : Int) ∧ ∃ own M, NetAt u own nb j M (initAt fs (cntA (j + 1) 0)) ∧ (∀ i, i < w.heap.size → own i = 0) ∧ Below w.heap.size w u) (fun c _ => 5 - (intOf c).toNat)
  case atStart => exact ⟨0, by omega, rfl, by obtain ⟨o, m, a, b, c⟩ := hI0.out; rw [hnbe.out] at a b c ⊢; exact ⟨o, m, a, b, c⟩⟩
  case round =>
    clear hI0 hc2 hf2 hnl2
    obtain ⟨j, hj, rfl, own1, M1, I1, ho1, hb1⟩ := hrel
    by_cases hj3 : j < 3
    · have d3 : decide (((j + 1 : Nat) : Int) ≤ 3) = true := by simp; omega
      have hmod : ((j + 1 : Nat) : Int) % 256 = ((j + 1 : Nat) : Int) := by omega
      have hw8 : IntKind.u8.wrap ((j + 1 : Nat) : Int) = ((j + 1 : Nat) : Int) := by rw [IntKind.wrap_u8]; omega
      have hNB := newBank_any (j + 1) (by omega) wr
      have hbb : bankB (j + 1) = true := by simp [bankB]; omega
      rw [hbb] at hNB
      simp only [if_true] at hNB
      replace hNB := hide hNB
      have hBN := hide (fun B u (hB : wr.heap.size ≤ B) (hb : Below wr.heap.size wr u) hX => I1.bankNew hj3 hB hb hX (by show openE fs (j + 1) (cntA (j + 1) 0 (j + 1)) = []; rw [cnt_self _ _ (by omega)]; rfl))
      replace ho1 := hide ho1
      replace hb1 := hide hb1
      clear I1
      go_wp2_with fail
      refine hNB.out.mono ?_
      rintro e w3 ⟨⟨B, hB, rfl, hXB⟩, hb3⟩
      obtain ⟨hbl3, I3⟩ := hBN.out B w3 hB hb3 hXB
      have hc3 : w3.cell? ⟨nb, j + 1, none⟩ = (netCells j M1 (initAt fs (cntA (j + 1) 0)))[j + 1]? := cell_at hbl3 (j + 1)
      have hc3' : w3.cell? ⟨nb, j + 1, none⟩ = some (.pointer none) := by
        rw [hc3]
        have : j = 0 ∨ j = 1 ∨ j = 2 := by omega
        rcases this with rfl | rfl | rfl <;> rfl
      have hf3 := fun o => frozen_at hbl3 o
      have hnl3 := block_lt hbl3
      have hj4 : ((j + 1 : Nat) : Int) < 4 := by omega
      have hwl := hb1.out.size
      have hin : Hid (∃ own M, NetAt (w3.setCell ⟨nb, j + 1, none⟩ (.pointer (some ⟨B, 0, none⟩))) own nb (j + 1) M (initAt fs (cntA (j + 1) 0)) ∧ (M.bk (j + 1)).b = B ∧ (∀ i, i < w.heap.size → own i = 0) ∧ Below w.heap.size w (w3.setCell ⟨nb, j + 1, none⟩ (.pointer (some ⟨B, 0, none⟩)))) := hide (by
        refine ⟨_, _, I3, by simp [upd], fun i hi => ?_, ?_⟩
        · simp only [if_pos (Nat.lt_of_lt_of_le hi hwl)]
          exact ho1.out i hi
        · exact (hb1.out.trans (hb3.mono hwl)).trans ((Kept.of_setCell w3 ⟨nb, j + 1, none⟩ (.pointer (some ⟨B, 0, none⟩))).below (Nat.le_trans hwl hb3.size) (fun k e => by have e' : k = nb := e; have := hnbe.out; omega)))
      clear hNB hBN hXB hb3 I3 hbl3 hc3 ho1 hb1 hB hwl
      go_wp2_with fail
      go_loopw [8] (fun c u => ∃ a : Nat, a ≤ 3 ∧ c = .int .i64 (a : Int) ∧ ∃ own M, NetAt u own nb (j + 1) M (initAt fs (cntA (j + 1) a)) ∧ (M.bk (j + 1)).b = B ∧ (∀ i, i < w.heap.size → own i = 0) ∧ Below w.heap.size w u) (fun c _ => 4 - (intOf c).toNat)
      case atStart => exact ⟨0, by omega, rfl, hin.out⟩
      case round =>
        clear hin hc3' hf3 hnl3
        obtain ⟨a, ha, rfl, own4, M4, I4, hMB, ho4, hb4⟩ := hrel
        by_cases ha3 : a < 3
        · have d3a : decide ((a : Int) < 3) = true := by simp; omega
          have hmodA : (a : Int) % 65536 = (a : Int) := by omega
          have hw16 : IntKind.u16.wrap (a : Int) = (a : Int) := by rw [IntKind.wrap_u16]; omega
          obtain ⟨k, hk⟩ : ∃ k, k = j * 3 + a := ⟨_, rfl⟩
          have hOp := open_acc (j := j + 1) (by omega) (by omega) ha3 I4
          rw [show (j + 1 - 1) * 3 + a = k by omega, hMB] at hOp
          have hfund := fundAt_lt fs k
          have hfin : Hid (∀ u6 own6 M6, NetAt u6 own6 nb (j + 1) M6 ⟨fun k => openE fs k (cntA (j + 1) (a + 1) k), [], [], upd (initAt fs (cntA (j + 1) a)).lg (j + 1) (openLg fs (j + 1) a ++ openTextOf a (fundAt fs k)), upd (initAt fs (cntA (j + 1) a)).sm (j + 1) (openSm fs (j + 1) a + fundAt fs k)⟩ → NetAt u6 own6 nb (j + 1) M6 (initAt fs (cntA (j + 1) (a + 1)))) := hide (fun u6 own6 M6 h => by rw [init_next, ← hk]; exact h)
          have hnl4 := I4.lt
          have hlow : (k : Int) < (fs.length : Int) ∨ ¬ (k : Int) < (fs.length : Int) := Classical.em _
          have hkj : ((j : Int) * 3 + (a : Int)) = (k : Int) := by omega
          have hk8 : k ≤ 8 := by omega
          replace hk := hide hk
          replace hOp := hide hOp
          replace I4 := hide I4
          replace ho4 := hide ho4
          replace hb4 := hide hb4
          replace hMB := hide hMB
          have hfv : Hid (fundAt fs k = match fs[k]? with | none => 1000 | some v => (v % 4294967296).toNat) := hide rfl
          generalize fundAt fs k = V at *
          rcases hlow with hkl | hkl
          · obtain ⟨fa, hfa, hfl, hfcell⟩ := hfc.out k (by omega)
            have hck : wr.cell? (fa.add k) = some (.int .i64 fs[k]) := (World.cell?_of_block (w := w) (by rw [addr_block]; exact hb4.out.block _ hfl)).trans hfcell
            have hV : fs[k] % 4294967296 = (V : Int) := by
              have h := hfv.out
              rw [List.getElem?_eq_getElem (by omega)] at h
              simp only at h
              omega
            have hV' : IntKind.u32.wrap fs[k] = (V : Int) := by rw [IntKind.wrap_u32]; exact hV
            subst hfa
            generalize fs[k] = fk at *
            clear hfv hfcell hfs hfc
            go_wp2_with fail
            refine hOp.out.mono ?_
            rintro e w5 ⟨rfl, F5, M5, hMB5, I5⟩
            have hcl : w5.cell? ⟨nb, 5 + (j + 1), none⟩ = some (.string (bs (openLg fs (j + 1) a))) := by
              rw [cell_at I5.blk, net_lg_at (j + 1) (by omega)]
              show some (Value.string (bs (openLg fs (j + 1) (cntA (j + 1) a (j + 1))))) = _
              rw [cnt_self _ _ (by omega)]
            have hfl5 := frozen_at I5.blk (5 + (j + 1))
            have hnl5 := I5.lt
            have hC := I5.cellTo (5 + (j + 1)) (.string (bs (openLg fs (j + 1) a ++ openTextOf a V))) (net_lg (j + 1) (by omega) _) rfl rfl rfl
            have hbd : Below (w5.setCell ⟨nb, 5 + (j + 1), none⟩ (.string (bs (openLg fs (j + 1) a ++ openTextOf a V)))).heap.size (w5.setCell ⟨nb, 5 + (j + 1), none⟩ (.string (bs (openLg fs (j + 1) a ++ openTextOf a V)))) (w5.setCell ⟨nb, 5 + (j + 1), none⟩ (.string (bs (openLg fs (j + 1) a ++ openTextOf a V)))).drew := (Below.refl _ _).drew
            have I6 := hide (hC.1.below hbd)
            have F6 := hide ((F5.trans hC.2).trans (Frame.of_below hbd))
            have hsz : (9223372036854775807 < (bs (openLg fs (j + 1) a)).size + (bs (openTextOf a V)).size) = False := by
              rw [bs_size, bs_size, openLg_len]
              simp [openTextOf, be_length]
              omega
            replace hMB5 := hide hMB5
            have hlgl := hide (openLg_len fs (j + 1) a)
            have hj1 : (j : Int) + 1 < 4 := by omega
            clear hOp hC hbd I5 F5 hMB
            generalize openTextOf a V = TX at *
            generalize openLg fs (j + 1) a = LG at *
            go_wp2_with fail
            go_region
            generalize (w5.setCell ⟨nb, 5 + (j + 1), none⟩ (.string (bs (LG ++ TX)))).drew = u6 at *
            clear hcl hfl5 hnl5 hsz
            have hcs : u6.cell? ⟨nb, 10 + (j + 1), none⟩ = some (.int .u64 (openSm fs (j + 1) a : Int)) := by
              rw [cell_at I6.out.blk, net_sm_at (j + 1) (by omega)]
              show some (Value.int .u64 (openSm fs (j + 1) (cntA (j + 1) a (j + 1)) : Int)) = _
              rw [cnt_self _ _ (by omega)]
            have hfs6 := frozen_at I6.out.blk (10 + (j + 1))
            have hnl6 := I6.out.lt
            have hsm := openSm_le fs (j + 1) a
            have hC6 := I6.out.cellTo (10 + (j + 1)) (.int .u64 ((openSm fs (j + 1) a + V : Nat) : Int)) (net_sm (j + 1) (by omega) _) rfl rfl rfl
            have hbd6 : Below (u6.setCell ⟨nb, 10 + (j + 1), none⟩ (.int .u64 ((openSm fs (j + 1) a + V : Nat) : Int))).heap.size (u6.setCell ⟨nb, 10 + (j + 1), none⟩ (.int .u64 ((openSm fs (j + 1) a + V : Nat) : Int))) (u6.setCell ⟨nb, 10 + (j + 1), none⟩ (.int .u64 ((openSm fs (j + 1) a + V : Nat) : Int))).drew := (Below.refl _ _).drew
            have I7 := hide (hC6.1.below hbd6)
            have F7 := hide ((F6.out.trans hC6.2).trans (Frame.of_below hbd6))
            clear hC6 hbd6 I6 F6
            generalize openSm fs (j + 1) a = SM at *
            have hW : IntKind.u64.wrap ((SM : Int) + (V : Int)) = ((SM + V : Nat) : Int) := by rw [IntKind.wrap_u64]; omega
            have hW2 : ((SM : Int) + (V : Int)) % 18446744073709551616 = ((SM + V : Nat) : Int) := by omega
            have X : Hid (∃ own M, NetAt (u6.setCell ⟨nb, 10 + (j + 1), none⟩ (.int .u64 ((SM + V : Nat) : Int))).drew own nb (j + 1) M (initAt fs (cntA (j + 1) (a + 1))) ∧ (M.bk (j + 1)).b = B ∧ (∀ i, i < w.heap.size → own i = 0) ∧ Below w.heap.size w (u6.setCell ⟨nb, 10 + (j + 1), none⟩ (.int .u64 ((SM + V : Nat) : Int))).drew) := hide ⟨_, _, hfin.out _ _ _ I7.out, hMB5.out, fun i hi => by simp only [if_pos (Nat.lt_of_lt_of_le hi hb4.out.size)]; exact ho4.out i hi, hb4.out.trans (F7.out.kept.below hb4.out.size (fun k hk' => by
              rcases Nat.lt_or_ge k w.heap.size with h | h
              · exact absurd (ho4.out k h) hk'
              · exact h))⟩
            clear hfin I7 F7 ho4 hb4 I4
            go_wp2_with fail
            go_region
            clear hcs hfs6 hnl6
            go_wp2
            exact ⟨⟨a + 1, ha3, by go_num, X.out⟩, by simp [intOf]; omega⟩
          · have hV1 : V = 1000 := by
              have h := hfv.out
              rw [List.getElem?_eq_none (by omega)] at h
              exact h
            subst hV1
            have dk : decide ((k : Int) < (fs.length : Int)) = false := by simpa using hkl
            clear hfv hfs hfc
            go_wp2_with fail
            refine hOp.out.mono ?_
            rintro e w5 ⟨rfl, F5, M5, hMB5, I5⟩
            have hcl : w5.cell? ⟨nb, 5 + (j + 1), none⟩ = some (.string (bs (openLg fs (j + 1) a))) := by
              rw [cell_at I5.blk, net_lg_at (j + 1) (by omega)]
              show some (Value.string (bs (openLg fs (j + 1) (cntA (j + 1) a (j + 1))))) = _
              rw [cnt_self _ _ (by omega)]
            have hfl5 := frozen_at I5.blk (5 + (j + 1))
            have hnl5 := I5.lt
            have hC := I5.cellTo (5 + (j + 1)) (.string (bs (openLg fs (j + 1) a ++ openTextOf a 1000))) (net_lg (j + 1) (by omega) _) rfl rfl rfl
            have hbd : Below (w5.setCell ⟨nb, 5 + (j + 1), none⟩ (.string (bs (openLg fs (j + 1) a ++ openTextOf a 1000)))).heap.size (w5.setCell ⟨nb, 5 + (j + 1), none⟩ (.string (bs (openLg fs (j + 1) a ++ openTextOf a 1000)))) (w5.setCell ⟨nb, 5 + (j + 1), none⟩ (.string (bs (openLg fs (j + 1) a ++ openTextOf a 1000)))).drew := (Below.refl _ _).drew
            have I6 := hide (hC.1.below hbd)
            have F6 := hide ((F5.trans hC.2).trans (Frame.of_below hbd))
            have hsz : (9223372036854775807 < (bs (openLg fs (j + 1) a)).size + (bs (openTextOf a 1000)).size) = False := by
              rw [bs_size, bs_size, openLg_len]
              simp [openTextOf, be_length]
              omega
            replace hMB5 := hide hMB5
            have hlgl := hide (openLg_len fs (j + 1) a)
            have hj1 : (j : Int) + 1 < 4 := by omega
            clear hOp hC hbd I5 F5 hMB
            generalize openTextOf a 1000 = TX at *
            generalize openLg fs (j + 1) a = LG at *
            go_wp2_with fail
            go_region
            generalize (w5.setCell ⟨nb, 5 + (j + 1), none⟩ (.string (bs (LG ++ TX)))).drew = u6 at *
            clear hcl hfl5 hnl5 hsz
            have hcs : u6.cell? ⟨nb, 10 + (j + 1), none⟩ = some (.int .u64 (openSm fs (j + 1) a : Int)) := by
              rw [cell_at I6.out.blk, net_sm_at (j + 1) (by omega)]
              show some (Value.int .u64 (openSm fs (j + 1) (cntA (j + 1) a (j + 1)) : Int)) = _
              rw [cnt_self _ _ (by omega)]
            have hfs6 := frozen_at I6.out.blk (10 + (j + 1))
            have hnl6 := I6.out.lt
            have hsm := openSm_le fs (j + 1) a
            have hC6 := I6.out.cellTo (10 + (j + 1)) (.int .u64 ((openSm fs (j + 1) a + 1000 : Nat) : Int)) (net_sm (j + 1) (by omega) _) rfl rfl rfl
            have hbd6 : Below (u6.setCell ⟨nb, 10 + (j + 1), none⟩ (.int .u64 ((openSm fs (j + 1) a + 1000 : Nat) : Int))).heap.size (u6.setCell ⟨nb, 10 + (j + 1), none⟩ (.int .u64 ((openSm fs (j + 1) a + 1000 : Nat) : Int))) (u6.setCell ⟨nb, 10 + (j + 1), none⟩ (.int .u64 ((openSm fs (j + 1) a + 1000 : Nat) : Int))).drew := (Below.refl _ _).drew
            have I7 := hide (hC6.1.below hbd6)
            have F7 := hide ((F6.out.trans hC6.2).trans (Frame.of_below hbd6))
            clear hC6 hbd6 I6 F6
            generalize openSm fs (j + 1) a = SM at *
            have hW : IntKind.u64.wrap ((SM : Int) + (1000 : Int)) = ((SM + 1000 : Nat) : Int) := by rw [IntKind.wrap_u64]; omega
            have hW2 : ((SM : Int) + (1000 : Int)) % 18446744073709551616 = ((SM + 1000 : Nat) : Int) := by omega
            have X : Hid (∃ own M, NetAt (u6.setCell ⟨nb, 10 + (j + 1), none⟩ (.int .u64 ((SM + 1000 : Nat) : Int))).drew own nb (j + 1) M (initAt fs (cntA (j + 1) (a + 1))) ∧ (M.bk (j + 1)).b = B ∧ (∀ i, i < w.heap.size → own i = 0) ∧ Below w.heap.size w (u6.setCell ⟨nb, 10 + (j + 1), none⟩ (.int .u64 ((SM + 1000 : Nat) : Int))).drew) := hide ⟨_, _, hfin.out _ _ _ I7.out, hMB5.out, fun i hi => by simp only [if_pos (Nat.lt_of_lt_of_le hi hb4.out.size)]; exact ho4.out i hi, hb4.out.trans (F7.out.kept.below hb4.out.size (fun k hk' => by
              rcases Nat.lt_or_ge k w.heap.size with h | h
              · exact absurd (ho4.out k h) hk'
              · exact h))⟩
            clear hfin I7 F7 ho4 hb4 I4
            go_wp2_with fail
            go_region
            clear hcs hfs6 hnl6
            go_wp2
            exact ⟨⟨a + 1, ha3, by go_num, X.out⟩, by simp [intOf]; omega⟩
        · obtain rfl : a = 3 := by omega
          have d3a : decide (((3 : Nat) : Int) < 3) = false := by decide
          rw [cnt_next _ (by omega)] at I4
          have X : Hid (∃ own M, NetAt wr own nb (j + 1) M (initAt fs (cntA (j + 1 + 1) 0)) ∧ (∀ i, i < w.heap.size → own i = 0) ∧ Below w.heap.size w wr) := hide ⟨own4, M4, I4, ho4, hb4⟩
          clear I4 ho4 hb4
          go_wp2
          exact ⟨⟨j + 1, hj3, by go_num, X.out⟩, by simp [intOf]; omega⟩
    · obtain rfl : j = 3 := by omega
      have d3 : decide (((3 + 1 : Nat) : Int) ≤ 3) = false := by decide
      have X : Hid (Made w fs (.returned (.tuple #[.pointer (some ⟨nb, 0, none⟩), .bool true])) wr) := hide ⟨nb, own1, M1, rfl, by have := hnbe.out; omega, I1, ho1, hb1⟩
      clear I1 ho1 hb1
      go_wp2
      go_ret2
      exact X.out
end Go.Proofs.Ytjkhbjgfoopomab
