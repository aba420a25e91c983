import Derived.Test.YtjkhbjgfoopomabGreatA24
namespace Go.Proofs.YtjkhbjgfoopomabGreat
open Go.RowKit
set_option maxRecDepth 100000
set_option maxHeartbeats 8000000
set_option linter.unusedVariables false
set_option linter.unusedSimpArgs false
theorem submit_there (p : Pm) (hp : p.ok) (hm : p.memo.length ≤ 140737488351232) (w : World) (B : Nat) (acts : List Dt) (v : Value) (hR : RD w B acts v) (hok : ∀ x, x ∈ acts → x.ok) (h4 : ∀ x, x ∈ acts → few4 x) (hpay : ∀ x, x ∈ acts → PayOk x) (hlen : acts.length ≤ 1000000000000) (hL : LegsAt w p.la p.legs) (hw : wrongOf p = 0) (hf : (findOf p.id acts).2.1 = true) :
  Calls Tryz.prog 123 #[.pointer (some ⟨B, 0, none⟩), p.v] w fun e w' => (∃ lv, e = .returned (.tuple #[lv, .int .i64 (subErr p acts : Int)]) ∧ RowOf w' 9 1 txtCell lv (if sameOf p (findOf p.id acts).1 then remindsOf (findOf p.id acts).1 acts else []) ∧ ∀ g, lv.ownBlock = some g → w.heap.size ≤ g) ∧ Below w.heap.size w w' := by
 obtain ⟨x, hx, hxk, hxi, hxp⟩ := findOf_mem hf
 have hW := hide (fun u hu => wrong_any p hp hm (by have := wrongOf_few hw; omega) u hu)
 have hF := hide (fun u hu => find_pay p.id hp.1 u B acts v hu hok hlen)
 have hE : Hid (subErr p acts = if sameOf p (findOf p.id acts).1 then 0 else 11) := hide (by simp [subErr, hw, hf])
 have hqo : (findOf p.id acts).1.ok := by rw [hxp]; exact (hok x hx).2.2.1
 have hq4 : (findOf p.id acts).1.legs.length ≤ 4 := by rw [hxp]; exact (hpay x hx).1
 have hqm : (findOf p.id acts).1.memo.length ≤ 1000 := by rw [hxp]; exact (hpay x hx).2
 have hQL : RowOf w 67 4 Pl.cells (findOf p.id acts).1.lv (findOf p.id acts).1.legs := by rw [hxp]; exact hR.legs x hx
 have hfl := findOf_le p.id acts
 have hp4 := wrongOf_few hw
 rw [hw] at hW
 clear hxp hxk hxi
 have hSm := hide (fun u hu hv => same_any p (findOf p.id acts).1 hp hqo (by omega) u hu hv (by omega))
 have hRm := hide (fun u hu hv => reminds_any (findOf p.id acts).1 hqo (by omega) hq4 u B acts v hu hok h4 hlen hv)
 generalize findOf p.id acts = S at *
 generalize subErr p acts = E at *
 obtain ⟨q, s2, s3⟩ := S
 simp only at hf hfl hE hqo hq4 hqm hQL hSm hRm
 subst hf
 generalize sameOf p q = SB at *
 generalize remindsOf q acts = RM at *
 obtain ⟨qi, qd, qm, ql, qa, qc⟩ := q
 obtain ⟨pi, pd, pm, pl, pa, pc⟩ := p
 obtain ⟨hpi, hpd, hpo⟩ := hp
 simp only [Pm.v, Pm.lv] at *
 have hB0 : Hid (Below w.heap.size w (w.alloc (.cells #[.int .u32 (pi : Int), .int .u64 (pd : Int), .string (bs pm), .slice pa pl.length pc] 69))) := hide ((Below.refl _ _).alloc (Nat.le_refl _) _)
 have hp0 : Hid ((w.alloc (.cells #[.int .u32 (pi : Int), .int .u64 (pd : Int), .string (bs pm), .slice pa pl.length pc] 69)).heap[w.heap.size]? = some (.cells #[.int .u32 (pi : Int), .int .u64 (pd : Int), .string (bs pm), .slice pa pl.length pc] 69 (0, 0))) := hide (heap_alloc_self _ _)
 go_enter Tryz.func123, Tryz.ntmps123
 go_wp2_with fail
 refine (hW.out _ (hL.below hB0.out)).mono ?_
 rintro e w2 ⟨rfl, hb2⟩
 have hB2 := hide (hB0.out.trans (hb2.mono hB0.out.size))
 have hp2 : Hid (w2.heap[w.heap.size]? = some (.cells #[.int .u32 (pi : Int), .int .u64 (pd : Int), .string (bs pm), .slice pa pl.length pc] 69 (0, 0))) := hide (by rw [hb2.block _ (by simp)]; exact hp0.out)
 have hc2 : ∀ o, w2.cell? ⟨w.heap.size, o, none⟩ = (#[.int .u32 (pi : Int), .int .u64 (pd : Int), .string (bs pm), .slice pa pl.length pc] : Array Value)[o]? := fun o => cell_at hp2.out o
 have hl2 := block_lt hp2.out
 clear hb2 hW hp0
 go_wp2_with fail
 refine (hF.out _ (hR.below hB2.out)).mono ?_
 rintro e w3 ⟨rfl, hb3⟩
 have hB3 := hide (hB2.out.trans (hb3.mono hB2.out.size))
 have hp3 : Hid (w3.heap[w.heap.size]? = some (.cells #[.int .u32 (pi : Int), .int .u64 (pd : Int), .string (bs pm), .slice pa pl.length pc] 69 (0, 0))) := hide (by rw [hb3.block _ hl2]; exact hp2.out)
 have hc3 : ∀ o, w3.cell? ⟨w.heap.size, o, none⟩ = (#[.int .u32 (pi : Int), .int .u64 (pd : Int), .string (bs pm), .slice pa pl.length pc] : Array Value)[o]? := fun o => cell_at hp3.out o
 have hl3 := block_lt hp3.out
 clear hb3 hF hp2 hc2 hl2
 have hB4 : Hid (Below w.heap.size w (w3.alloc (.cells #[.int .u32 (qi : Int), .int .u64 (qd : Int), .string (bs qm), .slice qa ql.length qc] 69))) := hide (hB3.out.alloc hB3.out.size _)
 go_wp2_with fail
 refine (hSm.out _ (hL.below hB4.out) (hQL.below hB4.out)).mono ?_
 rintro e w5 ⟨rfl, hb5⟩
 have hB5 := hide (hB4.out.trans (hb5.mono hB4.out.size))
 have hp5 : Hid (w5.heap[w3.heap.size]? = some (.cells #[.int .u32 (qi : Int), .int .u64 (qd : Int), .string (bs qm), .slice qa ql.length qc] 69 (0, 0))) := hide (by rw [hb5.block _ (by simp)]; exact heap_alloc_self _ _)
 have hc5 : ∀ o, w5.cell? ⟨w3.heap.size, o, none⟩ = (#[.int .u32 (qi : Int), .int .u64 (qd : Int), .string (bs qm), .slice qa ql.length qc] : Array Value)[o]? := fun o => cell_at hp5.out o
 have hl5 := block_lt hp5.out
 clear hb5 hSm hc3 hp3
 cases SB with
 | false =>
  have hq : Hid (E = 11) := hide (by rw [hE.out]; rfl);clear hE hRm;go_wp2;go_ret2;exact ⟨⟨_, by rw [hq.out]; rfl, RowOf.nil _ _, fun g hg => by simp [Value.ownBlock] at hg⟩, hB5.out⟩
 | true =>
  have hq : Hid (E = 0) := hide (by rw [hE.out]; rfl);clear hE;go_wp2_with fail
  refine (hRm.out _ (hR.below hB5.out) (hQL.below hB5.out)).mono ?_;rintro e w6 ⟨⟨lv, rfl, hrow, hown⟩, hb6⟩;replace hrow := hide hrow;replace hown := hide hown;replace hb6 := hide hb6;clear hRm;go_wp2;go_ret2;exact ⟨⟨_, by rw [hq.out]; rfl, hrow.out, fun g hg => Nat.le_trans hB5.out.size (hown.out g hg)⟩, hB5.out.trans (hb6.out.mono hB5.out.size)⟩
theorem taken_ok5 (s : ByteArray) (hs : s.size ≤ 140737488351232) (w : World) (B : Nat) (acts : List Dt) (v : Value) (hR : RD w B acts v) (hap : RDap B acts v) (hok : ∀ x, x ∈ acts → x.ok) (h4 : ∀ x, x ∈ acts → few4 x) (hpay : ∀ x, x ∈ acts → PayOk x) (hlen : acts.length ≤ 999999999999) (he0 : decErr s.data.toList = 0) (ht0 : (decMsg s.data.toList).t = 0)
  (hth : (findOf (decMsg s.data.toList).i acts).2.1 = true) (hhl : hasLegB (findOf (decMsg s.data.toList).i acts).1 (decMsg s.data.toList).l (decMsg s.data.toList).f = true)
  (hkk : (decMsg s.data.toList).k = 5)
  (hno : ¬ (((decMsg s.data.toList).k = 5 ∧ (stOf (findOf (decMsg s.data.toList).i acts).1 acts).1 = 2) ∨ ((decMsg s.data.toList).k = 6 ∧ (stOf (findOf (decMsg s.data.toList).i acts).1 acts).1 = 1))) :
  Calls Tryz.prog 91 #[.pointer (some ⟨B, 0, none⟩), .string s] w fun e w' => ∃ lv v', e = .returned (.tuple #[lv, .int .i64 0]) ∧ DHanded w w' B acts (acts ++ [⟨((decMsg s.data.toList).k : Int), noPm, decMsg s.data.toList⟩]) v v' lv (tSay (findOf (decMsg s.data.toList).i acts).1 (decMsg s.data.toList) (stOf (findOf (decMsg s.data.toList).i acts).1 acts).1 (stOf (findOf (decMsg s.data.toList).i acts).1 (acts ++ [⟨((decMsg s.data.toList).k : Int), noPm, decMsg s.data.toList⟩])).1) := by
 have hfn := fault_notary (decMsg_fault _ he0) ht0
 have hD := hide (refDecode_any s hs)
 have hxok := decMsg_ok s.data.toList
 rw [he0] at hD
 clear he0
 generalize decMsg s.data.toList = x at *
 have hF := hide (fun u hu => find_pay x.i hxok.2.2.2.1 u B acts v hu hok (by omega))
 obtain ⟨y, hy, _, _, hye⟩ := findOf_mem hth
 have hqo : (findOf x.i acts).1.ok := by rw [hye]; exact (hok y hy).2.2.1
 have hq4 : (findOf x.i acts).1.legs.length ≤ 4 := by rw [hye]; exact (hpay y hy).1
 have hrow : RowOf w 67 4 Pl.cells (findOf x.i acts).1.lv (findOf x.i acts).1.legs := by rw [hye]; exact hR.legs y hy
 have hfl := findOf_le x.i acts
 have hSt := hide (fun u hu => status_any (findOf x.i acts).1 hqo hq4 u B acts v hu hok h4 (by omega))
 have hbd := stOf_bd (findOf x.i acts).1 acts h4
 have hnew : (⟨(x.k : Int), noPm, x⟩ : Dt).ok := ⟨by show (-1 : Int) ≤ (x.k : Int); omega, by show (x.k : Int) ≤ 6; omega, ⟨by show (0 : Nat) < 4294967296; decide, by show (0 : Nat) < 18446744073709551616; decide, fun l hl => by simp [noPm] at hl⟩, hxok⟩
 have hok2 : ∀ y, y ∈ acts ++ [⟨(x.k : Int), noPm, x⟩] → y.ok := fun y hy => by
  rcases List.mem_append.1 hy with h | h
  ·exact hok y h
  ·rw [List.mem_singleton.1 h]; exact hnew
 have h42 : ∀ y, y ∈ acts ++ [⟨(x.k : Int), noPm, x⟩] → few4 y := fun y hy => by
  rcases List.mem_append.1 hy with h | h
  ·exact h4 y h
  ·rw [List.mem_singleton.1 h]; exact fun _ => hfn.2.1
 have hSt2 := hide (fun u v' hu => status_any (findOf x.i acts).1 hqo hq4 u B (acts ++ [⟨(x.k : Int), noPm, x⟩]) v' hu hok2 h42 (by simp; omega))
 have hbd2 := stOf_bd (findOf x.i acts).1 (acts ++ [⟨(x.k : Int), noPm, x⟩]) h42
 have hqm : (findOf x.i acts).1.memo.length ≤ 1000 := by rw [hye]; exact (hpay y hy).2
 have hAs := hide (fun k' (hk' : k' < 256) u hu => asks_any (findOf x.i acts).1 hqo (by omega) k' 0 hk' (by decide) u hu hq4)
 have hAk := hide (fun leg k' (hk' : k' < 256) (hl : leg < (findOf x.i acts).1.legs.length) u hu => ask_any (findOf x.i acts).1 hqo (by omega) leg k' hk' u hu hl hq4)
 have hKd := hide (fun st (hst : st < 1000) u => kind_any st hst u)
 have hS1 : Hid (∀ st now, x.k = 6 → tSay (findOf x.i acts).1 x st now = []) := hide (fun st now h => by simp [tSay, h])
 have hS2 : Hid (∀ st now, x.k ≠ 6 → st = 1 → now = 1 → tSay (findOf x.i acts).1 x st now = []) := hide (fun st now h h1 h2 => by simp [tSay, h, h1, h2])
 have hS3 : Hid (∀ st now, x.k ≠ 6 → st = 1 → now ≠ 1 → tSay (findOf x.i acts).1 x st now = asksOf (findOf x.i acts).1 (askKind now) 0) := hide (fun st now h h1 h2 => by simp [tSay, h, h1, h2])
 have hS4 : Hid (∀ st now (hl : x.l < (findOf x.i acts).1.legs.length), x.k ≠ 6 → st ≠ 1 → tSay (findOf x.i acts).1 x st now = [askOf (findOf x.i acts).1 (findOf x.i acts).1.legs[x.l] x.l (askKind st)]) := hide (fun st now hl h h1 => by simp [tSay, h, h1, hl])
 generalize tSay (findOf x.i acts).1 x = SAY at *
 generalize stOf (findOf x.i acts).1 (acts ++ [⟨(x.k : Int), noPm, x⟩]) = ST2 at *
 generalize stOf (findOf x.i acts).1 acts = ST at *
 generalize asksOf (findOf x.i acts).1 = AO at *
 generalize askOf (findOf x.i acts).1 = AK at *
 have hqa : ∀ g, (findOf x.i acts).1.lv.ownBlock = some g → g ≠ B ∧ v.ownBlock ≠ some g := fun g hg => hap.l y hy g (by rw [← hye]; exact hg)
 clear hye
 obtain ⟨ri, rz, hri, hrz, hrs, hrb, hrc⟩ := dt_parts
 generalize findOf x.i acts = S at *
 obtain ⟨q, s2, s3⟩ := S
 simp only at hth
 subst hth
 obtain ⟨hlt, hlf⟩ := hasLegB_at hhl
 clear hhl
 obtain ⟨qi, qd, qm, ql, qa, qc⟩ := q
 obtain ⟨k, f, t, i, l, p, g, a, m⟩ := x
 obtain ⟨hk8, hf8, ht8, hi, hl8, hp, hg, ha⟩ := hxok
 obtain ⟨st, sb, sr, sc⟩ := ST
 obtain ⟨st2, sb2, sr2, sc2⟩ := ST2
 obtain ⟨ad, cap, hv, _⟩ := hR.row.form Dt.cells_length
 subst hv
 simp only [Msg.v, Msg.cells, Pm.v, Pm.lv] at *
 subst ht0
 replace hkk := hide hkk
 have hlt' : l < ql.length := hlt
 have d1 : decide ((l : Int) ≥ (ql.length : Int)) = false := by simp; omega
 have d1' : decide ((ql.length : Int) ≤ (l : Int)) = false := by simp; omega
 have wl : IntKind.i64.wrap (l : Int) = (l : Int) := by rw [IntKind.wrap_i64]; omega
 have wk : IntKind.i64.wrap (k : Int) = (k : Int) := by rw [IntKind.wrap_i64]; omega
 have hli : (l : Int) < (ql.length : Int) := by omega
 have hb8 := (hqo.2.2 ql[l] (List.getElem_mem hlt)).1
 replace hAk := hide (fun k' hk' => hAk.out l k' hk' hlt)
 replace hS1 := hide (hS1.out st st2)
 replace hS2 := hide (hS2.out st st2)
 replace hS3 := hide (hS3.out st st2)
 replace hS4 := hide (hS4.out st st2 hlt)
 generalize SAY st st2 = SY at *
 go_enter Tryz.func91, Tryz.ntmps91
 go_wp2_with fail
 refine (hD.out _).mono ?_
 rintro e w1 ⟨rfl, hb⟩
 clear hD
 have B1 := Box.mk0 w1 #[Value.int .u8 (k : Int), .int .u8 (f : Int), .int .u8 0, .int .u32 (i : Int), .int .u8 (l : Int), .int .u16 (p : Int), .int .u16 (g : Int), .int .u32 (a : Int), .string (bs m)] 102
 have hbw2 := hb.trans (B1.bel.mono hb.size)
 go_wp2_with fail
 refine (hF.out _ (hR.below hbw2)).mono ?_
 rintro e w3 ⟨rfl, hb3⟩
 have B3 := (B1.below hb3).alloc (.cells #[.int .u32 (qi : Int), .int .u64 (qd : Int), .string (bs qm), .slice qa ql.length qc] 69)
 have hB3 := hbw2.trans (hb3.mono hbw2.size)
 have hB4 := hide (hB3.alloc hB3.size (.cells #[.int .u32 (qi : Int), .int .u64 (qd : Int), .string (bs qm), .slice qa ql.length qc] 69))
 have hcm := B3.cell
 have hltm := B3.lt
 clear hF B1
 obtain ⟨ad', cap', hv', hev'⟩ := ((hrow.below hB3).below ((Below.refl _ _).alloc (Nat.le_refl _) (.cells #[.int .u32 (qi : Int), .int .u64 (qd : Int), .string (bs qm), .slice qa ql.length qc] 69))).form Pl.cells_length
 obtain ⟨gg, hgg, hcell, _⟩ := hev' l hlt
 have ead : qa = ad' := by injection hv'
 subst ead
 subst hgg
 have c0 := hcell 0 (by decide)
 have hggl : gg < w3.heap.size := (hrow.below hB3).lt rfl
 clear hcell hev' hv'
 generalize ql[l] = E at *
 obtain ⟨lb, lp, lg, la⟩ := E
 simp only [Pl.cells, List.getElem?_cons_zero, Nat.add_zero] at c0 hlf hb8
 subst hlf
 have dn : ((lb : Int) != (lb : Int)) = false := by simp
 go_wp2_with fail
 go_quiet (fail)
 replace B3 := B3.drewN nq
 have B4 := (Box.mk0 w3 #[.int .u32 (qi : Int), .int .u64 (qd : Int), .string (bs qm), .slice (some ⟨gg, 0, none⟩) ql.length qc] 69).drewN nq
 have hB5 := hide (hB4.out.drewN nq)
 clear hcm hltm c0 hB4 hb3
 generalize World.drewN _ _ = w5 at *
 have hcm := B3.cell
 have hltm := B3.lt
 have hcq := B4.cell
 have hltq := B4.lt
 go_wp2_with fail
 refine (hSt.out _ (hR.below hB5.out)).mono ?_
 rintro e w6 ⟨rfl, hb6⟩
 have B6 := B3.below hb6
 have B6q := B4.below hb6
 have hB6 := hide (hB5.out.trans (hb6.mono hB5.out.size))
 clear hcm hltm hcq hltq hSt hB5 hb6 B3 B4
 have hcm := B6.cell
 have hltm := B6.lt
 have hcq := B6q.cell
 have hltq := B6q.lt
 have hR6 := hR.below hB6.out
 have hrow1 := hR6.row
 have hWb : Below w6.heap.size w6 (w6.alloc (.cells (Dt.cells ⟨(k : Int), noPm, ⟨k, lb, 0, i, l, p, g, a, m⟩⟩).toArray 216)).drew := ((Below.refl _ _).alloc (Nat.le_refl _) _).drew
 have hWr := hide (hrow1.below hWb)
 have hWa : Hid ((w6.alloc (.cells (Dt.cells ⟨(k : Int), noPm, ⟨k, lb, 0, i, l, p, g, a, m⟩⟩).toArray 216)).drew.heap[w6.heap.size]? = some (.cells (Dt.cells ⟨(k : Int), noPm, ⟨k, lb, 0, i, l, p, g, a, m⟩⟩).toArray 216 (0, 0))) := hide (heap_alloc_self w6 _)
 have hWk : Hid (Kept (fun k => (Value.slice ad acts.length cap).ownBlock = some k) w6 (w6.alloc (.cells (Dt.cells ⟨(k : Int), noPm, ⟨k, lb, 0, i, l, p, g, a, m⟩⟩).toArray 216)).drew) := hide (Kept.of_below hWb)
 have hBl6 := hR6.lt
 have hvl : ∀ k, (Value.slice ad acts.length cap).ownBlock = some k → k < w.heap.size := fun k hk => hR.row.lt hk
 have hcB6 : ∀ o, w6.cell? ⟨B, o, none⟩ = (#[.slice ad acts.length cap] : Array Value)[o]? := fun o => cell_at hR6.blk o
 have hfB6 : ∀ o, w6.frozen? ⟨B, o, none⟩ = false := fun o => frozen_at hR6.blk o
 have hw1 : w.heap.size ≤ w1.heap.size := hb.size
 have hneB : w1.heap.size ≠ B := by have := hR.lt; omega
 have hneB' : B ≠ w1.heap.size := by have := hR.lt; omega
 have hneB3 : w3.heap.size ≠ B := by have := hR.lt; have := hB3.size; omega
 have hneB3' : B ≠ w3.heap.size := by have := hR.lt; have := hB3.size; omega
 simp only [Dt.cells, noPm, Pm.lv] at hWb hWr hWa hWk
 have hk3 : k = 5 := hkk.out
 clear hkk
 subst hk3
 have e2 : ((st : Int) == 2) = false := by simp; omega
 clear hno hS1
 go_wp2_with fail
 go_region_law (refine step_row Dt.cells_length (by rfl) _ _ 153 (by rfl) 216 ri rz 104 Tryz.underlying153 hri hrz hrs hrb hrc (by decide) (.slice ad acts.length cap) acts w6.heap.size 1 ⟨((5 : Nat) : Int), noPm, ⟨5, lb, 0, i, l, p, g, a, m⟩⟩ (dt_each _) (by unfold maxLen; omega) (by omega) (by first | rfl | simp [Act.eval, Act.put]) (by first | rfl | simp [Act.eval, Act.put]) (by exact hWr.out) (by exact hWa.out) ?_; intro g' cap' w8 hrow2 hk2 hg2 hlt2; replace hk2 := hWk.out.trans hk2 (fun i hi => .inl hi); replace hg2 := hg2.imp_right (fun h => Nat.le_trans hWb.size h); have hblk : w8.heap[B]? = some (.cells #[.slice ad acts.length cap] 155 (0, 0)) := (by rw [hk2.block B hBl6 hap.a]; exact hR6.blk); have hblkM := hk2.block w1.heap.size B6.lt (fun e => by have h1 := hvl _ e; omega); have hblkQ := hk2.block w3.heap.size B6q.lt (fun e => by have h1 := hvl _ e; have h2 := hB3.size; omega); have hc2 := fun o => cell_at hblk o; have hf2 := fun o => frozen_at hblk o; have X : Hid (RowOf w8 216 14 Dt.cells (.slice (some ⟨g', 0, none⟩) (acts.length + 1) cap') (acts ++ [⟨((5 : Nat) : Int), noPm, ⟨5, lb, 0, i, l, p, g, a, m⟩⟩]) ∧ Kept (fun k => (Value.slice ad acts.length cap).ownBlock = some k) w6 w8 ∧ ((Value.slice ad acts.length cap).ownBlock = some g' ∨ w6.heap.size ≤ g')) := hide ⟨hrow2, hk2, hg2⟩; have hcmm : ∀ o, w8.cell? ⟨w1.heap.size, o, none⟩ = _ := fun o => (World.cell?_of_block (w := w6) hblkM).trans (hcm o); have hcqq : ∀ o, w8.cell? ⟨w3.heap.size, o, none⟩ = _ := fun o => (World.cell?_of_block (w := w6) hblkQ).trans (hcq o); have hlm8 := Nat.lt_of_lt_of_le B6.lt hk2.size; have hlq8 := Nat.lt_of_lt_of_le B6q.lt hk2.size; clear hrow2 hk2 hg2 hblk hblkM hblkQ)
 all_goals (
  have hto := hide (RD.grow hR hap hB6.out X.out.1 X.out.2.1 X.out.2.2 (RowOf.nil _ _) (fun h hh => by simp [noPm, Pm.lv, Value.ownBlock] at hh));clear hWb hWr hWa hWk hcB6 hfB6 X hR6 hrow1;go_wp2_with fail
  refine (hSt2.out _ _ hto.out.rd).mono ?_;rintro e w9 ⟨rfl, hb9⟩;have hB9 := hide (hto.out.then hb9)
  have hr9 := hide ((hrow.kept hto.out.kept (fun g hg e => by
   have h1 := hqa g hg;rcases e with e | e
   ·exact h1.1 e
   ·exact h1.2 e)).below hb9)
  have hcm9 : ∀ o, w9.cell? ⟨w1.heap.size, o, none⟩ = _ := fun o => (hb9.cell (by simpa [World.setCell] using hlm8)).trans ((World.cell?_setCell_other _ _ _ _ (by intro e; injection e with e1; omega)).trans (hcmm o));have hcq9 : ∀ o, w9.cell? ⟨w3.heap.size, o, none⟩ = _ := fun o => (hb9.cell (by simpa [World.setCell] using hlq8)).trans ((World.cell?_setCell_other _ _ _ _ (by intro e; injection e with e1; omega)).trans (hcqq o));have hlm9 : w1.heap.size < w9.heap.size := Nat.lt_of_lt_of_le (by simpa [World.setCell] using hlm8) hb9.size;have hlq9 : w3.heap.size < w9.heap.size := Nat.lt_of_lt_of_le (by simpa [World.setCell] using hlq8) hb9.size;clear hSt2 hc2 hf2 hb9 hcmm hcqq;by_cases h1 : st = 1
  ·have e1 : ((st : Int) == 1) = true := by simp; omega
   by_cases h2 : st2 = 1
   ·have e2 : ((st2 : Int) == 1) = true := by simp; omega
    have hq : Hid (SY = []) := hide (hS2.out (by decide) h1 h2);clear hS2 hS3 hS4 h1 h2 hcm9 hcq9;go_wp2;go_ret2;exact ⟨_, _, rfl, by rw [hq.out]; exact DHanded.from hB9.out (Below.refl _ _) (RowOf.nil _ _) (fun g hg => by simp [Value.ownBlock] at hg)⟩
   ·have e2 : ((st2 : Int) == 1) = false := by simp; omega
    have hq : Hid (SY = AO (askKind st2) 0) := hide (hS3.out (by decide) h1 h2);have hkl := askKind_lt st2;clear hS2 hS3 hS4 h1 h2 hcm9;have hKd2 := hide (hKd.out st2 (by omega));have hA2 := hide (hAs.out (askKind st2) hkl);generalize askKind st2 = kd at *;clear hKd hAs hAk;go_wp2_with fail
    go_region_with (first
     | (go_at_call 126; refine (hKd2.out _).mono ?_; rintro e u5 ⟨rfl, rfl⟩)
     | (go_at_call 125; refine (hA2.out _ (by first | exact hr9.out | exact hr9.out.below ((Below.refl _ _).drew))).mono ?_; rintro e w11 ⟨⟨lv, rfl, hlr, hlo⟩, hb11⟩))
    all_goals (
     have hb12 : Hid (Below w9.heap.size w9 w11) := hide (by first | exact hb11 | exact undrew hb11);have hlo2 : Hid (∀ g, lv.ownBlock = some g → w9.heap.size ≤ g) := hide hlo;replace hlr := hide hlr;clear hb11 hlo hcq9;go_wp2;go_ret2
     exact ⟨_, _, rfl, by rw [hq.out]; exact DHanded.from hB9.out hb12.out hlr.out hlo2.out⟩)
  ·have e1 : ((st : Int) == 1) = false := by simp; omega
   have hq : Hid (SY = _) := hide (hS4.out (by decide) h1);have hkl := askKind_lt st;clear hS2 hS3 hS4 h1;have hKd2 := hide (hKd.out st (by omega));have hA2 := hide (hAk.out (askKind st) hkl);generalize askKind st = kd at *;clear hKd hAs hAk;go_wp2_with fail
   go_region_with (first
    | (go_at_call 126; refine (hKd2.out _).mono ?_; rintro e u5 ⟨rfl, rfl⟩)
    | (go_at_call 127; refine (hA2.out _ (by first | exact hr9.out | exact hr9.out.below ((Below.refl _ _).drew))).mono ?_; rintro e w11 ⟨rfl, hb11⟩))
   all_goals (
    have hb12 : Hid (Below w9.heap.size w9 w11) := hide (by first | exact hb11 | exact undrew hb11);clear hb11 hcq9 hcm9;go_wp2;go_ret2
    exact ⟨_, _, rfl, by rw [hq.out]; exact DHanded.from (hB9.out.then hb12.out) ((Below.refl _ _).alloc (Nat.le_refl _) _) (lgOf_one _) (fun g hg => by
     have : w11.heap.size = g := by simpa [Value.ownBlock] using hg
     omega)⟩))
end Go.Proofs.YtjkhbjgfoopomabGreat
