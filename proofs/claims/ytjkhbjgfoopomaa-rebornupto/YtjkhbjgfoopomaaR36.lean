import Derived.Test.YtjkhbjgfoopomaaR35
import Derived.Test.YtjkhbjgfoopomaaR7
/-
  Networks: a node takes a frame in.
-/
namespace Go.Proofs.Ytjkhbjgfoopomaa
open Go.RowKit
set_option linter.unusedVariables false
set_option linter.unusedSimpArgs false
set_option maxRecDepth 100000 in
set_option maxHeartbeats 400000 in
theorem eDecode_any (s : ByteArray) (hs : s.size ≤ maxLen) (w : World) :
    Calls Try.prog 18 #[.string s] w fun e w' => e = .returned (.tuple #[(decMsg s.data.toList).v, .int .i64 ((decErr s.data.toList : Nat) : Int)]) ∧ Below w.heap.size w w' := by
  have hd := hide (decode_any s hs)
  generalize decMsg s.data.toList = M at *
  generalize decErr s.data.toList = fv at *
  obtain ⟨k, f, t, i, l, p, g, a, m⟩ := M
  simp only [Msg.v, Msg.cells] at *
  go_enter Try.func18, Try.ntmps18
  go_wp2_with fail
  refine (hd.out _).mono ?_
  rintro e w1 ⟨rfl, hb⟩
  have B1 := (Box.mk0 _ _ _).below hb
  have hc1 := B1.cell
  have hf1 := B1.fro
  clear hb hd
  go_wp2
  exact bodyPost_ret (v := .tuple #[.agg #[Value.int .u8 (k : Int), .int .u8 (f : Int), .int .u8 (t : Int), .int .u32 (i : Int), .int .u8 (l : Int), .int .u16 (p : Int), .int .u16 (g : Int), .int .u32 (a : Int), .string (bs m)], .int .i64 (fv : Int)]) (by simp [results, Try.results18, go_sem, hc1]) rfl ⟨rfl, (((((((((B1.bel.setCell (Nat.le_refl _) _).setCell (Nat.le_refl _) _).setCell (Nat.le_refl _) _).setCell (Nat.le_refl _) _).setCell (Nat.le_refl _) _).setCell (Nat.le_refl _) _).setCell (Nat.le_refl _) _).setCell (Nat.le_refl _) _).setCell (Nat.le_refl _) _)⟩
theorem bank_ptr {j : Nat} {M : NM} {P : PN} {k : Nat} (h1 : 1 ≤ k) (h2 : k ≤ j) (h3 : j ≤ 3) : (netCells j M P)[k]? = some (.pointer (some ⟨(M.bk k).b, 0, none⟩)) := by
  have : k = 1 ∨ k = 2 ∨ k = 3 := by omega
  rcases this with rfl | rfl | rfl <;> simp [netCells, bankPtr, h2, ptrTo]
/-- what take answers -/
def Took (w : World) (own : Nat → Nat) (nb : Nat) (k : Nat) (ms : List Msg) (lg : List UInt8) (P' : PN) (e : Ending) (w' : World) : Prop :=
  ∃ lv own' M', e = .returned (.tuple #[.int .i64 (k : Int), lv, .string (bs lg), .bool true]) ∧ NetAt w' own' nb 3 M' P' ∧ Frame w w' own own' ∧ RowOf w' 9 1 msgCell lv ms ∧ ∀ g, lv.ownBlock = some g → own' g = 0
set_option maxRecDepth 100000 in
set_option maxHeartbeats 2000000 in
theorem take_bank (w : World) (own : Nat → Nat) (nb : Nat) (M : NM) (P : PN) (I : NetAt w own nb 3 M P) (m : Msg) (hF : Fair m) (k : Nat) (ht : m.t = k) (hk : 1 ≤ k ∧ k ≤ 3) (h0 : hErrOf m (P.E k) = 0) :
    Calls Try.prog 52 #[.pointer (some ⟨nb, 0, none⟩), .string (bs (encOf m))] w (Took w own nb k [bankAns k m (P.E k)] (bankLog m (P.E k)) { P with E := upd P.E k (hEvsOf m (P.E k)) }) := by
  have hen := hF.enc
  have hD := eDecode_any (bs (encOf m)) (by rw [bs_size]; unfold maxLen; omega) w
  rw [bs_data, hen.1, hen.2.1] at hD
  have hH := fun (u : World) (hu : Below w.heap.size w u) => by
    have B := (I.below hu).bank k hk.1 hk.2
    have h := eHandle_any (bs (encOf m)) (by rw [bs_size]; omega) u (M.bk k).b k ⟨hk.1, by omega⟩ (P.E k) (M.bk k).ac (M.bk k).ls (M.bk k).va (M.bk k).vl B.rel B.x B.ap
    rw [bs_data] at h
    exact h
  have hck := fun (u : World) (hu : Below w.heap.size w u) => by
    have h := cell_at (I.below hu).blk k
    rw [bank_ptr hk.1 hk.2 (Nat.le_refl 3)] at h
    exact h
  have hfin : Hid (∀ u (hu : Below w.heap.size w u) e u2, XDone u (M.bk k).b k (P.E k) (encOf m) (M.bk k).va (M.bk k).vl e u2 → ∃ lv own' M', e = .returned (.tuple #[lv, .string (bs (bankLog m (P.E k))), .int .i64 0]) ∧ NetAt u2 own' nb 3 M' { P with E := upd P.E k (hEvsOf m (P.E k)) } ∧ Frame w u2 own own' ∧ RowOf u2 9 1 msgCell lv [bankAns k m (P.E k)] ∧ (∀ g, lv.ownBlock = some g → own' g = 0) ∧ ∃ ad n cap, lv = .slice ad n cap) := hide (fun u hu e u2 hx => by
    obtain ⟨lv, ac', ls', va', vl', rfl, hr, hh⟩ := hx
    rw [rEvs_enc hF ht h0] at hr
    have J := (I.below hu).bankTo hk.1 hk.2 (Nat.le_refl 3) lv hh.to hr hh.fresh
    have hrow := hh.row
    rw [rOuts_enc hF ht h0] at hrow
    obtain ⟨ad, cap, hsl⟩ := hrow.slice
    refine ⟨lv, _, _, by rw [rLog_enc hF ht h0, rErr_enc hF ht, h0]; rfl, J.1, (Frame.of_below hu).trans J.2, row_msgs (ms := [bankAns k m (P.E k)]) (fun l => rfl) hrow, fun g hg => by simp only [if_neg (Nat.not_lt.2 (hh.fresh g hg).1), if_pos hg], ad, _, cap, hsl⟩)
  have hnl := I.lt
  have hkI : (k : Int) < 4 := by omega
  have d3 : decide ((k : Int) > 3) = false := by simp; omega
  have d3' : decide (3 < (k : Int)) = false := by simp; omega
  have d0 : ((k : Int) == 0) = false := by simp; omega
  generalize bankLog m (P.E k) = LG at *
  generalize [bankAns k m (P.E k)] = MS at *
  generalize ({ P with E := upd P.E k (hEvsOf m (P.E k)) } : PN) = P' at *
  replace hD := hide hD
  replace hH := hide hH
  replace hck := hide hck
  generalize (M.bk k).b = B at *
  clear I hen h0
  generalize encOf m = F at *
  obtain ⟨mk, mf, mt, mi, ml, mp, mg, ma, mm⟩ := m
  simp only at ht
  subst ht
  simp only [Msg.v, Msg.cells] at hD
  go_enter Try.func52, Try.ntmps52
  go_wp2_with fail
  refine hD.out.mono ?_
  rintro e w1 ⟨rfl, hb⟩
  clear hD
  have hcw := hck.out w1 hb
  have hnl1 : nb < w1.heap.size := Nat.lt_of_lt_of_le hnl hb.size
  clear hck
  have hb2 : Below w.heap.size w (w1.alloc (.cells #[.int .u8 (mk : Int), .int .u8 (mf : Int), .int .u8 (mt : Int), .int .u32 (mi : Int), .int .u8 (ml : Int), .int .u16 (mp : Int), .int .u16 (mg : Int), .int .u32 (ma : Int), .string (bs mm)] 32)) := hb.alloc hb.size _
  go_wp2_with fail
  refine (hH.out _ hb2).mono ?_
  intro e w2 hx
  obtain ⟨lv, own', M', rfl, J, Fr, hrow, hlo, ad, n, cap, rfl⟩ := hfin.out _ hb2 e w2 hx
  have X : Hid (Took w own nb mt MS LG P' (.returned (.tuple #[.int .i64 (mt : Int), .slice ad n cap, .string (bs LG), .bool true])) w2) := hide ⟨_, own', M', rfl, J, Fr, hrow, hlo⟩
  clear hH hfin hx J Fr hrow hlo hcw hb2
  go_wp2
  exact bodyPost_ret (v := .tuple #[.int .i64 (mt : Int), .slice ad n cap, .string (bs LG), .bool true]) (by simp [results, Try.results52]) rfl X.out
set_option maxRecDepth 100000 in
set_option maxHeartbeats 2000000 in
theorem take_note (w : World) (own : Nat → Nat) (nb : Nat) (M : NM) (P : PN) (I : NetAt w own nb 3 M P) (m : Msg) (hF : Fair m) (ht : m.t = 0) (h0 : nErr m P.A = 0) :
    Calls Try.prog 52 #[.pointer (some ⟨nb, 0, none⟩), .string (bs (encOf m))] w (Took w own nb 0 (nOuts m P.A) (actText P.A (msgAct m)) { P with A := P.A ++ [msgAct m] }) := by
  have hen := hF.enc
  have hD := eDecode_any (bs (encOf m)) (by rw [bs_size]; unfold maxLen; omega) w
  rw [bs_data, hen.1, hen.2.1] at hD
  have hH := fun (u : World) (hu : Below w.heap.size w u) => by
    have B := (I.below hu).deed
    have h := eTake_any (bs (encOf m)) (by rw [bs_size]; unfold maxLen; omega) u M.db M.ck M.ps M.xv B.x B.ap P.A B.rel (by rw [bs_data, hen.1]; omega)
    rw [bs_data] at h
    exact h
  have hck := fun (u : World) (hu : Below w.heap.size w u) => by
    have h := cell_at (I.below hu).blk 4
    rw [show (netCells 3 M P)[4]? = some (.pointer (some ⟨M.db, 0, none⟩)) from rfl] at h
    exact h
  have hfin : Hid (∀ u (hu : Below w.heap.size w u) e u2, TakeX u M.db M.ck M.ps M.xv (encOf m) P.A e u2 → ∃ lv own' M', e = .returned (.tuple #[lv, .string (bs (actText P.A (msgAct m))), .int .i64 0]) ∧ NetAt u2 own' nb 3 M' { P with A := P.A ++ [msgAct m] } ∧ Frame w u2 own own' ∧ RowOf u2 9 1 msgCell lv (nOuts m P.A) ∧ (∀ g, lv.ownBlock = some g → own' g = 0) ∧ ∃ ad n cap, lv = .slice ad n cap) := hide (fun u hu e u2 hx => by
    obtain ⟨lv, ps', v', rfl, hh, hr⟩ := hx
    rw [tActs_enc hF h0] at hr
    have J := (I.below hu).deedTo lv hh.to hr hh.fresh
    have hrow := hh.row
    rw [tOuts_enc hF h0] at hrow
    obtain ⟨ad, cap, hsl⟩ := hrow.slice
    refine ⟨lv, _, _, by rw [tLog_enc hF h0, tErr_enc hF, h0]; rfl, J.1, (Frame.of_below hu).trans J.2, row_msgs (ms := nOuts m P.A) (fun l => rfl) hrow, fun g hg => by simp only [if_neg (Nat.not_lt.2 (hh.fresh g hg).1), if_pos hg], ad, _, cap, hsl⟩)
  have hnl := I.lt
  generalize actText P.A (msgAct m) = LG at *
  generalize nOuts m P.A = MS at *
  generalize ({ P with A := P.A ++ [msgAct m] } : PN) = P' at *
  replace hD := hide hD
  replace hH := hide hH
  replace hck := hide hck
  generalize M.db = B at *
  clear I hen h0
  generalize encOf m = F at *
  obtain ⟨mk, mf, mt, mi, ml, mp, mg, ma, mm⟩ := m
  simp only at ht
  subst ht
  simp only [Msg.v, Msg.cells] at hD
  go_enter Try.func52, Try.ntmps52
  go_wp2_with fail
  refine hD.out.mono ?_
  rintro e w1 ⟨rfl, hb⟩
  clear hD
  have hcw := hck.out w1 hb
  have hnl1 : nb < w1.heap.size := Nat.lt_of_lt_of_le hnl hb.size
  clear hck
  have hb2 : Below w.heap.size w (w1.alloc (.cells #[.int .u8 (mk : Int), .int .u8 (mf : Int), .int .u8 ((0 : Nat) : Int), .int .u32 (mi : Int), .int .u8 (ml : Int), .int .u16 (mp : Int), .int .u16 (mg : Int), .int .u32 (ma : Int), .string (bs mm)] 32)) := hb.alloc hb.size _
  go_wp2_with fail
  refine (hH.out _ hb2).mono ?_
  intro e w2 hx
  obtain ⟨lv, own', M', rfl, J, Fr, hrow, hlo, ad, n, cap, rfl⟩ := hfin.out _ hb2 e w2 hx
  have X : Hid (Took w own nb 0 MS LG P' (.returned (.tuple #[.int .i64 0, .slice ad n cap, .string (bs LG), .bool true])) w2) := hide ⟨_, own', M', rfl, J, Fr, hrow, hlo⟩
  clear hH hfin hx J Fr hrow hlo hcw hb2
  go_wp2
  exact bodyPost_ret (v := .tuple #[.int .i64 0, .slice ad n cap, .string (bs LG), .bool true]) (by simp [results, Try.results52]) rfl X.out
/-- a frame arrives -/
def arriveTo (P : PN) (m : Msg) : PN :=
  if m.k ≤ 3 then { E := upd P.E m.t (hEvsOf m (P.E m.t)), A := P.A, wire := P.wire ++ [bankAns m.t m (P.E m.t)], lg := upd P.lg m.t (P.lg m.t ++ bankLog m (P.E m.t)), sm := P.sm }
  else { E := P.E, A := P.A ++ [msgAct m], wire := P.wire ++ nOuts m P.A, lg := upd P.lg 0 (P.lg 0 ++ actText P.A (msgAct m)), sm := P.sm }
set_option maxRecDepth 100000 in
set_option maxHeartbeats 2000000 in
attribute [local go_sem] bs_append in
/-- arrive, over what take does -/
theorem arrive_of (w : World) (own : Nat → Nat) (nb : Nat) (f : List UInt8) (k : Nat) (hk : k ≤ 3) (ms : List Msg) (lg : List UInt8) (P' : PN) (hlen : P'.wire.length + ms.length ≤ 8000000000000) (hlgs : (P'.lg k).length + lg.length ≤ 1000000000000000000)
    (hT : Calls Try.prog 52 #[.pointer (some ⟨nb, 0, none⟩), .string (bs f)] w (Took w own nb k ms lg P')) :
    Calls Try.prog 26 #[.pointer (some ⟨nb, 0, none⟩), .string (bs f)] w fun e w' => e = .returned (.bool true) ∧ ∃ own' M', NetAt w' own' nb 3 M' { P' with wire := P'.wire ++ ms, lg := upd P'.lg k (P'.lg k ++ lg) } ∧ Frame w w' own own' := by
  replace hT := hide hT
  go_enter Try.func26, Try.ntmps26
  go_wp2_with fail
  refine hT.out.mono ?_
  rintro e w1 ⟨lv, own1, M1, rfl, I1, F1, hrow, hlo⟩
  clear hT
  obtain ⟨ad, cap, hsl⟩ := hrow.slice
  subst hsl
  have hk4 : k = 0 ∨ k = 1 ∨ k = 2 ∨ k = 3 := by omega
  have hcl : w1.cell? ⟨nb, 5 + k, none⟩ = some (.string (bs (P'.lg k))) := by
    rw [cell_at I1.blk (5 + k)]
    rcases hk4 with rfl | rfl | rfl | rfl <;> rfl
  have hfl := frozen_at I1.blk (5 + k)
  have hnl := I1.lt
  have hkI : (k : Int) < 4 := by omega
  have hC := I1.cellTo (5 + k) (.string (bs (P'.lg k ++ lg))) (P' := { P' with lg := upd P'.lg k (P'.lg k ++ lg) }) (by rcases hk4 with rfl | rfl | rfl | rfl <;> rfl) rfl rfl rfl
  have hbd : Below (w1.setCell ⟨nb, 5 + k, none⟩ (.string (bs (P'.lg k ++ lg)))).heap.size (w1.setCell ⟨nb, 5 + k, none⟩ (.string (bs (P'.lg k ++ lg)))) (w1.setCell ⟨nb, 5 + k, none⟩ (.string (bs (P'.lg k ++ lg)))).drew := (Below.refl _ _).drew
  have hsd := hide (send_any _ own1 nb M1 _ (hC.1.below hbd) (.slice ad ms.length cap) ms ((hrow.kept (Kept.of_setCell w1 ⟨nb, 5 + k, none⟩ (.string (bs (P'.lg k ++ lg)))) (fun g hg e => by have e' : g = nb := e; have h := hlo g hg; rw [e', I1.nown] at h; omega)).below hbd) hlen)
  have hFr := hide ((F1.trans hC.2).trans (Frame.of_below hbd))
  have hsz : (9223372036854775807 < (bs (P'.lg k)).size + (bs lg).size) = False := by rw [bs_size, bs_size]; simp; omega
  go_wp2_with fail
  go_region
  clear hC hcl hfl hrow hlo I1 F1 hbd
  go_wp2_with fail
  refine hsd.out.mono ?_
  rintro e w2 ⟨rfl, own2, M2, I2, F2, _⟩
  have X : Hid (∃ own' M', NetAt w2 own' nb 3 M' { P' with wire := P'.wire ++ ms, lg := upd P'.lg k (P'.lg k ++ lg) } ∧ Frame w w2 own own') := hide ⟨own2, M2, I2, hFr.out.trans F2⟩
  clear hsd hFr I2 F2
  go_wp2
  go_ret
  exact ⟨rfl, X.out⟩
/-- the bytes of a message's frame are few -/
theorem enc_len (m : Msg) (h : Fair m) : (encOf m).length ≤ 100 := h.enc.2.2.1
theorem bankLog_len {m : Msg} (h : Fair m) (E : List Ev) : (bankLog m E).length ≤ 100 := by
  unfold bankLog
  split
  · simp
  · exact enc_len m h
theorem actText_len {m : Msg} (h : Fair m) (hk : 4 ≤ m.k) (A : List Dt) : (actText A (msgAct m)).length ≤ 100 := by
  unfold actText
  have h0 : ¬ (msgAct m).kind = 0 := by show ¬ ((m.k : Int)) = 0; omega
  have h1 : ¬ (msgAct m).kind = -1 := by show ¬ ((m.k : Int)) = -1; omega
  have h2 : (frameOf (msgAct m).msg).length ≤ 100 := by
    show (frameOf m).length ≤ 100
    rw [← h.enc.2.2.2]
    exact enc_len m h
  (repeat' split) <;> first | exact h2 | simp | contradiction
theorem asksM_len (p : Pm) (k but : Nat) (h : p.legs.length ≤ 4) : (asksM p k but).length ≤ 4 := Nat.le_trans (askMs_le p k but _) h
theorem nOuts_len {A : List Dt} {ck : Nat} {ps : List Xp} (hd : DRel A ck ps) {m : Msg} (hf : fnd A m.i = true) : (nOuts m A).length ≤ 4 := by
  have h4 := (hd.stand hf).few
  unfold nOuts nSay
  repeat' split
  · simp
  · simp
  · exact asksM_len _ _ _ h4
  · simp
  · simp
/-- a frame that is on the wire arrives -/
theorem arrive_any (w : World) (own : Nat → Nat) (nb : Nat) (M : NM) (P : PN) (I : NetAt w own nb 3 M P) (hI : NInv P) (m : Msg) (hm : OnW P m) (hlen : P.wire.length + 4 ≤ 8000000000000) (hlg : ∀ k, (P.lg k).length + 100 ≤ 1000000000000000000) :
    Calls Try.prog 26 #[.pointer (some ⟨nb, 0, none⟩), .string (bs (encOf m))] w fun e w' => e = .returned (.bool true) ∧ ∃ own' M', NetAt w' own' nb 3 M' (arriveTo P m) ∧ Frame w w' own own' := by
  have hF := hm.1
  have hkk := hF.kinds
  unfold arriveTo
  by_cases hk : m.k ≤ 3
  · rw [if_pos hk]
    obtain ⟨h1, h2, h3⟩ := hI.bankOk I.deed.rel hm hk
    have h0 := h3 (I.bank m.t h1 h2).rel
    have hl := bankLog_len hF (P.E m.t)
    exact arrive_of w own nb (encOf m) m.t h2 [bankAns m.t m (P.E m.t)] (bankLog m (P.E m.t)) _ (by simp only [List.length_singleton]; omega) (by have := hlg m.t; simp only; omega) (take_bank w own nb M P I m hF m.t rfl ⟨h1, h2⟩ h0)
  · rw [if_neg hk]
    obtain ⟨ht, h0⟩ := hI.noteOk hm (by omega)
    have hl := actText_len hF (by omega) P.A
    have ho := nOuts_len I.deed.rel hm.2.1
    exact arrive_of w own nb (encOf m) 0 (by omega) (nOuts m P.A) (actText P.A (msgAct m)) _ (by simp only; omega) (by have := hlg 0; simp only; omega) (take_note w own nb M P I m hF ht h0)
theorem arrive_inv {w : World} {own : Nat → Nat} {nb : Nat} {M M' : NM} {P : PN} {w' : World} {own' : Nat → Nat} (I : NetAt w own nb 3 M P) (hI : NInv P) {m : Msg} (hm : OnW P m) (I' : NetAt w' own' nb 3 M' (arriveTo P m)) : NInv (arriveTo P m) := by
  have hd' := I'.deed.rel
  unfold arriveTo at hd' ⊢
  by_cases hk : m.k ≤ 3
  · rw [if_pos hk] at hd' ⊢
    obtain ⟨h1, h2, h3⟩ := hI.bankOk I.deed.rel hm hk
    exact hI.bank I.deed.rel hm hk (h3 (I.bank m.t h1 h2).rel) rfl rfl (fun y hy => by simpa using hy)
  · rw [if_neg hk] at hd' ⊢
    exact hI.note I.deed.rel hm (by omega) ⟨_, _, hd'⟩ rfl rfl (fun y hy => List.mem_append.1 hy)
end Go.Proofs.Ytjkhbjgfoopomaa
/-
  Networks: all frames arrive.
-/
namespace Go.Proofs.Ytjkhbjgfoopomaa
open Go.RowKit
set_option linter.unusedVariables false
set_option linter.unusedSimpArgs false
/-- how many frames a message leads to, itself with them -/
def wtOf (m : Msg) : Nat := if m.k = 1 then 10 else if m.k = 4 ∨ m.k = 5 then 9 else if m.k = 6 then 1 else 2
def wtAll (l : List Msg) : Nat := (l.map wtOf).sum
theorem wtAll_append (a b : List Msg) : wtAll (a ++ b) = wtAll a + wtAll b := by simp [wtAll]
theorem wtAll_cons (m : Msg) (b : List Msg) : wtAll (m :: b) = wtOf m + wtAll b := by simp [wtAll]
theorem wt_ge (m : Msg) : 1 ≤ wtOf m ∧ wtOf m ≤ 10 := by unfold wtOf; (repeat' split) <;> omega
theorem wtAll_ge (l : List Msg) : l.length ≤ wtAll l ∧ wtAll l ≤ 10 * l.length := by
  induction l with
  | nil => simp [wtAll]
  | cons m r ih =>
    have := wt_ge m
    rw [wtAll_cons]
    simp only [List.length_cons]
    omega
theorem wtAll_le (l : List Msg) (b : Nat) (h : ∀ m, m ∈ l → wtOf m ≤ b) : wtAll l ≤ b * l.length := by
  induction l with
  | nil => simp [wtAll]
  | cons m r ih =>
    have h1 := h m (by simp)
    have h2 := ih (fun x hx => h x (by simp [hx]))
    rw [wtAll_cons, List.length_cons, Nat.mul_succ]
    omega
/-- all that holds of a network -/
structure Good (P : PN) : Prop where
  inv : NInv P
  dr : ∃ ck ps, DRel P.A ck ps
  rl : ∀ b, 1 ≤ b → b ≤ 3 → ∃ ac ls, Rel (P.E b) ac ls
theorem NetAt.good {w : World} {own : Nat → Nat} {nb : Nat} {M : NM} {P : PN} (I : NetAt w own nb 3 M P) (h : NInv P) : Good P :=
  ⟨h, ⟨_, _, I.deed.rel⟩, fun b h1 h2 => ⟨_, _, (I.bank b h1 h2).rel⟩⟩
/-- what a message leads to weighs less than it -/
theorem wt_arrive {P : PN} (G : Good P) {m : Msg} (hm : OnW P m) : wtAll (arriveTo P m).wire + 1 ≤ wtAll P.wire + wtOf m := by
  have hF := hm.1
  have hkk := hF.kinds
  obtain ⟨ck, ps, hd⟩ := G.dr
  unfold arriveTo
  by_cases hk : m.k ≤ 3
  · rw [if_pos hk]
    obtain ⟨h1, h2, h3⟩ := G.inv.bankOk hd hm hk
    obtain ⟨ac, ls, hr⟩ := G.rl m.t h1 h2
    have h0 := h3 hr
    simp only [wtAll_append, wtAll_cons]
    have hz : wtAll [] = 0 := rfl
    rw [hz]
    obtain ⟨a1, a2, a3⟩ := leg_after h0 ⟨hkk.1, hk⟩
    have hk3 : m.k = 1 ∨ m.k = 2 ∨ m.k = 3 := by omega
    have ek : (bankAns m.t m (P.E m.t)).k = kindFor (legOf m.i m.l (hEvsOf m (P.E m.t))).1 := rfl
    have hkf : ∀ s, kindFor s = 4 ∨ kindFor s = 5 ∨ kindFor s = 6 := fun s => by unfold kindFor; (repeat' split) <;> simp
    rcases hk3 with h | h | h
    · have hb : wtOf (bankAns m.t m (P.E m.t)) ≤ 9 := by
        unfold wtOf
        rw [ek]
        rcases hkf (legOf m.i m.l (hEvsOf m (P.E m.t))).1 with e | e | e <;> rw [e] <;> simp
      have : wtOf m = 10 := by unfold wtOf; rw [if_pos h]
      omega
    · have hb : wtOf (bankAns m.t m (P.E m.t)) = 1 := by
        unfold wtOf
        rw [ek, (a2 h).2]
        rfl
      have : wtOf m = 2 := by unfold wtOf; simp [h]
      omega
    · have hb : wtOf (bankAns m.t m (P.E m.t)) = 1 := by
        unfold wtOf
        rw [ek, (a3 h).2]
        rfl
      have : wtOf m = 2 := by unfold wtOf; simp [h]
      omega
  · rw [if_neg hk]
    simp only [wtAll_append]
    have hk6 : m.k = 4 ∨ m.k = 5 ∨ m.k = 6 := by omega
    by_cases h6 : m.k = 6
    · have hn : nOuts m P.A = [] := by unfold nOuts nSay; rw [if_pos h6]
      rw [hn]
      have hz : wtAll [] = 0 := rfl
      rw [hz]
      have := wt_ge m
      omega
    · have hw9 : wtOf m = 9 := by
        unfold wtOf
        rw [if_neg (by omega), if_pos (by omega)]
      have hS := hd.stand hm.2.1
      have hlo := hS.lo
      have hhi := hS.hi
      have hle := nOuts_len hd hm.2.1
      have h2 : ∀ y, y ∈ nOuts m P.A → wtOf y ≤ 2 := by
        intro y hy
        have hst := note_st hd hm.2.1 (m := m) ⟨by omega, by omega⟩
        unfold nOuts nSay at hy
        rw [if_neg h6] at hy
        have key : ∀ p x l st, st ≠ 1 → wtOf (askMsg p x l (askKind st)) ≤ 2 := fun p x l st h => by
          have := ask_parts p x l (askKind st)
          have hk := askKind_of st
          unfold wtOf
          rw [this.1]
          rw [if_neg (by omega), if_neg (by omega)]
          split <;> omega
        split at hy
        · simp at hy
        · rename_i hn
          split at hy
          · rename_i h1
            obtain ⟨l, x, _, _, rfl⟩ := (asksM_mem _ _ _ _).1 hy
            exact key _ _ _ _ (fun e => hn ⟨h1, e⟩)
          · rename_i h1
            cases hx : (findOf m.i P.A).1.legs[m.l]? with
            | none => rw [hx] at hy; simp at hy
            | some x =>
              rw [hx] at hy
              simp only [List.mem_singleton] at hy
              rw [hy]
              exact key _ _ _ _ h1
      have := wtAll_le _ 2 h2
      omega
/-- the logs are at most so much longer -/
def LgLe (P Q : PN) (n : Nat) : Prop := ∀ k, (Q.lg k).length ≤ (P.lg k).length + n
theorem lg_arrive {P : PN} {m : Msg} (hF : Fair m) : LgLe P (arriveTo P m) 100 := by
  intro k
  unfold arriveTo
  by_cases hk : m.k ≤ 3
  · rw [if_pos hk]
    simp only
    unfold upd
    split
    · rename_i h
      rw [h, List.length_append]
      have := bankLog_len hF (P.E m.t)
      omega
    · omega
  · rw [if_neg hk]
    simp only
    unfold upd
    split
    · rename_i h
      rw [h, List.length_append]
      have := actText_len hF (by omega) P.A
      omega
    · omega
/-- what a flush keeps -/
def Steady (J : PN → Prop) : Prop := ∀ Q m rest, Good Q → J Q → Q.wire = m :: rest → J (arriveTo { Q with wire := rest } m)
theorem OnW.of_wire {P Q : PN} {m : Msg} (h : OnW P m) (hE : Q.E = P.E) (hA : Q.A = P.A) : OnW Q m := by
  obtain ⟨E, A, wire, lg, sm⟩ := Q
  simp only at hE hA
  subst hE hA
  exact h
def Flushed (w : World) (own : Nat → Nat) (nb : Nat) (P : PN) (J : PN → Prop) (e : Ending) (w' : World) : Prop :=
  e = .returned (.bool true) ∧ ∃ own' M' P', NetAt w' own' nb 3 M' P' ∧ Frame w w' own own' ∧ NInv P' ∧ J P' ∧ P'.wire = [] ∧ LgLe P P' (1000 * P.wire.length)
set_option maxRecDepth 100000 in
set_option maxHeartbeats 2000000 in
theorem flush_any (J : PN → Prop) (hJ : Steady J) (w : World) (own : Nat → Nat) (nb : Nat) (M : NM) (P : PN) (I : NetAt w own nb 3 M P) (hI : NInv P) (hP : J P) (hlen : P.wire.length ≤ 100000000000) (hlg : ∀ k, (P.lg k).length ≤ 100000000000000000) :
    Calls Try.prog 28 #[.pointer (some ⟨nb, 0, none⟩)] w (Flushed w own nb P J) := by
  obtain ⟨wad, wcap, hwv⟩ := I.wrow.slice
  have hc9 : w.cell? ⟨nb, 9, none⟩ = some (.slice wad P.wire.length wcap) := by rw [cell_at I.blk 9, ← hwv]; rfl
  have hnl := I.lt
  obtain ⟨N, hN⟩ : ∃ N, N = P.wire.length := ⟨_, rfl⟩
  rw [← hN] at hc9
  have hN1 : N ≤ 100000000000 := by omega
  have W2 : wrap64 (10 * (N : Int) + 10) = 10 * (N : Int) + 10 := by unfold wrap64; omega
  have hst : Hid (∃ own' M' Q, NetAt w own' nb 3 M' Q ∧ Frame w w own own' ∧ NInv Q ∧ J Q ∧ wtAll Q.wire + 0 ≤ 10 * N ∧ LgLe P Q (100 * 0)) := hide ⟨own, M, P, I, Frame.refl _ _, hI, hP, by have := (wtAll_ge P.wire).2; omega, fun k => by omega⟩
  replace hJ := hide hJ
  replace hN := hide hN
  replace hlg := hide hlg
  clear I hI hP hwv
  go_enter Try.func28, Try.ntmps28
  go_wp2_with fail
  go_loopw [4] (fun c u => ∃ k : Nat, k ≤ 10 * N ∧ c = .int .i64 k ∧ ∃ own' M' Q, NetAt u own' nb 3 M' Q ∧ Frame w u own own' ∧ NInv Q ∧ J Q ∧ wtAll Q.wire + k ≤ 10 * N ∧ LgLe P Q (100 * k)) (fun c _ => 10 * N + 10 - (intOf c).toNat)
  case atStart => exact ⟨0, by omega, rfl, hst.out⟩
  case round =>
    clear hst hc9
    obtain ⟨k, hk, rfl, own1, M1, Q, I1, F1, hI1, hJ1, hwt, hle⟩ := hrel
    have hki : (k : Int) < 10 * (N : Int) + 10 := by omega
    have W3 : IntKind.i64.wrap ((k : Int) + 1) = ((k + 1 : Nat) : Int) := by rw [IntKind.wrap_i64]; omega
    obtain ⟨wad1, wcap1, hwv1⟩ := I1.wrow.slice
    have hc9 : wr.cell? ⟨nb, 9, none⟩ = some (.slice wad1 Q.wire.length wcap1) := by rw [cell_at I1.blk 9, ← hwv1]; rfl
    have hnl1 := I1.lt
    cases hq : Q.wire with
    | nil =>
      rw [hq] at hc9
      have X : Hid (Flushed w own nb P J (.returned (.bool true)) wr) := hide ⟨rfl, own1, M1, Q, I1, F1, hI1, hJ1, hq, fun j => by have := hle j; have := hN.out; omega⟩
      clear I1 F1 hI1 hJ1 hle hwv1
      simp only [List.length_nil] at hc9
      go_wp2
      go_ret
      exact X.out
    | cons m rest =>
      have hwl := wtAll_ge Q.wire
      have hm : OnW Q m := hI1.wire m (by rw [hq]; simp)
      have hi0 : 0 < Q.wire.length := by rw [hq]; simp
      have hLo := lose_any wr own1 nb M1 Q I1 0 hi0 (by omega)
      have e0 : Q.wire[0] = m := by simp [hq]
      have e1 : Q.wire.eraseIdx 0 = rest := by rw [hq]; rfl
      rw [e0, e1] at hLo
      have hwt' : wtOf m + wtAll rest + k ≤ 10 * N := by rw [hq, wtAll_cons] at hwt; omega
      have hrl : rest.length + 1 = Q.wire.length := by rw [hq]; simp
      obtain ⟨L, hL⟩ : ∃ L, L = Q.wire.length := ⟨_, rfl⟩
      rw [← hL] at hc9
      have hl0 : ((L : Int) == 0) = false := by simp; omega
      replace hq := hide hq
      replace hLo := hide hLo
      have hAr : Hid (∀ u own2 M2, NetAt u own2 nb 3 M2 { Q with wire := rest } → _) := hide (fun u own2 M2 I2 => arrive_any u own2 nb M2 { Q with wire := rest } I2 (hI1.less rfl rfl (fun y hy => by rw [hq.out]; simp [hy])) m (hm.of_wire rfl rfl) (by show rest.length + 4 ≤ _; omega) (fun j => by show (Q.lg j).length + 100 ≤ _; have := hle j; have := hlg.out j; omega))
      have hNx : Hid (∀ u own2 M2 own3 M3 u3, NetAt u own2 nb 3 M2 { Q with wire := rest } → NetAt u3 own3 nb 3 M3 (arriveTo { Q with wire := rest } m) → NInv (arriveTo { Q with wire := rest } m) ∧ J (arriveTo { Q with wire := rest } m) ∧ wtAll (arriveTo { Q with wire := rest } m).wire + (k + 1) ≤ 10 * N ∧ LgLe P (arriveTo { Q with wire := rest } m) (100 * (k + 1))) := hide (fun u own2 M2 own3 M3 u3 I2 I3 => by
        have hI2 : NInv { Q with wire := rest } := hI1.less rfl rfl (fun y hy => by rw [hq.out]; simp [hy])
        have hm2 : OnW { Q with wire := rest } m := hm.of_wire rfl rfl
        refine ⟨arrive_inv I2 hI2 hm2 I3, hJ.out Q m rest (I1.good hI1) hJ1 hq.out, ?_, fun j => ?_⟩
        · have h := wt_arrive (I2.good hI2) hm2
          have e : wtAll ({ Q with wire := rest } : PN).wire = wtAll rest := rfl
          omega
        · have h := lg_arrive (P := { Q with wire := rest }) hm.1 j
          have e : ({ Q with wire := rest } : PN).lg j = Q.lg j := rfl
          rw [e] at h
          have := hle j
          omega)
      replace F1 := hide F1
      replace hwl := hide hwl
      clear I1 hI1 hJ1 hle hwv1 hm e0 e1 hL hrl hi0
      go_wp2_with fail
      refine hLo.out.mono ?_
      rintro e u2 ⟨rfl, own2, M2, I2, F2, _⟩
      have hA2 := hide (hAr.out u2 own2 M2 I2)
      replace I2 := hide I2
      replace F2 := hide F2
      clear hLo hAr hc9
      go_wp2_with fail
      refine hA2.out.mono ?_
      rintro e u3 ⟨rfl, own3, M3, I3, F3⟩
      have X : Hid (∃ own' M' Q', NetAt u3 own' nb 3 M' Q' ∧ Frame w u3 own own' ∧ NInv Q' ∧ J Q' ∧ wtAll Q'.wire + (k + 1) ≤ 10 * N ∧ LgLe P Q' (100 * (k + 1))) := hide (by
        obtain ⟨a, b, c, d⟩ := hNx.out _ _ _ _ _ _ I2.out I3
        exact ⟨own3, M3, _, I3, (F1.out.trans F2.out).trans F3, a, b, c, d⟩)
      clear hA2 hNx I3 F3
      go_wp2
      exact ⟨⟨k + 1, by obtain ⟨_, _, _, _, _, _, _, h, _⟩ := X.out; omega, by go_num, X.out⟩, by simp [intOf]; omega⟩
end Go.Proofs.Ytjkhbjgfoopomaa
