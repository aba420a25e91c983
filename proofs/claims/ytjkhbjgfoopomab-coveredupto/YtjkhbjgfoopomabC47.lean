import Derived.Test.YtjkhbjgfoopomabC42
import Derived.Test.YtjkhbjgfoopomabC46
import Derived.Deep.RegionHeld3
/-
  Networks: a step of a script is played.
-/
namespace Go.Proofs.Ytjkhbjgfoopomab
open Go.RowKit
set_option linter.unusedVariables false
set_option linter.unusedSimpArgs false
def loseTo (P : PN) (i : Nat) : PN := { P with wire := P.wire.eraseIdx i }
/-- what a step does -/
def Plays (P : PN) (s : Stp) (P' : PN) : Prop :=
  if pickN s.k 8 = 0 then P' = subTo P (stepPm P s)
  else if pickN s.k 8 = 1 then (pickN s.a 4 = 0 ∧ ∃ ms, TickSays P.A ms ∧ P' = tickTo P ms) ∨ (1 ≤ pickN s.a 4 ∧ ∃ ac ls, Rel (P.E (pickN s.a 4)) ac ls ∧ P' = { P with wire := P.wire ++ tickM (pickN s.a 4) ls })
  else if pickN s.k 8 = 2 then P' = P
  else if P.wire = [] then P' = P
  else ∃ m, P.wire[pickN s.a P.wire.length]? = some m ∧
    (if pickN s.k 8 = 3 then P' = loseTo P (pickN s.a P.wire.length) else if pickN s.k 8 = 4 then P' = arriveTo P m else if pickN s.k 8 = 5 then P' = brokenTo (loseTo P (pickN s.a P.wire.length)) m s.b else P' = arriveTo (loseTo P (pickN s.a P.wire.length)) m)
/-- the network behind a step -/
def Went (w : World) (own : Nat → Nat) (nb : Nat) (fs : List Int) (P : PN) (s : Stp) (w' : World) : Prop :=
  ∃ own' M' P', Plays P s P' ∧ NetAt w' own' nb 3 M' P' ∧ Frame w w' own own' ∧ Sound fs P' ∧ P'.wire.length ≤ P.wire.length + 128 ∧ ∀ q, (P'.lg q).length ≤ (P.lg q).length + 200
section
variable {w u : World} {own : Nat → Nat} {nb : Nat} {M : NM} {fs : List Int} {P : PN} {s : Stp}
theorem upd_len {P : PN} {x : List UInt8} (hx : x.length ≤ 200) (q : Nat) : (upd P.lg 0 (P.lg 0 ++ x) q).length ≤ (P.lg q).length + 200 := by
  unfold upd
  split
  · rename_i h; rw [h, List.length_append]; omega
  · omega
theorem went_submit (I : NetAt w own nb 3 M P) (hS : Sound fs P) (hB : Below w.heap.size w u) (hk : pickN s.k 8 = 0) (hsa : i64ok s.a) (hsb : i64ok s.b) (hs : ∀ x, x ∈ s.legs → x.ok) (la : Option Addr) (lc : Nat) (hL : LegsAt w la s.legs) (hll : s.legs.length ≤ 1000000000000000) (hlen : P.wire.length ≤ 1000000000) (hlg : ∀ q, (P.lg q).length ≤ 1000000000000) :
    Calls Try.prog 17 #[.pointer (some ⟨nb, 0, none⟩), .agg #[.int .i64 s.k, .int .i64 s.a, .int .i64 s.b, .slice la s.legs.length lc]] u fun e w' => e = .returned (.bool true) ∧ Went w own nb fs P s w' := by
  refine (submit_any u own nb M fs P (I.below hB) hS s hsa hsb hs la lc (fun k hk => by
    obtain ⟨a, ea, h1, h2⟩ := hL k hk
    exact ⟨a, ea, Nat.lt_of_lt_of_le h1 hB.size, fun j v hj => (World.cell?_of_block (w := w) (by rw [addr_block, addr_block]; exact hB.block _ h1)).trans (h2 j v hj)⟩) hll (by omega) (by have := hlg 0; omega)).mono ?_
  rintro e w' ⟨rfl, own', M', I', F'⟩
  refine ⟨rfl, own', M', _, by unfold Plays; rw [if_pos hk], I', (Frame.of_below hB).trans F', hS.sub I.deed.rel s hs, ?_, fun q => ?_⟩
  · show (P.wire ++ subMs (stepPm P s) P.A).length ≤ _
    rw [List.length_append]
    have := subMs_len hS I.deed.rel s hs
    omega
  · exact upd_len (sub_len _ _ (by show memoF.length ≤ 64; decide) (legsOf_ok hs).2.2) q
theorem went_tick (I : NetAt w own nb 3 M P) (hS : Sound fs P) (hB : Below w.heap.size w u) (hk : pickN s.k 8 = 1) (hlen : P.wire.length ≤ 1000000000) (hlg : ∀ q, (P.lg q).length ≤ 1000000000000) :
    Calls Try.prog 18 #[.pointer (some ⟨nb, 0, none⟩), .int .i64 (pickN s.a 4 : Int)] u fun e w' => e = .returned (.bool true) ∧ Went w own nb fs P s w' := by
  have h4 : pickN s.a 4 < 4 := Nat.mod_lt _ (by omega)
  by_cases h0 : pickN s.a 4 = 0
  · rw [h0]
    refine (tick_note u own nb M P (I.below hB) hS.clk (by omega) (by have := hlg 0; omega)).mono ?_
    rintro e w' ⟨rfl, own', M', ms, hT, I', F'⟩
    refine ⟨rfl, own', M', _, by unfold Plays; rw [if_neg (by omega), if_pos hk]; exact .inl ⟨h0, ms, hT, rfl⟩, I', (Frame.of_below hB).trans F', hS.tick hT I'.deed.rel, ?_, fun q => ?_⟩
    · show (P.wire ++ ms).length ≤ _
      rw [List.length_append]
      have := hT.1
      omega
    · refine upd_len ?_ q
      unfold kLog
      split <;> simp
  · refine (tick_bank u own nb M P (I.below hB) (pickN s.a 4) ⟨by omega, by omega⟩ (by omega)).mono ?_
    rintro e w' ⟨rfl, own', M', I', F'⟩
    have hr := (I.bank (pickN s.a 4) (by omega) (by omega)).rel
    refine ⟨rfl, own', M', _, by unfold Plays; rw [if_neg (by omega), if_pos hk]; exact .inr ⟨by omega, _, _, hr, rfl⟩, I', (Frame.of_below hB).trans F', hS.tickB I.deed.rel ⟨by omega, by omega⟩ hr, ?_, fun q => by simp only; omega⟩
    show (P.wire ++ tickM _ _).length ≤ _
    rw [List.length_append]
    have h1 := tickM_len (pickN s.a 4) (M.bk (pickN s.a 4)).ls
    have h2 := hr.llen
    omega
theorem went_restore (I : NetAt w own nb 3 M P) (hS : Sound fs P) (hB : Below w.heap.size w u) (hk : pickN s.k 8 = 2) (hlg : ∀ q, (P.lg q).length ≤ 1000000000000) :
    Calls Try.prog 19 #[.pointer (some ⟨nb, 0, none⟩), .int .i64 (pickN s.a 4 : Int)] u fun e w' => e = .returned (.bool true) ∧ Went w own nb fs P s w' := by
  have h4 : pickN s.a 4 < 4 := Nat.mod_lt _ (by omega)
  refine (restore_any u own nb M P (I.below hB) hS.log (pickN s.a 4) (by omega) (fun k => by have := hlg k; omega)).mono ?_
  rintro e w' ⟨rfl, own', M', I', F'⟩
  exact ⟨rfl, own', M', P, by unfold Plays; rw [if_neg (by omega), if_neg (by omega), if_pos hk], I', (Frame.of_below hB).trans F', hS, by omega, fun q => by omega⟩
/-- the frame that a step speaks of -/
theorem step_wire (hw : P.wire ≠ []) : pickN s.a P.wire.length < P.wire.length := Nat.mod_lt _ (by
  have : P.wire.length ≠ 0 := fun e => hw (List.length_eq_zero_iff.1 e)
  omega)
theorem erase_mem {i : Nat} : ∀ m, m ∈ (loseTo P i).wire → m ∈ P.wire := fun m hm => List.mem_of_mem_eraseIdx hm
theorem erase_len {i : Nat} : (loseTo P i).wire.length ≤ P.wire.length := by
  show (P.wire.eraseIdx i).length ≤ _
  rw [List.length_eraseIdx]
  split <;> omega
theorem Sound.less {fs : List Int} {P : PN} (h : Sound fs P) (i : Nat) : Sound fs (loseTo P i) := h.lose rfl rfl rfl rfl erase_mem
theorem went_stay (I : NetAt w own nb 3 M P) (hS : Sound fs P) (hB : Below w.heap.size w u) (hk : pickN s.k 8 = 4) (hw : P.wire ≠ []) (hlen : P.wire.length ≤ 1000000000) (hlg : ∀ q, (P.lg q).length ≤ 1000000000000) :
    Calls Try.prog 21 #[.pointer (some ⟨nb, 0, none⟩), .string (bs (encOf (P.wire[pickN s.a P.wire.length]'(step_wire hw))))] u fun e w' => e = .returned (.bool true) ∧ Went w own nb fs P s w' := by
  have hi := step_wire (s := s) hw
  have hm : OnW P P.wire[pickN s.a P.wire.length] := hS.inv.wire _ (List.getElem_mem hi)
  refine (arrive_any u own nb M P (I.below hB) hS.inv _ hm (by omega) (fun k => by have := hlg k; omega)).mono ?_
  rintro e w' ⟨rfl, own', M', I', F'⟩
  have G := I.good hS.inv
  refine ⟨rfl, own', M', _, ?_, I', (Frame.of_below hB).trans F', hS.arrive G hm (arrive_inv (I.below hB) hS.inv hm I'), ?_, fun q => ?_⟩
  · unfold Plays
    rw [if_neg (by omega), if_neg (by omega), if_neg (by omega), if_neg hw]
    exact ⟨_, List.getElem?_eq_getElem hi, by rw [if_neg (by omega), if_pos hk]⟩
  · have := wire_arrive G hm
    omega
  · have := lg_arrive (P := P) hm.1 q
    omega
theorem went_lose (I : NetAt w own nb 3 M P) (hS : Sound fs P) (hB : Below w.heap.size w u) (hw : P.wire ≠ []) (hlen : P.wire.length ≤ 1000000000) :
    Calls Try.prog 20 #[.pointer (some ⟨nb, 0, none⟩), .int .i64 (pickN s.a P.wire.length : Int)] u fun e w' => e = .returned (.string (bs (encOf (P.wire[pickN s.a P.wire.length]'(step_wire hw))))) ∧ (∃ own' M', NetAt w' own' nb 3 M' (loseTo P (pickN s.a P.wire.length)) ∧ Frame w w' own own') ∧ ∀ o, w.heap.size < u.heap.size → w'.cell? ⟨w.heap.size, o, none⟩ = u.cell? ⟨w.heap.size, o, none⟩ := by
  have F0 : Frame w u own (fun i => if i < w.heap.size then own i else 0) := ⟨Kept.of_below hB, fun i hi => by simp [hi]⟩
  refine (lose_any u _ nb M P (I.below0 hB) _ (step_wire hw) (by omega)).mono ?_
  rintro e w' ⟨rfl, own', M', I', F', _⟩
  exact ⟨rfl, ⟨own', M', I', F0.trans F'⟩, fun o ho => F'.kept.cell (p := ⟨w.heap.size, o, none⟩) ho (fun h => h (by show (if w.heap.size < w.heap.size then own w.heap.size else 0) = 0; rw [if_neg (Nat.lt_irrefl _)]))⟩
theorem went_lost {w' : World} {own' : Nat → Nat} {M' : NM} (hS : Sound fs P) (hk : pickN s.k 8 = 3) (hw : P.wire ≠ []) (I' : NetAt w' own' nb 3 M' (loseTo P (pickN s.a P.wire.length))) (F' : Frame w w' own own') : Went w own nb fs P s w' := by
  refine ⟨own', M', _, ?_, I', F', hS.less _, by have := erase_len (P := P) (i := pickN s.a P.wire.length); omega, fun q => by show (P.lg q).length ≤ _; omega⟩
  unfold Plays
  rw [if_neg (by omega), if_neg (by omega), if_neg (by omega), if_neg hw]
  exact ⟨_, List.getElem?_eq_getElem (step_wire hw), by rw [if_pos hk]⟩
theorem went_arrive {w2 : World} {own2 : Nat → Nat} {M2 : NM} (I : NetAt w own nb 3 M P) (hS : Sound fs P) (hk : 5 < pickN s.k 8) (hw : P.wire ≠ []) (hlen : P.wire.length ≤ 1000000000) (hlg : ∀ q, (P.lg q).length ≤ 1000000000000) (I2 : NetAt w2 own2 nb 3 M2 (loseTo P (pickN s.a P.wire.length))) (F2 : Frame w w2 own own2) (hb : Below w2.heap.size w2 u) :
    Calls Try.prog 21 #[.pointer (some ⟨nb, 0, none⟩), .string (bs (encOf (P.wire[pickN s.a P.wire.length]'(step_wire hw))))] u fun e w' => e = .returned (.bool true) ∧ Went w own nb fs P s w' := by
  have hi := step_wire (s := s) hw
  have hm : OnW P P.wire[pickN s.a P.wire.length] := hS.inv.wire _ (List.getElem_mem hi)
  have hm2 : OnW (loseTo P (pickN s.a P.wire.length)) P.wire[pickN s.a P.wire.length] := hm.of_wire rfl rfl
  have hS2 := hS.less (pickN s.a P.wire.length)
  have hl := erase_len (P := P) (i := pickN s.a P.wire.length)
  refine (arrive_any u own2 nb M2 _ (I2.below hb) hS2.inv _ hm2 (by omega) (fun k => by have := hlg k; show (P.lg k).length + 100 ≤ _; omega)).mono ?_
  rintro e w' ⟨rfl, own', M', I', F'⟩
  have G := I2.good hS2.inv
  refine ⟨rfl, own', M', _, ?_, I', F2.trans ((Frame.of_below hb).trans F'), hS2.arrive G hm2 (arrive_inv (I2.below hb) hS2.inv hm2 I'), ?_, fun q => ?_⟩
  · unfold Plays
    rw [if_neg (by omega), if_neg (by omega), if_neg (by omega), if_neg hw]
    exact ⟨_, List.getElem?_eq_getElem hi, by rw [if_neg (by omega), if_neg (by omega), if_neg (by omega)]⟩
  · have := wire_arrive G hm2
    omega
  · have h1 := lg_arrive (P := loseTo P (pickN s.a P.wire.length)) hm2.1 q
    have h2 : ((loseTo P (pickN s.a P.wire.length)).lg q).length = (P.lg q).length := rfl
    omega
theorem went_broken {w2 : World} {own2 : Nat → Nat} {M2 : NM} (I : NetAt w own nb 3 M P) (hS : Sound fs P) (hk : pickN s.k 8 = 5) (hsb : i64ok s.b) (hw : P.wire ≠ []) (hlen : P.wire.length ≤ 1000000000) (hlg : ∀ q, (P.lg q).length ≤ 1000000000000) (I2 : NetAt w2 own2 nb 3 M2 (loseTo P (pickN s.a P.wire.length))) (F2 : Frame w w2 own own2) (hb : Below w2.heap.size w2 u) :
    Calls Try.prog 22 #[.pointer (some ⟨nb, 0, none⟩), .string (bs (encOf (P.wire[pickN s.a P.wire.length]'(step_wire hw)))), .int .i64 s.b] u fun e w' => e = .returned (.bool true) ∧ Went w own nb fs P s w' := by
  have hi := step_wire (s := s) hw
  have hm : OnW P P.wire[pickN s.a P.wire.length] := hS.inv.wire _ (List.getElem_mem hi)
  have hm2 : OnW (loseTo P (pickN s.a P.wire.length)) P.wire[pickN s.a P.wire.length] := hm.of_wire rfl rfl
  have hS2 := hS.less (pickN s.a P.wire.length)
  have hl := erase_len (P := P) (i := pickN s.a P.wire.length)
  have G := I2.good hS2.inv
  refine (broken_any u own2 nb M2 _ (I2.below hb) hS2.inv hS2.log _ hm2 s.b hsb (fun k => by have := hlg k; show (P.lg k).length + 100 ≤ _; omega)).mono ?_
  rintro e w' ⟨rfl, own', M', I', F'⟩
  have hpl : Plays P s (brokenTo (loseTo P (pickN s.a P.wire.length)) P.wire[pickN s.a P.wire.length] s.b) := by
    unfold Plays
    rw [if_neg (by omega), if_neg (by omega), if_neg (by omega), if_neg hw]
    exact ⟨_, List.getElem?_eq_getElem hi, by rw [if_neg (by omega), if_neg (by omega), if_pos hk]⟩
  have key : Sound fs (brokenTo (loseTo P (pickN s.a P.wire.length)) P.wire[pickN s.a P.wire.length] s.b) ∧ (brokenTo (loseTo P (pickN s.a P.wire.length)) P.wire[pickN s.a P.wire.length] s.b).wire = (loseTo P (pickN s.a P.wire.length)).wire ∧ ∀ q, ((brokenTo (loseTo P (pickN s.a P.wire.length)) P.wire[pickN s.a P.wire.length] s.b).lg q).length ≤ (P.lg q).length + 200 := by
    unfold brokenTo at I' ⊢
    split
    · exact ⟨hS2, rfl, fun q => by show (P.lg q).length ≤ _; omega⟩
    · rename_i hlt
      rw [if_neg hlt] at I'
      obtain ⟨e1, e2, e3, e4, e5, r, e6⟩ := take_arrive (loseTo P (pickN s.a P.wire.length)) P.wire[pickN s.a P.wire.length]
      have hd : ∃ ck ps, DRel (arriveTo (loseTo P (pickN s.a P.wire.length)) P.wire[pickN s.a P.wire.length]).A ck ps := ⟨_, _, by rw [← e2]; exact I'.deed.rel⟩
      have hI : NInv (arriveTo (loseTo P (pickN s.a P.wire.length)) P.wire[pickN s.a P.wire.length]) := by
        unfold arriveTo at hd ⊢
        by_cases hk3 : (P.wire[pickN s.a P.wire.length]).k ≤ 3
        · rw [if_pos hk3]
          obtain ⟨h1, h2, h3⟩ := hS2.inv.bankOk I2.deed.rel hm2 hk3
          exact hS2.inv.bank I2.deed.rel hm2 hk3 (h3 (I2.bank _ h1 h2).rel) rfl rfl (fun y hy => by simpa using hy)
        · rw [if_neg hk3] at hd ⊢
          exact hS2.inv.note I2.deed.rel hm2 (by omega) hd rfl rfl (fun y hy => List.mem_append.1 hy)
      refine ⟨hS2.take G hm2 hI, e4, fun q => ?_⟩
      have h1 := lg_arrive (P := loseTo P (pickN s.a P.wire.length)) hm2.1 q
      rw [← e3] at h1
      have h2 : ((loseTo P (pickN s.a P.wire.length)).lg q).length = (P.lg q).length := rfl
      omega
  exact ⟨rfl, own', M', _, hpl, I', F2.trans ((Frame.of_below hb).trans F'), key.1, by rw [key.2.1]; omega, key.2.2⟩
theorem went_none (I : NetAt w own nb 3 M P) (hS : Sound fs P) (hB : Below w.heap.size w u) (hk : 2 < pickN s.k 8) (hw : P.wire = []) : Went w own nb fs P s u :=
  ⟨own, M, P, by unfold Plays; rw [if_neg (by omega), if_neg (by omega), if_neg (by omega), if_pos hw], I.below hB, Frame.of_below hB, hS, by omega, fun q => by omega⟩
end
end Go.Proofs.Ytjkhbjgfoopomab
/-
  Networks: play.
-/
namespace Go.Proofs.Ytjkhbjgfoopomab
open Go.RowKit
set_option linter.unusedVariables false
set_option linter.unusedSimpArgs false
set_option maxRecDepth 100000 in
set_option maxHeartbeats 2000000 in
theorem play_any (w : World) (own : Nat → Nat) (nb : Nat) (M : NM) (fs : List Int) (P : PN) (I : NetAt w own nb 3 M P) (hS : Sound fs P) (s : Stp) (hsk : i64ok s.k) (hsa : i64ok s.a) (hsb : i64ok s.b) (hs : ∀ x, x ∈ s.legs → x.ok) (la : Option Addr) (lc : Nat) (hL : LegsAt w la s.legs) (hll : s.legs.length ≤ 1000000000000000) (hlen : P.wire.length ≤ 1000000000) (hlg : ∀ q, (P.lg q).length ≤ 1000000000000) :
    Calls Try.prog 6 #[.pointer (some ⟨nb, 0, none⟩), .agg #[.int .i64 s.k, .int .i64 s.a, .int .i64 s.b, .slice la s.legs.length lc]] w fun e w' => e = .returned (.bool true) ∧ Went w own nb fs P s w' := by
  have hpk := hide (fun u => kpick_any s.k hsk 8 (by omega) (by omega) u)
  have hp4 := hide (fun u => kpick_any s.a hsa 4 (by omega) (by omega) u)
  have h8 : pickN s.k 8 < 8 := Nat.mod_lt _ (by omega)
  obtain ⟨W1, hW1⟩ : ∃ W1, W1 = w.alloc (.cells #[.int .i64 s.k, .int .i64 s.a, .int .i64 s.b, .slice la s.legs.length lc] 31) := ⟨_, rfl⟩
  have hB1 : Below w.heap.size w W1 := by rw [hW1]; exact (Below.refl _ _).alloc (Nat.le_refl _) _
  have hcO : ∀ o, W1.cell? ⟨w.heap.size, o, none⟩ = (#[.int .i64 s.k, .int .i64 s.a, .int .i64 s.b, .slice la s.legs.length lc] : Array Value)[o]? := fun o => by rw [hW1]; exact World.cell?_alloc_new ..
  have hlO : w.heap.size < W1.heap.size := by rw [hW1]; simp
  have I1 := I.below hB1
  have hnl1 := I1.lt
  obtain ⟨wad, wcap, hwv, hwev⟩ := I1.wrow.form msgCell_length
  have hc9 : W1.cell? ⟨nb, 9, none⟩ = some (.slice wad P.wire.length wcap) := by rw [cell_at I1.blk 9, ← hwv]; rfl
  have wS := hide (fun u (hu : Below w.heap.size w u) hk => went_submit (s := s) I hS hu hk hsa hsb hs la lc hL hll hlen hlg)
  have wT := hide (fun u (hu : Below w.heap.size w u) hk => went_tick (s := s) I hS hu hk hlen hlg)
  have wR := hide (fun u (hu : Below w.heap.size w u) hk => went_restore (s := s) I hS hu hk hlg)
  have wN := hide (fun u (hu : Below w.heap.size w u) hk hw => went_none (s := s) I hS hu hk hw)
  replace hW1 := hide hW1
  go_enter Try.func6, Try.ntmps6
  go_wp2_with fail
  rw [← hW1.out]
  refine (hpk.out _).mono ?_
  rintro e u9 ⟨rfl, hu9⟩
  obtain rfl : W1 = u9 := hu9.symm
  clear hpk hu9
  obtain ⟨kk, hkk⟩ : ∃ kk, kk = pickN s.k 8 := ⟨_, rfl⟩
  rw [← hkk] at h8 ⊢
  replace hkk := hide hkk
  have wA := hide (fun hk hw u (hu : Below w.heap.size w u) => went_stay (s := s) I hS hu hk hw hlen hlg)
  have wL := hide (fun hw u (hu : Below w.heap.size w u) => went_lose (s := s) I hS hu hw hlen)
  have wL3 := hide (fun hk hw w2 own2 M2 (I2 : NetAt w2 own2 nb 3 M2 (loseTo P (pickN s.a P.wire.length))) (F2 : Frame w w2 own own2) => went_lost (s := s) hS hk hw I2 F2)
  have wL5 := hide (fun hk hw w2 own2 M2 (I2 : NetAt w2 own2 nb 3 M2 (loseTo P (pickN s.a P.wire.length))) (F2 : Frame w w2 own own2) u (hu : Below w2.heap.size w2 u) => went_broken (s := s) I hS hk hsb hw hlen hlg I2 F2 hu)
  have wL6 := hide (fun hk hw w2 own2 M2 (I2 : NetAt w2 own2 nb 3 M2 (loseTo P (pickN s.a P.wire.length))) (F2 : Frame w w2 own own2) u (hu : Below w2.heap.size w2 u) => went_arrive (s := s) I hS hk hw hlen hlg I2 F2 hu)
  have hpw := hide (fun (hw : P.wire ≠ []) u => kpick_any s.a hsa P.wire.length (by have : P.wire.length ≠ 0 := fun e => hw (List.length_eq_zero_iff.1 e); omega) (by omega) u)
  have hwll : Hid (P.wire.length ≤ 1000000000) := hide hlen
  clear I I1 hS hs hL hlg hsk hsa hsb hll hlen hwv
  replace hwev := hide hwev
  have hc1 := hcO 1
  by_cases h0 : kk = 0
  · have d0 : ((kk : Int) == 0) = true := by simp; omega
    have hC := hide (wS.out W1 hB1 (by rw [← hkk.out]; exact h0))
    clear wS wT wR wN wA wL wL3 wL5 wL6 hpw hp4 hwev hkk
    go_wp2_with fail
    first
      | (refine hC.out.mono ?_
         rintro e w2 ⟨rfl, X⟩)
      | (go_region_with (first
          | (go_at_call 17; refine hC.out.mono ?_; rintro e w2 ⟨rfl, X⟩)))
    all_goals (
      replace X := hide X
      clear hC
      go_wp2
      go_ret
      exact ⟨rfl, X.out⟩)
  · have d0 : ((kk : Int) == 0) = false := by simp; omega
    by_cases h1 : kk = 1
    · have d1 : ((kk : Int) == 1) = true := by simp; omega
      have hC := hide (fun u hu => wT.out u hu (by rw [← hkk.out]; exact h1))
      clear wS wT wR wN wA wL wL3 wL5 wL6 hpw hwev hkk hc9
      go_wp2_with fail
      refine (hp4.out _).mono ?_
      rintro e u9 ⟨rfl, hu9⟩
      obtain rfl : W1 = u9 := hu9.symm
      clear hp4 hu9
      generalize pickN s.a 4 = na at *
      go_wp2_with fail
      first
        | refine (hC.out _ hB1).mono ?_
        | refine (hC.out _ hB1.drew).mono ?_
      rintro e w2 ⟨rfl, X⟩
      replace X := hide X
      clear hC
      go_wp2
      go_ret
      exact ⟨rfl, X.out⟩
    · have d1 : ((kk : Int) == 1) = false := by simp; omega
      by_cases h2 : kk = 2
      · have d2 : ((kk : Int) == 2) = true := by simp; omega
        have hC := hide (fun u hu => wR.out u hu (by rw [← hkk.out]; exact h2))
        clear wS wT wR wN wA wL wL3 wL5 wL6 hpw hwev hkk hc9
        go_wp2_with fail
        refine (hp4.out _).mono ?_
        rintro e u9 ⟨rfl, hu9⟩
        obtain rfl : W1 = u9 := hu9.symm
        clear hp4 hu9
        generalize pickN s.a 4 = na at *
        go_wp2_with fail
        first
          | refine (hC.out _ hB1).mono ?_
          | refine (hC.out _ hB1.drew).mono ?_
        rintro e w2 ⟨rfl, X⟩
        replace X := hide X
        clear hC
        go_wp2
        go_ret
        exact ⟨rfl, X.out⟩
      · have d2 : ((kk : Int) == 2) = false := by simp; omega
        clear hp4 wS wT wR
        by_cases hw : P.wire = []
        · have hX := hide (wN.out W1 hB1 (by rw [← hkk.out]; omega) hw)
          have hwl : P.wire.length = 0 := by rw [hw]; rfl
          rw [hwl] at hc9
          clear wN wA wL wL3 wL5 wL6 hpw hwev hkk hwl hw
          go_wp2
          go_ret
          exact ⟨rfl, hX.out⟩
        · have hwl : P.wire.length ≠ 0 := fun e => hw (List.length_eq_zero_iff.1 e)
          have dw : ((P.wire.length : Int) == 0) = false := by simp; omega
          have hpw1 := hide (hpw.out hw)
          have hiw := step_wire (s := s) hw
          obtain ⟨wg, ewg, hwc, _⟩ := hwev.out _ hiw
          have hwc0 := hwc 0 (by decide)
          simp only [msgCell, List.getElem?_cons_zero, Nat.add_zero, Nat.mul_one] at hwc0
          have hLo := hide (wL.out hw W1.drew hB1.drew)
          have hAr := hide (fun hk => wA.out hk hw W1.drew hB1.drew)
          replace wL3 := hide (fun hk => wL3.out hk hw)
          replace wL5 := hide (fun hk => wL5.out hk hw)
          replace wL6 := hide (fun hk => wL6.out hk hw)
          have hc2 := hcO 2
          have hc2' : ∀ u, Below W1.heap.size W1 u → u.cell? ⟨w.heap.size, 2, none⟩ = some (.int .i64 s.b) := fun u hu => by rw [hu.cell (p := ⟨w.heap.size, 2, none⟩) hlO]; exact hc2
          clear wN wA wL hpw hwev hwc hcO
          generalize encOf (P.wire[pickN s.a P.wire.length]'(step_wire hw)) = F at *
          have hc1d : W1.drew.cell? ⟨w.heap.size, 1, none⟩ = some (.int .i64 s.a) := hc1
          have hc9d : W1.drew.cell? ⟨nb, 9, none⟩ = some (.slice wad P.wire.length wcap) := hc9
          have hc2d : W1.drew.cell? ⟨w.heap.size, 2, none⟩ = some (.int .i64 s.b) := hc2
          subst ewg
          have hwcd : W1.drew.cell? ⟨wg, pickN s.a P.wire.length, none⟩ = some (.string (bs F)) := hwc0
          have hniw : Hid (pickN s.a P.wire.length < P.wire.length) := hide hiw
          have hiI : (pickN s.a P.wire.length : Int) < (P.wire.length : Int) := by omega
          clear hiw hwc0
          generalize pickN s.a P.wire.length = na at *
          go_wp2_with fail
          go_region_held3 (fun u => u.cell? ⟨w.heap.size, 1, none⟩ = some (.int .i64 s.a) ∧ u.cell? ⟨nb, 9, none⟩ = some (.slice (some ⟨wg, 0, none⟩) P.wire.length wcap))
            (first
              | (with_reducible exact ⟨hc1d, hc9d⟩)
              | fail)
            (first
              | (go_at_call 16; with_reducible refine (hpw1.out _).mono ?_; rintro e u9 ⟨rfl, rfl⟩))
          clear hpw1
          by_cases h3 : kk = 3
          · have e3 : ((kk : Int) == 3) = true := by simp; omega
            have hX := hide (wL3.out (by rw [← hkk.out]; exact h3))
            clear wL3 wL5 wL6 hAr hkk
            go_wp2_with fail
            refine hLo.out.mono ?_
            rintro e w2 ⟨rfl, ⟨own2, M2, I2, F2⟩, hkc⟩
            have X := hide (hX.out _ _ _ I2 F2)
            clear hLo hX I2 F2 hkc
            go_wp2
            go_ret
            exact ⟨rfl, X.out⟩
          · have e3 : ((kk : Int) == 3) = false := by simp; omega
            by_cases h4 : kk = 4
            · have e4 : ((kk : Int) == 4) = true := by simp; omega
              have hC := hide (hAr.out (by rw [← hkk.out]; exact h4))
              clear wL3 wL5 wL6 hAr hkk hLo
              go_wp2_with fail
              refine hC.out.mono ?_
              rintro e w2 ⟨rfl, X⟩
              replace X := hide X
              clear hC
              go_wp2
              go_ret
              exact ⟨rfl, X.out⟩
            · have e4 : ((kk : Int) == 4) = false := by simp; omega
              by_cases h5 : kk = 5
              · have e5 : ((kk : Int) == 5) = true := by simp; omega
                have hX := hide (wL5.out (by rw [← hkk.out]; exact h5))
                clear wL3 wL5 wL6 hAr hkk
                go_wp2_with fail
                refine hLo.out.mono ?_
                rintro e w2 ⟨rfl, ⟨own2, M2, I2, F2⟩, hkc⟩
                have X0 := hide (hX.out _ _ _ I2 F2 w2 (Below.refl _ _))
                have X1 := hide (hX.out _ _ _ I2 F2 w2.drew (Below.refl _ _).drew)
                have hcb : w2.cell? ⟨w.heap.size, 2, none⟩ = some (.int .i64 s.b) := by rw [hkc 2 hlO]; exact hc2d
                have hcb1 : w2.drew.cell? ⟨w.heap.size, 2, none⟩ = some (.int .i64 s.b) := hcb
                clear hLo hX I2 F2 hkc
                go_wp2_with fail
                first
                  | refine X0.out.mono ?_
                  | refine X1.out.mono ?_
                rintro e w3 ⟨rfl, X⟩
                replace X := hide X
                clear X0 X1
                go_wp2
                go_ret
                exact ⟨rfl, X.out⟩
              · have e5 : ((kk : Int) == 5) = false := by simp; omega
                have hX := hide (wL6.out (by rw [← hkk.out]; omega))
                clear wL3 wL5 wL6 hAr hkk
                go_wp2_with fail
                refine hLo.out.mono ?_
                rintro e w2 ⟨rfl, ⟨own2, M2, I2, F2⟩, hkc⟩
                have X0 := hide (hX.out _ _ _ I2 F2 w2 (Below.refl _ _))
                clear hLo hX I2 F2 hkc
                go_wp2_with fail
                refine X0.out.mono ?_
                rintro e w3 ⟨rfl, X⟩
                replace X := hide X
                clear X0
                go_wp2
                go_ret
                exact ⟨rfl, X.out⟩
end Go.Proofs.Ytjkhbjgfoopomab
