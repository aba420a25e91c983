import Derived.Test.YtjkhbjgfoopomaaA48
import Derived.Test.YtjkhbjgfoopomaaA40
import Derived.Test.YtjkhbjgfoopomaaA47
import Derived.Test.YtjkhbjgfoopomaaA41
import Derived.Test.YtjkhbjgfoopomaaA46
import Derived.Test.YtjkhbjgfoopomaaA38
import Derived.Test.YtjkhbjgfoopomaaA36
/-
  Arguments that came in, opened: the steps of a script.
-/
namespace Go.Proofs.Ytjkhbjgfoopomaa
open Go.ChangeShapes Go.WideShapes Go.ChangeAt Go.RowKit
set_option linter.unusedVariables false
set_option linter.unusedSimpArgs false
def Stp.cells (s : Stp) (la : Option Addr) (lc : Nat) : List Value := [.int .i64 s.k, .int .i64 s.a, .int .i64 s.b, .slice la s.legs.length lc]
structure Stp.ok (s : Stp) : Prop where
  k : i64ok s.k
  a : i64ok s.a
  b : i64ok s.b
  legs : ∀ x, x ∈ s.legs → x.ok
  len : s.legs.length ≤ 1048576
/-- a script that came in -/
structure Steps (w : World) (sv : Value) (ss : List Stp) : Prop where
  form : ∃ ad cap, sv = .slice ad ss.length cap ∧ ∀ k (hk : k < ss.length), ∃ (a : Addr) (la : Option Addr) (lc : Nat), ad = some a ∧ a.block < w.heap.size ∧ (∀ j v, (ss[k].cells la lc)[j]? = some v → w.cell? ((a.add (k * 4)).add j) = some v) ∧ LegsAt w la ss[k].legs
  ok : ∀ s, s ∈ ss → s.ok
  len : ss.length ≤ 1048576
theorem kcellsStep : Try.prog.cellsOf 95 = 4 := by kernel_rfl
theorem kcellsLegs : Try.prog.cellsOf 50 = 1 := by kernel_rfl
theorem bulk_mem {H : Type} {d : DataW H} : ∀ {l : List (DataW H)}, d ∈ l → Rows.uptoBulk d ≤ Rows.uptoBulkAll l
  | [], h => by simp at h
  | x :: r, h => by
    simp only [Rows.uptoBulkAll]
    rcases List.mem_cons.1 h with h | h
    · subst h; omega
    · have := bulk_mem h; omega
section
variable {H : Type} {enc : TypeId × Value → H} {w : World} {held : Bool}
set_option maxRecDepth 100000 in
theorem kopen_step {n : Nat} {cs : List Value} {x : DataW H × List MemPlace} (h : DataW.trod enc Try.prog w 0 (fun _ => true) held n 95 cs = some x) (hb : Rows.uptoBulk x.1 ≤ 1048576) : ∃ (s : Stp) (la : Option Addr) (lc : Nat), cs = s.cells la lc ∧ s.ok ∧ LegsAt w la s.legs := by
  obtain ⟨xs, n', _, hx, hcl, hlen, hg⟩ := DataW.trod_struct Try.underlying95 h
  rw [kcellsStep] at hcl
  match cs, hcl with
  | [c0, c1, c2, c3], _ =>
  have g0 := hg 0 _ rfl
  have g1 := hg 1 _ rfl
  have g2 := hg 2 _ rfl
  have g3 := hg 3 _ rfl
  clear hg
  have hlen' : xs.length = 4 := hlen
  match xs, hlen' with
  | [y0, y1, y2, y3], _ =>
    simp [kcellsInt, kcellsLegs] at g0 g1 g2 g3
    obtain ⟨n0, e0, rfl, w0⟩ := DataW.trod_int Try.underlying3 g0
    obtain ⟨n1, e1, rfl, w1⟩ := DataW.trod_int Try.underlying3 g1
    obtain ⟨n2, e2, rfl, w2⟩ := DataW.trod_int Try.underlying3 g2
    obtain ⟨la, lc, legs, e3, hlok, hLA, hll⟩ := kopen_legs (c := c3) g3
    simp only [List.cons.injEq, and_true] at e0 e1 e2
    subst e0 e1 e2 e3
    refine ⟨⟨n0, n1, n2, legs⟩, la, lc, rfl, ⟨ki64_of w0, ki64_of w1, ki64_of w2, hlok, ?_⟩, hLA⟩
    rw [hx] at hb
    simp only [List.map_cons, List.map_nil, Rows.uptoBulk, Rows.uptoBulkAll] at hb
    show legs.length ≤ 1048576
    omega
set_option maxRecDepth 100000 in
/-- steps that came in -/
theorem kopen_steps {n : Nat} {c : Value} {x : DataW H × List MemPlace} (h : DataW.trod enc Try.prog w 0 (fun _ => true) held n 92 [c] = some x) (hb : Rows.uptoBulk x.1 ≤ 1048576) : ∃ ss, Steps w c ss := by
  have hlt : ∀ y ∈ x.2, y.block < w.heap.size := DataW.trod_lt n _ _ _ h
  rcases Go.Deep.open_slice Try.underlying92 h with ⟨e1, _⟩ | ⟨a, len, cap, m, n', D, Q, e1, _, hl, hm, hmm, hx, hel⟩
  · simp only [List.cons.injEq, and_true] at e1
    exact ⟨[], ⟨⟨none, 0, e1, fun k hk => by simp at hk⟩, by simp, by simp⟩⟩
  · simp only [List.cons.injEq, and_true] at e1
    simp only [if_true] at hmm
    subst hmm
    rw [hx] at hlt hb
    rw [kcellsStep] at hel hlt
    simp only [Rows.uptoBulk] at hb
    have hall : ∀ i, i < len → ∃ s : Stp × Option Addr × Nat, s.1.ok ∧ (∀ j v, (s.1.cells s.2.1 s.2.2)[j]? = some v → w.cell? ((a.add (i * 4)).add j) = some v) ∧ LegsAt w s.2.1 s.1.legs := by
      intro i hi
      obtain ⟨cs', h1, h2⟩ := hel i (by omega)
      have hbi : Rows.uptoBulk (D i) ≤ 1048576 := by
        have := bulk_mem (l := (List.range len).map D) (List.mem_map.2 ⟨i, List.mem_range.2 hi, rfl⟩)
        omega
      obtain ⟨s, la, lc, hs, hok, hLA⟩ := kopen_step h2 hbi
      obtain ⟨_, hln, hc⟩ := World.cells?_some h1
      refine ⟨(s, la, lc), hok, fun j v hj => ?_, hLA⟩
      have hj4 : j < 4 := (List.getElem?_eq_some_iff.1 hj).1
      rw [hc j hj4, hs]
      exact hj
    have hab : 0 < len → a.block < w.heap.size := fun h0 => hlt (.cell a.block a.off) (List.mem_append_left _ (krow_first a (m * 4) (by omega)))
    obtain ⟨f, hf⟩ := Classical.axiomOfChoice (fun i : Fin len => hall i.1 i.2)
    have hbl : len ≤ 1048576 := by
      have := bulk_len ((List.range len).map D)
      simp only [List.length_map, List.length_range] at this
      omega
    refine ⟨List.ofFn (fun i => (f i).1), ⟨⟨some a, m, by rw [List.length_ofFn]; exact e1, fun k hk => ?_⟩, fun s hs => ?_, by rw [List.length_ofFn]; exact hbl⟩⟩
    · rw [List.length_ofFn] at hk
      refine ⟨a, (f ⟨k, hk⟩).2.1, (f ⟨k, hk⟩).2.2, rfl, hab (by omega), fun j v hj => ?_, ?_⟩
      · rw [List.getElem_ofFn] at hj
        exact (hf ⟨k, hk⟩).2.1 j v hj
      · rw [List.getElem_ofFn]
        exact (hf ⟨k, hk⟩).2.2
    · obtain ⟨i, rfl⟩ := List.mem_ofFn.1 hs
      exact (hf i).1
end
end Go.Proofs.Ytjkhbjgfoopomaa
/-
  Networks: a script is played, step by step.
-/
namespace Go.Proofs.Ytjkhbjgfoopomaa
open Go.RowKit
set_option linter.unusedVariables false
set_option linter.unusedSimpArgs false
theorem Ful.plays {fs : List Int} {P P' : PN} {s : Stp} (F : Ful P) (hS : Sound fs P) (G : Good P) (hs : ∀ x, x ∈ s.legs → x.ok) (h : Plays P s P') : Ful P' := by
  obtain ⟨ck, ps, hd⟩ := G.dr
  unfold Plays at h
  split at h
  · rw [h]; exact F.sub hS hd s hs
  · split at h
    · rcases h with ⟨_, ms, hT, rfl⟩ | ⟨_, ac, ls, hr, rfl⟩
      · exact F.tick ms
      · exact F.same rfl
    · split at h
      · rw [h]; exact F
      · split at h
        · rw [h]; exact F
        · obtain ⟨m, hm, h⟩ := h
          have hmw : m ∈ P.wire := List.mem_of_getElem? hm
          have hO := G.inv.wire m hmw
          have G2 : Good (loseTo P (pickN s.a P.wire.length)) := G.less rfl rfl erase_mem
          have hO2 : OnW (loseTo P (pickN s.a P.wire.length)) m := hO.of_wire rfl rfl
          have F2 : Ful (loseTo P (pickN s.a P.wire.length)) := F.same rfl
          split at h
          · rw [h]; exact F2
          · split at h
            · rw [h]; exact F.step G hO arrive_after_stay
            · split at h
              · rw [h]
                unfold brokenTo
                split
                · exact F2
                · exact F2.take G2 hO2
              · rw [h]; exact F2.step G2 hO2 arrive_after_stay
/-- a network to which k steps came to pass -/
structure RunSt (w u : World) (nb : Nat) (fs : List Int) (k : Nat) (own : Nat → Nat) (M : NM) (P : PN) : Prop where
  net : NetAt u own nb 3 M P
  sound : Sound fs P
  ful : Ful P
  zero : ∀ i, i < w.heap.size → own i = 0
  bel : Below w.heap.size w u
  wl : P.wire.length ≤ 128 * k
  ll : ∀ q, (P.lg q).length ≤ 1000 + 200 * k
section
variable {w u u' : World} {nb k : Nat} {fs : List Int} {own : Nat → Nat} {M : NM} {P : PN}
theorem RunSt.below (h : RunSt w u nb fs k own M P) (hb : Below u.heap.size u u') : RunSt w u' nb fs k own M P :=
  ⟨h.net.below hb, h.sound, h.ful, h.zero, h.bel.trans (hb.mono h.bel.size), h.wl, h.ll⟩
theorem RunSt.frame {own' : Nat → Nat} (h : RunSt w u nb fs k own M P) (F : Frame u u' own own') : (∀ i, i < w.heap.size → own' i = 0) ∧ Below w.heap.size w u' := by
  have hs := h.bel.size
  refine ⟨fun i hi => (F.old i (by omega)).trans (h.zero i hi), h.bel.trans (F.kept.below hs (fun i hi => ?_))⟩
  rcases Nat.lt_or_ge i w.heap.size with h' | h'
  · exact absurd (h.zero i h') hi
  · exact h'
theorem RunSt.start (I : NetAt u own nb 3 M (initPN fs)) (hz : ∀ i, i < w.heap.size → own i = 0) (hb : Below w.heap.size w u) : RunSt w u nb fs 0 own M (initPN fs) := by
  refine ⟨I, Sound.init fs (init_inv fs), fun i hi => (by cases hi), hz, hb, by show (0 : Nat) ≤ _; omega, fun q => ?_⟩
  show (openLg fs q (cntA 4 0 q)).length ≤ _
  rw [openLg_len]
  unfold cntA
  (repeat' split) <;> omega
theorem RunSt.play (h : RunSt w u nb fs k own M P) (hk : k ≤ 1048576) (s : Stp) (hs : s.ok) (la : Option Addr) (lc : Nat) (hL : LegsAt w la s.legs) :
    Calls Try.prog 37 #[.pointer (some ⟨nb, 0, none⟩), .agg #[.int .i64 s.k, .int .i64 s.a, .int .i64 s.b, .slice la s.legs.length lc]] u fun e w' => e = .returned (.bool true) ∧ ∃ own' M' P', RunSt w w' nb fs (k + 1) own' M' P' ∧ Plays P s P' ∧ Frame u w' own own' := by
  have hl : s.legs.length ≤ 1000000000000000 := by have := hs.len; omega
  refine (play_any u own nb M fs P h.net h.sound s hs.k hs.a hs.b hs.legs la lc (fun j hj => ?_) hl (by have := h.wl; omega) (fun q => by have := h.ll q; omega)).mono ?_
  · obtain ⟨a, ea, h1, h2⟩ := hL j hj
    exact ⟨a, ea, Nat.lt_of_lt_of_le h1 h.bel.size, fun i v hi => (World.cell?_of_block (w := w) (by rw [addr_block, addr_block]; exact h.bel.block _ h1)).trans (h2 i v hi)⟩
  · rintro e w' ⟨rfl, own', M', P', hp, I', F', hS', hw, hlg⟩
    obtain ⟨z, b⟩ := h.frame F'
    exact ⟨rfl, own', M', P', ⟨I', hS', h.ful.plays h.sound (h.net.good h.sound.inv) hs.legs hp, z, b, by have := h.wl; omega, fun q => by have := h.ll q; have := hlg q; omega⟩, hp, F'⟩
end
end Go.Proofs.Ytjkhbjgfoopomaa
/-
  Networks: balances together are what was opened; none is held that is not there.
-/
namespace Go.Proofs.Ytjkhbjgfoopomaa
open Go.RowKit
set_option linter.unusedVariables false
set_option linter.unusedSimpArgs false
theorem opened_init (fs : List Int) (b a : Nat) (h1 : 1 ≤ b) (h3 : b ≤ 3) : (openedOf a ((initPN fs).E b)).2.1 = decide (a < 3) ∧ (openedOf a ((initPN fs).E b)).1 = if a < 3 then fundAt fs ((b - 1) * 3 + a) else 0 := by
  have hc : cntA 4 0 b = 3 := by unfold cntA; rw [if_neg (by omega), if_pos (by omega)]
  have hE : (initPN fs).E b = openE fs b 3 := by show openE fs b (cntA 4 0 b) = _; rw [hc]
  rw [hE, openE_succ, openE_succ, openE_succ, openedOf_snoc, openedOf_snoc, openedOf_snoc]
  have e0 : openE fs b 0 = [] := rfl
  rw [e0]
  have ez : openedOf a [] = (0, false, 0) := rfl
  rw [ez]
  unfold openedStep openEv
  by_cases h : a = 0
  · subst h; simp
  · by_cases h' : a = 1
    · subst h'; simp
    · by_cases h2 : a = 2
      · subst h2; simp
      · have : ¬ a < 3 := by omega
        have g0 : ¬ 0 = a := by omega
        have g1 : ¬ 1 = a := by omega
        have g2 : ¬ 2 = a := by omega
        simp [this, g0, g1, g2]
theorem Sound.open3 {fs : List Int} {P : PN} (h : Sound fs P) {b a : Nat} (h1 : 1 ≤ b) (h3 : b ≤ 3) (ha : a < 3) : (openedOf a (P.E b)).2.1 = true := by
  rw [h.opn b h1 h3, (opened_init fs b a h1 h3).1]
  simpa using ha
end Go.Proofs.Ytjkhbjgfoopomaa
/-
  The document's own case: a payment of two legs that is paid.
-/
namespace Go.Proofs.Ytjkhbjgfoopomaa
open Go.RowKit
set_option linter.unusedVariables false
set_option linter.unusedSimpArgs false
def twoL : List Pl := [⟨1, 0, 1, 30⟩, ⟨2, 2, 0, 7⟩]
theorem two_pay : Payable twoL := ⟨⟨by decide, by decide⟩, fun k x hx => by
  match k, hx with
  | 0, hx => injection hx with hx; subst hx; decide
  | 1, hx => injection hx with hx; subst hx; decide
  | k + 2, hx => simp [twoL] at hx⟩
theorem two_ok : ∀ x, x ∈ twoL → x.ok ∧ 1 ≤ x.a := fun x hx => by
  simp only [twoL, List.mem_cons, List.not_mem_nil, or_false] at hx
  rcases hx with rfl | rfl <;> exact ⟨⟨by decide, by decide, by decide, by decide⟩, by decide⟩
theorem two_250 : ∀ (k : Nat) (x : Pl), twoL[k]? = some x → x.a ≤ 250 := fun k x hx => by
  match k, hx with
  | 0, hx => injection hx with hx; subst hx; decide
  | 1, hx => injection hx with hx; subst hx; decide
  | k + 2, hx => simp [twoL] at hx
def twoP (la : Option Addr) : Pm := ⟨9, 5, [], twoL, la, 2⟩
/-- what holds till it is paid -/
def PaidJ (P : PN) : Prop := PrJ twoL false P ∧ Ful P ∧ Owed P
theorem PaidJ.steady : Steady PaidJ := fun Q m rest G J hw => ⟨PrJ.steady two_pay (fun _ => two_250) (fun h => by cases h) Q m rest G J.1 hw, Ful.steady Q m rest G J.2.1 hw, Owed.steady Q m rest G J.2.2 hw⟩
theorem PaidJ.start (la : Option Addr) : PaidJ (paidPN (twoP la)) := by
  obtain ⟨f1, f2, f3, f4⟩ := paid_find (twoP la) rfl
  refine ⟨paid_ok (twoP la) rfl (by show 1 ≤ twoL.length; decide), fun i hf => ?_, fun i l x hf hx => ?_⟩
  · rw [f3 i hf, f4, f2]
    exact ⟨fun e => by simp at e, fun _ => by show 0 ≠ fullOf twoL.length; decide, by show 0 < 2 ^ twoL.length; decide⟩
  · have e := f3 i hf
    subst e
    rw [f2] at hx
    rw [f4]
    have hp := ask_parts (core (twoP la)) x l 1
    exact ⟨fun _ => .inr ⟨_, paid_wire (twoP la) hx, hp.2.2.2.1, hp.2.2.2.2, .inl hp.1⟩, fun h => absurd rfl h⟩
theorem PaidJ.end_ {P : PN} (J : PaidJ P) (G : Good P) (hw : P.wire = []) : fnd P.A 9 = true ∧ (stA P.A 9).1 = 2 ∧ (stA P.A 9).2.1 = 3 ∧ (stA P.A 9).2.2.1 = 3 ∧ balOf 1 (P.E 1) = 1030 ∧ balOf 2 (P.E 2) = 993 ∧ (openedOf 1 (P.E 1)).2.1 = true ∧ (openedOf 2 (P.E 2)).2.1 = true := by
  obtain ⟨h1, _, _, h4⟩ := J.1.end_ two_pay G hw
  have hc := J.1.c
  have hd := J.2.2.full J.2.1 G hw hc.f9
  have hh := (J.2.1 9 hc.f9).1 h1
  rw [hc.legs] at hd hh
  refine ⟨hc.f9, h1, hh, hd, ?_, ?_, (hc.op 1 (by omega) (by omega) 1 (by omega)).2, (hc.op 2 (by omega) (by omega) 2 (by omega)).2⟩
  · rw [h4 1 1 (by omega) (by omega) (by omega)]; decide
  · rw [h4 2 2 (by omega) (by omega) (by omega)]; decide
theorem two_row (w : World) : RowOf (w.alloc (.cells #[.int .u8 1, .int .u16 0, .int .u16 1, .int .u32 30, .int .u8 2, .int .u16 2, .int .u16 0, .int .u32 7] 57)) 57 4 Pl.cells (.slice (some ⟨w.heap.size, 0, none⟩) 2 2) twoL :=
  ⟨rfl, .inr ⟨w.heap.size, 2, _, rfl, Nat.zero_le _, heap_alloc_self _ _, Nat.le_refl _, by unfold maxLen; omega, rfl, rfl⟩⟩
set_option maxRecDepth 100000 in
set_option maxHeartbeats 1000000 in
theorem paid_any (w : World) :
    Calls Try.prog 36 #[] w fun e w' => e = .returned (.bool true) ∧ Below w.heap.size w w' := by
  have hNe := hide (fun u => network_any u (.slice none 0 0) [] (FundsAt.nil u))
  go_enter Try.func36, Try.ntmps36
  go_wp2_with fail
  refine (hNe.out _).mono ?_
  rintro e w2 ⟨nb, own, M, rfl, hnb, I2, ho2, hb2⟩
  clear hNe
  have hcw : w2.cell? ⟨nb, 4, none⟩ = some (.pointer (some ⟨M.db, 0, none⟩)) := by rw [cell_at I2.blk 4]; rfl
  have hnl2 := I2.lt
  have hbU : Below w2.heap.size w2 (w2.alloc (.cells #[.int .u8 1, .int .u16 0, .int .u16 1, .int .u32 30, .int .u8 2, .int .u16 2, .int .u16 0, .int .u32 7] 57)) := (Below.refl _ _).alloc (Nat.le_refl _) _
  have hrow := two_row w2
  have hck : M.ck = 0 := I2.deed.rel.clk
  have I3 := I2.below0 hbU
  have hlo : ∀ g, (Value.slice (some ⟨w2.heap.size, 0, none⟩) 2 2).ownBlock = some g → (fun i => if i < w2.heap.size then own i else 0) g = 0 := fun g hg => by
    have : w2.heap.size = g := by simpa [Value.ownBlock] using hg
    subst this
    simp
  have hSub := sub_net _ _ nb M (initPN []) I3 (twoP (some ⟨w2.heap.size, 0, none⟩)) ⟨by show (9 : Nat) < 4294967296; omega, by show (5 : Nat) < 18446744073709551616; omega, fun x hx => (two_ok x hx).1⟩ (by show (0 : Nat) ≤ 1000000; omega) (by show twoL.length ≤ 1000000; decide) (by rw [hck]; omega) hrow hlo
  have hfst := sub_first two_pay two_ok 5 (by omega) (some ⟨w2.heap.size, 0, none⟩) 2
  have hA0 : (initPN []).A = [] := rfl
  rw [hA0, show twoP (some ⟨w2.heap.size, 0, none⟩) = ⟨9, 5, [], twoL, some ⟨w2.heap.size, 0, none⟩, 2⟩ from rfl, hfst.1, hfst.2.1, hfst.2.2.1] at hSub
  have hz : ∀ i, i < w.heap.size → (fun i => if i < w2.heap.size then own i else 0) i = 0 := fun i hi => by
    have := hb2.size
    show (if i < w2.heap.size then own i else 0) = 0
    rw [if_pos (by omega)]
    exact ho2 i hi
  have hbw : Below w.heap.size w (w2.alloc (.cells #[.int .u8 1, .int .u16 0, .int .u16 1, .int .u32 30, .int .u8 2, .int .u16 2, .int .u16 0, .int .u32 7] 57)) := hb2.trans (hbU.mono hb2.size)
  simp only [Pm.v, Pm.lv] at hSub
  have hbn : bs [] = ⟨#[]⟩ := rfl
  rw [hbn] at hSub
  have hSu := hide hSub
  have hmsl := hfst.2.2.2.2
  generalize (fun i => if i < w2.heap.size then own i else 0) = own0 at *
  generalize subLog ⟨9, 5, [], twoL, some ⟨w2.heap.size, 0, none⟩, 2⟩ [] = LGX at *
  obtain ⟨ms, hms⟩ : ∃ ms, ms = asksM (core ⟨9, 5, [], twoL, some ⟨w2.heap.size, 0, none⟩, 2⟩) 1 0 := ⟨_, rfl⟩
  rw [← hms] at hSu hmsl
  have hm2 : ms.length = 2 := hmsl
  replace hms := hide hms
  replace hm2 := hide hm2
  have hzH := hide hz
  have hbH := hide hbw
  clear hSub hfst hA0 hrow hck I3 hlo hbn hmsl I2 ho2 hb2 hbU hz hbw hnb
  have hlt2 : twoL.length = 2 := rfl
  rw [hlt2] at hSu
  clear hlt2
  go_wp2_with fail
  refine hSu.out.mono ?_
  rintro e w4 ⟨lv2, own4, M4, rfl, I4, F4, hrow4, hlo4, hck4⟩
  have hrow4' := row_msgs (ms := ms) (fun l => rfl) hrow4
  obtain ⟨oad, ocap, holv⟩ := hrow4'.slice
  rw [hm2.out] at holv
  subst holv
  have hSend := hide (send_any w4 own4 nb M4 _ I4 (.slice oad 2 ocap) ms hrow4' (by show (0 : Nat) + ms.length ≤ _; have := hm2.out; omega))
  replace F4 := hide F4
  clear hSu hrow4 hlo4 I4 hcw hnl2
  generalize World.alloc w2 _ = U at *
  go_wp2_with fail
  refine hSend.out.mono ?_
  rintro e w5 ⟨rfl, own5, M5, I5, F5, _⟩
  have e5 : { initPN [] with A := [⟨-1, core ⟨9, 5, [], twoL, some ⟨w2.heap.size, 0, none⟩, 2⟩, zeroMsg⟩], wire := (initPN []).wire ++ ms } = paidPN (twoP (some ⟨w2.heap.size, 0, none⟩)) := by rw [hms.out]; rfl
  have I5' : NetAt w5 own5 nb 3 M5 (paidPN (twoP (some ⟨w2.heap.size, 0, none⟩))) := by rw [← e5]; exact I5
  have hI5 : NInv (paidPN (twoP (some ⟨w2.heap.size, 0, none⟩))) := NInv.submit (init_inv []) DRel.start (q := core (twoP (some ⟨w2.heap.size, 0, none⟩))) rfl (fun k x hx => ⟨(two_pay.x k x hx).1, (two_pay.x k x hx).2.1⟩) ⟨_, _, I5'.deed.rel⟩ rfl rfl (fun y hy => .inr hy)
  have F5' := F4.out.trans F5
  have hFl := hide (flush_any PaidJ PaidJ.steady w5 own5 nb M5 _ I5' hI5 (PaidJ.start _) (by show (asksM (core (twoP (some ⟨w2.heap.size, 0, none⟩))) 1 0).length ≤ _; have h2 := hm2.out; rw [hms.out] at h2; have h3 : (asksM (core (twoP (some ⟨w2.heap.size, 0, none⟩))) 1 0).length = 2 := h2; omega) (fun q => by
    show (openLg [] q (cntA 4 0 q)).length ≤ _
    rw [openLg_len]
    unfold cntA
    (repeat' split) <;> omega))
  replace F5' := hide F5'
  clear hSend F4 F5 I5 I5' hI5 e5 hms hm2
  go_wp2_with fail
  refine hFl.out.mono ?_
  rintro e w7 ⟨rfl, own7, M7, P7, I7, F7, hI7, hJ7, hw7, _⟩
  obtain ⟨hf9, h1, h2, h3, h4, h5, h6, h7⟩ := hJ7.end_ (I7.good hI7) hw7
  have hSt := eStatusR_any 9 (by omega) w7 M7.db M7.ck M7.ps M7.xv P7.A I7.deed.x I7.deed.rel
  have hstr : stR P7.A 9 = (2, 3, 3, 0) := by unfold stR; rw [if_pos hf9, h1, h2, h3]
  rw [hstr] at hSt
  have hc4 : w7.cell? ⟨nb, 4, none⟩ = some (.pointer (some ⟨M7.db, 0, none⟩)) := by rw [cell_at I7.blk 4]; rfl
  have hbel : Below w.heap.size w w7 := hbH.out.trans ((F5'.out.trans F7).kept.below hbH.out.size (fun i hi => by
    rcases Nat.lt_or_ge i w.heap.size with h | h
    · exact absurd (hzH.out i h) hi
    · exact h))
  have hFu1 := hide (fun u (hu : Below w7.heap.size w7 u) => eFundsR_any 1 (by omega) u (M7.bk 1).b 1 _ _ _ _ (P7.E 1) ((I7.bank 1 (by omega) (by omega)).x.below hu) (I7.bank 1 (by omega) (by omega)).rel h6)
  have hFu2 := hide (fun u (hu : Below w7.heap.size w7 u) => eFundsR_any 2 (by omega) u (M7.bk 2).b 2 _ _ _ _ (P7.E 2) ((I7.bank 2 (by omega) (by omega)).x.below hu) (I7.bank 2 (by omega) (by omega)).rel h7)
  rw [h4] at hFu1
  rw [h5] at hFu2
  have hcb1 : w7.cell? ⟨nb, 1, none⟩ = some (.pointer (some ⟨(M7.bk 1).b, 0, none⟩)) := by rw [cell_at I7.blk 1]; rfl
  have hcb2 : w7.cell? ⟨nb, 2, none⟩ = some (.pointer (some ⟨(M7.bk 2).b, 0, none⟩)) := by rw [cell_at I7.blk 2]; rfl
  have hnl7 := I7.lt
  generalize heldOf 1 (P7.E 1) = x1 at *
  generalize dueOf 1 (P7.E 1) = x2 at *
  generalize heldOf 2 (P7.E 2) = x3 at *
  generalize dueOf 2 (P7.E 2) = x4 at *
  replace hSt := hide hSt
  clear hFl F5' F7 I7 hI7 hJ7 hw7 hf9 h1 h2 h3 h4 h5 h6 h7 hstr hzH hbH
  go_wp2_with fail
  refine hSt.out.mono ?_
  rintro e w8 ⟨rfl, hb8⟩
  clear hSt
  have hG1 : Hid (∀ u, Below w7.heap.size w7 u → Calls Try.prog 31 #[.pointer (some ⟨(M7.bk 1).b, 0, none⟩), .int .u16 1] u fun e w' => e = .returned (.tuple #[.agg #[.int .u32 1030, .int .u32 (x1 : Int), .int .u32 (x2 : Int)], .int .i64 0]) ∧ Below u.heap.size u w') := hide (fun u hu => hFu1.out u hu)
  have hG2 : Hid (∀ u, Below w7.heap.size w7 u → Calls Try.prog 31 #[.pointer (some ⟨(M7.bk 2).b, 0, none⟩), .int .u16 2] u fun e w' => e = .returned (.tuple #[.agg #[.int .u32 993, .int .u32 (x3 : Int), .int .u32 (x4 : Int)], .int .i64 0]) ∧ Below u.heap.size u w') := hide (fun u hu => hFu2.out u hu)
  clear hFu1 hFu2 hc4
  have hb9 : Below w7.heap.size w7 (w8.alloc (.cells #[.int .u8 2, .int .u8 3, .int .u8 3] 76)) := hb8.alloc hb8.size _
  have B9 := Box.mk0 w8 #[.int .u8 2, .int .u8 3, .int .u8 3] 76
  have hq1 : (w8.alloc (.cells #[.int .u8 2, .int .u8 3, .int .u8 3] 76)).cell? ⟨nb, 1, none⟩ = some (.pointer (some ⟨(M7.bk 1).b, 0, none⟩)) := by rw [hb9.cell (p := ⟨nb, 1, none⟩) hnl7]; exact hcb1
  have hn9 := Nat.lt_of_lt_of_le hnl7 hb9.size
  go_wp2_with fail
  refine (hG1.out _ hb9).mono ?_
  rintro e w10 ⟨rfl, hb10⟩
  have B10 := B9.below hb10
  have hb11 : Below w7.heap.size w7 (w10.alloc (.cells #[.int .u32 1030, .int .u32 (x1 : Int), .int .u32 (x2 : Int)] 82)) := (hb9.trans (hb10.mono hb9.size)).alloc (by have := hb9.size; have := hb10.size; omega) _
  have B11 := B10.alloc (.cells #[.int .u32 1030, .int .u32 (x1 : Int), .int .u32 (x2 : Int)] 82)
  have C11 := Box.mk0 w10 #[.int .u32 1030, .int .u32 (x1 : Int), .int .u32 (x2 : Int)] 82
  have hq2 : (w10.alloc (.cells #[.int .u32 1030, .int .u32 (x1 : Int), .int .u32 (x2 : Int)] 82)).cell? ⟨nb, 2, none⟩ = some (.pointer (some ⟨(M7.bk 2).b, 0, none⟩)) := by rw [hb11.cell (p := ⟨nb, 2, none⟩) hnl7]; exact hcb2
  have hn11 := Nat.lt_of_lt_of_le hnl7 hb11.size
  clear hG1 hq1 hb9 hn9
  go_wp2_with fail
  refine (hG2.out _ hb11).mono ?_
  rintro e w12 ⟨rfl, hb12⟩
  have B12 := B11.below hb12
  have C12 := C11.below hb12
  have hc1 := B12.cell
  have hl1 := B12.lt
  have hc2 := C12.cell
  have hl2 := C12.lt
  have hend := hide (hbel.trans ((hb11.trans (hb12.mono hb11.size)).mono hbel.size))
  clear hG2 hq2 hb11 hn11 hcb1 hcb2
  go_wp2
  go_ret
  exact ⟨rfl, hend.out.alloc hend.out.size _⟩
end Go.Proofs.Ytjkhbjgfoopomaa
/-
  A script that came in, wherever the world has gone.
-/
namespace Go.Proofs.Ytjkhbjgfoopomaa
open Go.RowKit
set_option linter.unusedVariables false
set_option linter.unusedSimpArgs false
/-- the steps, wherever the world has gone -/
theorem Steps.at {w : World} {sv : Value} {ss : List Stp} (h : Steps w sv ss) : ∃ ad cap, sv = .slice ad ss.length cap ∧ ∀ k (hk : k < ss.length), ∃ (a : Addr) (la : Option Addr) (lc : Nat), ad = some a ∧ LegsAt w la ss[k].legs ∧ ∀ u, Below w.heap.size w u → u.cell? (a.add (k * 4)) = some (.int .i64 ss[k].k) ∧ u.cell? ⟨(a.add (k * 4)).block, (a.add (k * 4)).off + 1, none⟩ = some (.int .i64 ss[k].a) ∧ u.cell? ⟨(a.add (k * 4)).block, (a.add (k * 4)).off + 2, none⟩ = some (.int .i64 ss[k].b) ∧ u.cell? ⟨(a.add (k * 4)).block, (a.add (k * 4)).off + 3, none⟩ = some (.slice la ss[k].legs.length lc) := by
  obtain ⟨ad, cap, hv, hf⟩ := h.form
  refine ⟨ad, cap, hv, fun k hk => ?_⟩
  obtain ⟨a, la, lc, e, hl, hc, hL⟩ := hf k hk
  refine ⟨a, la, lc, e, hL, fun u hu => ?_⟩
  have key : ∀ j v, (ss[k].cells la lc)[j]? = some v → u.cell? ((a.add (k * 4)).add j) = some v := fun j v hj => (World.cell?_of_block (w := w) (by rw [addr_block, addr_block]; exact hu.block _ hl)).trans (hc j v hj)
  refine ⟨?_, key 1 _ rfl, key 2 _ rfl, key 3 _ rfl⟩
  have h0 := key 0 _ rfl
  rwa [addr_add, Nat.add_zero] at h0
end Go.Proofs.Ytjkhbjgfoopomaa
/-
  The statement Ahead: what restoring answers.
-/
namespace Go.Proofs.Ytjkhbjgfoopomaa
open Go.RowKit
set_option linter.unusedVariables false
set_option linter.unusedSimpArgs false
/-- what RestoreDeed answers, as values; the notary lies there in blocks of its own -/
def DBack (w : World) (R : Option (List Dt)) (v : Value) (er : Nat) (u : World) : Prop :=
  (R = none ∧ v = .pointer none ∧ er = 16) ∨ ∃ A B ck ps vp, R = some A ∧ v = .pointer (some ⟨B, 0, none⟩) ∧ er = 0 ∧ XD u B ck ps vp ∧ DRel A ck ps
def BBack (w : World) (k : Nat) (R : Option (List Ev)) (v : Value) (er : Nat) (u : World) : Prop :=
  (R = none ∧ v = .pointer none ∧ er = 16) ∨ ∃ E B ac ls va vl, R = some E ∧ v = .pointer (some ⟨B, 0, none⟩) ∧ er = 0 ∧ XB u B k ac ls va vl ∧ Rel E ac ls
theorem DBack.below {w u u' : World} {R : Option (List Dt)} {v : Value} {er : Nat} (h : DBack w R v er u) (hb : Below u.heap.size u u') : DBack w R v er u' := by
  rcases h with h | ⟨A, B, ck, ps, vp, h1, h2, h3, h4, h5⟩
  · exact .inl h
  · exact .inr ⟨A, B, ck, ps, vp, h1, h2, h3, h4.below hb, h5⟩
theorem BBack.below {w u u' : World} {k : Nat} {R : Option (List Ev)} {v : Value} {er : Nat} (h : BBack w k R v er u) (hb : Below u.heap.size u u') : BBack w k R v er u' := by
  rcases h with h | ⟨E, B, ac, ls, va, vl, h1, h2, h3, h4, h5⟩
  · exact .inl h
  · exact .inr ⟨E, B, ac, ls, va, vl, h1, h2, h3, h4.below hb, h5⟩
theorem deed_ahead (s : ByteArray) (hs : s.size ≤ 140737488351232) (w : World) :
    Calls Try.prog 39 #[.string s] w fun e w' => ∃ (v : Value) (er : Nat), e = .returned (.tuple #[v, .int .i64 (er : Int)]) ∧ (∃ p, v = .pointer p) ∧ er ≤ 16 ∧ DBack w (restD s.data.toList) v er w' ∧ Below w.heap.size w w' := by
  refine (eRestD_any s hs w).mono ?_
  rintro e w' ⟨h, hb⟩
  generalize restD s.data.toList = R at *
  cases R with
  | none => exact ⟨.pointer none, 16, h, ⟨_, rfl⟩, by omega, .inl ⟨rfl, rfl, rfl⟩, hb⟩
  | some A =>
    obtain ⟨B, ck, ps, vp, he, hX, _, hr, _⟩ := h
    exact ⟨.pointer (some ⟨B, 0, none⟩), 0, he, ⟨_, rfl⟩, by omega, .inr ⟨A, B, ck, ps, vp, rfl, rfl, rfl, hX, hr⟩, hb⟩
theorem bank_ahead (k : Nat) (hk : 1 ≤ k ∧ k ≤ 7) (s : ByteArray) (hs : s.size ≤ 140737488351232) (w : World) :
    Calls Try.prog 40 #[.int .u8 (k : Int), .string s] w fun e w' => ∃ (v : Value) (er : Nat), e = .returned (.tuple #[v, .int .i64 (er : Int)]) ∧ (∃ p, v = .pointer p) ∧ er ≤ 16 ∧ BBack w k (restB k s.data.toList) v er w' ∧ Below w.heap.size w w' := by
  refine (eRestB_any k hk s hs w).mono ?_
  rintro e w' ⟨h, hb⟩
  generalize restB k s.data.toList = R at *
  cases R with
  | none => exact ⟨.pointer none, 16, h, ⟨_, rfl⟩, by omega, .inl ⟨rfl, rfl, rfl⟩, hb⟩
  | some E =>
    obtain ⟨B, ac, ls, va, vl, he, hX, _, hr, _⟩ := h
    exact ⟨.pointer (some ⟨B, 0, none⟩), 0, he, ⟨_, rfl⟩, by omega, .inr ⟨E, B, ac, ls, va, vl, rfl, rfl, rfl, hX, hr⟩, hb⟩
/-- a notary that was restored from the log that a network's has come to -/
theorem DBack.log {w u : World} {P : PN} {v : Value} {er : Nat} (h : DBack w (restD (P.lg 0)) v er u) (hL : LogInv P) : ∃ B ck ps vp, v = .pointer (some ⟨B, 0, none⟩) ∧ er = 0 ∧ XD u B ck ps vp ∧ DRel P.A ck ps := by
  obtain ⟨B', r1, r2⟩ := rest_acts hL.note (c := []) (.inl rfl)
  rw [List.append_nil, ← hL.nlog] at r1
  rcases h with ⟨h, _⟩ | ⟨A, B, ck, ps, vp, h1, h2, h3, h4, h5⟩
  · rw [r1] at h; cases h
  · rw [r1] at h1
    injection h1 with h1
    subst h1
    exact ⟨B, ck, ps, vp, h2, h3, h4, r2.to h5⟩
theorem BBack.log {w u : World} {P : PN} {k : Nat} {v : Value} {er : Nat} (h : BBack w k (restB k (P.lg k)) v er u) (hL : LogInv P) (h1 : 1 ≤ k) (h3 : k ≤ 3) : ∃ B ac ls va vl, v = .pointer (some ⟨B, 0, none⟩) ∧ er = 0 ∧ XB u B k ac ls va vl ∧ Rel (P.E k) ac ls := by
  obtain ⟨b1, b2⟩ := hL.bank k h1 h3
  have r1 := rest_texts b1 (c := []) (.inl rfl)
  rw [List.append_nil, ← b2] at r1
  rcases h with ⟨h, _⟩ | ⟨E, B, ac, ls, va, vl, h1, h2, h3, h4, h5⟩
  · rw [r1] at h; cases h
  · rw [r1] at h1
    injection h1 with h1
    subst h1
    exact ⟨B, ac, ls, va, vl, h2, h3, h4, h5⟩
end Go.Proofs.Ytjkhbjgfoopomaa
