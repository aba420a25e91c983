import Derived.Test.YtjkhbjgfoopomabC48
import Derived.Test.YtjkhbjgfoopomabC40
import Derived.Test.YtjkhbjgfoopomabC47
import Derived.Test.YtjkhbjgfoopomabC41
import Derived.Test.YtjkhbjgfoopomabC46
import Derived.Test.YtjkhbjgfoopomabC38
import Derived.Test.YtjkhbjgfoopomabC36
/-
  Arguments that came in, opened: the steps of a script.
-/
namespace Go.Proofs.Ytjkhbjgfoopomab
open Go.ChangeShapes Go.WideShapes Go.ChangeAt Go.RowKit
set_option linter.unusedVariables false
set_option linter.unusedSimpArgs false
def Stp.cells (s : Stp) (la : Option Addr) (lc : Nat) : List Value := [.int .i64 s.k, .int .i64 s.a, .int .i64 s.b, .slice la s.legs.length lc]
structure Stp.ok (s : Stp) : Prop where
  k : i64ok s.k
  a : i64ok s.a
  b : i64ok s.b
  legs : ∀ x, x ∈ s.legs → x.ok
  len : s.legs.length ≤ 1048576
/-- a script that came in -/
structure Steps (w : World) (sv : Value) (ss : List Stp) : Prop where
  form : ∃ ad cap, sv = .slice ad ss.length cap ∧ ∀ k (hk : k < ss.length), ∃ (a : Addr) (la : Option Addr) (lc : Nat), ad = some a ∧ a.block < w.heap.size ∧ (∀ j v, (ss[k].cells la lc)[j]? = some v → w.cell? ((a.add (k * 4)).add j) = some v) ∧ LegsAt w la ss[k].legs
  ok : ∀ s, s ∈ ss → s.ok
  len : ss.length ≤ 1048576
theorem kcellsStep : Try.prog.cellsOf 31 = 4 := by kernel_rfl
theorem kcellsLegs : Try.prog.cellsOf 29 = 1 := by kernel_rfl
theorem bulk_mem {H : Type} {d : DataW H} : ∀ {l : List (DataW H)}, d ∈ l → Rows.uptoBulk d ≤ Rows.uptoBulkAll l
  | [], h => by simp at h
  | x :: r, h => by
    simp only [Rows.uptoBulkAll]
    rcases List.mem_cons.1 h with h | h
    · subst h; omega
    · have := bulk_mem h; omega
section
variable {H : Type} {enc : TypeId × Value → H} {w : World} {held : Bool}
set_option maxRecDepth 100000 in
theorem kopen_step {n : Nat} {cs : List Value} {x : DataW H × List MemPlace} (h : DataW.trod enc Try.prog w 0 (fun _ => true) held n 31 cs = some x) (hb : Rows.uptoBulk x.1 ≤ 1048576) : ∃ (s : Stp) (la : Option Addr) (lc : Nat), cs = s.cells la lc ∧ s.ok ∧ LegsAt w la s.legs := by
  obtain ⟨xs, n', _, hx, hcl, hlen, hg⟩ := DataW.trod_struct Try.underlying31 h
  rw [kcellsStep] at hcl
  match cs, hcl with
  | [c0, c1, c2, c3], _ =>
  have g0 := hg 0 _ rfl
  have g1 := hg 1 _ rfl
  have g2 := hg 2 _ rfl
  have g3 := hg 3 _ rfl
  clear hg
  have hlen' : xs.length = 4 := hlen
  match xs, hlen' with
  | [y0, y1, y2, y3], _ =>
    simp [kcellsInt, kcellsLegs] at g0 g1 g2 g3
    obtain ⟨n0, e0, rfl, w0⟩ := DataW.trod_int Try.underlying3 g0
    obtain ⟨n1, e1, rfl, w1⟩ := DataW.trod_int Try.underlying3 g1
    obtain ⟨n2, e2, rfl, w2⟩ := DataW.trod_int Try.underlying3 g2
    obtain ⟨la, lc, legs, e3, hlok, hLA, hll⟩ := kopen_legs (c := c3) g3
    simp only [List.cons.injEq, and_true] at e0 e1 e2
    subst e0 e1 e2 e3
    refine ⟨⟨n0, n1, n2, legs⟩, la, lc, rfl, ⟨ki64_of w0, ki64_of w1, ki64_of w2, hlok, ?_⟩, hLA⟩
    rw [hx] at hb
    simp only [List.map_cons, List.map_nil, Rows.uptoBulk, Rows.uptoBulkAll] at hb
    show legs.length ≤ 1048576
    omega
set_option maxRecDepth 100000 in
/-- steps that came in -/
theorem kopen_steps {n : Nat} {c : Value} {x : DataW H × List MemPlace} (h : DataW.trod enc Try.prog w 0 (fun _ => true) held n 23 [c] = some x) (hb : Rows.uptoBulk x.1 ≤ 1048576) : ∃ ss, Steps w c ss := by
  have hlt : ∀ y ∈ x.2, y.block < w.heap.size := DataW.trod_lt n _ _ _ h
  rcases Go.Deep.open_slice Try.underlying23 h with ⟨e1, _⟩ | ⟨a, len, cap, m, n', D, Q, e1, _, hl, hm, hmm, hx, hel⟩
  · simp only [List.cons.injEq, and_true] at e1
    exact ⟨[], ⟨⟨none, 0, e1, fun k hk => by simp at hk⟩, by simp, by simp⟩⟩
  · simp only [List.cons.injEq, and_true] at e1
    simp only [if_true] at hmm
    subst hmm
    rw [hx] at hlt hb
    rw [kcellsStep] at hel hlt
    simp only [Rows.uptoBulk] at hb
    have hall : ∀ i, i < len → ∃ s : Stp × Option Addr × Nat, s.1.ok ∧ (∀ j v, (s.1.cells s.2.1 s.2.2)[j]? = some v → w.cell? ((a.add (i * 4)).add j) = some v) ∧ LegsAt w s.2.1 s.1.legs := by
      intro i hi
      obtain ⟨cs', h1, h2⟩ := hel i (by omega)
      have hbi : Rows.uptoBulk (D i) ≤ 1048576 := by
        have := bulk_mem (l := (List.range len).map D) (List.mem_map.2 ⟨i, List.mem_range.2 hi, rfl⟩)
        omega
      obtain ⟨s, la, lc, hs, hok, hLA⟩ := kopen_step h2 hbi
      obtain ⟨_, hln, hc⟩ := World.cells?_some h1
      refine ⟨(s, la, lc), hok, fun j v hj => ?_, hLA⟩
      have hj4 : j < 4 := (List.getElem?_eq_some_iff.1 hj).1
      rw [hc j hj4, hs]
      exact hj
    have hab : 0 < len → a.block < w.heap.size := fun h0 => hlt (.cell a.block a.off) (List.mem_append_left _ (krow_first a (m * 4) (by omega)))
    obtain ⟨f, hf⟩ := Classical.axiomOfChoice (fun i : Fin len => hall i.1 i.2)
    have hbl : len ≤ 1048576 := by
      have := bulk_len ((List.range len).map D)
      simp only [List.length_map, List.length_range] at this
      omega
    refine ⟨List.ofFn (fun i => (f i).1), ⟨⟨some a, m, by rw [List.length_ofFn]; exact e1, fun k hk => ?_⟩, fun s hs => ?_, by rw [List.length_ofFn]; exact hbl⟩⟩
    · rw [List.length_ofFn] at hk
      refine ⟨a, (f ⟨k, hk⟩).2.1, (f ⟨k, hk⟩).2.2, rfl, hab (by omega), fun j v hj => ?_, ?_⟩
      · rw [List.getElem_ofFn] at hj
        exact (hf ⟨k, hk⟩).2.1 j v hj
      · rw [List.getElem_ofFn]
        exact (hf ⟨k, hk⟩).2.2
    · obtain ⟨i, rfl⟩ := List.mem_ofFn.1 hs
      exact (hf i).1
end
end Go.Proofs.Ytjkhbjgfoopomab
/-
  Networks: a script is played, step by step.
-/
namespace Go.Proofs.Ytjkhbjgfoopomab
open Go.RowKit
set_option linter.unusedVariables false
set_option linter.unusedSimpArgs false
theorem Ful.plays {fs : List Int} {P P' : PN} {s : Stp} (F : Ful P) (hS : Sound fs P) (G : Good P) (hs : ∀ x, x ∈ s.legs → x.ok) (h : Plays P s P') : Ful P' := by
  obtain ⟨ck, ps, hd⟩ := G.dr
  unfold Plays at h
  split at h
  · rw [h]; exact F.sub hS hd s hs
  · split at h
    · rcases h with ⟨_, ms, hT, rfl⟩ | ⟨_, ac, ls, hr, rfl⟩
      · exact F.tick ms
      · exact F.same rfl
    · split at h
      · rw [h]; exact F
      · split at h
        · rw [h]; exact F
        · obtain ⟨m, hm, h⟩ := h
          have hmw : m ∈ P.wire := List.mem_of_getElem? hm
          have hO := G.inv.wire m hmw
          have G2 : Good (loseTo P (pickN s.a P.wire.length)) := G.less rfl rfl erase_mem
          have hO2 : OnW (loseTo P (pickN s.a P.wire.length)) m := hO.of_wire rfl rfl
          have F2 : Ful (loseTo P (pickN s.a P.wire.length)) := F.same rfl
          split at h
          · rw [h]; exact F2
          · split at h
            · rw [h]; exact F.step G hO arrive_after_stay
            · split at h
              · rw [h]
                unfold brokenTo
                split
                · exact F2
                · exact F2.take G2 hO2
              · rw [h]; exact F2.step G2 hO2 arrive_after_stay
/-- a network to which k steps came to pass -/
structure RunSt (w u : World) (nb : Nat) (fs : List Int) (k : Nat) (own : Nat → Nat) (M : NM) (P : PN) : Prop where
  net : NetAt u own nb 3 M P
  sound : Sound fs P
  ful : Ful P
  zero : ∀ i, i < w.heap.size → own i = 0
  bel : Below w.heap.size w u
  wl : P.wire.length ≤ 128 * k
  ll : ∀ q, (P.lg q).length ≤ 1000 + 200 * k
section
variable {w u u' : World} {nb k : Nat} {fs : List Int} {own : Nat → Nat} {M : NM} {P : PN}
theorem RunSt.below (h : RunSt w u nb fs k own M P) (hb : Below u.heap.size u u') : RunSt w u' nb fs k own M P :=
  ⟨h.net.below hb, h.sound, h.ful, h.zero, h.bel.trans (hb.mono h.bel.size), h.wl, h.ll⟩
theorem RunSt.frame {own' : Nat → Nat} (h : RunSt w u nb fs k own M P) (F : Frame u u' own own') : (∀ i, i < w.heap.size → own' i = 0) ∧ Below w.heap.size w u' := by
  have hs := h.bel.size
  refine ⟨fun i hi => (F.old i (by omega)).trans (h.zero i hi), h.bel.trans (F.kept.below hs (fun i hi => ?_))⟩
  rcases Nat.lt_or_ge i w.heap.size with h' | h'
  · exact absurd (h.zero i h') hi
  · exact h'
theorem RunSt.start (I : NetAt u own nb 3 M (initPN fs)) (hz : ∀ i, i < w.heap.size → own i = 0) (hb : Below w.heap.size w u) : RunSt w u nb fs 0 own M (initPN fs) := by
  refine ⟨I, Sound.init fs (init_inv fs), fun i hi => (by cases hi), hz, hb, by show (0 : Nat) ≤ _; omega, fun q => ?_⟩
  show (openLg fs q (cntA 4 0 q)).length ≤ _
  rw [openLg_len]
  unfold cntA
  (repeat' split) <;> omega
theorem RunSt.play (h : RunSt w u nb fs k own M P) (hk : k ≤ 1048576) (s : Stp) (hs : s.ok) (la : Option Addr) (lc : Nat) (hL : LegsAt w la s.legs) :
    Calls Try.prog 6 #[.pointer (some ⟨nb, 0, none⟩), .agg #[.int .i64 s.k, .int .i64 s.a, .int .i64 s.b, .slice la s.legs.length lc]] u fun e w' => e = .returned (.bool true) ∧ ∃ own' M' P', RunSt w w' nb fs (k + 1) own' M' P' ∧ Plays P s P' ∧ Frame u w' own own' := by
  have hl : s.legs.length ≤ 1000000000000000 := by have := hs.len; omega
  refine (play_any u own nb M fs P h.net h.sound s hs.k hs.a hs.b hs.legs la lc (fun j hj => ?_) hl (by have := h.wl; omega) (fun q => by have := h.ll q; omega)).mono ?_
  · obtain ⟨a, ea, h1, h2⟩ := hL j hj
    exact ⟨a, ea, Nat.lt_of_lt_of_le h1 h.bel.size, fun i v hi => (World.cell?_of_block (w := w) (by rw [addr_block, addr_block]; exact h.bel.block _ h1)).trans (h2 i v hi)⟩
  · rintro e w' ⟨rfl, own', M', P', hp, I', F', hS', hw, hlg⟩
    obtain ⟨z, b⟩ := h.frame F'
    exact ⟨rfl, own', M', P', ⟨I', hS', h.ful.plays h.sound (h.net.good h.sound.inv) hs.legs hp, z, b, by have := h.wl; omega, fun q => by have := h.ll q; have := hlg q; omega⟩, hp, F'⟩
end
end Go.Proofs.Ytjkhbjgfoopomab
/-
  Networks: balances together are what was opened; none is held that is not there.
-/
namespace Go.Proofs.Ytjkhbjgfoopomab
open Go.RowKit
set_option linter.unusedVariables false
set_option linter.unusedSimpArgs false
theorem opened_init (fs : List Int) (b a : Nat) (h1 : 1 ≤ b) (h3 : b ≤ 3) : (openedOf a ((initPN fs).E b)).2.1 = decide (a < 3) ∧ (openedOf a ((initPN fs).E b)).1 = if a < 3 then fundAt fs ((b - 1) * 3 + a) else 0 := by
  have hc : cntA 4 0 b = 3 := by unfold cntA; rw [if_neg (by omega), if_pos (by omega)]
  have hE : (initPN fs).E b = openE fs b 3 := by show openE fs b (cntA 4 0 b) = _; rw [hc]
  rw [hE, openE_succ, openE_succ, openE_succ, openedOf_snoc, openedOf_snoc, openedOf_snoc]
  have e0 : openE fs b 0 = [] := rfl
  rw [e0]
  have ez : openedOf a [] = (0, false, 0) := rfl
  rw [ez]
  unfold openedStep openEv
  by_cases h : a = 0
  · subst h; simp
  · by_cases h' : a = 1
    · subst h'; simp
    · by_cases h2 : a = 2
      · subst h2; simp
      · have : ¬ a < 3 := by omega
        have g0 : ¬ 0 = a := by omega
        have g1 : ¬ 1 = a := by omega
        have g2 : ¬ 2 = a := by omega
        simp [this, g0, g1, g2]
theorem sum_init (fs : List Int) (b : Nat) (h1 : 1 ≤ b) (h3 : b ≤ 3) : (initPN fs).sm b = fundAt fs ((b - 1) * 3 + 0) + fundAt fs ((b - 1) * 3 + 1) + fundAt fs ((b - 1) * 3 + 2) := by
  have hc : cntA 4 0 b = 3 := by unfold cntA; rw [if_neg (by omega), if_pos (by omega)]
  show openSm fs b (cntA 4 0 b) = _
  rw [hc]
  simp only [openSm]
  omega
theorem sumL_three (f0 f1 f2 g0 g1 g2 : Lg → Nat) : ∀ ls : List Lg, (∀ x, x ∈ ls → f0 x + f1 x + f2 x = g0 x + g1 x + g2 x) → sumL f0 ls + sumL f1 ls + sumL f2 ls = sumL g0 ls + sumL g1 ls + sumL g2 ls
  | [], _ => rfl
  | x :: r, h => by
    have h1 := h x (by simp)
    have h2 := sumL_three f0 f1 f2 g0 g1 g2 r (fun y hy => h y (by simp [hy]))
    simp only [sumL, List.map_cons, List.sum_cons] at h2 ⊢
    omega
theorem cover_sum {fs : List Int} {P : PN} (h : Sound fs P) {b : Nat} (h1 : 1 ≤ b) (h3 : b ≤ 3) {ac : List Ac} {ls : List Lg} (hr : Rel (P.E b) ac ls) : balOf 0 (P.E b) + balOf 1 (P.E b) + balOf 2 (P.E b) = P.sm b := by
  have hlt : ∀ a, hasB a ac = true → a < 3 := fun a ha => by
    have := hr.has a
    rw [h.opn b h1 h3, (opened_init fs b a h1 h3).1, ha] at this
    simpa using this
  have hs := sumL_three (paidL 0) (paidL 1) (paidL 2) (gotL 0) (gotL 1) (gotL 2) ls (fun x hx => by
    unfold paidL gotL
    by_cases hst : x.st = 3
    · obtain ⟨q1, q2⟩ := hr.opn x hx (.inr hst)
      have hp := hlt _ q1
      have hg := hlt _ q2
      have hp3 : x.p = 0 ∨ x.p = 1 ∨ x.p = 2 := by omega
      have hg3 : x.g = 0 ∨ x.g = 1 ∨ x.g = 2 := by omega
      rcases hp3 with e | e | e <;> rcases hg3 with e' | e' | e' <;> simp [hst, e, e']
    · simp [hst])
  have op := fun a => (opened_init fs b a h1 h3).2
  have b0 := hr.bal 0
  have b1 := hr.bal 1
  have b2 := hr.bal 2
  rw [h.opn b h1 h3, op] at b0 b1 b2
  simp only [Nat.reduceLT, if_true] at b0 b1 b2
  rw [(hr.money 0).1, (hr.money 1).1, (hr.money 2).1, h.sums, sum_init fs b h1 h3]
  omega
theorem cover_each {E : List Ev} {ac : List Ac} {ls : List Lg} (hr : Rel E ac ls) (a : Nat) : heldOf a E ≤ balOf a E ∧ balOf a E + dueOf a E ≤ 4294967295 := by
  obtain ⟨m1, m2, m3⟩ := hr.money a
  rw [m1, m2, m3]
  exact ⟨hr.hb a, hr.bd a⟩
theorem Sound.open3 {fs : List Int} {P : PN} (h : Sound fs P) {b a : Nat} (h1 : 1 ≤ b) (h3 : b ≤ 3) (ha : a < 3) : (openedOf a (P.E b)).2.1 = true := by
  rw [h.opn b h1 h3, (opened_init fs b a h1 h3).1]
  simpa using ha
/-- the balances of the first accounts -/
def balSum (E : List Ev) : Nat → Nat
  | 0 => 0
  | n + 1 => balSum E n + balOf n E
set_option maxRecDepth 100000 in
set_option maxHeartbeats 2000000 in
theorem covered_any (w : World) (own : Nat → Nat) (nb : Nat) (M : NM) (fs : List Int) (P : PN) (I : NetAt w own nb 3 M P) (hS : Sound fs P) :
    Calls Try.prog 7 #[.pointer (some ⟨nb, 0, none⟩)] w fun e w' => e = .returned (.bool true) ∧ Below w.heap.size w w' := by
  have hE := hide (fun (i a : Nat) (h1 : 1 ≤ i) (h3 : i ≤ 3) (ha : a < 3) u (hu : Below w.heap.size w u) => eFundsR_any a (by omega) u (M.bk i).b i _ _ _ _ (P.E i) ((I.bank i h1 h3).x.below hu) (I.bank i h1 h3).rel (hS.open3 h1 h3 ha))
  have hCo := hide (fun (i a : Nat) (h1 : 1 ≤ i) (h3 : i ≤ 3) => cover_each (I.bank i h1 h3).rel a)
  have hSm := hide (fun (i : Nat) (h1 : 1 ≤ i) (h3 : i ≤ 3) => cover_sum hS h1 h3 (I.bank i h1 h3).rel)
  have hcb := hide (fun (i : Nat) (h1 : 1 ≤ i) (h3 : i ≤ 3) u (hu : Below w.heap.size w u) => show u.cell? ⟨nb, i, none⟩ = some (.pointer (some ⟨(M.bk i).b, 0, none⟩)) from by rw [cell_at (I.below hu).blk i]; exact bank_ptr h1 h3 (Nat.le_refl 3))
  have hcs := hide (fun (i : Nat) (h1 : 1 ≤ i) (h3 : i ≤ 3) u (hu : Below w.heap.size w u) => show u.cell? ⟨nb, 10 + i, none⟩ = some (.int .u64 (P.sm i : Int)) from by rw [cell_at (I.below hu).blk]; exact net_sm_at i h3)
  have hnl := I.lt
  go_enter Try.func7, Try.ntmps7
  go_wp2_with fail
  go_loopw [3] (fun c u => ∃ i : Nat, 1 ≤ i ∧ i ≤ 4 ∧ c = .int .i64 (i : Int) ∧ Below w.heap.size w u) (fun c _ => 5 - (intOf c).toNat)
  case atStart => exact ⟨1, by omega, by omega, rfl, Below.refl _ _⟩
  case round =>
    obtain ⟨i, hi1, hi4, rfl, hb⟩ := hrel
    by_cases hi3 : i ≤ 3
    · have d1 : decide ((i : Int) ≤ 3) = true := by simp; omega
      have hiI : (i : Int) < 4 := by omega
      have hiJ : (i : Int) ≤ 3 := by omega
      replace hb := hide hb
      go_wp2_with fail
      go_loopw [4, 5] (fun sv c u => ∃ a : Nat, a ≤ 3 ∧ c = .int .i64 (a : Int) ∧ sv = .int .u64 (balSum (P.E i) a : Int) ∧ balSum (P.E i) a ≤ a * 4294967295 ∧ Below w.heap.size w u) (fun _ c _ => 4 - (intOf c).toNat)
      case atStart => exact ⟨0, by omega, rfl, rfl, by simp [balSum], hb.out⟩
      case round =>
        clear hb
        obtain ⟨a, ha, rfl, rfl, hbs, hb⟩ := hrel
        by_cases ha3 : a < 3
        · have d2 : decide ((a : Int) < 3) = true := by simp; omega
          have d3 : (a : Int) < 3 := by omega
          have hm : (a : Int) % 65536 = (a : Int) := by omega
          have hC := hide (hE.out i a hi1 hi3 ha3 wr hb)
          have hcw := hcb.out i hi1 hi3 wr hb
          obtain ⟨q1, q2⟩ := hCo.out i a hi1 hi3
          have hnr : nb < wr.heap.size := Nat.lt_of_lt_of_le hnl hb.size
          have hsn : Hid (balSum (P.E i) (a + 1) = balSum (P.E i) a + balOf a (P.E i)) := hide rfl
          generalize balSum (P.E i) a = z at *
          generalize balOf a (P.E i) = x at *
          generalize heldOf a (P.E i) = y at *
          generalize dueOf a (P.E i) = v at *
          clear hE hCo hSm hcb hcs I hS
          go_wp2_with fail
          refine hC.out.mono ?_
          rintro e u1 ⟨rfl, hb1⟩
          have B1 := Box.mk0 u1 #[.int .u32 (x : Int), .int .u32 (y : Int), .int .u32 (v : Int)] 67
          have hc1 := B1.cell
          have hl1 := B1.lt
          have hb2 := hide ((hb.trans (hb1.mono hb.size)).alloc (by have := hb.size; have := hb1.size; omega) (.cells #[.int .u32 (x : Int), .int .u32 (y : Int), .int .u32 (v : Int)] 67))
          have g1 : decide ((y : Int) > (x : Int)) = false := by simp; omega
          have g2 : decide ((x : Int) < (y : Int)) = false := by simp; omega
          have g3 : decide ((x : Int) + (v : Int) > 4294967295) = false := by simp; omega
          have g4 : decide ((4294967295 : Int) < (x : Int) + (v : Int)) = false := by simp; omega
          clear hC hb hb1 hcw
          go_wp2
          exact ⟨⟨a + 1, by omega, by go_num, by rw [hsn.out]; go_num, by rw [hsn.out]; omega, hb2.out⟩, by simp [intOf]; omega⟩
        · obtain rfl : a = 3 := by omega
          have hsm := hSm.out i hi1 hi3
          have hcw := hcs.out i hi1 hi3 wr hb
          have hnr : nb < wr.heap.size := Nat.lt_of_lt_of_le hnl hb.size
          have he : balSum (P.E i) 3 = P.sm i := by rw [← hsm]; simp [balSum]
          rw [he]
          generalize P.sm i = z at *
          replace hb := hide hb
          clear hE hCo hSm hcb hcs I hS hsm he hbs
          go_wp2
          exact ⟨⟨i + 1, by omega, by omega, by go_num, hb.out⟩, by simp [intOf]; omega⟩
    · obtain rfl : i = 4 := by omega
      replace hb := hide hb
      clear hE hCo hSm hcb hcs I hS
      go_wp2
      go_ret
      exact ⟨rfl, hb.out⟩
end Go.Proofs.Ytjkhbjgfoopomab
