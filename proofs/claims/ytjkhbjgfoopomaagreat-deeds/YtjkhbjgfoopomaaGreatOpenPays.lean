import Derived.Test.YtjkhbjgfoopomaaGreatG31
import Derived.Test.YtjkhbjgfoopomaaGreatG29
/-
  A script that came in, opened: the payments of its steps too.
-/
namespace Go.Proofs.YtjkhbjgfoopomaaGreat
open Go.ChangeShapes Go.WideShapes Go.ChangeAt Go.RowKit
set_option linter.unusedVariables false
set_option linter.unusedSimpArgs false
theorem cellsLeg : Tryz.prog.cellsOf 54 = 4 := by kernel_rfl
theorem bytesLeg : Tryz.prog.bytesOf 54 = 12 := by kernel_rfl
theorem u64_of {x : Int} (h : (Lit.int .u64 x).wf = true) : ∃ n : Nat, x = n ∧ n < 18446744073709551616 := by
  simp [Lit.wf, IntKind.min, IntKind.max, IntKind.signed, IntKind.bits] at h
  exact ⟨x.toNat, by omega, by omega⟩
/-- the payment of a step that came in: its legs lie there -/
def Opr.pays (W : World) (o : Opr) : Prop := ∃ (pi pd : Nat) (legs : List Pl), o.pid = (pi : Int) ∧ o.dead = (pd : Int) ∧ o.llen = legs.length ∧ (⟨pi, pd, o.memo, legs, o.legs, o.lcap⟩ : Pm).ok ∧ o.memo.length ≤ 140737488351232 ∧ legs.length ≤ 11728124029269 ∧ LegsAt W o.legs legs
section
variable {H : Type} {enc : TypeId × Value → H} {w : World} {base : Nat} {spare : Nat → Bool} {held : Bool}
set_option maxRecDepth 100000 in
theorem open_legL {n : Nat} {cs : List Value} {x : DataW H × List MemPlace} (h : DataW.trod enc Tryz.prog w base spare held n 54 cs = some x) : ∃ l : Pl, cs = l.cells ∧ l.ok := by
  obtain ⟨xs, n', _, hx, hcl, hlen, hg⟩ := DataW.trod_struct Tryz.underlying54 h
  rw [cellsLeg] at hcl
  match cs, hcl with
  | [c0, c1, c2, c3], _ =>
  have g0 := hg 0 _ rfl
  have g1 := hg 1 _ rfl
  have g2 := hg 2 _ rfl
  have g3 := hg 3 _ rfl
  clear hg
  have hlen' : xs.length = 4 := hlen
  match xs, hlen' with
  | [y0, y1, y2, y3], _ =>
    simp [cellsNode, cellsAccount, cellsAmount] at g0 g1 g2 g3
    obtain ⟨n0, e0, rfl, w0⟩ := DataW.trod_int Tryz.underlying33 g0
    obtain ⟨n1, e1, rfl, w1⟩ := DataW.trod_int Tryz.underlying37 g1
    obtain ⟨n2, e2, rfl, w2⟩ := DataW.trod_int Tryz.underlying37 g2
    obtain ⟨n3, e3, rfl, w3⟩ := DataW.trod_int Tryz.underlying38 g3
    simp only [List.cons.injEq, and_true] at e0 e1 e2 e3
    subst e0 e1 e2 e3
    obtain ⟨b, rfl, hb⟩ := u8_of w0
    obtain ⟨p, rfl, hp⟩ := u16_of w1
    obtain ⟨g, rfl, hg⟩ := u16_of w2
    obtain ⟨a, rfl, ha⟩ := u32_of w3
    exact ⟨⟨b, p, g, a⟩, rfl, hb, hp, hg, ha⟩
set_option maxRecDepth 100000 in
/-- legs that came in -/
theorem open_legsL {n : Nat} {c : Value} {x : DataW H × List MemPlace} (h : DataW.trod enc Tryz.prog w 0 (fun _ => true) held n 42 [c] = some x) (hw : ∀ b ∈ x.1.weights Tryz.prog 42, b ≤ reachBytes) :
    ∃ (la : Option Addr) (lcap : Nat) (legs : List Pl), c = .slice la legs.length lcap ∧ (∀ l, l ∈ legs → l.ok) ∧ legs.length ≤ 11728124029269 ∧ LegsAt w la legs := by
  have hlt : ∀ y ∈ x.2, y.block < w.heap.size := DataW.trod_lt n _ _ _ h
  rcases Go.Deep.open_slice Tryz.underlying42 h with ⟨e1, _⟩ | ⟨a, len, cap, m, n', D, Q, e1, _, hl, hm, hmm, hx, hel⟩
  · simp only [List.cons.injEq, and_true] at e1
    exact ⟨none, 0, [], e1, by simp, by simp, fun k hk => by simp at hk⟩
  · simp only [List.cons.injEq, and_true] at e1
    simp only [if_true] at hmm
    subst hmm
    rw [hx] at hw hlt
    rw [cellsLeg] at hel hlt
    have hun := Tryz.underlying42
    simp only [DataW.weights, hun] at hw
    have hall : ∀ i, i < len → ∃ l : Pl, l.ok ∧ ∀ j v, l.cells[j]? = some v → w.cell? ((a.add (i * 4)).add j) = some v := by
      intro i hi
      obtain ⟨cs', h1, h2⟩ := hel i (by omega)
      obtain ⟨l, hl, hok⟩ := open_legL h2
      obtain ⟨_, hln, hc⟩ := World.cells?_some h1
      refine ⟨l, hok, fun j v hj => ?_⟩
      have hj4 : j < 4 := by
        have := (List.getElem?_eq_some_iff.1 hj).1
        rwa [Pl.cells_length] at this
      rw [hc j hj4, hl]
      exact hj
    have hab : 0 < len → a.block < w.heap.size := fun h0 => by
      refine hlt (.cell a.block a.off) (List.mem_append_left _ (row_first a (m * 4) (by omega)))
    obtain ⟨f, hf⟩ := Classical.axiomOfChoice (fun i : Fin len => hall i.1 i.2)
    have hlen : ((List.range len).map D).length + ((List.range (m - len)).map fun j => D (len + j)).length = m := by simp; omega
    have hby := hw _ (List.mem_cons_self)
    rw [hlen, bytesLeg] at hby
    have hrb : reachBytes = 140737488351232 := rfl
    refine ⟨some a, m, List.ofFn f, by rw [List.length_ofFn]; exact e1, fun l hl' => ?_, by rw [List.length_ofFn]; omega, fun k hk => ?_⟩
    · obtain ⟨i, rfl⟩ := List.mem_ofFn.1 hl'
      exact (hf i).1
    · rw [List.length_ofFn] at hk
      refine ⟨a, rfl, hab (by omega), fun j v hj => ?_⟩
      rw [List.getElem_ofFn] at hj
      exact (hf ⟨k, hk⟩).2 j v hj
set_option maxRecDepth 100000 in
theorem open_pay2 {n : Nat} {c0 c1 c2 c3 : Value} {x : DataW H × List MemPlace} (h : DataW.trod enc Tryz.prog w 0 (fun _ => true) held n 44 [c0, c1, c2, c3] = some x) (hw : ∀ b ∈ x.1.weights Tryz.prog 44, b ≤ reachBytes) :
    ∃ (pi pd : Nat) (memo : List UInt8) (la : Option Addr) (lcap : Nat) (legs : List Pl), c0 = .int .u32 (pi : Int) ∧ c1 = .int .u64 (pd : Int) ∧ c2 = .string (bs memo) ∧ c3 = .slice la legs.length lcap ∧ (⟨pi, pd, memo, legs, la, lcap⟩ : Pm).ok ∧ memo.length ≤ 140737488351232 ∧ legs.length ≤ 11728124029269 ∧ LegsAt w la legs := by
  obtain ⟨xs, n', _, hx, _, hlen, hg⟩ := DataW.trod_struct Tryz.underlying44 h
  have g0 := hg 0 _ rfl
  have g1 := hg 1 _ rfl
  have g2 := hg 2 _ rfl
  have g3 := hg 3 _ rfl
  clear hg
  have hlen' : xs.length = 4 := hlen
  match xs, hlen' with
  | [y0, y1, y2, y3], _ =>
    simp [cellsID, cellsU64, cellsString, cellsLegs] at g0 g1 g2 g3
    obtain ⟨n0, e0, rfl, w0⟩ := DataW.trod_int Tryz.underlying35 g0
    obtain ⟨n1, e1, rfl, w1⟩ := DataW.trod_int Tryz.underlying41 g1
    obtain ⟨s, e2, rfl, w2⟩ := DataW.trod_string Tryz.underlying9 g2
    simp only [List.cons.injEq, and_true] at e0 e1 e2
    obtain ⟨pi, rfl, hpi⟩ := u32_of w0
    obtain ⟨pd, rfl, hpd⟩ := u64_of w1
    have hs : s.data.toList.length ≤ reachBytes := hw _ (by rw [hx]; simp [DataW.weights, Tryz.underlying44, DataW.weightsEach])
    obtain ⟨la, lcap, legs, e3, hlok, hll, hL⟩ := open_legsL g3 (fun b hb => hw b (by rw [hx]; simp only [DataW.weights, Tryz.underlying44]; simp [DataW.weightsEach]; exact .inr (.inr (.inr hb))))
    exact ⟨pi, pd, s.data.toList, la, lcap, legs, e0, e1, by rw [bs_of]; exact e2, e3, ⟨hpi, hpd, hlok⟩, hs, hll, hL⟩
set_option maxRecDepth 100000 in
/-- a step, opened: its cells; its payment -/
theorem open_opP {n : Nat} {cs : List Value} {x : DataW H × List MemPlace} (h : DataW.trod enc Tryz.prog w 0 (fun _ => true) held n 46 cs = some x) (hw : ∀ b ∈ x.1.weights Tryz.prog 46, b ≤ reachBytes) : ∃ o : Opr, cs = o.cells.toList ∧ o.ok ∧ o.pays w := by
  obtain ⟨xs, n', _, hx, hcl, hlen, hg⟩ := DataW.trod_struct Tryz.underlying46 h
  rw [cellsOp] at hcl
  match cs, hcl with
  | [c0, c1, c2, c3, c4, c5, c6, c7, c8, c9, c10, c11, c12, c13, c14, c15, c16, c17, c18], _ =>
  have g0 := hg 0 _ rfl
  have g1 := hg 1 _ rfl
  have g2 := hg 2 _ rfl
  have g3 := hg 3 _ rfl
  have g4 := hg 4 _ rfl
  have g5 := hg 5 _ rfl
  have g6 := hg 6 _ rfl
  have g7 := hg 7 _ rfl
  clear hg
  have hlen' : xs.length = 8 := hlen
  match xs, hlen' with
  | [y0, y1, y2, y3, y4, y5, y6, y7], _ =>
    simp [cellsInt, cellsString, cellsMsg, cellsPay, cellsAccount, cellsAmount] at g0 g1 g2 g3 g4 g5 g6 g7
    obtain ⟨n0, e0, rfl, w0⟩ := DataW.trod_int Tryz.underlying3 g0
    obtain ⟨n1, e1, rfl, w1⟩ := DataW.trod_int Tryz.underlying3 g1
    obtain ⟨n2, e2, rfl, w2⟩ := DataW.trod_int Tryz.underlying3 g2
    obtain ⟨s, e3, rfl, w3⟩ := DataW.trod_string Tryz.underlying9 g3
    obtain ⟨m, em, dm, hm⟩ := open_msgL g4
    obtain ⟨n6, e6, rfl, w6⟩ := DataW.trod_int Tryz.underlying37 g6
    obtain ⟨n7, e7, rfl, w7⟩ := DataW.trod_int Tryz.underlying38 g7
    simp only [List.cons.injEq, and_true] at e0 e1 e2 e3 e6 e7
    obtain ⟨acc, rfl, hacc⟩ := u16_of w6
    obtain ⟨amt, rfl, hamt⟩ := u32_of w7
    have hs : s.data.toList.length ≤ reachBytes := hw _ (by rw [hx]; simp [DataW.weights, Tryz.underlying46, DataW.weightsEach])
    have hmm : m.m.length ≤ reachBytes := hw _ (by rw [hx]; simp [DataW.weights, Tryz.underlying46, Tryz.underlying40, DataW.weightsEach, dm, Msg.d])
    obtain ⟨pi, pd, memo, la, lcap, legs, p0, p1, p2, p3, hpm⟩ := open_pay2 g5 (fun b hb => hw b (by rw [hx]; simp only [DataW.weights, Tryz.underlying46]; simp [DataW.weightsEach]; exact .inr (.inr (.inr (.inr (.inr (.inl hb)))))))
    refine ⟨⟨n0, n1, n2, s.data.toList, m, (pi : Int), (pd : Int), memo, la, legs.length, lcap, acc, amt⟩, ?_, ⟨i64_of w0, i64_of w1, i64_of w2, hs, hm, hmm, hacc, hamt⟩, pi, pd, legs, rfl, rfl, rfl, hpm⟩
    simp only [Msg.cells, List.cons.injEq, and_true] at em
    obtain ⟨m0, m1, m2, m3, m4, m5, m6, m7, m8⟩ := em
    simp only [Opr.cells, e0, e1, e2, e3, m0, m1, m2, m3, m4, m5, m6, m7, m8, p0, p1, p2, p3, e6, e7, bs_of]
end
set_option maxRecDepth 100000 in
/-- the argument, opened -/
theorem open_scriptP {H : Type} {enc : TypeId × Value → H} {W : World} {b0 : Nat} {v : Value} {d : DataW H} {p : List MemPlace}
    (hv : Value.okWide Tryz.prog W .any b0 22 v) (h : DataW.Trod enc Tryz.prog W 0 (fun _ => true) true 22 v d p) (lt : ∀ x ∈ p, x.block < W.heap.size) (hsz : (DataW.weightsEach Tryz.prog [22] [d]).all (· ≤ reachBytes) = true) : ∃ ops, Script W v ops ∧ ∀ o, o ∈ ops → o.pays W := by
  obtain ⟨a0, n0, c0, rfl⟩ := okWide_slice Tryz.underlying22 hv
  obtain ⟨fuel, hfu⟩ := h
  have hcells : (Value.slice a0 n0 c0).cells.toList = [.slice a0 n0 c0] := rfl
  rw [hcells] at hfu
  have hwt : ∀ b ∈ d.weights Tryz.prog 22, b ≤ reachBytes := fun b hb => by
    have := List.all_eq_true.1 hsz b (DataW.weights_mem_each (j := 0) rfl rfl b hb)
    simpa using this
  rcases Go.Deep.open_slice Tryz.underlying22 hfu with ⟨e1, _⟩ | ⟨a, len, cap, m, n, D, Q, e1, _, hl, hm, hmm, hx, hel⟩
  · simp only [List.cons.injEq, and_true] at e1
    rw [e1]
    exact ⟨[], ⟨⟨none, 0, rfl, fun k hk => by simp at hk⟩, by simp, by simp⟩, by simp⟩
  · simp only [List.cons.injEq, and_true] at e1
    rw [e1]
    simp only [if_true] at hmm
    subst hmm
    simp only [Prod.mk.injEq] at hx
    obtain ⟨hd, hp⟩ := hx
    rw [cellsOp] at hel hp
    have hun := Tryz.underlying22
    rw [hd] at hwt
    simp only [DataW.weights, hun] at hwt
    have hall : ∀ i, i < len → ∃ o : Opr, (o.ok ∧ o.pays W) ∧ ∀ j v, o.cells.toList[j]? = some v → W.cell? ((a.add (i * 19)).add j) = some v := by
      intro i hi
      obtain ⟨cs', h1, h2⟩ := hel i (by omega)
      obtain ⟨o, ho, hok⟩ := open_opP h2 (fun b hb => hwt b (by
        refine List.mem_cons_of_mem _ (List.mem_append_left _ (weights_all _ (D i) ?_ b hb))
        exact List.mem_map.2 ⟨i, List.mem_range.2 hi, rfl⟩))
      obtain ⟨_, hln, hc⟩ := World.cells?_some h1
      refine ⟨o, hok, fun j v hj => ?_⟩
      have hj19 : j < 19 := by
        have := (List.getElem?_eq_some_iff.1 hj).1
        simpa [Opr.cells] using this
      rw [hc j hj19, ho]
      exact hj
    have hab : 0 < len → a.block < W.heap.size := fun h0 => by
      have hc : 0 < m := by omega
      refine lt (.cell a.block a.off) ?_
      rw [hp]
      refine List.mem_append_left _ ?_
      exact row_first a (m * 19) (by omega)
    obtain ⟨f, hf⟩ := Classical.axiomOfChoice (fun i : Fin len => hall i.1 i.2)
    have hlen : ((List.range len).map D).length + ((List.range (m - len)).map fun j => D (len + j)).length = m := by simp; omega
    have hby := hwt _ (List.mem_cons_self)
    rw [hlen, bytesOp] at hby
    have hrb : reachBytes = 140737488351232 := rfl
    refine ⟨List.ofFn f, ⟨⟨some a, m, by rw [List.length_ofFn], fun k hk => ?_⟩, fun o ho => ?_, by rw [List.length_ofFn]; omega⟩, fun o ho => ?_⟩
    · rw [List.length_ofFn] at hk
      refine ⟨a, rfl, hab (by omega), fun j v hj => ?_⟩
      rw [List.getElem_ofFn] at hj
      exact (hf ⟨k, hk⟩).2 j v hj
    · obtain ⟨i, rfl⟩ := List.mem_ofFn.1 ho
      exact (hf i).1.1
    · obtain ⟨i, rfl⟩ := List.mem_ofFn.1 ho
      exact (hf i).1.2
end Go.Proofs.YtjkhbjgfoopomaaGreat
