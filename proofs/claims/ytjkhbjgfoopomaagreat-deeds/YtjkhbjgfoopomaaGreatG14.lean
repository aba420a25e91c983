import Derived.Test.YtjkhbjgfoopomaaGreatG13
import Derived.Test.YtjkhbjgfoopomaaGreatG1
import Derived.Test.YtjkhbjgfoopomaaGreatG3
import Derived.Deep.MidRow
import Derived.Test.YtjkhbjgfoopomaaGreatG5
/-
  The document's with, full and Find.
-/
namespace Go.Proofs.YtjkhbjgfoopomaaGreat
open Go.RowKit
set_option linter.unusedVariables false
set_option linter.unusedSimpArgs false

theorem withOf_yes {bits leg : Nat} (h : bits / 2 ^ leg % 2 = 1) : withOf bits leg = bits := by simp [withOf, h]
theorem withOf_no {bits leg : Nat} (h : ¬ bits / 2 ^ leg % 2 = 1) : withOf bits leg = bits + 2 ^ leg := by simp [withOf, h]
theorem bit_wrap (bits P : Nat) (hb : bits < 1000) : (wrap64 ((bits : Int) / (P : Int))).tmod 2 = ((bits / P % 2 : Nat) : Int) := by
  have h1 := Nat.div_le_self bits P
  rw [← Int.natCast_ediv]
  generalize bits / P = q at *
  have hw : wrap64 (q : Int) = (q : Int) := by unfold wrap64; omega
  rw [hw, Int.tmod_eq_emod_of_nonneg (by omega)]
  omega
set_option maxRecDepth 100000 in
set_option maxHeartbeats 1000000 in
theorem with_any (bits leg : Nat) (hb : bits < 1000) (hl : leg ≤ 4) (w : World) : Calls Tryz.prog 79 #[.int .i64 (bits : Int), .int .u8 (leg : Int)] w fun e w' => e = .returned (.int .i64 (withOf bits leg : Int)) ∧ w' = w := by
  go_enter Tryz.func79, Tryz.ntmps79
  go_wp2
  go_loopw [5, 6] (fun x c u => ∃ k : Nat, k ≤ leg ∧ c = .int .u8 k ∧ x = .int .i64 ((2 ^ k : Nat) : Int) ∧ u = w) (fun _ c _ => leg - (intOf c).toNat)
  case atStart => exact ⟨0, Nat.zero_le _, rfl, rfl, rfl⟩
  case round =>
    obtain ⟨k, hk, rfl, rfl, rfl⟩ := hrel
    have hp : Hid (2 ^ (k + 1) = 2 ^ k * 2) := hide (Nat.pow_succ 2 k)
    have hpl : 2 ^ k ≤ 16 := Nat.le_trans (Nat.pow_le_pow_right (by decide) (by omega)) (by decide : 2 ^ 4 ≤ 16)
    have hp0 : 0 < 2 ^ k := Nat.pow_pos (by decide)
    by_cases hlt : k < leg
    · generalize 2 ^ k = P at *
      have dl : decide ((k : Int) < (leg : Int)) = true := by simp; omega
      have W1 : IntKind.u8.wrap ((k : Int) + 1) = (k : Int) + 1 := by rw [IntKind.wrap_u8]; omega
      go_wp2
      exact ⟨⟨k + 1, hlt, by go_num, by rw [hp.out]; go_num, trivial⟩, by simp [intOf]; omega⟩
    · obtain rfl : k = leg := by omega
      have hy := hide (@withOf_yes bits k)
      have hn := hide (@withOf_no bits k)
      clear hp
      generalize 2 ^ k = P at *
      by_cases h1 : bits / P % 2 = 1
      · have hq : Hid (withOf bits k = bits) := hide (hy.out h1)
        have d1 : ((wrap64 ((bits : Int) / (P : Int))).tmod 2 == 1) = true := by rw [bit_wrap bits P hb]; simp; omega
        clear hy hn h1
        go_wp2
        go_ret
        exact ⟨by rw [hq.out]; rfl, rfl⟩
      · have hq : Hid (withOf bits k = bits + P) := hide (hn.out h1)
        have d1 : ((wrap64 ((bits : Int) / (P : Int))).tmod 2 == 1) = false := by rw [bit_wrap bits P hb]; simp; omega
        clear hy hn h1
        go_wp2
        go_ret
        exact ⟨by rw [hq.out]; go_num, rfl⟩

theorem fullOf_succ (k : Nat) : fullOf (k + 1) = fullOf k * 2 + 1 := by
  unfold fullOf
  have : 0 < 2 ^ k := Nat.pow_pos (by decide)
  rw [Nat.pow_succ]
  omega
set_option maxRecDepth 100000 in
set_option maxHeartbeats 1000000 in
theorem full_any (n : Nat) (hn : n ≤ 8) (w : World) : Calls Tryz.prog 80 #[.int .i64 (n : Int)] w fun e w' => e = .returned (.int .i64 (fullOf n : Int)) ∧ w' = w := by
  go_enter Tryz.func80, Tryz.ntmps80
  go_wp2
  go_loopw [3, 4] (fun x c u => ∃ k : Nat, k ≤ n ∧ c = .int .i64 k ∧ x = .int .i64 (fullOf k : Int) ∧ u = w) (fun _ c _ => n - (intOf c).toNat)
  case atStart => exact ⟨0, Nat.zero_le _, rfl, rfl, rfl⟩
  case round =>
    obtain ⟨k, hk, rfl, rfl, rfl⟩ := hrel
    have hf : fullOf k < 256 := by
      have : 2 ^ k ≤ 2 ^ 8 := Nat.pow_le_pow_right (by decide) (by omega)
      unfold fullOf
      omega
    have hp : Hid (fullOf (k + 1) = fullOf k * 2 + 1) := hide (fullOf_succ k)
    by_cases hlt : k < n
    · generalize fullOf k = P at *
      have dl : decide ((k : Int) < (n : Int)) = true := by simp; omega
      go_wp2
      exact ⟨⟨k + 1, hlt, by go_num, by rw [hp.out]; go_num, trivial⟩, by simp [intOf]; omega⟩
    · obtain rfl : k = n := by omega
      clear hp
      go_wp2
      go_ret
      exact ⟨rfl, rfl⟩
def Pm.cells (x : Pm) : List Value := [.int .u32 (x.id : Int), .int .u64 (x.dl : Int), .string (bs x.memo), .slice x.la x.legs.length x.lc]
/-- two payments of ours: the first blocks behind w -/
structure TwoP (w : World) (x y : Pm) (u : World) : Prop where
  bel : Below w.heap.size w u
  one : u.heap[w.heap.size]? = some (.cells x.cells.toArray 44 (0, 0))
  two : u.heap[w.heap.size + 1]? = some (.cells y.cells.toArray 44 (0, 0))
theorem TwoP.mk0 (w : World) : TwoP w noPm noPm ((w.alloc (.cells noPm.cells.toArray 44)).alloc (.cells noPm.cells.toArray 44)) := by
  refine ⟨((Below.refl _ _).alloc (Nat.le_refl _) _).alloc (by simp) _, ?_, ?_⟩
  · rw [Below.heap_alloc _ _ _ (by simp)]
    exact heap_alloc_self _ _
  · rw [show w.heap.size + 1 = (w.alloc (.cells noPm.cells.toArray 44)).heap.size from by simp]
    exact heap_alloc_self _ _
theorem TwoP.putOne {w u : World} {x y : Pm} (h : TwoP w x y u) (z : Pm) : TwoP w z y (putL u w.heap.size 0 z.cells) :=
  have hk := putL_kept z.cells u w.heap.size 0
  ⟨h.bel.trans (hk.below h.bel.size (fun k e => by omega)), putL_whole _ h.one rfl, by rw [hk.block _ (block_lt h.two) (by omega)]; exact h.two⟩
theorem TwoP.putTwo {w u : World} {x y : Pm} (h : TwoP w x y u) (z : Pm) : TwoP w x z (putL u (w.heap.size + 1) 0 z.cells) :=
  have hk := putL_kept z.cells u (w.heap.size + 1) 0
  ⟨h.bel.trans (hk.below h.bel.size (fun k e => by omega)), by rw [hk.block _ (block_lt h.one) (by omega)]; exact h.one, putL_whole _ h.two rfl⟩
set_option maxRecDepth 100000 in
set_option maxHeartbeats 1000000 in
theorem find_pay (id : Nat) (hid : id < 4294967296) (w : World) (B : Nat) (acts : List Dt) (v : Value) (hR : RD w B acts v) (hok : ∀ x, x ∈ acts → x.ok) (hlen : acts.length ≤ 1000000000000) :
    Calls Tryz.prog 44 #[.pointer (some ⟨B, 0, none⟩), .int .u32 (id : Int)] w fun e w' => e = .returned (.tuple #[(findOf id acts).1.v, .bool (findOf id acts).2.1, .int .i64 ((findOf id acts).2.2 : Int)]) ∧ Below w.heap.size w w' := by
  obtain ⟨ad, cap, hv, hev⟩ := hR.row.form Dt.cells_length
  subst hv
  clear hev
  go_enter Tryz.func44, Tryz.ntmps44
  go_wp2
  go_loopw [8, 9, 10] (fun y z c u => ∃ k : Nat, k ≤ acts.length ∧ c = .int .i64 k ∧ y = .bool (findOf id (acts.take k)).2.1 ∧ z = .int .i64 ((findOf id (acts.take k)).2.2 : Int) ∧ TwoP w noPm (findOf id (acts.take k)).1 u) (fun _ _ c _ => acts.length - (intOf c).toNat)
  case atStart => exact ⟨0, Nat.zero_le _, rfl, rfl, rfl, TwoP.mk0 w⟩
  case round =>
    obtain ⟨k, hk, rfl, rfl, rfl, hT⟩ := hrel
    have hRu := hR.below hT.bel
    have hc : ∀ o, _ = _ := fun o => cell_at hRu.blk o
    have hBl := hRu.lt
    have hm : ∀ o, _ = _ := fun o => cell_at hT.two o
    have hfm : ∀ o, _ = _ := fun o => frozen_at hT.two o
    have hm0 : ∀ o, _ = _ := fun o => cell_at hT.one o
    have hfm0 : ∀ o, _ = _ := fun o => frozen_at hT.one o
    have hl1 := block_lt hT.one
    have hl2 := block_lt hT.two
    have hfl : (findOf id (acts.take k)).2.2 ≤ k := Nat.le_trans (findOf_le _ _) (List.length_take_le _ _)
    by_cases hlt : k < acts.length
    · obtain ⟨ad', cap', hv', hev'⟩ := hRu.row.form Dt.cells_length
      obtain ⟨g, hg, hcell, _⟩ := hev' k hlt
      have ead : ad = ad' := by injection hv'
      subst ead
      subst hg
      have hgl : g < wr.heap.size := hRu.row.lt rfl
      have hs : Hid (findOf id (acts.take (k + 1)) = findStep id (findOf id (acts.take k)) acts[k]) := hide (by rw [take_snoc_dt acts k hlt, findOf_snoc])
      have c0 := hcell 0 (by decide)
      have c1 := hcell 1 (by decide)
      have c2 := hcell 2 (by decide)
      have c3 := hcell 3 (by decide)
      have c4 := hcell 4 (by decide)
      have hek := hok acts[k] (List.getElem_mem hlt)
      clear hcell hev' hv'
      generalize findOf id (acts.take k) = S at *
      generalize acts[k] = E at *
      obtain ⟨kind, ⟨pi, pd, pm, pl, pa, pc⟩, msg⟩ := E
      obtain ⟨⟨si, sd, sm, sl, sa, sc⟩, s2, s3⟩ := S
      obtain ⟨_, _, ⟨hpi, hpd, _⟩, _⟩ := hek
      simp only [Dt.cells, Pm.lv, List.getElem?_cons_zero, List.getElem?_cons_succ, Nat.add_zero] at c0 c1 c2 c3 c4 hpi hpd hfl
      simp only [Pm.cells, noPm] at hm hm0
      by_cases hz : kind = -1
      · subst hz
        by_cases hi : pi = id
        · have di : ((pi : Int) == (id : Int)) = true := by simp; omega
          have hq : Hid (findOf id (acts.take (k + 1)) = (⟨pi, pd, pm, pl, pa, pc⟩, true, s3 + 1)) := hide (by rw [hs.out]; simp [findStep, hi])
          have hT2 := hide (hT.putTwo ⟨pi, pd, pm, pl, pa, pc⟩)
          clear hs hi
          go_wp2
          exact ⟨⟨k + 1, hlt, by go_num, by rw [hq.out], by rw [hq.out]; go_num, by rw [hq.out]; exact hT2.out⟩, by simp [intOf]; omega⟩
        · have di : ((pi : Int) == (id : Int)) = false := by simp; omega
          have hq : Hid (findOf id (acts.take (k + 1)) = (⟨si, sd, sm, sl, sa, sc⟩, s2, s3 + 1)) := hide (by rw [hs.out]; simp [findStep, hi])
          clear hs hi
          go_wp2
          exact ⟨⟨k + 1, hlt, by go_num, by rw [hq.out], by rw [hq.out]; go_num, by rw [hq.out]; exact hT⟩, by simp [intOf]; omega⟩
      · have dz : (kind == -1) = false := by simp [hz]
        have hq : Hid (findOf id (acts.take (k + 1)) = (⟨si, sd, sm, sl, sa, sc⟩, s2, s3)) := hide (by rw [hs.out]; simp [findStep, hz])
        clear hs hz
        go_wp2
        exact ⟨⟨k + 1, hlt, by go_num, by rw [hq.out], by rw [hq.out], by rw [hq.out]; exact hT⟩, by simp [intOf]; omega⟩
    · obtain rfl : k = acts.length := by omega
      simp only [List.take_length] at hT hm hfl ⊢
      generalize hS : findOf id acts = S at *
      have HS := hide hS
      clear hS
      obtain ⟨z, s2, s3⟩ := S
      have hT2 := hT.putOne z
      obtain ⟨si, sd, sm, sl, sa, sc⟩ := z
      simp only [Pm.cells, noPm] at hm hm0 hT2
      go_wp2
      have hc2 : ∀ o, _ = (#[.int .u32 (si : Int), .int .u64 (sd : Int), .string (bs sm), .slice sa sl.length sc] : Array Value)[o]? := fun o => cell_at hT2.one o
      have hb2 := hT2.bel
      simp only [putL] at hc2 hb2
      generalize World.setCell _ _ _ = u at *
      exact bodyPost_ret (v := .tuple #[.agg #[.int .u32 (si : Int), .int .u64 (sd : Int), .string (bs sm), .slice sa sl.length sc], .bool s2, .int .i64 (s3 : Int)]) (by simp [results, Tryz.results44, go_sem, hc2]) rfl ⟨by rw [HS.out]; rfl, hb2⟩
end Go.Proofs.YtjkhbjgfoopomaaGreat
/-
  A struct of many cells is read or written as a whole.
-/
namespace Go.Proofs.YtjkhbjgfoopomaaGreat
open Go.RowKit
set_option linter.unusedVariables false
theorem stopLd {P : Program} {ops : Array Oper} {rest : List Oper} {a : Act} {w : World} {Q : Exit → Act → World → Prop} {d : Option Tmp} {ty : TypeId} {p : String} {af : Array Edge} {gd : Option (Nat × Bool)} {x : Operand} (T : TypeId) (h : Hid (wpList P ops Q ({ dst := d, op := Op.load T x, type := ty, pos := p, after := af, guard := gd } :: rest) a w)) : wpList P ops Q ({ dst := d, op := Op.load T x, type := ty, pos := p, after := af, guard := gd } :: rest) a w := h
theorem stopSt {P : Program} {ops : Array Oper} {rest : List Oper} {a : Act} {w : World} {Q : Exit → Act → World → Prop} {d : Option Tmp} {ty : TypeId} {p : String} {af : Array Edge} {gd : Option (Nat × Bool)} {x y : Operand} (T : TypeId) (h : Hid (wpList P ops Q ({ dst := d, op := Op.store T x y, type := ty, pos := p, after := af, guard := gd } :: rest) a w)) : wpList P ops Q ({ dst := d, op := Op.store T x y, type := ty, pos := p, after := af, guard := gd } :: rest) a w := h
theorem longPut (b : Nat) : ∀ (vs : List Value) (o : Nat) (w : World), w.setCells b o vs = putL w b o vs
  | [], _, _ => rfl
  | v :: r, o, w => longPut b r (o + 1) (w.setCell ⟨b, o, none⟩ v)
theorem longThere (w : World) (Z : Array Value) (T : TypeId) (n : Nat) (h : n ≤ Z.size) : (w.alloc (.cells Z T)).there w.heap.size 0 n := by
  intro j hj
  rw [Nat.zero_add, World.cell?_alloc_new]
  exact ⟨by rw [Array.getElem?_eq_getElem (by omega)]; rfl, by simp⟩
/-- a struct in a new box -/
theorem longBox {w U : World} {Z : Array Value} {T : TypeId} {cs : List Value} (hU : (w.alloc (.cells Z T)).setCells w.heap.size 0 cs = U) (hz : Z.size = cs.length) : U.heap[w.heap.size]? = some (.cells cs.toArray T (0, 0)) ∧ Below w.heap.size w U := by
  subst hU
  rw [longPut]
  refine ⟨putL_whole cs (heap_alloc_self _ _) hz, ((Below.refl _ _).alloc (Nat.le_refl _) _).trans ((putL_kept cs _ _ _).below (by simp) (fun k e => by omega))⟩
/-- a struct as a whole is read, wherever it lies -/
theorem longAt {P : Program} {ops : Array Oper} {rest : List Oper} {op : Oper} {a : Act} {w : World} {Q : Exit → Act → World → Prop} (hgd : op.guard = none) (ty : TypeId) (x : Operand) (ho : op.op = .load ty x)
    (ad : Addr) (hx : a.eval x = .pointer (some ad)) (cs : List Value) (fs : Array Field) (hc : ∀ j v, cs[j]? = some v → w.cell? (ad.add j) = some v) (hu : P.underlying ty = some (.struct fs)) (hi : (P.info? ty).map (·.size) = some cs.length)
    (h : wpList P ops Q rest (a.put op.dst (.agg cs.toArray)) w) : wpList P ops Q (op :: rest) a w := by
  have hl : (loadCells ad cs.length).run P w = .ok cs.toArray w := run_loadCells_list (P := P) w ad cs hc
  have hv : (loadVar ty ad).run P w = .ok (.agg cs.toArray) w := by
    cases hq : P.info? ty with
    | none => simp [hq] at hi
    | some i =>
      have hs : i.size = cs.length := by simpa [hq] using hi
      have hagg : (isAgg ty).run P w = .ok true w := by
        unfold isAgg
        rw [Sem.run_bind, run_underlying hu w]
        simp
      simp [loadVar, Sem.run_bind, hagg, sizeOf, typeInfo, hq, hs, hl]
  refine wpList_plain hgd fun K hK => ?_
  unfold Oper.wp execOp
  simp only [ho, hx, Instr.loadAt, Instr.sureAddr, Sem.run_bind, Sem.run_pure, Result.andThen_ok, hv]
  exact hK _ _ h
/-- the cells of one of a row's structs -/
theorem RowOf.range {α : Type} {f : α → List Value} {sz : Nat} (hf : ∀ x, (f x).length = sz) {w : World} {e : TypeId} {g n cap : Nat} {xs : List α} (h : RowOf w e sz f (.slice (some ⟨g, 0, none⟩) n cap) xs) (k : Nat) (hk : k < xs.length) : w.rangeAt g (k * sz) (f xs[k]) := by
  obtain ⟨ad, cap', hv, hev⟩ := h.form hf
  obtain ⟨g', hg, hcell, _⟩ := hev k hk
  subst hg
  have : g' = g := by injection hv with h1; injection h1 with h1; injection h1 with h1; exact h1.symm
  subst this
  intro j v hj
  have hjl := (List.getElem?_eq_some_iff.1 hj).1
  rw [hf] at hjl
  rw [hcell j hjl]
  exact hj
end Go.Proofs.YtjkhbjgfoopomaaGreat
/-
  The document's Wrong.
-/
namespace Go.Proofs.YtjkhbjgfoopomaaGreat
open Go.RowKit
set_option linter.unusedVariables false
set_option linter.unusedSimpArgs false
/-- P9: what is wrong with a leg -/
def plErr (l : Pl) : Nat := if l.b < 1 ∨ 7 < l.b then 4 else if l.a < 1 then 6 else 0
def legsErr : List Pl → Nat
  | [] => 0
  | l :: r => if plErr l = 0 then legsErr r else plErr l
theorem legsErr_append (a b : List Pl) : legsErr (a ++ b) = if legsErr a = 0 then legsErr b else legsErr a := by
  induction a with
  | nil => simp [legsErr]
  | cons l r ih =>
    simp only [List.cons_append, legsErr]
    by_cases h : plErr l = 0
    · simp [h, ih]
    · simp [h]
/-- P9: what is wrong with a payment by itself -/
def wrongOf (p : Pm) : Nat := if p.legs.length = 0 ∨ 4 < p.legs.length then 5 else if legsErr p.legs = 0 then (if memoB p.memo then 0 else 7) else legsErr p.legs
theorem legsErr_at {l : List Pl} {k : Nat} (hk : k < l.length) (h0 : legsErr (l.take k) = 0) (h1 : plErr l[k] ≠ 0) : legsErr l = plErr l[k] := by
  have e : l = l.take k ++ (l[k] :: l.drop (k + 1)) := by
    rw [List.getElem_cons_drop hk, List.take_append_drop]
  have e2 := legsErr_append (l.take k) (l[k] :: l.drop (k + 1))
  rw [← e, h0] at e2
  rw [e2]
  simp [legsErr, h1]
theorem legsErr_next {l : List Pl} {k : Nat} (hk : k < l.length) (h0 : legsErr (l.take k) = 0) (h1 : plErr l[k] = 0) : legsErr (l.take (k + 1)) = 0 := by
  rw [take_snoc_dt l k hk, legsErr_append, h0]
  simp [legsErr, h1]

set_option maxRecDepth 100000 in
set_option maxHeartbeats 1000000 in
theorem wrong_any (p : Pm) (hp : p.ok) (hm : p.memo.length ≤ 140737488351232) (hll : p.legs.length ≤ 11728124029269) (w : World) (hR : LegsAt w p.la p.legs) :
    Calls Tryz.prog 100 #[p.v] w fun e w' => e = .returned (.int .i64 (wrongOf p : Int)) ∧ Below w.heap.size w w' := by
  obtain ⟨pi, pd, pm, pl, pa, pc⟩ := p
  obtain ⟨hpi, hpd, hpl⟩ := hp
  simp only [Pm.v, Pm.lv] at *
  have hms : (bs pm).size ≤ 140737488351232 := by simpa [bs_size] using hm
  go_enter Tryz.func100, Tryz.ntmps100
  by_cases hz : pl.length = 0
  · have hq : Hid (wrongOf ⟨pi, pd, pm, pl, pa, pc⟩ = 5) := hide (by simp [wrongOf, hz])
    have dz : ((pl.length : Int) == 0) = true := by simp [hz]
    go_wp2
    go_ret
    refine ⟨by rw [hq.out]; rfl, ?_⟩
    exact (Below.refl _ _).alloc (Nat.le_refl _) _
  by_cases h4 : 4 < pl.length
  · have hq : Hid (wrongOf ⟨pi, pd, pm, pl, pa, pc⟩ = 5) := hide (by simp [wrongOf, h4])
    have dz : ((pl.length : Int) == 0) = false := by simp [hz]
    have dz4 : decide ((pl.length : Int) > 4) = true := by simp; omega
    go_wp2
    go_ret
    refine ⟨by rw [hq.out]; rfl, ?_⟩
    exact (Below.refl _ _).alloc (Nat.le_refl _) _
  have dz : ((pl.length : Int) == 0) = false := by simp [hz]
  have dz4 : decide ((pl.length : Int) > 4) = false := by simp; omega
  have hw : Hid (wrongOf ⟨pi, pd, pm, pl, pa, pc⟩ = if legsErr pl = 0 then (if memoB pm then 0 else 7) else legsErr pl) := hide (by simp [wrongOf, hz, h4])
  go_wp2
  go_loopw [3] (fun c u => ∃ k : Nat, k ≤ pl.length ∧ c = .int .i64 k ∧ legsErr (pl.take k) = 0 ∧ u = w.alloc (.cells #[.int .u32 (pi : Int), .int .u64 (pd : Int), .string (bs pm), .slice pa pl.length pc] 44)) (fun c _ => pl.length - (intOf c).toNat)
  case atStart => exact ⟨0, Nat.zero_le _, rfl, rfl, rfl⟩
  case round =>
    obtain ⟨k, hk, rfl, he, rfl⟩ := hrel
    have hb : Hid (Below w.heap.size w (w.alloc (.cells #[.int .u32 (pi : Int), .int .u64 (pd : Int), .string (bs pm), .slice pa pl.length pc] 44))) := hide ((Below.refl _ _).alloc (Nat.le_refl _) _)
    by_cases hlt : k < pl.length
    · obtain ⟨ga, hg, hgl, hcell⟩ := (hR.below hb.out) k hlt
      subst hg
      have c0 := hcell 0 _ rfl
      rw [show (ga.add (k * 4)).add 0 = ga.add (k * 4) from rfl] at c0
      have c3 : World.cell? _ ⟨(ga.add (k * 4)).block, (ga.add (k * 4)).off + 3, none⟩ = _ := hcell 3 _ rfl
      have hek := hpl pl[k] (List.getElem_mem hlt)
      have hat := hide (legsErr_at hlt he)
      have hnx := hide (legsErr_next hlt he)
      clear hcell hpl hR
      generalize pl[k] = E at *
      obtain ⟨lb, lp, lg, la⟩ := E
      obtain ⟨hlb, hlp, hlg, hla⟩ := hek
      simp only at c0 c3
      simp only at hlb hlp hlg hla
      by_cases h1 : lb < 1
      · have d1 : decide ((lb : Int) < 1) = true := by simp; omega
        have hq : Hid (wrongOf ⟨pi, pd, pm, pl, some ga, pc⟩ = 4) := hide (by
          have e : plErr ⟨lb, lp, lg, la⟩ = 4 := by simp [plErr, h1]
          rw [hw.out, hat.out (by rw [e]; decide), e]; rfl)
        clear hat hnx hw h1
        go_wp2
        go_ret
        exact ⟨by rw [hq.out]; rfl, hb.out⟩
      by_cases h7 : 7 < lb
      · have d1 : decide ((lb : Int) < 1) = false := by simp; omega
        have d7 : decide ((lb : Int) > 7) = true := by simp; omega
        have hq : Hid (wrongOf ⟨pi, pd, pm, pl, some ga, pc⟩ = 4) := hide (by
          have e : plErr ⟨lb, lp, lg, la⟩ = 4 := by simp [plErr, h7]
          rw [hw.out, hat.out (by rw [e]; decide), e]; rfl)
        clear hat hnx hw h1 h7
        go_wp2
        go_ret
        exact ⟨by rw [hq.out]; rfl, hb.out⟩
      have d1 : decide ((lb : Int) < 1) = false := by simp; omega
      have d7 : decide ((lb : Int) > 7) = false := by simp; omega
      by_cases ha : la < 1
      · have da : decide ((la : Int) < 1) = true := by simp; omega
        have hq : Hid (wrongOf ⟨pi, pd, pm, pl, some ga, pc⟩ = 6) := hide (by
          have e : plErr ⟨lb, lp, lg, la⟩ = 6 := by simp only [plErr, if_neg (show ¬ (lb < 1 ∨ 7 < lb) by omega), if_pos ha]
          rw [hw.out, hat.out (by rw [e]; decide), e]; rfl)
        clear hat hnx hw h1 h7 ha
        go_wp2
        go_ret
        exact ⟨by rw [hq.out]; rfl, hb.out⟩
      · have da : decide ((la : Int) < 1) = false := by simp; omega
        have hq := hide (hnx.out (by simp only [plErr, if_neg (show ¬ (lb < 1 ∨ 7 < lb) by omega), if_neg ha]))
        clear hat hnx hw h1 h7 ha
        go_wp2
        exact ⟨⟨k + 1, hlt, by go_num, hq.out, trivial⟩, by simp [intOf]; omega⟩
    · obtain rfl : k = pl.length := by omega
      rw [List.take_length] at he
      have hq : Hid (wrongOf ⟨pi, pd, pm, pl, pa, pc⟩ = if memoB pm then 0 else 7) := hide (by rw [hw.out]; simp [he])
      have hmd := hide (bs_data pm)
      clear hw he
      go_wp2_with fail
      refine (refMemo_any (bs pm) hms _).mono ?_
      rintro e w1 ⟨rfl, rfl⟩
      rw [hmd.out]
      cases hbb : memoB pm with
      | true =>
        rw [hbb] at hq
        clear hbb
        go_wp2
        go_ret
        exact ⟨by rw [hq.out]; rfl, hb.out⟩
      | false =>
        rw [hbb] at hq
        clear hbb
        go_wp2
        go_ret
        exact ⟨by rw [hq.out]; rfl, hb.out⟩
end Go.Proofs.YtjkhbjgfoopomaaGreat
