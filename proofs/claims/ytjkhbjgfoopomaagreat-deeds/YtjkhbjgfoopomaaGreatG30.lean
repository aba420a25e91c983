import Derived.Test.YtjkhbjgfoopomaaGreatLawDStep
import Derived.Test.YtjkhbjgfoopomaaGreatG29
/-
  A step of the statement Deeds, whichever.
-/
namespace Go.Proofs.YtjkhbjgfoopomaaGreat
open Go.RowKit
set_option linter.unusedVariables false
set_option linter.unusedSimpArgs false

set_option maxRecDepth 100000 in
set_option maxHeartbeats 2000000 in
theorem dstep_made (w0 : DBase) (N : Nat) (w : World) (Wb : Nat) (own : Nat → Nat) (hs : List Office) (ll : List (Value × Nat)) (vd vl : Value) (I : DInv w0 w Wb own hs ll vd vl) (hok : ∀ h, h ∈ hs → h.ok N) (hl2 : hs.length ≤ 1000000000000)
    (at_ n : Int) (s : List UInt8) (k f t mi l p g a : Nat) (m : List UInt8) (pid dead : Int) (memo : List UInt8) (legs : Option Addr) (llen lcap acc amt : Nat) :
    Calls Tryz.prog 7 #[.pointer (some ⟨Wb, 0, none⟩), (⟨8, at_, n, s, ⟨k, f, t, mi, l, p, g, a, m⟩, pid, dead, memo, legs, llen, lcap, acc, amt⟩ : Opr).v] w fun e w' => e = .returned (.bool true) ∧ DGoes1 w0 N w' Wb hs ll := by
  obtain ⟨W1, hW1⟩ : ∃ W1, W1 = (w.alloc (.cells (⟨8, at_, n, s, ⟨k, f, t, mi, l, p, g, a, m⟩, pid, dead, memo, legs, llen, lcap, acc, amt⟩ : Opr).cells 46)) := ⟨_, rfl⟩
  have hbW : Below w.heap.size w W1 := by rw [hW1]; exact (Below.refl w.heap.size w).alloc (Nat.le_refl _) _
  have hrg := hide (op_range (⟨8, at_, n, s, ⟨k, f, t, mi, l, p, g, a, m⟩, pid, dead, memo, legs, llen, lcap, acc, amt⟩ : Opr) w)
  have hM := hide (made_deed w0 N W1 Wb own hs ll vd vl (I.below hbW) hok hl2 at_ n s k f t mi l p g a m pid dead memo legs llen lcap acc amt)
  clear I
  simp only [Opr.v, Opr.cells] at *
  replace hW1 := hide hW1
  go_enter Tryz.func7, Tryz.ntmps7
  go_wp2_with (first
    | (refine wpList_load_mid (by rfl) 46 _ (by rfl) w.heap.size 0 (by rfl) [.int .i64 8, .int .i64 at_, .int .i64 n, .string (bs s), .int .u8 (k : Int), .int .u8 (f : Int), .int .u8 (t : Int), .int .u32 (mi : Int), .int .u8 (l : Int), .int .u16 (p : Int), .int .u16 (g : Int), .int .u32 (a : Int), .string (bs m), .int .u32 pid, .int .u64 dead, .string (bs memo), .slice legs llen lcap, .int .u16 (acc : Int), .int .u32 (amt : Int)] _ hrg.out Tryz.underlying46 rfl opSize ?_)
    | (go_at_call 9; refine stopAt ?_))
  refine hide ?_
  rw [← hW1.out]
  refine (hM.out).mono ?_
  rintro e w2 ⟨rfl, own', hs', vd', vl', J, hok', hl'⟩
  have hG : Hid (DGoes1 w0 N w2 Wb hs ll) := hide ⟨own', hs', ll, vd', vl', J, fun h hh => ⟨(hok' h hh).1, (hok' h hh).2.1, Nat.le_succ_of_le (hok' h hh).2.2⟩, by omega, by omega, by omega⟩
  clear J hM hrg hok'
  go_wp2
  go_ret
  exact ⟨rfl, hG.out⟩
theorem dstep_any (w0 : DBase) (N : Nat) (hN : N ≤ 999999999999) (w : World) (Wb : Nat) (own : Nat → Nat) (hs : List Office) (ll : List (Value × Nat)) (vd vl : Value) (I : DInv w0 w Wb own hs ll vd vl) (hok : ∀ h, h ∈ hs → h.ok N) (hl1 : 0 < hs.length) (hl2 : hs.length ≤ 1000000000000) (hlen : ll.length ≤ 3999999999000) (o : Opr) (ho : o.ok) (hp : o.paid w0) (hk : 8 ≤ o.kind ∧ o.kind ≤ 13) :
    Calls Tryz.prog 7 #[.pointer (some ⟨Wb, 0, none⟩), o.v] w fun e w' => e = .returned (.bool true) ∧ DGoes1 w0 N w' Wb hs ll := by
  obtain ⟨kind, at_, n, s, ⟨k, f, t, mi, l, p, g, a, m⟩, pid, dead, memo, legs, llen, lcap, acc, amt⟩ := o
  simp only at hk
  by_cases h1 : kind = 8
  · subst h1
    exact dstep_made w0 N w Wb own hs ll vd vl I hok hl2 at_ n s k f t mi l p g a m pid dead memo legs llen lcap acc amt
  · exact step_deed w0 N hN w Wb own hs ll vd vl I hok hl1 hl2 hlen kind at_ n s k f t mi l p g a m pid dead memo legs llen lcap acc amt ho hp (by omega)
end Go.Proofs.YtjkhbjgfoopomaaGreat
/-
  The head of the statement Deeds.
-/
namespace Go.Proofs.YtjkhbjgfoopomaaGreat
open Go.RowKit
set_option linter.unusedVariables false
set_option linter.unusedSimpArgs false
/-- the document's example -/
def legs12 : List Pl := [⟨1, 0, 0, 1⟩, ⟨2, 0, 0, 1⟩]
def headOp (b : Nat) : Opr := ⟨9, 0, 0, [], ⟨0, 0, 0, 0, 0, 0, 0, 0, []⟩, 7, 2, [], some ⟨b, 0, none⟩, 2, 2, 0, 0⟩
theorem headOp_ok (b : Nat) : (headOp b).ok := by simp [headOp, Opr.ok, i64ok, Msg.ok]
theorem legs12_at {u : World} {b : Nat} {t : TypeId} {fr : Nat × Nat} (h : u.heap[b]? = some (.cells #[.int .u8 1, .int .u16 0, .int .u16 0, .int .u32 1, .int .u8 2, .int .u16 0, .int .u16 0, .int .u32 1] t fr)) : LegsAt u (some ⟨b, 0, none⟩) legs12 := by
  have hb := block_lt h
  have hk2 : ∀ k, k < legs12.length → k = 0 ∨ k = 1 := fun k hk => by have : k < 2 := hk; omega
  intro k hk
  refine ⟨⟨b, 0, none⟩, rfl, hb, fun j v hj => ?_⟩
  have e : ((⟨b, 0, none⟩ : Addr).add (k * 4)).add j = ⟨b, k * 4 + j, none⟩ := by
    rw [addr_add]
    unfold Addr.add
    split <;> simp_all
  have hj4 : j < 4 := by
    have := (List.getElem?_eq_some_iff.1 hj).1
    rwa [Pl.cells_length] at this
  rw [e, cell_at h]
  have hj' : j = 0 ∨ j = 1 ∨ j = 2 ∨ j = 3 := by omega
  rcases hk2 k hk with rfl | rfl <;> rcases hj' with rfl | rfl | rfl | rfl <;> exact hj
theorem head_deed (w0 : DBase) (N : Nat) (hN : N ≤ 999999999999) (w : World) (Wb : Nat) (own : Nat → Nat) (hs : List Office) (ll : List (Value × Nat)) (vd vl : Value) (I : DInv w0 w Wb own hs ll vd vl) (hok : ∀ h, h ∈ hs → h.ok N) (hl : 0 < hs.length) (hlen : ll.length ≤ 3999999999000)
    (u : World) (hu : Below w.heap.size w u) (b : Nat) (hb : w.heap.size ≤ b) (t : TypeId) (hbl : u.heap[b]? = some (.cells #[.int .u8 1, .int .u16 0, .int .u16 0, .int .u32 1, .int .u8 2, .int .u16 0, .int .u16 0, .int .u32 1] t (0, 0))) :
    Calls Tryz.prog 11 #[.pointer (some ⟨Wb, 0, none⟩), .pointer (some ⟨hs[0].hb, 0, none⟩), (headOp b).v] u fun e w' => e = .returned (.bool true) ∧ DGoes1 w0 N w' Wb hs ll ∧ w'.cell? ⟨Wb, 2, none⟩ = some vd ∧ (∀ g, vd.ownBlock = some g → w'.cell? ⟨g, 0, none⟩ = some (.pointer (some ⟨hs[0].hb, 0, none⟩))) ∧ w'.heap[b]? = u.heap[b]? := by
  have I0 := I.below0 hu
  have hbu := block_lt hbl
  have I1 := I0.up b hbu (by show (if b < w.heap.size then own b else 0) = 0; rw [if_neg (by omega)])
  have hp : (headOp b).paid (dbaseUp w0 u b I0.bel.size hbu) := ⟨7, 2, legs12, rfl, rfl, rfl, ⟨by show (7 : Nat) < 4294967296; decide, by show (2 : Nat) < 18446744073709551616; decide, fun l hl => by
    simp only [legs12, List.mem_cons, List.not_mem_nil, or_false] at hl
    rcases hl with rfl | rfl <;> simp [Pl.ok]⟩, by simp [headOp], by simp [legs12], ⟨legs12_at hbl, fun a e _ => by
      have e' : (⟨b, 0, none⟩ : Addr) = a := by simpa [headOp] using e
      subst e'
      exact .inr rfl⟩⟩
  refine (deed_any _ N hN u Wb _ hs ll vd vl I1 hok 0 hl (headOp b) (headOp_ok b) hp ⟨by simp [headOp], by simp [headOp]⟩ hlen).mono ?_
  rintro e w' ⟨rfl, own', hs', ll', vl', J, hok', hhb, hll⟩
  have hhb' : hs'.map Office.hb = hs.map Office.hb := by
    rw [hhb, show hs[0].hb = (hs.map Office.hb)[0]'(by simpa using hl) by simp]
    exact List.set_getElem_self _
  have hl' : hs'.length = hs.length := by have := congrArg List.length hhb'; simpa using this
  refine ⟨rfl, ⟨own', hs', ll', vd, vl', DInv.lower I0.bel J, hok', by omega, by omega, hll⟩, cell_at J.wblk 2, fun g hg => ?_, J.bel.block _ (.inr rfl)⟩
  obtain ⟨ad, cap, hv, hev⟩ := J.drow.form offCell_length
  obtain ⟨g', rfl, hcell, _⟩ := hev 0 (by omega)
  have c0 := hcell 0 (by decide)
  obtain rfl : g' = g := by rw [hv] at hg; simpa [Value.ownBlock] using hg
  simp only [offCell, List.getElem?_cons_zero, Nat.zero_mul, Nat.add_zero] at c0
  rw [c0]
  have : (hs'.map Office.hb)[0]'(by simp; omega) = (hs.map Office.hb)[0]'(by simpa using hl) := by simp only [hhb']
  simp only [List.getElem_map] at this
  rw [this]
/-- behind the head: one notary -/
def DBegun (w0 : DBase) (N : Nat) (Wb : Nat) (e : Ending) (w' : World) : Prop := e = .returned (.bool true) ∧ ∃ own' hs' ll' vd' vl', DInv w0 w' Wb own' hs' ll' vd' vl' ∧ (∀ h, h ∈ hs' → h.ok N) ∧ 1 ≤ hs'.length ∧ hs'.length ≤ 2 ∧ ll'.length ≤ 8
set_option maxRecDepth 100000 in
set_option maxHeartbeats 2000000 in
theorem dbegin_any (w0 : DBase) (w : World) (Wb : Nat) (own : Nat → Nat) (I : DInv w0 w Wb own [] [] (.slice none 0 0) (.slice none 0 0)) :
    Calls Tryz.prog 6 #[.pointer (some ⟨Wb, 0, none⟩), .bool false, .bool true] w (DBegun w0 1 Wb) := by
  have hM := hide (made_deed w0 0 w Wb own [] [] (.slice none 0 0) (.slice none 0 0) I (by simp) (by simp) 0 0 [] 0 0 0 0 0 0 0 0 [] 0 0 [] none 0 0 0 0)
  simp only [Opr.v, Opr.cells] at hM
  clear I
  go_enter Tryz.func6, Tryz.ntmps6
  go_wp2_with fail
  refine (hM.out).mono ?_
  rintro e w2 ⟨rfl, own', hs', vd', vl', J, hok', hl'⟩
  have hl1 : hs'.length = 1 := hl'
  obtain ⟨bad, bcap, hv, hev⟩ := J.drow.form offCell_length
  have h0 : 0 < hs'.length := by omega
  obtain ⟨bg, hbg, hcell, _⟩ := hev 0 h0
  subst hbg
  have cg := hcell 0 (by decide)
  simp only [offCell, List.getElem?_cons_zero, Nat.zero_mul, Nat.add_zero] at cg
  have hbgl : bg < w2.heap.size := J.drow.lt (by rw [hv]; rfl)
  have hWl : Wb < w2.heap.size := block_lt J.wblk
  have hH := fun u hu b hb t hbl => head_deed w0 0 (by decide) w2 Wb own' hs' [] vd' vl' J hok' h0 (by simp) u hu b hb t hbl
  generalize hs'[0].hb = hb at *
  subst hv
  have hc : ∀ o, w2.cell? ⟨Wb, o, none⟩ = (#[.bool w0.lg, w0.vb, .slice (some ⟨bg, 0, none⟩) 1 bcap, vl'] : Array Value)[o]? := fun o => by rw [← hl1]; exact cell_at J.wblk o
  simp only [headOp, Opr.v, Opr.cells] at hH
  replace hH := hide hH
  clear hM J hok' hev hcell
  replace hl1 := hide hl1
  clear hl' h0
  go_wp2_with fail
  refine (hH.out _ ((Below.refl _ _).alloc (Nat.le_refl _) _) w2.heap.size (Nat.le_refl _) _ (heap_alloc_self _ _)).mono ?_
  rintro e w3 ⟨rfl, hG, _⟩
  replace hG := hide hG
  clear hH hc cg
  go_wp2
  go_ret
  obtain ⟨own3, hs3, ll3, vd3, vl3, J, a1, a2, a3, a4⟩ := hG.out
  have hl := hl1.out
  have a4' : ll3.length ≤ 0 + 4 := a4
  exact ⟨rfl, own3, hs3, ll3, vd3, vl3, J, a1, by omega, by omega, by omega⟩
end Go.Proofs.YtjkhbjgfoopomaaGreat
/-
  The script of the statement Banks.
-/
namespace Go.Proofs.YtjkhbjgfoopomaaGreat
open Go.RowKit
set_option linter.unusedVariables false
set_option linter.unusedSimpArgs false
/-- a script that came in: each step's cells -/
structure Script (W : World) (sv : Value) (ops : List Opr) : Prop where
  form : ∃ ad cap, sv = .slice ad ops.length cap ∧ ∀ k (hk : k < ops.length), ∃ a, ad = some a ∧ a.block < W.heap.size ∧ ∀ j v, ops[k].cells.toList[j]? = some v → W.cell? ((a.add (k * 19)).add j) = some v
  ok : ∀ o, o ∈ ops → o.ok
  len : ops.length ≤ 977343669106
theorem add_block (a : Addr) (n : Nat) : (a.add n).block = a.block := by unfold Addr.add; split <;> rfl
/-- a struct as a whole is read, wherever it lies -/
theorem wpList_load_at {P : Program} {ops : Array Oper} {rest : List Oper} {op : Oper} {a : Act} {w : World} {Q : Exit → Act → World → Prop} (hgd : op.guard = none) (ty : TypeId) (x : Operand) (ho : op.op = .load ty x)
    (ad : Addr) (hx : a.eval x = .pointer (some ad)) (cs : List Value) (fs : Array Field) (hc : ∀ j v, cs[j]? = some v → w.cell? (ad.add j) = some v) (hu : P.underlying ty = some (.struct fs)) (hi : (P.info? ty).map (·.size) = some cs.length)
    (h : wpList P ops Q rest (a.put op.dst (.agg cs.toArray)) w) : wpList P ops Q (op :: rest) a w := by
  have hl : (loadCells ad cs.length).run P w = .ok cs.toArray w := run_loadCells_list (P := P) w ad cs hc
  have hv : (loadVar ty ad).run P w = .ok (.agg cs.toArray) w := by
    cases hq : P.info? ty with
    | none => simp [hq] at hi
    | some i =>
      have hs : i.size = cs.length := by simpa [hq] using hi
      have hagg : (isAgg ty).run P w = .ok true w := by
        unfold isAgg
        rw [Sem.run_bind, run_underlying hu w]
        simp
      simp [loadVar, Sem.run_bind, hagg, sizeOf, typeInfo, hq, hs, hl]
  refine wpList_plain hgd fun K hK => ?_
  unfold Oper.wp execOp
  simp only [ho, hx, Instr.loadAt, Instr.sureAddr, Sem.run_bind, Sem.run_pure, Result.andThen_ok, hv]
  exact hK _ _ h

theorem stopLoadP {P : Program} {ops : Array Oper} {rest : List Oper} {a : Act} {w : World} {Q : Exit → Act → World → Prop} {d : Option Tmp} {ty : TypeId} {p : String} {af : Array Edge} {gd : Option (Nat × Bool)} {x : Operand} (T : TypeId) (h : Hid (wpList P ops Q ({ dst := d, op := Op.load T x, type := ty, pos := p, after := af, guard := gd } :: rest) a w)) : wpList P ops Q ({ dst := d, op := Op.load T x, type := ty, pos := p, after := af, guard := gd } :: rest) a w := h
theorem stopStoreP {P : Program} {ops : Array Oper} {rest : List Oper} {a : Act} {w : World} {Q : Exit → Act → World → Prop} {d : Option Tmp} {ty : TypeId} {p : String} {af : Array Edge} {gd : Option (Nat × Bool)} {x y : Operand} (T : TypeId) (h : Hid (wpList P ops Q ({ dst := d, op := Op.store T x y, type := ty, pos := p, after := af, guard := gd } :: rest) a w)) : wpList P ops Q ({ dst := d, op := Op.store T x y, type := ty, pos := p, after := af, guard := gd } :: rest) a w := h
theorem setCells_putL (b : Nat) : ∀ (vs : List Value) (o : Nat) (w : World), w.setCells b o vs = putL w b o vs
  | [], _, _ => rfl
  | v :: r, o, w => setCells_putL b r (o + 1) (w.setCell ⟨b, o, none⟩ v)
theorem there_new (w : World) (Z : Array Value) (T : TypeId) (n : Nat) (h : n ≤ Z.size) : (w.alloc (.cells Z T)).there w.heap.size 0 n := by
  intro j hj
  rw [Nat.zero_add, World.cell?_alloc_new]
  exact ⟨by rw [Array.getElem?_eq_getElem (by omega)]; rfl, by simp⟩
theorem op_one (o : Opr) : o.cells.all (·.oneCell') = true := by
  refine Array.all_eq_true_iff_forall_mem.2 (fun v hv => ?_)
  simp only [Opr.cells, List.mem_toArray, List.mem_cons, List.not_mem_nil, or_false] at hv
  rcases hv with h | h | h | h | h | h | h | h | h | h | h | h | h | h | h | h | h | h | h <;> subst h <;> rfl
theorem boxed {w U : World} {Z : Array Value} {T : TypeId} {cs : List Value} (hU : (w.alloc (.cells Z T)).setCells w.heap.size 0 cs = U) (hz : Z.size = cs.length) : U.heap[w.heap.size]? = some (.cells cs.toArray T (0, 0)) ∧ Below w.heap.size w U := by
  subst hU
  rw [setCells_putL]
  refine ⟨putL_whole cs (heap_alloc_self _ _) hz, ((Below.refl _ _).alloc (Nat.le_refl _) _).trans ((putL_kept cs _ _ _).below (by simp) (fun k e => by omega))⟩
end Go.Proofs.YtjkhbjgfoopomaaGreat
