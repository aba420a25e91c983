import Derived.Test.YtjkhbjgfoopomaaGreatG13
import Derived.Test.YtjkhbjgfoopomaaGreatG7
import Derived.Deep.MidRow
import Derived.Test.YtjkhbjgfoopomaaGreatG25
import Derived.Laws.CopyOwn
/-
  A step of a script; its frame; the program's Handle in package escrow.
-/
namespace Go.Proofs.YtjkhbjgfoopomaaGreat
open Go.RowKit
set_option linter.unusedVariables false
set_option linter.unusedSimpArgs false
structure Opr where
  kind : Int
  at_ : Int
  n : Int
  s : List UInt8
  msg : Msg
  pid : Int
  dead : Int
  memo : List UInt8
  legs : Option Addr
  llen : Nat
  lcap : Nat
  acc : Nat
  amt : Nat
def i64ok (x : Int) : Prop := -9223372036854775808 ≤ x ∧ x ≤ 9223372036854775807
def Opr.ok (o : Opr) : Prop := i64ok o.kind ∧ i64ok o.at_ ∧ i64ok o.n ∧ o.s.length ≤ 140737488351232 ∧ o.msg.ok ∧ o.msg.m.length ≤ 140737488351232 ∧ o.acc < 65536 ∧ o.amt < 4294967296
def Opr.cells (o : Opr) : Array Value := #[.int .i64 o.kind, .int .i64 o.at_, .int .i64 o.n, .string (bs o.s), .int .u8 (o.msg.k : Int), .int .u8 (o.msg.f : Int), .int .u8 (o.msg.t : Int), .int .u32 (o.msg.i : Int), .int .u8 (o.msg.l : Int), .int .u16 (o.msg.p : Int), .int .u16 (o.msg.g : Int), .int .u32 (o.msg.a : Int), .string (bs o.msg.m),
  .int .u32 o.pid, .int .u64 o.dead, .string (bs o.memo), .slice o.legs o.llen o.lcap, .int .u16 (o.acc : Int), .int .u32 (o.amt : Int)]
def Opr.v (o : Opr) : Value := .agg o.cells
/-- the frame of a step -/
def Opr.frame (o : Opr) : List UInt8 := if o.s = [] then encOf o.msg else o.s

set_option maxRecDepth 100000 in
set_option maxHeartbeats 1000000 in
theorem frame_any (o : Opr) (ho : o.ok) (w : World) : Calls Tryz.prog 29 #[o.v] w fun e w' => e = .returned (.string (bs o.frame)) ∧ Below w.heap.size w w' := by
  have hz : Hid (o.frame = if o.s = [] then encOf o.msg else o.s) := hide rfl
  have hE := hide (refEncode_any o.msg ho.2.2.2.2.1 ho.2.2.2.2.2.1)
  generalize o.frame = F at *
  obtain ⟨kind, at_, n, s, ⟨k, f, t, i, l, p, g, a, m⟩, pid, dead, memo, legs, llen, lcap, acc, amt⟩ := o
  simp only [Opr.v, Opr.cells, Msg.v, Msg.cells] at *
  generalize encOf _ = E at *
  generalize faultOf _ = fv at *
  by_cases h0 : s = []
  · subst h0
    have hq : Hid (F = E) := hide (by rw [hz.out]; simp)
    have d0 : (bs []).toList.isEmpty = true := by rw [bs_toList]; rfl
    clear hz ho
    go_enter Tryz.func29, Tryz.ntmps29
    go_wp2_with fail
    refine (hE.out _).mono ?_
    rintro e w1 ⟨rfl, hb⟩
    clear hE
    go_wp2
    go_ret
    exact ⟨by rw [hq.out]; rfl, all_kept hb⟩
  · have hq : Hid (F = s) := hide (by rw [hz.out]; simp [h0])
    have d0 : (bs s).toList.isEmpty = false := by rw [bs_toList]; simpa using h0
    clear hz ho
    go_enter Tryz.func29, Tryz.ntmps29
    go_wp2
    go_ret
    exact ⟨by rw [hq.out]; rfl, (Below.refl _ _).alloc (Nat.le_refl _) _⟩
end Go.Proofs.YtjkhbjgfoopomaaGreat
/-
  A step of the statement Banks: what all of them use.
-/
namespace Go.Proofs.YtjkhbjgfoopomaaGreat
open Go.RowKit
set_option linter.unusedVariables false
set_option linter.unusedSimpArgs false
theorem MemInv.at {w0 : Base} {w : World} {Wb : Nat} {own : Nat → Nat} {hs : List House} {ll : List (Value × Nat)} {vb vl : Value} {i : Nat} {x : House} (hi : i < hs.length) (I : MemInv w0 w Wb own (hs.set i x) ll vb vl) : HouseMem w own (6 + 8 * i) x := by
  have h := I.house i (by simpa using hi)
  rw [List.getElem_set_self] at h
  exact h
theorem foot_lt {w : World} {own : Nat → Nat} {o : Nat} {h : House} (H : HouseMem w own o h) : (∀ k, xfoot h.xb h.va h.vl k → k < w.heap.size) ∧ ∀ k, (k = h.rb ∨ h.v.ownBlock = some k) → k < w.heap.size := by
  constructor
  · rintro k (rfl | hk | hk)
    · exact H.x.lt
    · exact H.x.arow.lt hk
    · exact H.x.lrow.lt hk
  · rintro k (rfl | hk)
    · exact H.r.lt
    · exact H.r.row.lt hk

theorem MemInv.xstepS {w0 : Base} {w w' : World} {Wb : Nat} {own : Nat → Nat} {hs : List House} {ll : List (Value × Nat)} {vb vl : Value} {i : Nat} {x : House} (I : MemInv w0 w Wb own (hs.set i x) ll vb vl) (hi : i < hs.length) (lv : Value) (ac' : List Ac) (ls' : List Lg) (va' vl' : Value) (hT : XBTo w w' x.xb x.node ac' ls' x.va x.vl va' vl') (hf : ∀ g, lv.ownBlock = some g → w.heap.size ≤ g ∧ va'.ownBlock ≠ some g ∧ vl'.ownBlock ≠ some g) :
    MemInv w0 w' Wb (fun k => if k < w.heap.size then own k else if lv.ownBlock = some k then 4 else 7 + 8 * i) (hs.set i { x with ac := ac', ls := ls', va := va', vl := vl' }) ll vb vl := by
  have h := I.xstep (w' := w') i (by simpa using hi) lv ac' ls' va' vl'
  simp only [List.getElem_set_self, List.set_set] at h
  exact h hT hf
theorem MemInv.rstepS {w0 : Base} {w w' : World} {Wb : Nat} {own : Nat → Nat} {hs : List House} {ll : List (Value × Nat)} {vb vl : Value} {i : Nat} {x : House} (I : MemInv w0 w Wb own (hs.set i x) ll vb vl) (hi : i < hs.length) (evs' : List Ev) (v' : Value) (hT : RBTo w w' x.rb x.node evs' x.v v') :
    MemInv w0 w' Wb (fun k => if k < w.heap.size then own k else 8 + 8 * i) (hs.set i { x with evs := evs', v := v' }) ll vb vl := by
  have h := I.rstep (w' := w') i (by simpa using hi) evs' v'
  simp only [List.getElem_set_self, List.set_set] at h
  exact h hT
theorem MemInv.gstepS {w0 : Base} {w w' : World} {Wb : Nat} {own : Nat → Nat} {hs : List House} {ll : List (Value × Nat)} {vb vl : Value} {i : Nat} {x : House} (I : MemInv w0 w Wb own (hs.set i x) ll vb vl) (hi : i < hs.length) (lg' : List (List UInt8 × Nat)) (vg' : Value) (hk : Kept (fun k => k = x.hb ∨ x.vg.ownBlock = some k) w w')
    (hblk : w'.heap[x.hb]? = some (.cells #[.pointer (some ⟨x.xb, 0, none⟩), .pointer (some ⟨x.rb, 0, none⟩), vg'] 80 (0, 0))) (hrow : RowOf w' 152 2 logCell vg' lg') (hown : ∀ g, vg'.ownBlock = some g → x.vg.ownBlock = some g ∨ w.heap.size ≤ g) :
    MemInv w0 w' Wb (fun k => if k < w.heap.size then own k else 9 + 8 * i) (hs.set i { x with lg := lg', vg := vg' }) ll vb vl := by
  have h := I.gstep (w' := w') i (by simpa using hi) lg' vg'
  simp only [List.getElem_set_self, List.set_set] at h
  exact h hk hblk hrow hown
/-- the log is laid down in its house -/
theorem MemInv.log {w0 : Base} {w w1 : World} {Wb : Nat} {own : Nat → Nat} {hs : List House} {ll : List (Value × Nat)} {vb vl : Value} {i : Nat} {x : House} (I : MemInv w0 w Wb own (hs.set i x) ll vb vl) (hi : i < hs.length) (lg' : List (List UInt8 × Nat)) (vg' : Value) (hk : Kept (fun k => x.vg.ownBlock = some k) w w1)
    (hrow : RowOf w1 152 2 logCell vg' lg') (hown : ∀ g, vg'.ownBlock = some g → x.vg.ownBlock = some g ∨ w.heap.size ≤ g) :
    w1.heap[x.hb]? = some (.cells #[.pointer (some ⟨x.xb, 0, none⟩), .pointer (some ⟨x.rb, 0, none⟩), x.vg] 80 (0, 0)) ∧ MemInv w0 (w1.setCell ⟨x.hb, 2, none⟩ vg') Wb (fun k => if k < w.heap.size then own k else 9 + 8 * i) (hs.set i { x with lg := lg', vg := vg' }) ll vb vl := by
  have H := MemInv.at hi I
  have hnb : x.vg.ownBlock ≠ some x.hb := fun e => by have h1 := H.gown _ e; rw [H.hown] at h1; omega
  have hb1 : w1.heap[x.hb]? = some (.cells #[.pointer (some ⟨x.xb, 0, none⟩), .pointer (some ⟨x.rb, 0, none⟩), x.vg] 80 (0, 0)) := by rw [hk.block _ (block_lt H.blk) hnb]; exact H.blk
  refine ⟨hb1, I.gstepS hi lg' vg' ((hk.mono (fun i _ h => .inr h)).trans (Kept.of_setCell _ _ _) (fun i h => .inl (.inl h))) (heap_set_self hb1 2 _) (hrow.kept (Kept.of_setCell _ _ _) (fun g hg e => ?_)) hown⟩
  have e' : g = x.hb := e
  subst e'
  rcases hown _ hg with h | h
  · exact hnb h
  · have := block_lt H.blk; omega
end Go.Proofs.YtjkhbjgfoopomaaGreat
/-
  A step of the statement Banks: a step's cells as a whole; a list that came out.
-/
namespace Go.Proofs.YtjkhbjgfoopomaaGreat
open Go.RowKit
set_option linter.unusedVariables false
set_option linter.unusedSimpArgs false
theorem opSize : (Tryz.prog.info? 46).map (·.size) = some 19 := by kernel_rfl
theorem op_range (o : Opr) (w : World) : (w.alloc (.cells o.cells 46)).rangeAt w.heap.size 0 o.cells.toList := by
  intro j v hj
  rw [Nat.zero_add, World.cell?_alloc_new]
  simpa using hj
/-- a list that came out is no other list -/
theorem MemInv.apartL {w0 : Base} {w : World} {Wb : Nat} {own : Nat → Nat} {hs : List House} {ll : List (Value × Nat)} {vb vl : Value} (I : MemInv w0 w Wb own hs ll vb vl) {lv : Value} (hf : ∀ g, lv.ownBlock = some g → w.heap.size ≤ g) : ∀ i (hi : i < ll.length), ∀ g, ll[i].1.ownBlock = some g → lv.ownBlock ≠ some g := by
  intro i hi g hg e
  have h1 := (I.full i hi).2.lt hg
  have h2 := hf g e
  omega
theorem MemInv.sep {w0 : Base} {w : World} {Wb : Nat} {own : Nat → Nat} {hs : List House} {ll : List (Value × Nat)} {vb vl : Value} (I : MemInv w0 w Wb own hs ll vb vl) {lv : Value} (hlo : ∀ g, lv.ownBlock = some g → own g = 4) : vl.ownBlock ≠ some Wb ∧ lv.ownBlock ≠ some Wb ∧ ∀ g, lv.ownBlock = some g → vl.ownBlock ≠ some g := by
  refine ⟨fun e => ?_, fun e => ?_, fun g hg e => ?_⟩
  · have h1 := I.lown _ e; rw [I.wown] at h1; omega
  · have h1 := hlo _ e; rw [I.wown] at h1; omega
  · have h1 := I.lown _ e; rw [hlo g hg] at h1; omega
end Go.Proofs.YtjkhbjgfoopomaaGreat
/-
  A step of the statement Deeds: what all of them use.
-/
namespace Go.Proofs.YtjkhbjgfoopomaaGreat
open Go.RowKit
set_option linter.unusedVariables false
set_option linter.unusedSimpArgs false
/-- the world goes on, all in order -/
def DGoes (w0 : DBase) (N : Nat) (w' : World) (Wb : Nat) (hs : List Office) (ll : List (Value × Nat)) (vd : Value) (i hb : Nat) : Prop :=
  ∃ own' hs' ll' vl', DInv w0 w' Wb own' hs' ll' vd vl' ∧ (∀ h, h ∈ hs' → h.ok (N + 1)) ∧ hs'.map Office.hb = (hs.map Office.hb).set i hb ∧ ll'.length ≤ ll.length + 4
theorem os_set_ok {N M : Nat} {hs : List Office} (hNM : N ≤ M) (hok : ∀ h, h ∈ hs → h.ok N) (i : Nat) (x : Office) (hx : x.ok M) : ∀ h, h ∈ hs.set i x → h.ok M := by
  intro h hh
  rcases List.mem_or_eq_of_mem_set hh with h' | h'
  · have := hok h h'
    exact ⟨this.1, this.2.1, Nat.le_trans this.2.2 hNM⟩
  · rw [h']; exact hx
theorem DInv.at {w0 : DBase} {w : World} {Wb : Nat} {own : Nat → Nat} {hs : List Office} {ll : List (Value × Nat)} {vd vl : Value} {i : Nat} {x : Office} (hi : i < hs.length) (I : DInv w0 w Wb own (hs.set i x) ll vd vl) : OffMem w own (10 + 8 * i) x := by
  have h := I.house i (by simpa using hi)
  rw [List.getElem_set_self] at h
  exact h
theorem DInv.xstepS {w0 : DBase} {w w' : World} {Wb : Nat} {own : Nat → Nat} {hs : List Office} {ll : List (Value × Nat)} {vd vl : Value} {i : Nat} {x : Office} (I : DInv w0 w Wb own (hs.set i x) ll vd vl) (hi : i < hs.length) (lv : Value) (ck' : Nat) (ps' : List Xp) (xv' : Value) (hT : XDTo w w' x.xb ck' x.ps ps' x.xv xv') (hf : ∀ g, lv.ownBlock = some g → w.heap.size ≤ g ∧ ¬ xdfoot x.xb ps' xv' g) :
    DInv w0 w' Wb (fun k => if k < w.heap.size then own k else if lv.ownBlock = some k then 4 else 11 + 8 * i) (hs.set i { x with ck := ck', ps := ps', xv := xv' }) ll vd vl := by
  have h := I.xstep (w' := w') i (by simpa using hi) lv ck' ps' xv'
  simp only [List.getElem_set_self, List.set_set] at h
  exact h hT hf
theorem DInv.rstepS {w0 : DBase} {w w' : World} {Wb : Nat} {own : Nat → Nat} {hs : List Office} {ll : List (Value × Nat)} {vd vl : Value} {i : Nat} {x : Office} (I : DInv w0 w Wb own (hs.set i x) ll vd vl) (hi : i < hs.length) (acts' : List Dt) (v' : Value) (hT : RDTo w w' x.rb x.acts acts' x.v v') :
    DInv w0 w' Wb (fun k => if k < w.heap.size then own k else 12 + 8 * i) (hs.set i { x with acts := acts', v := v' }) ll vd vl := by
  have h := I.rstep (w' := w') i (by simpa using hi) acts' v'
  simp only [List.getElem_set_self, List.set_set] at h
  exact h hT
theorem DInv.gstepS {w0 : DBase} {w w' : World} {Wb : Nat} {own : Nat → Nat} {hs : List Office} {ll : List (Value × Nat)} {vd vl : Value} {i : Nat} {x : Office} (I : DInv w0 w Wb own (hs.set i x) ll vd vl) (hi : i < hs.length) (lg' : List (List UInt8 × Nat)) (vg' : Value) (hk : Kept (fun k => k = x.hb ∨ x.vg.ownBlock = some k) w w')
    (hblk : w'.heap[x.hb]? = some (.cells #[.pointer (some ⟨x.xb, 0, none⟩), .pointer (some ⟨x.rb, 0, none⟩), vg'] 68 (0, 0))) (hrow : RowOf w' 152 2 logCell vg' lg') (hown : ∀ g, vg'.ownBlock = some g → x.vg.ownBlock = some g ∨ w.heap.size ≤ g) :
    DInv w0 w' Wb (fun k => if k < w.heap.size then own k else 13 + 8 * i) (hs.set i { x with lg := lg', vg := vg' }) ll vd vl := by
  have h := I.gstep (w' := w') i (by simpa using hi) lg' vg'
  simp only [List.getElem_set_self, List.set_set] at h
  exact h hk hblk hrow hown
/-- the log is laid down in its office -/
theorem DInv.log {w0 : DBase} {w w1 : World} {Wb : Nat} {own : Nat → Nat} {hs : List Office} {ll : List (Value × Nat)} {vd vl : Value} {i : Nat} {x : Office} (I : DInv w0 w Wb own (hs.set i x) ll vd vl) (hi : i < hs.length) (lg' : List (List UInt8 × Nat)) (vg' : Value) (hk : Kept (fun k => x.vg.ownBlock = some k) w w1)
    (hrow : RowOf w1 152 2 logCell vg' lg') (hown : ∀ g, vg'.ownBlock = some g → x.vg.ownBlock = some g ∨ w.heap.size ≤ g) :
    w1.heap[x.hb]? = some (.cells #[.pointer (some ⟨x.xb, 0, none⟩), .pointer (some ⟨x.rb, 0, none⟩), x.vg] 68 (0, 0)) ∧ DInv w0 (w1.setCell ⟨x.hb, 2, none⟩ vg') Wb (fun k => if k < w.heap.size then own k else 13 + 8 * i) (hs.set i { x with lg := lg', vg := vg' }) ll vd vl := by
  have H := DInv.at hi I
  have hnb : x.vg.ownBlock ≠ some x.hb := fun e => by have h1 := H.gown _ e; rw [H.hown] at h1; omega
  have hb1 : w1.heap[x.hb]? = some (.cells #[.pointer (some ⟨x.xb, 0, none⟩), .pointer (some ⟨x.rb, 0, none⟩), x.vg] 68 (0, 0)) := by rw [hk.block _ (block_lt H.blk) hnb]; exact H.blk
  refine ⟨hb1, I.gstepS hi lg' vg' ((hk.mono (fun i _ h => .inr h)).trans (Kept.of_setCell _ _ _) (fun i h => .inl (.inl h))) (heap_set_self hb1 2 _) (hrow.kept (Kept.of_setCell _ _ _) (fun g hg e => ?_)) hown⟩
  have e' : g = x.hb := e
  subst e'
  rcases hown _ hg with h | h
  · exact hnb h
  · have := block_lt H.blk; omega
/-- what a step on a notary answers -/
def DeedSays (w0 : DBase) (N : Nat) (Wb : Nat) (hs : List Office) (ll : List (Value × Nat)) (vd : Value) (i hb : Nat) (e : Ending) (w' : World) : Prop := e = .returned (.bool true) ∧ DGoes w0 N w' Wb hs ll vd i hb
theorem dgoes_of {w0 : DBase} {N : Nat} {w' : World} {Wb : Nat} {own : Nat → Nat} {hs : List Office} {ll ll' : List (Value × Nat)} {vd vl : Value} {i : Nat} {x : Office} (I : DInv w0 w' Wb own (hs.set i x) ll' vd vl) (hok : ∀ h, h ∈ hs → h.ok N) (hx : x.ok (N + 1)) (hl : ll'.length ≤ ll.length + 4) : DGoes w0 N w' Wb hs ll vd i x.hb :=
  ⟨own, hs.set i x, ll', vl, I, os_set_ok (Nat.le_succ _) hok i x hx, by rw [List.map_set], hl⟩
/-- a list that came out is no other list -/
theorem DInv.apartL {w0 : DBase} {w : World} {Wb : Nat} {own : Nat → Nat} {hs : List Office} {ll : List (Value × Nat)} {vd vl : Value} (I : DInv w0 w Wb own hs ll vd vl) {lv : Value} (hf : ∀ g, lv.ownBlock = some g → w.heap.size ≤ g) : ∀ i (hi : i < ll.length), ∀ g, ll[i].1.ownBlock = some g → lv.ownBlock ≠ some g := by
  intro i hi g hg e
  have h1 := (I.full i hi).2.lt hg
  have h2 := hf g e
  omega
theorem DInv.sep {w0 : DBase} {w : World} {Wb : Nat} {own : Nat → Nat} {hs : List Office} {ll : List (Value × Nat)} {vd vl : Value} (I : DInv w0 w Wb own hs ll vd vl) {lv : Value} (hlo : ∀ g, lv.ownBlock = some g → own g = 4) : vl.ownBlock ≠ some Wb ∧ lv.ownBlock ≠ some Wb ∧ ∀ g, lv.ownBlock = some g → vl.ownBlock ≠ some g := by
  refine ⟨fun e => ?_, fun e => ?_, fun g hg e => ?_⟩
  · have h1 := I.lown _ e; rw [I.wown] at h1; omega
  · have h1 := hlo _ e; rw [I.wown] at h1; omega
  · have h1 := I.lown _ e; rw [hlo g hg] at h1; omega
end Go.Proofs.YtjkhbjgfoopomaaGreat
/-
  The statement's lent: legs copied into a new row, with others behind them.
-/
namespace Go.Proofs.YtjkhbjgfoopomaaGreat
open Go.RowKit
set_option linter.unusedVariables false
set_option linter.unusedSimpArgs false
theorem run_copy_many {P : Program} (w : World) (dT sT ty elem : TypeId) (sz g o dLen dCap : Nat) (a : Addr) (sLen sCap : Nat) (cur : Array Value) (t : TypeId) (cs : List Value)
    (hu : P.underlying dT = some (.slice elem)) (hs : (P.info? elem).map (·.size) = some sz)
    (hg : w.heap[g]? = some (.cells cur t (0, 0))) (hn : cs.length = Nat.min sLen dLen * sz)
    (hsrc : ∀ j v, cs[j]? = some v → w.cell? (a.add j) = some v) (hfit : o + cs.length ≤ cur.size) (h1 : ∀ v ∈ cs, v.oneCell' = true) :
    (Builtin.copy_ #[dT, sT] ty #[.slice (some ⟨g, o, none⟩) dLen dCap, .slice (some a) sLen sCap]).run P w =
      .ok (goInt (Nat.min sLen dLen : Nat)) (w.setRow g (cur.toList.take o ++ cs ++ cur.toList.drop (o + cs.length)).toArray) := by
  have hl := run_loadCells_list (P := P) w a cs hsrc
  have hst := run_storeCells_at P g o t cs 0 cur w hg (by simpa using hfit) h1
  cases hq : P.info? elem with
  | none => simp [hq] at hs
  | some i =>
    have hi : i.size = sz := by simpa [hq] using hs
    simp [Builtin.copy_, run_underlying hu, Builtin.lenOf, Builtin.firstCells, sizeOf, typeInfo, hq, hi, ← hn, hl, hst]
theorem run_copy_zero {P : Program} (w : World) (dT sT ty elem : TypeId) (sz g dLen dCap : Nat) (ad : Option Addr) (sCap : Nat) (cur : Array Value) (t : TypeId) (hg : w.heap[g]? = some (.cells cur t (0, 0)))
    (hu : P.underlying dT = some (.slice elem)) (hs : (P.info? elem).map (·.size) = some sz) :
    (Builtin.copy_ #[dT, sT] ty #[.slice (some ⟨g, 0, none⟩) dLen dCap, .slice ad 0 sCap]).run P w = .ok (goInt 0) w := by
  cases hq : P.info? elem with
  | none => simp [hq] at hs
  | some i =>
    cases ad with
    | none => simp [Builtin.copy_, run_underlying hu, Builtin.lenOf, Builtin.firstCells, sizeOf, typeInfo, hq, storeCells]
    | some a =>
      have hl := run_loadCells_list (P := P) w a [] (by simp)
      simp at hl
      simp [Builtin.copy_, run_underlying hu, Builtin.lenOf, Builtin.firstCells, sizeOf, typeInfo, hq, storeCells, hl]
theorem RowOf.cut {α : Type} {f : α → List Value} {sz : Nat} (hf : ∀ x, (f x).length = sz) {w : World} {e : TypeId} {g cap : Nat} {xs ys : List α} (h : RowOf w e sz f (.slice (some ⟨g, 0, none⟩) (xs ++ ys).length cap) (xs ++ ys)) : RowOf w e sz f (.slice (some ⟨g, 0, none⟩) xs.length cap) xs := by
  refine ⟨flat_length hf xs, ?_⟩
  rcases h.2 with ⟨h1, h2⟩ | ⟨g', cap', cur, h1, h2, h3, h4, h5, h6, h7⟩
  · cases h1
  · injection h1 with e1 e2 e3
    injection e1 with e1
    injection e1 with e1
    subst e1 e3
    refine .inr ⟨g, cap, cur, rfl, h2, h3, by simp at h4; omega, h5, h6, ?_⟩
    have e4 : (xs ++ ys).flatMap f = xs.flatMap f ++ ys.flatMap f := List.flatMap_append ..
    have e5 := congrArg (List.take (xs.length * sz)) h7
    rw [List.take_take, Nat.min_eq_left (Nat.mul_le_mul_right _ (by simp)), e4, List.take_append, flat_length hf, Nat.sub_self, List.take_zero, List.append_nil] at e5
    rw [e5]
    exact List.take_of_length_le (by rw [flat_length hf]; exact Nat.le_refl _)
def leg77 : Pl := ⟨77, 0, 0, 0⟩
def leg99 : Pl := ⟨99, 0, 0, 0⟩
def legNo : Pl := ⟨0, 0, 0, 0⟩
theorem made_legs (n : Nat) : (madeCells (Value.agg #[.int .u8 0, .int .u16 0, .int .u16 0, .int .u32 0]).cells (n * 4)).toList = (List.replicate n legNo).flatMap Pl.cells := by
  have hz : (Value.agg #[.int .u8 0, .int .u16 0, .int .u16 0, .int .u32 0]).cells = #[.int .u8 0, .int .u16 0, .int .u16 0, .int .u32 0] := rfl
  rw [hz]
  induction n with
  | zero => simp [madeCells]
  | succ n ih =>
    rw [List.replicate_succ', List.flatMap_append, ← ih]
    have e : (n + 1) * 4 = n * 4 + 1 + 1 + 1 + 1 := by omega
    have m0 : n * 4 % 4 = 0 := by omega
    have m1 : (n * 4 + 1) % 4 = 1 := by omega
    have m2 : (n * 4 + 1 + 1) % 4 = 2 := by omega
    have m3 : (n * 4 + 1 + 1 + 1) % 4 = 3 := by omega
    simp only [madeCells, Array.toList_map, Array.toList_range, e, List.range_succ, List.map_append, List.map_cons, List.map_nil, List.append_assoc]
    congr 1
    simp [m0, m1, m2, m3, legNo, Pl.cells]
end Go.Proofs.YtjkhbjgfoopomaaGreat
