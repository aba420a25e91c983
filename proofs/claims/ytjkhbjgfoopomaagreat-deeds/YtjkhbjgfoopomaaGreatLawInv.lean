import Derived.Test.YtjkhbjgfoopomaaGreatG8
import Derived.Test.YtjkhbjgfoopomaaGreatG12
import Derived.Test.YtjkhbjgfoopomaaGreatG7
import Derived.Test.YtjkhbjgfoopomaaGreatG5
import Derived.Test.YtjkhbjgfoopomaaGreatG1
import Derived.Deep.RegionHeld3
import Derived.Test.YtjkhbjgfoopomaaGreatG11
import Derived.Test.YtjkhbjgfoopomaaGreatG9
/-
  What the statement Banks keeps in memory: an owner for each block.
-/
namespace Go.Proofs.YtjkhbjgfoopomaaGreat
open Go.RowKit
set_option linter.unusedVariables false
set_option linter.unusedSimpArgs false

/-- a house: the blocks of its struct, of the program's bank, of the document's; how they stand -/
structure House where
  hb : Nat
  xb : Nat
  rb : Nat
  node : Nat
  evs : List Ev
  ac : List Ac
  ls : List Lg
  va : Value
  vl : Value
  v : Value
  lg : List (List UInt8 × Nat)
  vg : Value
/-- what a bank logs of an event -/
def textOf (e : Ev) : List UInt8 := if e.kind = 0 then openTextOf e.msg.p e.msg.a else frameOf e.msg
/-- a bank's log -/
def logOf (evs : List Ev) : List (List UInt8 × Nat) := evs.mapIdx fun j e => (textOf e, j)
def House.ok (h : House) : Prop := Rel h.evs h.ac h.ls ∧ 1 ≤ h.node ∧ h.node ≤ 7 ∧ h.lg = logOf h.evs
structure HouseMem (w : World) (own : Nat → Nat) (o : Nat) (h : House) : Prop where
  blk : w.heap[h.hb]? = some (.cells #[.pointer (some ⟨h.xb, 0, none⟩), .pointer (some ⟨h.rb, 0, none⟩), h.vg] 80 (0, 0))
  hown : own h.hb = o
  x : XB w h.xb h.node h.ac h.ls h.va h.vl
  xap : Apart h.xb h.va h.vl
  xown : ∀ k, xfoot h.xb h.va h.vl k → own k = o + 1
  r : RB w h.rb h.node h.evs h.v
  rap : h.v.ownBlock ≠ some h.rb
  rown : ∀ k, (k = h.rb ∨ h.v.ownBlock = some k) → own k = o + 2
  grow : RowOf w 152 2 logCell h.vg h.lg
  gown : ∀ g, h.vg.ownBlock = some g → own g = o + 3
def ptrCell (h : House) : List Value := [.pointer (some ⟨h.hb, 0, none⟩)]
/-- the owners that are no bank's: the notaries -/
def offCls (c : Nat) : Prop := c = 5 ∨ (6 ≤ c ∧ 4 ≤ (c - 6) % 8)
/-- a world, and the blocks of it that stay as they are; whether logs are asked for; the notaries, and what holds of them, whatever is done elsewhere -/
structure Base where
  w : World
  F : Nat → Prop
  lt : ∀ k, F k → k < w.heap.size
  lg : Bool
  vd : Value
  Q : World → (Nat → Nat) → Prop
  loc : ∀ (u u' : World) (own own' : Nat → Nat) (S : Nat → Prop), Q u own → Kept S u u' → (∀ k, k < u.heap.size → S k → ¬ offCls (own k)) → (∀ k, k < u.heap.size → own' k = own k) → Q u' own'
structure BelF (w0 : Base) (w : World) : Prop where
  os : w.os = w0.w.os
  tape : w.tape = w0.w.tape
  output : w.output = w0.w.output
  size : w0.w.heap.size ≤ w.heap.size
  block : ∀ k, w0.F k → w.heap[k]? = w0.w.heap[k]?
theorem BelF.kept {w0 : Base} {w w' : World} {S : Nat → Prop} (h : BelF w0 w) (hk : Kept S w w') (hS : ∀ k, w0.F k → ¬ S k) : BelF w0 w' :=
  ⟨hk.os.trans h.os, hk.tape.trans h.tape, hk.output.trans h.output, Nat.le_trans h.size hk.size, fun k hF => (hk.block k (Nat.lt_of_lt_of_le (w0.lt k hF) h.size) (hS k hF)).trans (h.block k hF)⟩
structure MemInv (w0 : Base) (w : World) (Wb : Nat) (own : Nat → Nat) (hs : List House) (ll : List (Value × Nat)) (vb vl : Value) : Prop where
  bel : BelF w0 w
  old : ∀ k, own k ≠ 0 → ¬ w0.F k
  wblk : w.heap[Wb]? = some (.cells #[.bool w0.lg, vb, w0.vd, vl] 30 (0, 0))
  wown : own Wb = 1
  brow : RowOf w 50 1 ptrCell vb hs
  bown : ∀ g, vb.ownBlock = some g → own g = 2
  lrow : RowOf w 59 1 lstCell vl ll
  lown : ∀ g, vl.ownBlock = some g → own g = 3
  full : ∀ i (hi : i < ll.length), ll[i].2 ≤ 1000000 ∧ RowOf w 9 1 txtCell ll[i].1 (List.replicate ll[i].2 (markB (i / 4 + 1)))
  fown : ∀ i (hi : i < ll.length), ∀ g, ll[i].1.ownBlock = some g → own g = 4
  four : ll.length % 4 = 0
  house : ∀ i (hi : i < hs.length), HouseMem w own (6 + 8 * i) hs[i]
  oth : w0.Q w own

section
variable {w0 : Base} {w w' : World} {Wb : Nat} {own own' : Nat → Nat} {hs : List House} {ll : List (Value × Nat)} {vb vl : Value} {S : Nat → Prop}
theorem part_row {α : Type} {f : α → List Value} {sz : Nat} {e : TypeId} {v : Value} {xs : List α} {c : Nat} (h : RowOf w e sz f v xs) (ho : ∀ g, v.ownBlock = some g → own g = c) (hk : Kept S w w') (hS : ∀ k, k < w.heap.size → S k → own k ≠ c) : RowOf w' e sz f v xs :=
  h.kept hk (fun g hg hs => hS g (h.lt hg) hs (ho g hg))
theorem part_own {α : Type} {f : α → List Value} {sz : Nat} {e : TypeId} {v : Value} {xs : List α} {c : Nat} (h : RowOf w e sz f v xs) (ho : ∀ g, v.ownBlock = some g → own g = c) (hA : ∀ k, k < w.heap.size → own' k = own k) : ∀ g, v.ownBlock = some g → own' g = c :=
  fun g hg => (hA g (h.lt hg)).trans (ho g hg)
theorem HouseMem.kept {o : Nat} {h : House} (H : HouseMem w own o h) (hk : Kept S w w') (hS : ∀ k, k < w.heap.size → S k → own k ≠ o ∧ own k ≠ o + 1 ∧ own k ≠ o + 2 ∧ own k ≠ o + 3) (hA : ∀ k, k < w.heap.size → own' k = own k) : HouseMem w' own' o h := by
  have h1 := block_lt H.blk
  have h2 := H.x.lt
  have h3 := H.r.lt
  refine ⟨by rw [hk.block _ h1 (fun hs => (hS _ h1 hs).1 H.hown)]; exact H.blk, (hA _ h1).trans H.hown, ⟨?_, ?_, ?_⟩, H.xap, ?_, ⟨?_, ?_⟩, H.rap, ?_, part_row H.grow H.gown hk (fun k hk' hs => (hS k hk' hs).2.2.2), part_own H.grow H.gown hA⟩
  · rw [hk.block _ h2 (fun hs => (hS _ h2 hs).2.1 (H.xown _ (.inl rfl)))]
    exact H.x.blk
  · exact part_row H.x.arow (fun g hg => H.xown g (.inr (.inl hg))) hk (fun k hk' hs => (hS k hk' hs).2.1)
  · exact part_row H.x.lrow (fun g hg => H.xown g (.inr (.inr hg))) hk (fun k hk' hs => (hS k hk' hs).2.1)
  · intro k hk'
    refine (hA k ?_).trans (H.xown k hk')
    rcases hk' with rfl | hk' | hk'
    · exact h2
    · exact H.x.arow.lt hk'
    · exact H.x.lrow.lt hk'
  · rw [hk.block _ h3 (fun hs => (hS _ h3 hs).2.2.1 (H.rown _ (.inl rfl)))]
    exact H.r.blk
  · exact part_row H.r.row (fun g hg => H.rown g (.inr hg)) hk (fun k hk' hs => (hS k hk' hs).2.2.1)
  · intro k hk'
    refine (hA k ?_).trans (H.rown k hk')
    rcases hk' with rfl | hk'
    · exact h3
    · exact H.r.row.lt hk'
/-- all but the houses: nothing of theirs is touched -/
theorem MemInv.rest (I : MemInv w0 w Wb own hs ll vb vl) (hk : Kept S w w') (hS : ∀ k, S k → 6 ≤ own k ∧ (own k - 6) % 8 < 4) (hA : ∀ k, k < w.heap.size → own' k = own k) (hO : ∀ k, k < w.heap.size ∨ ¬ w0.F k)
    {hs' : List House} (hr : RowOf w' 50 1 ptrCell vb hs') (hh : ∀ i (hi : i < hs'.length), HouseMem w' own' (6 + 8 * i) hs'[i]) : MemInv w0 w' Wb own' hs' ll vb vl := by
  have hWl := block_lt I.wblk
  refine ⟨I.bel.kept hk (fun k hF hs => I.old k (by have := hS k hs; omega) hF), ?_, ?_, (hA _ hWl).trans I.wown, hr, part_own I.brow I.bown hA, ?_, part_own I.lrow I.lown hA, ?_, ?_, I.four, hh, w0.loc _ _ _ _ S I.oth hk (fun k _ hs h => by have := hS k hs; unfold offCls at h; omega) hA⟩
  · intro k hk'
    rcases hO k with h | h
    · exact I.old k (by rw [← hA k h]; exact hk')
    · exact h
  · rw [hk.block _ hWl (fun hs => by have := hS _ hs; rw [I.wown] at this; omega)]
    exact I.wblk
  · exact part_row I.lrow I.lown hk (fun k _ hs => by have := hS k hs; omega)
  · intro i hi
    exact ⟨(I.full i hi).1, part_row (I.full i hi).2 (I.fown i hi) hk (fun k _ hs => by have := hS k hs; omega)⟩
  · intro i hi
    exact part_own (I.full i hi).2 (I.fown i hi) hA
theorem MemInv.far (I : MemInv w0 w Wb own hs ll vb vl) : ∀ k, k < w.heap.size ∨ ¬ w0.F k := fun k => by
  rcases Nat.lt_or_ge k w.heap.size with h | h
  · exact .inl h
  · exact .inr (fun hF => by have h1 := w0.lt k hF; have h2 := I.bel.size; omega)
/-- a call that turns nothing old -/
theorem MemInv.below (I : MemInv w0 w Wb own hs ll vb vl) (hb : Below w.heap.size w w') : MemInv w0 w' Wb own hs ll vb vl :=
  I.rest (S := fun _ => False) (Kept.of_below hb) (fun _ h => h.elim) (fun _ _ => rfl) I.far (I.brow.below hb) (fun i hi => (I.house i hi).kept (S := fun _ => False) (Kept.of_below hb) (fun _ _ h => h.elim) (fun _ _ => rfl))
theorem row_set (h : RowOf w 50 1 ptrCell vb hs) (i : Nat) (hi : i < hs.length) (x : House) (hx : x.hb = hs[i].hb) : RowOf w 50 1 ptrCell vb (hs.set i x) := by
  have e : (hs.set i x).flatMap ptrCell = hs.flatMap ptrCell := by
    have : ∀ l : List House, l.flatMap ptrCell = (l.map House.hb).map fun b => Value.pointer (some ⟨b, 0, none⟩) := fun l => by
      induction l with
      | nil => rfl
      | cons y r ih => rw [List.flatMap_cons, ih]; rfl
    rw [this, this, List.map_set, hx]
    congr 1
    rw [show hs[i].hb = (hs.map House.hb)[i]'(by simpa using hi) by simp]
    exact List.set_getElem_self _
  unfold RowOf
  rw [List.length_set, e]
  exact h
/-- the program's bank of house i has gone on; lv: a list that came out -/
theorem MemInv.xstep (I : MemInv w0 w Wb own hs ll vb vl) (i : Nat) (hi : i < hs.length) (lv : Value) (ac' : List Ac) (ls' : List Lg) (va' vl' : Value) (hT : XBTo w w' hs[i].xb hs[i].node ac' ls' hs[i].va hs[i].vl va' vl') (hf : ∀ g, lv.ownBlock = some g → w.heap.size ≤ g ∧ va'.ownBlock ≠ some g ∧ vl'.ownBlock ≠ some g) :
    MemInv w0 w' Wb (fun k => if k < w.heap.size then own k else if lv.ownBlock = some k then 4 else 7 + 8 * i) (hs.set i { hs[i] with ac := ac', ls := ls', va := va', vl := vl' }) ll vb vl := by
  have H := I.house i hi
  have hA : ∀ k, k < w.heap.size → (fun k => if k < w.heap.size then own k else if lv.ownBlock = some k then 4 else 7 + 8 * i) k = own k := fun k hk => by simp [hk]
  have hSx : ∀ k, xfoot hs[i].xb hs[i].va hs[i].vl k → own k = 7 + 8 * i := fun k hk => by rw [H.xown k hk]; omega
  have hr := I.rest (S := xfoot hs[i].xb hs[i].va hs[i].vl) hT.kept (fun k hk => by rw [hSx k hk]; omega) hA I.far (hs' := hs.set i { hs[i] with ac := ac', ls := ls', va := va', vl := vl' })
  refine hr (row_set (part_row I.brow I.bown hT.kept (fun k _ hk => by rw [hSx k hk]; omega)) i hi _ rfl) ?_
  intro j hj
  rw [List.length_set] at hj
  by_cases e : i = j
  · subst e
    rw [List.getElem_set_self]
    have h1 := block_lt H.blk
    have h3 := H.r.lt
    refine ⟨?_, (hA _ h1).trans H.hown, hT.xb, hT.ap, ?_, ⟨?_, ?_⟩, H.rap, ?_, part_row H.grow H.gown hT.kept (fun k _ hk => by rw [hSx k hk]; omega), part_own H.grow H.gown hA⟩
    · show w'.heap[hs[i].hb]? = _
      rw [hT.kept.block _ h1 (fun hx => by have := hSx _ hx; rw [H.hown] at this; omega)]
      exact H.blk
    · intro k hk
      have hx : ∀ g, (va'.ownBlock = some g ∨ vl'.ownBlock = some g) → (hs[i].va.ownBlock = some g ∨ hs[i].vl.ownBlock = some g) ∨ (w.heap.size ≤ g ∧ lv.ownBlock ≠ some g) := by
        intro g hg
        rcases hg with hg | hg
        · rcases hT.owna g hg with h | h
          · exact .inl (.inl h)
          · exact .inr ⟨h, fun e => (hf g e).2.1 hg⟩
        · rcases hT.ownl g hg with h | h
          · exact .inl (.inr h)
          · exact .inr ⟨h, fun e => (hf g e).2.2 hg⟩
      have old : xfoot hs[i].xb hs[i].va hs[i].vl k → k < w.heap.size → (if k < w.heap.size then own k else if lv.ownBlock = some k then 4 else 7 + 8 * i) = 6 + 8 * i + 1 := fun h hlt => by rw [if_pos hlt, hSx k h]; omega
      rcases hk with rfl | hk
      · exact old (.inl rfl) H.x.lt
      · rcases hx k hk with (h | h) | ⟨h, hn⟩
        · exact old (.inr (.inl h)) (H.x.arow.lt h)
        · exact old (.inr (.inr h)) (H.x.lrow.lt h)
        · show (if k < w.heap.size then own k else if lv.ownBlock = some k then 4 else 7 + 8 * i) = 6 + 8 * i + 1
          rw [if_neg (by omega), if_neg hn]
          omega
    · show w'.heap[hs[i].rb]? = _
      rw [hT.kept.block _ h3 (fun hx => by have := hSx _ hx; rw [H.rown _ (.inl rfl)] at this; omega)]
      exact H.r.blk
    · exact part_row H.r.row (fun g hg => H.rown g (.inr hg)) hT.kept (fun k hk' hx => by rw [hSx k hx]; omega)
    · intro k hk
      refine (hA k ?_).trans (H.rown k hk)
      rcases hk with rfl | hk
      · exact h3
      · exact H.r.row.lt hk
  · rw [List.getElem_set_ne e]
    exact (I.house j hj).kept hT.kept (fun k hk hx => by rw [hSx k hx]; omega) hA
/-- the document's bank of house i has gone on -/
theorem MemInv.rstep (I : MemInv w0 w Wb own hs ll vb vl) (i : Nat) (hi : i < hs.length) (evs' : List Ev) (v' : Value) (hT : RBTo w w' hs[i].rb hs[i].node evs' hs[i].v v') :
    MemInv w0 w' Wb (fun k => if k < w.heap.size then own k else 8 + 8 * i) (hs.set i { hs[i] with evs := evs', v := v' }) ll vb vl := by
  have H := I.house i hi
  have hA : ∀ k, k < w.heap.size → (fun k => if k < w.heap.size then own k else 8 + 8 * i) k = own k := fun k hk => by simp [hk]
  have hSx : ∀ k, (k = hs[i].rb ∨ hs[i].v.ownBlock = some k) → own k = 8 + 8 * i := fun k hk => by rw [H.rown k hk]; omega
  have hr := I.rest (S := fun k => k = hs[i].rb ∨ hs[i].v.ownBlock = some k) hT.kept (fun k hk => by rw [hSx k hk]; omega) hA I.far (hs' := hs.set i { hs[i] with evs := evs', v := v' })
  refine hr (row_set (part_row I.brow I.bown hT.kept (fun k _ hk => by rw [hSx k hk]; omega)) i hi _ rfl) ?_
  intro j hj
  rw [List.length_set] at hj
  by_cases e : i = j
  · subst e
    rw [List.getElem_set_self]
    have h1 := block_lt H.blk
    have h2 := H.x.lt
    refine ⟨?_, (hA _ h1).trans H.hown, ⟨?_, ?_, ?_⟩, H.xap, ?_, hT.rb, hT.ap, ?_, part_row H.grow H.gown hT.kept (fun k _ hk => by rw [hSx k hk]; omega), part_own H.grow H.gown hA⟩
    · show w'.heap[hs[i].hb]? = _
      rw [hT.kept.block _ h1 (fun hx => by have := hSx _ hx; rw [H.hown] at this; omega)]
      exact H.blk
    · show w'.heap[hs[i].xb]? = _
      rw [hT.kept.block _ h2 (fun hx => by have := hSx _ hx; rw [H.xown _ (.inl rfl)] at this; omega)]
      exact H.x.blk
    · exact part_row H.x.arow (fun g hg => H.xown g (.inr (.inl hg))) hT.kept (fun k hk' hx => by rw [hSx k hx]; omega)
    · exact part_row H.x.lrow (fun g hg => H.xown g (.inr (.inr hg))) hT.kept (fun k hk' hx => by rw [hSx k hx]; omega)
    · intro k hk
      refine (hA k ?_).trans (H.xown k hk)
      rcases hk with rfl | hk | hk
      · exact h2
      · exact H.x.arow.lt hk
      · exact H.x.lrow.lt hk
    · intro k hk
      rcases hk with rfl | hk
      · exact (hA _ H.r.lt).trans (H.rown _ (.inl rfl))
      · rcases hT.own k hk with h | h
        · exact (hA _ (H.r.row.lt h)).trans (H.rown _ (.inr h))
        · show (if k < w.heap.size then own k else 8 + 8 * i) = 6 + 8 * i + 2
          rw [if_neg (by omega)]
          omega
  · rw [List.getElem_set_ne e]
    exact (I.house j hj).kept hT.kept (fun k hk hx => by rw [hSx k hx]; omega) hA
/-- the log of house i has gone on -/
theorem MemInv.gstep (I : MemInv w0 w Wb own hs ll vb vl) (i : Nat) (hi : i < hs.length) (lg' : List (List UInt8 × Nat)) (vg' : Value) (hk : Kept (fun k => k = hs[i].hb ∨ hs[i].vg.ownBlock = some k) w w')
    (hblk : w'.heap[hs[i].hb]? = some (.cells #[.pointer (some ⟨hs[i].xb, 0, none⟩), .pointer (some ⟨hs[i].rb, 0, none⟩), vg'] 80 (0, 0))) (hrow : RowOf w' 152 2 logCell vg' lg') (hown : ∀ g, vg'.ownBlock = some g → hs[i].vg.ownBlock = some g ∨ w.heap.size ≤ g) :
    MemInv w0 w' Wb (fun k => if k < w.heap.size then own k else 9 + 8 * i) (hs.set i { hs[i] with lg := lg', vg := vg' }) ll vb vl := by
  have H := I.house i hi
  have hA : ∀ k, k < w.heap.size → (fun k => if k < w.heap.size then own k else 9 + 8 * i) k = own k := fun k hk => by simp [hk]
  have hSx : ∀ k, (k = hs[i].hb ∨ hs[i].vg.ownBlock = some k) → own k = 6 + 8 * i ∨ own k = 9 + 8 * i := by
    rintro k (rfl | h)
    · exact .inl H.hown
    · exact .inr (by rw [H.gown k h]; omega)
  have hr := I.rest (S := fun k => k = hs[i].hb ∨ hs[i].vg.ownBlock = some k) hk (fun k hk => by have := hSx k hk; omega) hA I.far (hs' := hs.set i { hs[i] with lg := lg', vg := vg' })
  refine hr (row_set (part_row I.brow I.bown hk (fun k _ hk => by have := hSx k hk; omega)) i hi _ rfl) ?_
  intro j hj
  rw [List.length_set] at hj
  by_cases e : i = j
  · subst e
    rw [List.getElem_set_self]
    have h1 := block_lt H.blk
    have h2 := H.x.lt
    have h3 := H.r.lt
    refine ⟨hblk, (hA _ h1).trans H.hown, ⟨?_, ?_, ?_⟩, H.xap, ?_, ⟨?_, ?_⟩, H.rap, ?_, hrow, ?_⟩
    · show w'.heap[hs[i].xb]? = _
      rw [hk.block _ h2 (fun hx => by have := hSx _ hx; rw [H.xown _ (.inl rfl)] at this; omega)]
      exact H.x.blk
    · exact part_row H.x.arow (fun g hg => H.xown g (.inr (.inl hg))) hk (fun k hk' hx => by have := hSx k hx; omega)
    · exact part_row H.x.lrow (fun g hg => H.xown g (.inr (.inr hg))) hk (fun k hk' hx => by have := hSx k hx; omega)
    · intro k hk
      refine (hA k ?_).trans (H.xown k hk)
      rcases hk with rfl | hk | hk
      · exact h2
      · exact H.x.arow.lt hk
      · exact H.x.lrow.lt hk
    · show w'.heap[hs[i].rb]? = _
      rw [hk.block _ h3 (fun hx => by have := hSx _ hx; rw [H.rown _ (.inl rfl)] at this; omega)]
      exact H.r.blk
    · exact part_row H.r.row (fun g hg => H.rown g (.inr hg)) hk (fun k hk' hx => by have := hSx k hx; omega)
    · intro k hk
      refine (hA k ?_).trans (H.rown k hk)
      rcases hk with rfl | hk
      · exact h3
      · exact H.r.row.lt hk
    · intro g hg
      rcases hown g hg with h | h
      · exact (hA _ (H.grow.lt h)).trans (H.gown g h)
      · show (if g < w.heap.size then own g else 9 + 8 * i) = 6 + 8 * i + 3
        rw [if_neg (by omega)]
        omega
  · rw [List.getElem_set_ne e]
    exact (I.house j hj).kept hk (fun k hk hx => by have := hSx k hx; omega) hA
end
end Go.Proofs.YtjkhbjgfoopomaaGreat
