import Derived.Test.YtjkhbjgfoopomaaGreatGLists
import Derived.Test.YtjkhbjgfoopomaaGreatGRel
import Derived.Test.YtjkhbjgfoopomaaGreatGTick
import Derived.Test.YtjkhbjgfoopomaaGreatRefEncode
import Derived.Deep.MidRow
/-
  What the statement Banks keeps in memory: an owner for each block.
-/
namespace Go.Proofs.YtjkhbjgfoopomaaGreat
open Go.RowKit
set_option linter.unusedVariables false
set_option linter.unusedSimpArgs false

/-- a house: the blocks of its struct, of the program's bank, of the document's; how they stand -/
structure House where
  hb : Nat
  xb : Nat
  rb : Nat
  node : Nat
  evs : List Ev
  ac : List Ac
  ls : List Lg
  va : Value
  vl : Value
  v : Value
  lg : List (List UInt8 × Nat)
  vg : Value
/-- what a bank logs of an event -/
def textOf (e : Ev) : List UInt8 := if e.kind = 0 then openTextOf e.msg.p e.msg.a else frameOf e.msg
/-- a bank's log -/
def logOf (evs : List Ev) : List (List UInt8 × Nat) := evs.mapIdx fun j e => (textOf e, j)
theorem logOf_length (evs : List Ev) : (logOf evs).length = evs.length := by simp [logOf]
theorem logOf_snoc (evs : List Ev) (e : Ev) : logOf (evs ++ [e]) = logOf evs ++ [(textOf e, evs.length)] := by simp [logOf, List.mapIdx_append]
def House.ok (h : House) : Prop := Rel h.evs h.ac h.ls ∧ 1 ≤ h.node ∧ h.node ≤ 7 ∧ h.lg = logOf h.evs
structure HouseMem (w : World) (own : Nat → Nat) (o : Nat) (h : House) : Prop where
  blk : w.heap[h.hb]? = some (.cells #[.pointer (some ⟨h.xb, 0, none⟩), .pointer (some ⟨h.rb, 0, none⟩), h.vg] 80 (0, 0))
  hown : own h.hb = o
  x : XB w h.xb h.node h.ac h.ls h.va h.vl
  xap : Apart h.xb h.va h.vl
  xown : ∀ k, xfoot h.xb h.va h.vl k → own k = o + 1
  r : RB w h.rb h.node h.evs h.v
  rap : h.v.ownBlock ≠ some h.rb
  rown : ∀ k, (k = h.rb ∨ h.v.ownBlock = some k) → own k = o + 2
  grow : RowOf w 152 2 logCell h.vg h.lg
  gown : ∀ g, h.vg.ownBlock = some g → own g = o + 3
def ptrCell (h : House) : List Value := [.pointer (some ⟨h.hb, 0, none⟩)]
theorem ptrCell_length (h : House) : (ptrCell h).length = 1 := rfl
/-- the owners that are no bank's: the notaries -/
def offCls (c : Nat) : Prop := c = 5 ∨ (6 ≤ c ∧ 4 ≤ (c - 6) % 8)
/-- a world, and the blocks of it that stay as they are; whether logs are asked for; the notaries, and what holds of them, whatever is done elsewhere -/
structure Base where
  w : World
  F : Nat → Prop
  lt : ∀ k, F k → k < w.heap.size
  lg : Bool
  vd : Value
  Q : World → (Nat → Nat) → Prop
  loc : ∀ (u u' : World) (own own' : Nat → Nat) (S : Nat → Prop), Q u own → Kept S u u' → (∀ k, k < u.heap.size → S k → ¬ offCls (own k)) → (∀ k, k < u.heap.size → own' k = own k) → Q u' own'
structure BelF (w0 : Base) (w : World) : Prop where
  os : w.os = w0.w.os
  tape : w.tape = w0.w.tape
  output : w.output = w0.w.output
  size : w0.w.heap.size ≤ w.heap.size
  block : ∀ k, w0.F k → w.heap[k]? = w0.w.heap[k]?
theorem BelF.kept {w0 : Base} {w w' : World} {S : Nat → Prop} (h : BelF w0 w) (hk : Kept S w w') (hS : ∀ k, w0.F k → ¬ S k) : BelF w0 w' :=
  ⟨hk.os.trans h.os, hk.tape.trans h.tape, hk.output.trans h.output, Nat.le_trans h.size hk.size, fun k hF => (hk.block k (Nat.lt_of_lt_of_le (w0.lt k hF) h.size) (hS k hF)).trans (h.block k hF)⟩
structure MemInv (w0 : Base) (w : World) (Wb : Nat) (own : Nat → Nat) (hs : List House) (ll : List (Value × Nat)) (vb vl : Value) : Prop where
  bel : BelF w0 w
  old : ∀ k, own k ≠ 0 → ¬ w0.F k
  wblk : w.heap[Wb]? = some (.cells #[.bool w0.lg, vb, w0.vd, vl] 30 (0, 0))
  wown : own Wb = 1
  brow : RowOf w 50 1 ptrCell vb hs
  bown : ∀ g, vb.ownBlock = some g → own g = 2
  lrow : RowOf w 59 1 lstCell vl ll
  lown : ∀ g, vl.ownBlock = some g → own g = 3
  full : ∀ i (hi : i < ll.length), ll[i].2 ≤ 1000000 ∧ RowOf w 9 1 txtCell ll[i].1 (List.replicate ll[i].2 (markB (i / 4 + 1)))
  fown : ∀ i (hi : i < ll.length), ∀ g, ll[i].1.ownBlock = some g → own g = 4
  four : ll.length % 4 = 0
  house : ∀ i (hi : i < hs.length), HouseMem w own (6 + 8 * i) hs[i]
  oth : w0.Q w own

section
variable {w0 : Base} {w w' : World} {Wb : Nat} {own own' : Nat → Nat} {hs : List House} {ll : List (Value × Nat)} {vb vl : Value} {S : Nat → Prop}
theorem part_row {α : Type} {f : α → List Value} {sz : Nat} {e : TypeId} {v : Value} {xs : List α} {c : Nat} (h : RowOf w e sz f v xs) (ho : ∀ g, v.ownBlock = some g → own g = c) (hk : Kept S w w') (hS : ∀ k, k < w.heap.size → S k → own k ≠ c) : RowOf w' e sz f v xs :=
  h.kept hk (fun g hg hs => hS g (h.lt hg) hs (ho g hg))
theorem part_own {α : Type} {f : α → List Value} {sz : Nat} {e : TypeId} {v : Value} {xs : List α} {c : Nat} (h : RowOf w e sz f v xs) (ho : ∀ g, v.ownBlock = some g → own g = c) (hA : ∀ k, k < w.heap.size → own' k = own k) : ∀ g, v.ownBlock = some g → own' g = c :=
  fun g hg => (hA g (h.lt hg)).trans (ho g hg)
theorem HouseMem.kept {o : Nat} {h : House} (H : HouseMem w own o h) (hk : Kept S w w') (hS : ∀ k, k < w.heap.size → S k → own k ≠ o ∧ own k ≠ o + 1 ∧ own k ≠ o + 2 ∧ own k ≠ o + 3) (hA : ∀ k, k < w.heap.size → own' k = own k) : HouseMem w' own' o h := by
  have h1 := block_lt H.blk
  have h2 := H.x.lt
  have h3 := H.r.lt
  refine ⟨by rw [hk.block _ h1 (fun hs => (hS _ h1 hs).1 H.hown)]; exact H.blk, (hA _ h1).trans H.hown, ⟨?_, ?_, ?_⟩, H.xap, ?_, ⟨?_, ?_⟩, H.rap, ?_, part_row H.grow H.gown hk (fun k hk' hs => (hS k hk' hs).2.2.2), part_own H.grow H.gown hA⟩
  · rw [hk.block _ h2 (fun hs => (hS _ h2 hs).2.1 (H.xown _ (.inl rfl)))]
    exact H.x.blk
  · exact part_row H.x.arow (fun g hg => H.xown g (.inr (.inl hg))) hk (fun k hk' hs => (hS k hk' hs).2.1)
  · exact part_row H.x.lrow (fun g hg => H.xown g (.inr (.inr hg))) hk (fun k hk' hs => (hS k hk' hs).2.1)
  · intro k hk'
    refine (hA k ?_).trans (H.xown k hk')
    rcases hk' with rfl | hk' | hk'
    · exact h2
    · exact H.x.arow.lt hk'
    · exact H.x.lrow.lt hk'
  · rw [hk.block _ h3 (fun hs => (hS _ h3 hs).2.2.1 (H.rown _ (.inl rfl)))]
    exact H.r.blk
  · exact part_row H.r.row (fun g hg => H.rown g (.inr hg)) hk (fun k hk' hs => (hS k hk' hs).2.2.1)
  · intro k hk'
    refine (hA k ?_).trans (H.rown k hk')
    rcases hk' with rfl | hk'
    · exact h3
    · exact H.r.row.lt hk'
/-- all but the houses: nothing of theirs is touched -/
theorem MemInv.rest (I : MemInv w0 w Wb own hs ll vb vl) (hk : Kept S w w') (hS : ∀ k, S k → 6 ≤ own k ∧ (own k - 6) % 8 < 4) (hA : ∀ k, k < w.heap.size → own' k = own k) (hO : ∀ k, k < w.heap.size ∨ ¬ w0.F k)
    {hs' : List House} (hr : RowOf w' 50 1 ptrCell vb hs') (hh : ∀ i (hi : i < hs'.length), HouseMem w' own' (6 + 8 * i) hs'[i]) : MemInv w0 w' Wb own' hs' ll vb vl := by
  have hWl := block_lt I.wblk
  refine ⟨I.bel.kept hk (fun k hF hs => I.old k (by have := hS k hs; omega) hF), ?_, ?_, (hA _ hWl).trans I.wown, hr, part_own I.brow I.bown hA, ?_, part_own I.lrow I.lown hA, ?_, ?_, I.four, hh, w0.loc _ _ _ _ S I.oth hk (fun k _ hs h => by have := hS k hs; unfold offCls at h; omega) hA⟩
  · intro k hk'
    rcases hO k with h | h
    · exact I.old k (by rw [← hA k h]; exact hk')
    · exact h
  · rw [hk.block _ hWl (fun hs => by have := hS _ hs; rw [I.wown] at this; omega)]
    exact I.wblk
  · exact part_row I.lrow I.lown hk (fun k _ hs => by have := hS k hs; omega)
  · intro i hi
    exact ⟨(I.full i hi).1, part_row (I.full i hi).2 (I.fown i hi) hk (fun k _ hs => by have := hS k hs; omega)⟩
  · intro i hi
    exact part_own (I.full i hi).2 (I.fown i hi) hA
theorem MemInv.far (I : MemInv w0 w Wb own hs ll vb vl) : ∀ k, k < w.heap.size ∨ ¬ w0.F k := fun k => by
  rcases Nat.lt_or_ge k w.heap.size with h | h
  · exact .inl h
  · exact .inr (fun hF => by have h1 := w0.lt k hF; have h2 := I.bel.size; omega)
/-- a call that turns nothing old -/
theorem MemInv.below (I : MemInv w0 w Wb own hs ll vb vl) (hb : Below w.heap.size w w') : MemInv w0 w' Wb own hs ll vb vl :=
  I.rest (S := fun _ => False) (Kept.of_below hb) (fun _ h => h.elim) (fun _ _ => rfl) I.far (I.brow.below hb) (fun i hi => (I.house i hi).kept (S := fun _ => False) (Kept.of_below hb) (fun _ _ h => h.elim) (fun _ _ => rfl))
theorem row_set (h : RowOf w 50 1 ptrCell vb hs) (i : Nat) (hi : i < hs.length) (x : House) (hx : x.hb = hs[i].hb) : RowOf w 50 1 ptrCell vb (hs.set i x) := by
  have e : (hs.set i x).flatMap ptrCell = hs.flatMap ptrCell := by
    have : ∀ l : List House, l.flatMap ptrCell = (l.map House.hb).map fun b => Value.pointer (some ⟨b, 0, none⟩) := fun l => by
      induction l with
      | nil => rfl
      | cons y r ih => rw [List.flatMap_cons, ih]; rfl
    rw [this, this, List.map_set, hx]
    congr 1
    rw [show hs[i].hb = (hs.map House.hb)[i]'(by simpa using hi) by simp]
    exact List.set_getElem_self _
  unfold RowOf
  rw [List.length_set, e]
  exact h
/-- the program's bank of house i has gone on; lv: a list that came out -/
theorem MemInv.xstep (I : MemInv w0 w Wb own hs ll vb vl) (i : Nat) (hi : i < hs.length) (lv : Value) (ac' : List Ac) (ls' : List Lg) (va' vl' : Value) (hT : XBTo w w' hs[i].xb hs[i].node ac' ls' hs[i].va hs[i].vl va' vl') (hf : ∀ g, lv.ownBlock = some g → w.heap.size ≤ g ∧ va'.ownBlock ≠ some g ∧ vl'.ownBlock ≠ some g) :
    MemInv w0 w' Wb (fun k => if k < w.heap.size then own k else if lv.ownBlock = some k then 4 else 7 + 8 * i) (hs.set i { hs[i] with ac := ac', ls := ls', va := va', vl := vl' }) ll vb vl := by
  have H := I.house i hi
  have hA : ∀ k, k < w.heap.size → (fun k => if k < w.heap.size then own k else if lv.ownBlock = some k then 4 else 7 + 8 * i) k = own k := fun k hk => by simp [hk]
  have hSx : ∀ k, xfoot hs[i].xb hs[i].va hs[i].vl k → own k = 7 + 8 * i := fun k hk => by rw [H.xown k hk]; omega
  have hr := I.rest (S := xfoot hs[i].xb hs[i].va hs[i].vl) hT.kept (fun k hk => by rw [hSx k hk]; omega) hA I.far (hs' := hs.set i { hs[i] with ac := ac', ls := ls', va := va', vl := vl' })
  refine hr (row_set (part_row I.brow I.bown hT.kept (fun k _ hk => by rw [hSx k hk]; omega)) i hi _ rfl) ?_
  intro j hj
  rw [List.length_set] at hj
  by_cases e : i = j
  · subst e
    rw [List.getElem_set_self]
    have h1 := block_lt H.blk
    have h3 := H.r.lt
    refine ⟨?_, (hA _ h1).trans H.hown, hT.xb, hT.ap, ?_, ⟨?_, ?_⟩, H.rap, ?_, part_row H.grow H.gown hT.kept (fun k _ hk => by rw [hSx k hk]; omega), part_own H.grow H.gown hA⟩
    · show w'.heap[hs[i].hb]? = _
      rw [hT.kept.block _ h1 (fun hx => by have := hSx _ hx; rw [H.hown] at this; omega)]
      exact H.blk
    · intro k hk
      have hx : ∀ g, (va'.ownBlock = some g ∨ vl'.ownBlock = some g) → (hs[i].va.ownBlock = some g ∨ hs[i].vl.ownBlock = some g) ∨ (w.heap.size ≤ g ∧ lv.ownBlock ≠ some g) := by
        intro g hg
        rcases hg with hg | hg
        · rcases hT.owna g hg with h | h
          · exact .inl (.inl h)
          · exact .inr ⟨h, fun e => (hf g e).2.1 hg⟩
        · rcases hT.ownl g hg with h | h
          · exact .inl (.inr h)
          · exact .inr ⟨h, fun e => (hf g e).2.2 hg⟩
      have old : xfoot hs[i].xb hs[i].va hs[i].vl k → k < w.heap.size → (if k < w.heap.size then own k else if lv.ownBlock = some k then 4 else 7 + 8 * i) = 6 + 8 * i + 1 := fun h hlt => by rw [if_pos hlt, hSx k h]; omega
      rcases hk with rfl | hk
      · exact old (.inl rfl) H.x.lt
      · rcases hx k hk with (h | h) | ⟨h, hn⟩
        · exact old (.inr (.inl h)) (H.x.arow.lt h)
        · exact old (.inr (.inr h)) (H.x.lrow.lt h)
        · show (if k < w.heap.size then own k else if lv.ownBlock = some k then 4 else 7 + 8 * i) = 6 + 8 * i + 1
          rw [if_neg (by omega), if_neg hn]
          omega
    · show w'.heap[hs[i].rb]? = _
      rw [hT.kept.block _ h3 (fun hx => by have := hSx _ hx; rw [H.rown _ (.inl rfl)] at this; omega)]
      exact H.r.blk
    · exact part_row H.r.row (fun g hg => H.rown g (.inr hg)) hT.kept (fun k hk' hx => by rw [hSx k hx]; omega)
    · intro k hk
      refine (hA k ?_).trans (H.rown k hk)
      rcases hk with rfl | hk
      · exact h3
      · exact H.r.row.lt hk
  · rw [List.getElem_set_ne e]
    exact (I.house j hj).kept hT.kept (fun k hk hx => by rw [hSx k hx]; omega) hA
/-- the document's bank of house i has gone on -/
theorem MemInv.rstep (I : MemInv w0 w Wb own hs ll vb vl) (i : Nat) (hi : i < hs.length) (evs' : List Ev) (v' : Value) (hT : RBTo w w' hs[i].rb hs[i].node evs' hs[i].v v') :
    MemInv w0 w' Wb (fun k => if k < w.heap.size then own k else 8 + 8 * i) (hs.set i { hs[i] with evs := evs', v := v' }) ll vb vl := by
  have H := I.house i hi
  have hA : ∀ k, k < w.heap.size → (fun k => if k < w.heap.size then own k else 8 + 8 * i) k = own k := fun k hk => by simp [hk]
  have hSx : ∀ k, (k = hs[i].rb ∨ hs[i].v.ownBlock = some k) → own k = 8 + 8 * i := fun k hk => by rw [H.rown k hk]; omega
  have hr := I.rest (S := fun k => k = hs[i].rb ∨ hs[i].v.ownBlock = some k) hT.kept (fun k hk => by rw [hSx k hk]; omega) hA I.far (hs' := hs.set i { hs[i] with evs := evs', v := v' })
  refine hr (row_set (part_row I.brow I.bown hT.kept (fun k _ hk => by rw [hSx k hk]; omega)) i hi _ rfl) ?_
  intro j hj
  rw [List.length_set] at hj
  by_cases e : i = j
  · subst e
    rw [List.getElem_set_self]
    have h1 := block_lt H.blk
    have h2 := H.x.lt
    refine ⟨?_, (hA _ h1).trans H.hown, ⟨?_, ?_, ?_⟩, H.xap, ?_, hT.rb, hT.ap, ?_, part_row H.grow H.gown hT.kept (fun k _ hk => by rw [hSx k hk]; omega), part_own H.grow H.gown hA⟩
    · show w'.heap[hs[i].hb]? = _
      rw [hT.kept.block _ h1 (fun hx => by have := hSx _ hx; rw [H.hown] at this; omega)]
      exact H.blk
    · show w'.heap[hs[i].xb]? = _
      rw [hT.kept.block _ h2 (fun hx => by have := hSx _ hx; rw [H.xown _ (.inl rfl)] at this; omega)]
      exact H.x.blk
    · exact part_row H.x.arow (fun g hg => H.xown g (.inr (.inl hg))) hT.kept (fun k hk' hx => by rw [hSx k hx]; omega)
    · exact part_row H.x.lrow (fun g hg => H.xown g (.inr (.inr hg))) hT.kept (fun k hk' hx => by rw [hSx k hx]; omega)
    · intro k hk
      refine (hA k ?_).trans (H.xown k hk)
      rcases hk with rfl | hk | hk
      · exact h2
      · exact H.x.arow.lt hk
      · exact H.x.lrow.lt hk
    · intro k hk
      rcases hk with rfl | hk
      · exact (hA _ H.r.lt).trans (H.rown _ (.inl rfl))
      · rcases hT.own k hk with h | h
        · exact (hA _ (H.r.row.lt h)).trans (H.rown _ (.inr h))
        · show (if k < w.heap.size then own k else 8 + 8 * i) = 6 + 8 * i + 2
          rw [if_neg (by omega)]
          omega
  · rw [List.getElem_set_ne e]
    exact (I.house j hj).kept hT.kept (fun k hk hx => by rw [hSx k hx]; omega) hA
/-- the log of house i has gone on -/
theorem MemInv.gstep (I : MemInv w0 w Wb own hs ll vb vl) (i : Nat) (hi : i < hs.length) (lg' : List (List UInt8 × Nat)) (vg' : Value) (hk : Kept (fun k => k = hs[i].hb ∨ hs[i].vg.ownBlock = some k) w w')
    (hblk : w'.heap[hs[i].hb]? = some (.cells #[.pointer (some ⟨hs[i].xb, 0, none⟩), .pointer (some ⟨hs[i].rb, 0, none⟩), vg'] 80 (0, 0))) (hrow : RowOf w' 152 2 logCell vg' lg') (hown : ∀ g, vg'.ownBlock = some g → hs[i].vg.ownBlock = some g ∨ w.heap.size ≤ g) :
    MemInv w0 w' Wb (fun k => if k < w.heap.size then own k else 9 + 8 * i) (hs.set i { hs[i] with lg := lg', vg := vg' }) ll vb vl := by
  have H := I.house i hi
  have hA : ∀ k, k < w.heap.size → (fun k => if k < w.heap.size then own k else 9 + 8 * i) k = own k := fun k hk => by simp [hk]
  have hSx : ∀ k, (k = hs[i].hb ∨ hs[i].vg.ownBlock = some k) → own k = 6 + 8 * i ∨ own k = 9 + 8 * i := by
    rintro k (rfl | h)
    · exact .inl H.hown
    · exact .inr (by rw [H.gown k h]; omega)
  have hr := I.rest (S := fun k => k = hs[i].hb ∨ hs[i].vg.ownBlock = some k) hk (fun k hk => by have := hSx k hk; omega) hA I.far (hs' := hs.set i { hs[i] with lg := lg', vg := vg' })
  refine hr (row_set (part_row I.brow I.bown hk (fun k _ hk => by have := hSx k hk; omega)) i hi _ rfl) ?_
  intro j hj
  rw [List.length_set] at hj
  by_cases e : i = j
  · subst e
    rw [List.getElem_set_self]
    have h1 := block_lt H.blk
    have h2 := H.x.lt
    have h3 := H.r.lt
    refine ⟨hblk, (hA _ h1).trans H.hown, ⟨?_, ?_, ?_⟩, H.xap, ?_, ⟨?_, ?_⟩, H.rap, ?_, hrow, ?_⟩
    · show w'.heap[hs[i].xb]? = _
      rw [hk.block _ h2 (fun hx => by have := hSx _ hx; rw [H.xown _ (.inl rfl)] at this; omega)]
      exact H.x.blk
    · exact part_row H.x.arow (fun g hg => H.xown g (.inr (.inl hg))) hk (fun k hk' hx => by have := hSx k hx; omega)
    · exact part_row H.x.lrow (fun g hg => H.xown g (.inr (.inr hg))) hk (fun k hk' hx => by have := hSx k hx; omega)
    · intro k hk
      refine (hA k ?_).trans (H.xown k hk)
      rcases hk with rfl | hk | hk
      · exact h2
      · exact H.x.arow.lt hk
      · exact H.x.lrow.lt hk
    · show w'.heap[hs[i].rb]? = _
      rw [hk.block _ h3 (fun hx => by have := hSx _ hx; rw [H.rown _ (.inl rfl)] at this; omega)]
      exact H.r.blk
    · exact part_row H.r.row (fun g hg => H.rown g (.inr hg)) hk (fun k hk' hx => by have := hSx k hx; omega)
    · intro k hk
      refine (hA k ?_).trans (H.rown k hk)
      rcases hk with rfl | hk
      · exact h3
      · exact H.r.row.lt hk
    · intro g hg
      rcases hown g hg with h | h
      · exact (hA _ (H.grow.lt h)).trans (H.gown g h)
      · show (if g < w.heap.size then own g else 9 + 8 * i) = 6 + 8 * i + 3
        rw [if_neg (by omega)]
        omega
  · rw [List.getElem_set_ne e]
    exact (I.house j hj).kept hk (fun k hk hx => by have := hSx k hx; omega) hA
end
end Go.Proofs.YtjkhbjgfoopomaaGreat
/-
  What the statement Banks keeps in memory: a list more in the book, a house more.
-/
namespace Go.Proofs.YtjkhbjgfoopomaaGreat
open Go.RowKit
set_option linter.unusedVariables false
set_option linter.unusedSimpArgs false
section
variable {w0 : Base} {w w' : World} {Wb : Nat} {own own' : Nat → Nat} {hs : List House} {ll : List (Value × Nat)} {vb vl : Value} {S : Nat → Prop}
theorem MemInv.keeps (I : MemInv w0 w Wb own hs ll vb vl) (lv : Value) (xs : List (List UInt8)) (hx : xs.length ≤ 1000) (hlv : RowOf w 9 1 txtCell lv xs) (hlo : ∀ g, lv.ownBlock = some g → own g = 4) (hn : ∀ i (hi : i < ll.length), ∀ g, ll[i].1.ownBlock = some g → lv.ownBlock ≠ some g)
    (hB : Booked w w' Wb w0.lg vb w0.vd vl ll lv xs.length) : ∃ own' ll' vl', MemInv w0 w' Wb own' hs ll' vb vl' ∧ ll'.length = ll.length + 4 := by
  obtain ⟨vl', vf, vg, vh, B⟩ := hB
  have hcl : ∀ k, (k = Wb ∨ vl.ownBlock = some k ∨ lv.ownBlock = some k) → own k = 1 ∨ own k = 3 ∨ own k = 4 := by
    rintro k (rfl | h | h)
    · exact .inl I.wown
    · exact .inr (.inl (I.lown k h))
    · exact .inr (.inr (hlo k h))
  have hA : ∀ k, k < w.heap.size → (fun k => if k < w.heap.size then own k else if vl'.ownBlock = some k then 3 else 4) k = own k := fun k hk => by simp [hk]
  have hll : ll ++ [(lv, xs.length)] ++ [(vf, xs.length + 1)] ++ [(vg, xs.length + 2)] ++ [(vh, xs.length + 3)] = ll ++ [(lv, xs.length), (vf, xs.length + 1), (vg, xs.length + 2), (vh, xs.length + 3)] := by simp
  rw [hll] at B
  refine ⟨fun k => if k < w.heap.size then own k else if vl'.ownBlock = some k then 3 else 4, ll ++ [(lv, xs.length), (vf, xs.length + 1), (vg, xs.length + 2), (vh, xs.length + 3)], vl', ?_, by simp⟩
  have hin : ∀ i (hi : i < (ll ++ [(lv, xs.length), (vf, xs.length + 1), (vg, xs.length + 2), (vh, xs.length + 3)]).length), (∃ hi' : i < ll.length, (ll ++ [(lv, xs.length), (vf, xs.length + 1), (vg, xs.length + 2), (vh, xs.length + 3)])[i] = ll[i]) ∨ ((ll ++ [(lv, xs.length), (vf, xs.length + 1), (vg, xs.length + 2), (vh, xs.length + 3)])[i] ∈ [(lv, xs.length), (vf, xs.length + 1), (vg, xs.length + 2), (vh, xs.length + 3)] ∧ i / 4 = ll.length / 4) := by
    intro i hi
    by_cases h : i < ll.length
    · exact .inl ⟨h, List.getElem_append_left h⟩
    · right
      have h4 := I.four
      refine ⟨?_, by simp at hi; omega⟩
      rw [List.getElem_append_right (by omega)]
      exact List.getElem_mem _
  refine ⟨?_, ?_, B.blk, (hA _ (block_lt I.wblk)).trans I.wown, ?_, part_own I.brow I.bown hA, B.lst, ?_, ?_, ?_, by have := I.four; simp; omega, ?_, w0.loc _ _ _ _ _ I.oth B.kept (fun k _ hk h => by have := hcl k hk; unfold offCls at h; omega) hA⟩
  · exact I.bel.kept B.kept (fun k hF hk => I.old k (by have := hcl k hk; omega) hF)
  · intro k hk
    rcases I.far k with h | h
    · exact I.old k (by rw [← hA k h]; exact hk)
    · exact h
  · exact part_row I.brow I.bown B.kept (fun k _ hk => by have := hcl k hk; omega)
  · intro g hg
    rcases B.lown g hg with h | h
    · exact (hA g (I.lrow.lt h)).trans (I.lown g h)
    · show (if g < w.heap.size then own g else if vl'.ownBlock = some g then 3 else 4) = 3
      rw [if_neg (by omega), if_pos hg]
  · intro i hi
    rcases hin i hi with ⟨hi', e⟩ | ⟨hm, e⟩
    · rw [e]
      refine ⟨(I.full i hi').1, (I.full i hi').2.kept B.kept ?_⟩
      intro g hg hk
      have h4 := I.fown i hi' g hg
      rcases hk with rfl | h | h
      · rw [I.wown] at h4; omega
      · rw [I.lown g h] at h4; omega
      · exact hn i hi' g hg h
    · refine ⟨?_, by rw [e]; exact B.full _ hm⟩
      simp only [List.mem_cons, List.not_mem_nil, or_false] at hm
      rcases hm with h | h | h | h <;> rw [h] <;> simp <;> omega
  · intro i hi g hg
    rcases hin i hi with ⟨hi', e⟩ | ⟨hm, e⟩
    · rw [e] at hg
      exact (hA g ((I.full i hi').2.lt hg)).trans (I.fown i hi' g hg)
    · rcases B.rown _ hm g hg with h | h
      · exact (hA g (hlv.lt h)).trans (hlo g h)
      · show (if g < w.heap.size then own g else if vl'.ownBlock = some g then 3 else 4) = 4
        rw [if_neg (by omega), if_neg (B.apart _ hm g hg).1]
  · intro i hi
    exact (I.house i hi).kept B.kept (fun k hk' hk => by have := hcl k hk; omega) hA
/-- a house more -/
theorem MemInv.more (I : MemInv w0 w Wb own hs ll vb vl) (h : House) (vb' : Value) (hk : Kept (fun k => k = Wb ∨ vb.ownBlock = some k) w w')
    (hblk : w'.heap[Wb]? = some (.cells #[.bool w0.lg, vb', w0.vd, vl] 30 (0, 0))) (hrow : RowOf w' 50 1 ptrCell vb' (hs ++ [h])) (hb : ∀ g, vb'.ownBlock = some g → vb.ownBlock = some g ∨ w.heap.size ≤ g)
    (hn1 : w.heap.size ≤ h.hb) (hn2 : w.heap.size ≤ h.xb) (hn3 : w.heap.size ≤ h.rb) (hd1 : h.hb ≠ h.xb) (hd2 : h.hb ≠ h.rb) (hd3 : h.xb ≠ h.rb) (hd4 : vb'.ownBlock ≠ some h.hb ∧ vb'.ownBlock ≠ some h.xb ∧ vb'.ownBlock ≠ some h.rb)
    (hhb : w'.heap[h.hb]? = some (.cells #[.pointer (some ⟨h.xb, 0, none⟩), .pointer (some ⟨h.rb, 0, none⟩), .slice none 0 0] 80 (0, 0))) (hX : XB w' h.xb h.node [] [] (.slice none 0 0) (.slice none 0 0)) (hR : RB w' h.rb h.node [] (.slice none 0 0))
    (he : h.evs = [] ∧ h.ac = [] ∧ h.ls = [] ∧ h.va = .slice none 0 0 ∧ h.vl = .slice none 0 0 ∧ h.v = .slice none 0 0 ∧ h.lg = [] ∧ h.vg = .slice none 0 0) : ∃ own', MemInv w0 w' Wb own' (hs ++ [h]) ll vb' vl := by
  have hcl : ∀ k, (k = Wb ∨ vb.ownBlock = some k) → own k = 1 ∨ own k = 2 := by
    rintro k (rfl | h)
    · exact .inl I.wown
    · exact .inr (I.bown k h)
  have hA : ∀ k, k < w.heap.size → (fun k => if k < w.heap.size then own k else if k = h.hb then 6 + 8 * hs.length else if k = h.xb then 7 + 8 * hs.length else if k = h.rb then 8 + 8 * hs.length else 2) k = own k := fun k hk => by simp [hk]
  refine ⟨fun k => if k < w.heap.size then own k else if k = h.hb then 6 + 8 * hs.length else if k = h.xb then 7 + 8 * hs.length else if k = h.rb then 8 + 8 * hs.length else 2, ?_⟩
  refine ⟨?_, ?_, hblk, (hA _ (block_lt I.wblk)).trans I.wown, hrow, ?_, ?_, part_own I.lrow I.lown hA, ?_, ?_, I.four, ?_, w0.loc _ _ _ _ _ I.oth hk (fun k _ hk h => by have := hcl k hk; unfold offCls at h; omega) hA⟩
  · exact I.bel.kept hk (fun k hF hk => I.old k (by have := hcl k hk; omega) hF)
  · intro k hk'
    rcases I.far k with h | h
    · exact I.old k (by rw [← hA k h]; exact hk')
    · exact h
  · intro g hg
    rcases hb g hg with h' | h'
    · exact (hA g (I.brow.lt h')).trans (I.bown g h')
    · show (if g < w.heap.size then own g else if g = h.hb then 6 + 8 * hs.length else if g = h.xb then 7 + 8 * hs.length else if g = h.rb then 8 + 8 * hs.length else 2) = 2
      rw [if_neg (by omega), if_neg (fun e => hd4.1 (by rw [← e]; exact hg)), if_neg (fun e => hd4.2.1 (by rw [← e]; exact hg)), if_neg (fun e => hd4.2.2 (by rw [← e]; exact hg))]
  · exact part_row I.lrow I.lown hk (fun k _ hk => by have := hcl k hk; omega)
  · intro i hi
    exact ⟨(I.full i hi).1, part_row (I.full i hi).2 (I.fown i hi) hk (fun k _ hk => by have := hcl k hk; omega)⟩
  · intro i hi
    exact part_own (I.full i hi).2 (I.fown i hi) hA
  · intro i hi
    by_cases e : i < hs.length
    · rw [List.getElem_append_left e]
      exact (I.house i e).kept hk (fun k _ hk => by have := hcl k hk; omega) hA
    · obtain rfl : i = hs.length := by simp at hi; omega
      rw [List.getElem_append_right (Nat.le_refl _)]
      simp only [Nat.sub_self, List.getElem_cons_zero]
      obtain ⟨e1, e2, e3, e4, e5, e6, e7, e8⟩ := he
      refine ⟨by rw [e8]; exact hhb, ?_, by rw [e2, e3, e4, e5]; exact hX, ?_, ?_, by rw [e1, e6]; exact hR, by rw [e6]; simp [Value.ownBlock], ?_, by rw [e7, e8]; exact RowOf.nil _ _, by rw [e8]; intro g hg; simp [Value.ownBlock] at hg⟩
      · show (if h.hb < w.heap.size then own h.hb else if h.hb = h.hb then 6 + 8 * hs.length else if h.hb = h.xb then 7 + 8 * hs.length else if h.hb = h.rb then 8 + 8 * hs.length else 2) = _
        rw [if_neg (by omega), if_pos rfl]
      · rw [e4, e5]
        exact ⟨by simp [Value.ownBlock], by simp [Value.ownBlock], fun g hg => by simp [Value.ownBlock] at hg⟩
      · rw [e4, e5]
        rintro k (rfl | hk | hk)
        · show (if h.xb < w.heap.size then own h.xb else if h.xb = h.hb then 6 + 8 * hs.length else if h.xb = h.xb then 7 + 8 * hs.length else if h.xb = h.rb then 8 + 8 * hs.length else 2) = _
          rw [if_neg (by omega), if_neg (fun e => hd1 e.symm), if_pos rfl]
          omega
        · simp [Value.ownBlock] at hk
        · simp [Value.ownBlock] at hk
      · rw [e6]
        rintro k (rfl | hk)
        · show (if h.rb < w.heap.size then own h.rb else if h.rb = h.hb then 6 + 8 * hs.length else if h.rb = h.xb then 7 + 8 * hs.length else if h.rb = h.rb then 8 + 8 * hs.length else 2) = _
          rw [if_neg (by omega), if_neg (fun e => hd2 e.symm), if_neg (fun e => hd3 e.symm), if_pos rfl]
          omega
        · simp [Value.ownBlock] at hk
end
end Go.Proofs.YtjkhbjgfoopomaaGreat
/-
  A step of a script; its frame; the program's Handle in package escrow.
-/
namespace Go.Proofs.YtjkhbjgfoopomaaGreat
open Go.RowKit
set_option linter.unusedVariables false
set_option linter.unusedSimpArgs false
structure Opr where
  kind : Int
  at_ : Int
  n : Int
  s : List UInt8
  msg : Msg
  pid : Int
  dead : Int
  memo : List UInt8
  legs : Option Addr
  llen : Nat
  lcap : Nat
  acc : Nat
  amt : Nat
def i64ok (x : Int) : Prop := -9223372036854775808 ≤ x ∧ x ≤ 9223372036854775807
def Opr.ok (o : Opr) : Prop := i64ok o.kind ∧ i64ok o.at_ ∧ i64ok o.n ∧ o.s.length ≤ 140737488351232 ∧ o.msg.ok ∧ o.msg.m.length ≤ 140737488351232 ∧ o.acc < 65536 ∧ o.amt < 4294967296
def Opr.cells (o : Opr) : Array Value := #[.int .i64 o.kind, .int .i64 o.at_, .int .i64 o.n, .string (bs o.s), .int .u8 (o.msg.k : Int), .int .u8 (o.msg.f : Int), .int .u8 (o.msg.t : Int), .int .u32 (o.msg.i : Int), .int .u8 (o.msg.l : Int), .int .u16 (o.msg.p : Int), .int .u16 (o.msg.g : Int), .int .u32 (o.msg.a : Int), .string (bs o.msg.m),
  .int .u32 o.pid, .int .u64 o.dead, .string (bs o.memo), .slice o.legs o.llen o.lcap, .int .u16 (o.acc : Int), .int .u32 (o.amt : Int)]
def Opr.v (o : Opr) : Value := .agg o.cells
/-- the frame of a step -/
def Opr.frame (o : Opr) : List UInt8 := if o.s = [] then encOf o.msg else o.s

set_option maxRecDepth 100000 in
set_option maxHeartbeats 1000000 in
theorem frame_any (o : Opr) (ho : o.ok) (w : World) : Calls Tryz.prog 29 #[o.v] w fun e w' => e = .returned (.string (bs o.frame)) ∧ Below w.heap.size w w' := by
  have hz : Hid (o.frame = if o.s = [] then encOf o.msg else o.s) := hide rfl
  have hE := hide (refEncode_any o.msg ho.2.2.2.2.1 ho.2.2.2.2.2.1)
  generalize o.frame = F at *
  obtain ⟨kind, at_, n, s, ⟨k, f, t, i, l, p, g, a, m⟩, pid, dead, memo, legs, llen, lcap, acc, amt⟩ := o
  simp only [Opr.v, Opr.cells, Msg.v, Msg.cells] at *
  generalize encOf _ = E at *
  generalize faultOf _ = fv at *
  by_cases h0 : s = []
  · subst h0
    have hq : Hid (F = E) := hide (by rw [hz.out]; simp)
    have d0 : (bs []).toList.isEmpty = true := by rw [bs_toList]; rfl
    clear hz ho
    go_enter Tryz.func29, Tryz.ntmps29
    go_wp2_with fail
    refine (hE.out _).mono ?_
    rintro e w1 ⟨rfl, hb⟩
    clear hE
    go_wp2
    go_ret
    exact ⟨by rw [hq.out]; rfl, all_kept hb⟩
  · have hq : Hid (F = s) := hide (by rw [hz.out]; simp [h0])
    have d0 : (bs s).toList.isEmpty = false := by rw [bs_toList]; simpa using h0
    clear hz ho
    go_enter Tryz.func29, Tryz.ntmps29
    go_wp2
    go_ret
    exact ⟨by rw [hq.out]; rfl, (Below.refl _ _).alloc (Nat.le_refl _) _⟩
set_option maxRecDepth 100000 in
set_option maxHeartbeats 1000000 in
theorem eHandle_any (s : ByteArray) (hs : s.size ≤ 140737488351232) (w : World) (B node : Nat) (hnode : 1 ≤ node ∧ node ≤ 7) (evs : List Ev) (ac : List Ac) (ls : List Lg) (va vl : Value) (hr : Rel evs ac ls) (hX : XB w B node ac ls va vl) (hap : Apart B va vl) :
    Calls Tryz.prog 30 #[.pointer (some ⟨B, 0, none⟩), .string s] w (XDone w B node evs s.data.toList va vl) := by
  have hT := hide (xHandle_any s hs w B node hnode evs ac ls va vl hr hX hap)
  have hc : ∀ o, _ = _ := fun o => cell_at hX.blk o
  go_enter Tryz.func30, Tryz.ntmps30
  go_wp2_with fail
  refine hT.out.mono ?_
  rintro e w1 ⟨lv, ac', ls', va', vl', rfl, h1, h2⟩
  have H : Hid (XDone w B node evs s.data.toList va vl (.returned (.tuple #[lv, .string (bs (rLog node s.data.toList evs)), .int .i64 (rErr node s.data.toList evs : Int)])) w1) := hide ⟨lv, ac', ls', va', vl', rfl, h1, h2⟩
  clear h1 h2 hT hc
  go_wp2
  go_ret3
  exact H.out
end Go.Proofs.YtjkhbjgfoopomaaGreat
/-
  A step of the statement Banks: what all of them use.
-/
namespace Go.Proofs.YtjkhbjgfoopomaaGreat
open Go.RowKit
set_option linter.unusedVariables false
set_option linter.unusedSimpArgs false
/-- the world goes on, all in order -/
def Goes (w0 : Base) (w' : World) (Wb : Nat) (hs : List House) (ll : List (Value × Nat)) (vb : Value) (i hb : Nat) : Prop :=
  ∃ own' hs' ll' vl', MemInv w0 w' Wb own' hs' ll' vb vl' ∧ (∀ h, h ∈ hs' → h.ok) ∧ hs'.map House.hb = (hs.map House.hb).set i hb ∧ ll'.length ≤ ll.length + 4
theorem set_like {w : World} {b i : Nat} {cs : Array Value} {t : TypeId} {fr : Nat × Nat} {u : Value} (h : w.heap[b]? = some (.cells cs t fr)) (hi : cs[i]? = some u) : Below w.heap.size w (w.setCell ⟨b, i, none⟩ u) := by
  refine ⟨rfl, rfl, rfl, by simp [World.setCell], fun k hk => ?_⟩
  by_cases e : k = b
  · subst e
    rw [heap_set_self h, h]
    congr 2
    apply Array.ext_getElem?
    intro j
    rw [Array.getElem?_setIfInBounds]
    split
    · rename_i e
      subst e
      split
      · exact hi.symm
      · rename_i hn
        rw [Array.getElem?_eq_none (by omega)]
    · rfl
  · exact Below.heap_setCell _ _ _ _ e
theorem hs_set_ok {hs : List House} (hok : ∀ h, h ∈ hs → h.ok) (i : Nat) (x : House) (hx : x.ok) : ∀ h, h ∈ hs.set i x → h.ok := by
  intro h hh
  rcases List.mem_or_eq_of_mem_set hh with h' | h'
  · exact hok h h'
  · rw [h']; exact hx
theorem MemInv.at {w0 : Base} {w : World} {Wb : Nat} {own : Nat → Nat} {hs : List House} {ll : List (Value × Nat)} {vb vl : Value} {i : Nat} {x : House} (hi : i < hs.length) (I : MemInv w0 w Wb own (hs.set i x) ll vb vl) : HouseMem w own (6 + 8 * i) x := by
  have h := I.house i (by simpa using hi)
  rw [List.getElem_set_self] at h
  exact h
theorem foot_lt {w : World} {own : Nat → Nat} {o : Nat} {h : House} (H : HouseMem w own o h) : (∀ k, xfoot h.xb h.va h.vl k → k < w.heap.size) ∧ ∀ k, (k = h.rb ∨ h.v.ownBlock = some k) → k < w.heap.size := by
  constructor
  · rintro k (rfl | hk | hk)
    · exact H.x.lt
    · exact H.x.arow.lt hk
    · exact H.x.lrow.lt hk
  · rintro k (rfl | hk)
    · exact H.r.lt
    · exact H.r.row.lt hk

theorem three_kept {S : Nat → Prop} {w u : World} {p q r : Addr} {x y z : Value} (hk : Kept S w u) (hp : p.block < w.heap.size ∧ ¬ S p.block) (hq : q.block < w.heap.size ∧ ¬ S q.block) (hr : r.block < w.heap.size ∧ ¬ S r.block)
    (h : w.cell? p = some x ∧ w.cell? q = some y ∧ w.cell? r = some z) : u.cell? p = some x ∧ u.cell? q = some y ∧ u.cell? r = some z :=
  ⟨(hk.cell hp.1 hp.2).trans h.1, (hk.cell hq.1 hq.2).trans h.2.1, (hk.cell hr.1 hr.2).trans h.2.2⟩

theorem MemInv.xstepS {w0 : Base} {w w' : World} {Wb : Nat} {own : Nat → Nat} {hs : List House} {ll : List (Value × Nat)} {vb vl : Value} {i : Nat} {x : House} (I : MemInv w0 w Wb own (hs.set i x) ll vb vl) (hi : i < hs.length) (lv : Value) (ac' : List Ac) (ls' : List Lg) (va' vl' : Value) (hT : XBTo w w' x.xb x.node ac' ls' x.va x.vl va' vl') (hf : ∀ g, lv.ownBlock = some g → w.heap.size ≤ g ∧ va'.ownBlock ≠ some g ∧ vl'.ownBlock ≠ some g) :
    MemInv w0 w' Wb (fun k => if k < w.heap.size then own k else if lv.ownBlock = some k then 4 else 7 + 8 * i) (hs.set i { x with ac := ac', ls := ls', va := va', vl := vl' }) ll vb vl := by
  have h := I.xstep (w' := w') i (by simpa using hi) lv ac' ls' va' vl'
  simp only [List.getElem_set_self, List.set_set] at h
  exact h hT hf
theorem MemInv.rstepS {w0 : Base} {w w' : World} {Wb : Nat} {own : Nat → Nat} {hs : List House} {ll : List (Value × Nat)} {vb vl : Value} {i : Nat} {x : House} (I : MemInv w0 w Wb own (hs.set i x) ll vb vl) (hi : i < hs.length) (evs' : List Ev) (v' : Value) (hT : RBTo w w' x.rb x.node evs' x.v v') :
    MemInv w0 w' Wb (fun k => if k < w.heap.size then own k else 8 + 8 * i) (hs.set i { x with evs := evs', v := v' }) ll vb vl := by
  have h := I.rstep (w' := w') i (by simpa using hi) evs' v'
  simp only [List.getElem_set_self, List.set_set] at h
  exact h hT
theorem MemInv.gstepS {w0 : Base} {w w' : World} {Wb : Nat} {own : Nat → Nat} {hs : List House} {ll : List (Value × Nat)} {vb vl : Value} {i : Nat} {x : House} (I : MemInv w0 w Wb own (hs.set i x) ll vb vl) (hi : i < hs.length) (lg' : List (List UInt8 × Nat)) (vg' : Value) (hk : Kept (fun k => k = x.hb ∨ x.vg.ownBlock = some k) w w')
    (hblk : w'.heap[x.hb]? = some (.cells #[.pointer (some ⟨x.xb, 0, none⟩), .pointer (some ⟨x.rb, 0, none⟩), vg'] 80 (0, 0))) (hrow : RowOf w' 152 2 logCell vg' lg') (hown : ∀ g, vg'.ownBlock = some g → x.vg.ownBlock = some g ∨ w.heap.size ≤ g) :
    MemInv w0 w' Wb (fun k => if k < w.heap.size then own k else 9 + 8 * i) (hs.set i { x with lg := lg', vg := vg' }) ll vb vl := by
  have h := I.gstep (w' := w') i (by simpa using hi) lg' vg'
  simp only [List.getElem_set_self, List.set_set] at h
  exact h hk hblk hrow hown
/-- the log is laid down in its house -/
theorem MemInv.log {w0 : Base} {w w1 : World} {Wb : Nat} {own : Nat → Nat} {hs : List House} {ll : List (Value × Nat)} {vb vl : Value} {i : Nat} {x : House} (I : MemInv w0 w Wb own (hs.set i x) ll vb vl) (hi : i < hs.length) (lg' : List (List UInt8 × Nat)) (vg' : Value) (hk : Kept (fun k => x.vg.ownBlock = some k) w w1)
    (hrow : RowOf w1 152 2 logCell vg' lg') (hown : ∀ g, vg'.ownBlock = some g → x.vg.ownBlock = some g ∨ w.heap.size ≤ g) :
    w1.heap[x.hb]? = some (.cells #[.pointer (some ⟨x.xb, 0, none⟩), .pointer (some ⟨x.rb, 0, none⟩), x.vg] 80 (0, 0)) ∧ MemInv w0 (w1.setCell ⟨x.hb, 2, none⟩ vg') Wb (fun k => if k < w.heap.size then own k else 9 + 8 * i) (hs.set i { x with lg := lg', vg := vg' }) ll vb vl := by
  have H := MemInv.at hi I
  have hnb : x.vg.ownBlock ≠ some x.hb := fun e => by have h1 := H.gown _ e; rw [H.hown] at h1; omega
  have hb1 : w1.heap[x.hb]? = some (.cells #[.pointer (some ⟨x.xb, 0, none⟩), .pointer (some ⟨x.rb, 0, none⟩), x.vg] 80 (0, 0)) := by rw [hk.block _ (block_lt H.blk) hnb]; exact H.blk
  refine ⟨hb1, I.gstepS hi lg' vg' ((hk.mono (fun i _ h => .inr h)).trans (Kept.of_setCell _ _ _) (fun i h => .inl (.inl h))) (heap_set_self hb1 2 _) (hrow.kept (Kept.of_setCell _ _ _) (fun g hg e => ?_)) hown⟩
  have e' : g = x.hb := e
  subst e'
  rcases hown _ hg with h | h
  · exact hnb h
  · have := block_lt H.blk; omega
/-- what a step on a bank answers -/
def BankSays (w0 : Base) (Wb : Nat) (hs : List House) (ll : List (Value × Nat)) (vb : Value) (i hb : Nat) (e : Ending) (w' : World) : Prop := e = .returned (.bool true) ∧ Goes w0 w' Wb hs ll vb i hb
theorem goes_of {w0 : Base} {w' : World} {Wb : Nat} {own : Nat → Nat} {hs : List House} {ll ll' : List (Value × Nat)} {vb vl : Value} {i : Nat} {x : House} (I : MemInv w0 w' Wb own (hs.set i x) ll' vb vl) (hok : ∀ h, h ∈ hs → h.ok) (hx : x.ok) (hl : ll'.length ≤ ll.length + 4) : Goes w0 w' Wb hs ll vb i x.hb :=
  ⟨own, hs.set i x, ll', vl, I, hs_set_ok hok i x hx, by rw [List.map_set], hl⟩
end Go.Proofs.YtjkhbjgfoopomaaGreat
/-
  A step of the statement Banks: a step's cells as a whole; a list that came out.
-/
namespace Go.Proofs.YtjkhbjgfoopomaaGreat
open Go.RowKit
set_option linter.unusedVariables false
set_option linter.unusedSimpArgs false
theorem opSize : (Tryz.prog.info? 46).map (·.size) = some 19 := by kernel_rfl
theorem op_range (o : Opr) (w : World) : (w.alloc (.cells o.cells 46)).rangeAt w.heap.size 0 o.cells.toList := by
  intro j v hj
  rw [Nat.zero_add, World.cell?_alloc_new]
  simpa using hj
theorem MemInv.below4 {w0 : Base} {w w' : World} {Wb : Nat} {own : Nat → Nat} {hs : List House} {ll : List (Value × Nat)} {vb vl : Value} (I : MemInv w0 w Wb own hs ll vb vl) (hb : Below w.heap.size w w') : MemInv w0 w' Wb (fun k => if k < w.heap.size then own k else 4) hs ll vb vl :=
  have hA : ∀ k, k < w.heap.size → (fun k => if k < w.heap.size then own k else 4) k = own k := fun k hk => by simp [hk]
  I.rest (S := fun _ => False) (Kept.of_below hb) (fun _ h => h.elim) hA I.far (I.brow.below hb) (fun i hi => (I.house i hi).kept (S := fun _ => False) (Kept.of_below hb) (fun _ _ h => h.elim) hA)
/-- a list that came out is no other list -/
theorem MemInv.apartL {w0 : Base} {w : World} {Wb : Nat} {own : Nat → Nat} {hs : List House} {ll : List (Value × Nat)} {vb vl : Value} (I : MemInv w0 w Wb own hs ll vb vl) {lv : Value} (hf : ∀ g, lv.ownBlock = some g → w.heap.size ≤ g) : ∀ i (hi : i < ll.length), ∀ g, ll[i].1.ownBlock = some g → lv.ownBlock ≠ some g := by
  intro i hi g hg e
  have h1 := (I.full i hi).2.lt hg
  have h2 := hf g e
  omega
theorem MemInv.sep {w0 : Base} {w : World} {Wb : Nat} {own : Nat → Nat} {hs : List House} {ll : List (Value × Nat)} {vb vl : Value} (I : MemInv w0 w Wb own hs ll vb vl) {lv : Value} (hlo : ∀ g, lv.ownBlock = some g → own g = 4) : vl.ownBlock ≠ some Wb ∧ lv.ownBlock ≠ some Wb ∧ ∀ g, lv.ownBlock = some g → vl.ownBlock ≠ some g := by
  refine ⟨fun e => ?_, fun e => ?_, fun g hg e => ?_⟩
  · have h1 := I.lown _ e; rw [I.wown] at h1; omega
  · have h1 := hlo _ e; rw [I.wown] at h1; omega
  · have h1 := I.lown _ e; rw [hlo g hg] at h1; omega
end Go.Proofs.YtjkhbjgfoopomaaGreat
