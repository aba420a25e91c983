import Derived.Test.YtjkhbjgfoopomabGreatS34
import Derived.Test.YtjkhbjgfoopomabGreatS30
import Derived.Test.YtjkhbjgfoopomabGreatS29
import Derived.Test.YtjkhbjgfoopomabGreatS4
import Derived.Test.YtjkhbjgfoopomabGreatS27
import Derived.Test.YtjkhbjgfoopomabGreatS3
/-
  What the statement Banks keeps in memory: an owner for each block.
-/
namespace Go.Proofs.YtjkhbjgfoopomabGreat
open Go.RowKit
set_option linter.unusedVariables false
set_option linter.unusedSimpArgs false

/-- a house: the blocks of its struct, of the program's bank, of the document's; how they stand -/
structure House where
  hb : Nat
  xb : Nat
  rb : Nat
  node : Nat
  evs : List Ev
  ac : List Ac
  ls : List Lg
  va : Value
  vl : Value
  v : Value
  lg : List (List UInt8 × Nat)
  vg : Value
/-- what a bank logs of an event -/
def textOf (e : Ev) : List UInt8 := if e.kind = 0 then openTextOf e.msg.p e.msg.a else frameOf e.msg
/-- a bank's log -/
def logOf (evs : List Ev) : List (List UInt8 × Nat) := evs.mapIdx fun j e => (textOf e, j)
def House.ok (h : House) : Prop := Rel h.evs h.ac h.ls ∧ 1 ≤ h.node ∧ h.node ≤ 7 ∧ h.lg = logOf h.evs
structure HouseMem (w : World) (own : Nat → Nat) (o : Nat) (h : House) : Prop where
  blk : w.heap[h.hb]? = some (.cells #[.pointer (some ⟨h.xb, 0, none⟩), .pointer (some ⟨h.rb, 0, none⟩), h.vg] 165 (0, 0))
  hown : own h.hb = o
  x : XB w h.xb h.node h.ac h.ls h.va h.vl
  xap : Apart h.xb h.va h.vl
  xown : ∀ k, xfoot h.xb h.va h.vl k → own k = o + 1
  r : RB w h.rb h.node h.evs h.v
  rap : h.v.ownBlock ≠ some h.rb
  rown : ∀ k, (k = h.rb ∨ h.v.ownBlock = some k) → own k = o + 2
  grow : RowOf w 209 2 logCell h.vg h.lg
  gown : ∀ g, h.vg.ownBlock = some g → own g = o + 3
def ptrCell (h : House) : List Value := [.pointer (some ⟨h.hb, 0, none⟩)]
/-- the owners that are no bank's: the notaries -/
def offCls (c : Nat) : Prop := c = 5 ∨ (6 ≤ c ∧ 4 ≤ (c - 6) % 8)
/-- a world, and the blocks of it that stay as they are; whether logs are asked for; the notaries, and what holds of them, whatever is done elsewhere -/
structure Base where
  w : World
  F : Nat → Prop
  lt : ∀ k, F k → k < w.heap.size
  lg : Bool
  vd : Value
  Q : World → (Nat → Nat) → Prop
  loc : ∀ (u u' : World) (own own' : Nat → Nat) (S : Nat → Prop), Q u own → Kept S u u' → (∀ k, k < u.heap.size → S k → ¬ offCls (own k)) → (∀ k, k < u.heap.size → own' k = own k) → Q u' own'
structure BelF (w0 : Base) (w : World) : Prop where
  os : w.os = w0.w.os
  tape : w.tape = w0.w.tape
  output : w.output = w0.w.output
  size : w0.w.heap.size ≤ w.heap.size
  block : ∀ k, w0.F k → w.heap[k]? = w0.w.heap[k]?
theorem BelF.kept {w0 : Base} {w w' : World} {S : Nat → Prop} (h : BelF w0 w) (hk : Kept S w w') (hS : ∀ k, w0.F k → ¬ S k) : BelF w0 w' :=
  ⟨hk.os.trans h.os, hk.tape.trans h.tape, hk.output.trans h.output, Nat.le_trans h.size hk.size, fun k hF => (hk.block k (Nat.lt_of_lt_of_le (w0.lt k hF) h.size) (hS k hF)).trans (h.block k hF)⟩
structure MemInv (w0 : Base) (w : World) (Wb : Nat) (own : Nat → Nat) (hs : List House) (ll : List (Value × Nat)) (vb vl : Value) : Prop where
  bel : BelF w0 w
  old : ∀ k, own k ≠ 0 → ¬ w0.F k
  wblk : w.heap[Wb]? = some (.cells #[.bool w0.lg, vb, w0.vd, vl] 98 (0, 0))
  wown : own Wb = 1
  brow : RowOf w 124 1 ptrCell vb hs
  bown : ∀ g, vb.ownBlock = some g → own g = 2
  lrow : RowOf w 38 1 lstCell vl ll
  lown : ∀ g, vl.ownBlock = some g → own g = 3
  full : ∀ i (hi : i < ll.length), ll[i].2 ≤ 1000000 ∧ RowOf w 9 1 txtCell ll[i].1 (List.replicate ll[i].2 (markB (i / 4 + 1)))
  fown : ∀ i (hi : i < ll.length), ∀ g, ll[i].1.ownBlock = some g → own g = 4
  four : ll.length % 4 = 0
  house : ∀ i (hi : i < hs.length), HouseMem w own (6 + 8 * i) hs[i]
  oth : w0.Q w own

section
variable {w0 : Base} {w w' : World} {Wb : Nat} {own own' : Nat → Nat} {hs : List House} {ll : List (Value × Nat)} {vb vl : Value} {S : Nat → Prop}
theorem part_row {α : Type} {f : α → List Value} {sz : Nat} {e : TypeId} {v : Value} {xs : List α} {c : Nat} (h : RowOf w e sz f v xs) (ho : ∀ g, v.ownBlock = some g → own g = c) (hk : Kept S w w') (hS : ∀ k, k < w.heap.size → S k → own k ≠ c) : RowOf w' e sz f v xs :=
  h.kept hk (fun g hg hs => hS g (h.lt hg) hs (ho g hg))
theorem part_own {α : Type} {f : α → List Value} {sz : Nat} {e : TypeId} {v : Value} {xs : List α} {c : Nat} (h : RowOf w e sz f v xs) (ho : ∀ g, v.ownBlock = some g → own g = c) (hA : ∀ k, k < w.heap.size → own' k = own k) : ∀ g, v.ownBlock = some g → own' g = c :=
  fun g hg => (hA g (h.lt hg)).trans (ho g hg)
theorem HouseMem.kept {o : Nat} {h : House} (H : HouseMem w own o h) (hk : Kept S w w') (hS : ∀ k, k < w.heap.size → S k → own k ≠ o ∧ own k ≠ o + 1 ∧ own k ≠ o + 2 ∧ own k ≠ o + 3) (hA : ∀ k, k < w.heap.size → own' k = own k) : HouseMem w' own' o h := by
  have h1 := block_lt H.blk
  have h2 := H.x.lt
  have h3 := H.r.lt
  refine ⟨by rw [hk.block _ h1 (fun hs => (hS _ h1 hs).1 H.hown)]; exact H.blk, (hA _ h1).trans H.hown, ⟨?_, ?_, ?_⟩, H.xap, ?_, ⟨?_, ?_⟩, H.rap, ?_, part_row H.grow H.gown hk (fun k hk' hs => (hS k hk' hs).2.2.2), part_own H.grow H.gown hA⟩
  · refine ty_of (T := tyAt w h.xb) ?_
    rw [hk.block _ h2 (fun hs => (hS _ h2 hs).2.1 (H.xown _ (.inl rfl)))]
    exact H.x.blk
  · exact part_row H.x.arow (fun g hg => H.xown g (.inr (.inl hg))) hk (fun k hk' hs => (hS k hk' hs).2.1)
  · exact part_row H.x.lrow (fun g hg => H.xown g (.inr (.inr hg))) hk (fun k hk' hs => (hS k hk' hs).2.1)
  · intro k hk'
    refine (hA k ?_).trans (H.xown k hk')
    rcases hk' with rfl | hk' | hk'
    · exact h2
    · exact H.x.arow.lt hk'
    · exact H.x.lrow.lt hk'
  · rw [hk.block _ h3 (fun hs => (hS _ h3 hs).2.2.1 (H.rown _ (.inl rfl)))]
    exact H.r.blk
  · exact part_row H.r.row (fun g hg => H.rown g (.inr hg)) hk (fun k hk' hs => (hS k hk' hs).2.2.1)
  · intro k hk'
    refine (hA k ?_).trans (H.rown k hk')
    rcases hk' with rfl | hk'
    · exact h3
    · exact H.r.row.lt hk'
/-- all but the houses: nothing of theirs is touched -/
theorem MemInv.rest (I : MemInv w0 w Wb own hs ll vb vl) (hk : Kept S w w') (hS : ∀ k, S k → 6 ≤ own k ∧ (own k - 6) % 8 < 4) (hA : ∀ k, k < w.heap.size → own' k = own k) (hO : ∀ k, k < w.heap.size ∨ ¬ w0.F k)
    {hs' : List House} (hr : RowOf w' 124 1 ptrCell vb hs') (hh : ∀ i (hi : i < hs'.length), HouseMem w' own' (6 + 8 * i) hs'[i]) : MemInv w0 w' Wb own' hs' ll vb vl := by
  have hWl := block_lt I.wblk
  refine ⟨I.bel.kept hk (fun k hF hs => I.old k (by have := hS k hs; omega) hF), ?_, ?_, (hA _ hWl).trans I.wown, hr, part_own I.brow I.bown hA, ?_, part_own I.lrow I.lown hA, ?_, ?_, I.four, hh, w0.loc _ _ _ _ S I.oth hk (fun k _ hs h => by have := hS k hs; unfold offCls at h; omega) hA⟩
  · intro k hk'
    rcases hO k with h | h
    · exact I.old k (by rw [← hA k h]; exact hk')
    · exact h
  · rw [hk.block _ hWl (fun hs => by have := hS _ hs; rw [I.wown] at this; omega)]
    exact I.wblk
  · exact part_row I.lrow I.lown hk (fun k _ hs => by have := hS k hs; omega)
  · intro i hi
    exact ⟨(I.full i hi).1, part_row (I.full i hi).2 (I.fown i hi) hk (fun k _ hs => by have := hS k hs; omega)⟩
  · intro i hi
    exact part_own (I.full i hi).2 (I.fown i hi) hA
theorem MemInv.far (I : MemInv w0 w Wb own hs ll vb vl) : ∀ k, k < w.heap.size ∨ ¬ w0.F k := fun k => by
  rcases Nat.lt_or_ge k w.heap.size with h | h
  · exact .inl h
  · exact .inr (fun hF => by have h1 := w0.lt k hF; have h2 := I.bel.size; omega)
/-- a call that turns nothing old -/
theorem MemInv.below (I : MemInv w0 w Wb own hs ll vb vl) (hb : Below w.heap.size w w') : MemInv w0 w' Wb own hs ll vb vl :=
  I.rest (S := fun _ => False) (Kept.of_below hb) (fun _ h => h.elim) (fun _ _ => rfl) I.far (I.brow.below hb) (fun i hi => (I.house i hi).kept (S := fun _ => False) (Kept.of_below hb) (fun _ _ h => h.elim) (fun _ _ => rfl))
end
end Go.Proofs.YtjkhbjgfoopomabGreat
/-
  What the statement Banks keeps in memory: a list more in the book, a house more.
-/
namespace Go.Proofs.YtjkhbjgfoopomabGreat
open Go.RowKit
set_option linter.unusedVariables false
set_option linter.unusedSimpArgs false
section
variable {w0 : Base} {w w' : World} {Wb : Nat} {own own' : Nat → Nat} {hs : List House} {ll : List (Value × Nat)} {vb vl : Value} {S : Nat → Prop}
theorem MemInv.keeps (I : MemInv w0 w Wb own hs ll vb vl) (lv : Value) (xs : List (List UInt8)) (hx : xs.length ≤ 1000) (hlv : RowOf w 9 1 txtCell lv xs) (hlo : ∀ g, lv.ownBlock = some g → own g = 4) (hn : ∀ i (hi : i < ll.length), ∀ g, ll[i].1.ownBlock = some g → lv.ownBlock ≠ some g)
    (hB : Booked w w' Wb w0.lg vb w0.vd vl ll lv xs.length) : ∃ own' ll' vl', MemInv w0 w' Wb own' hs ll' vb vl' ∧ ll'.length = ll.length + 4 := by
  obtain ⟨vl', vf, vg, vh, B⟩ := hB
  have hcl : ∀ k, (k = Wb ∨ vl.ownBlock = some k ∨ lv.ownBlock = some k) → own k = 1 ∨ own k = 3 ∨ own k = 4 := by
    rintro k (rfl | h | h)
    · exact .inl I.wown
    · exact .inr (.inl (I.lown k h))
    · exact .inr (.inr (hlo k h))
  have hA : ∀ k, k < w.heap.size → (fun k => if k < w.heap.size then own k else if vl'.ownBlock = some k then 3 else 4) k = own k := fun k hk => by simp [hk]
  have hll : ll ++ [(lv, xs.length)] ++ [(vf, xs.length + 1)] ++ [(vg, xs.length + 2)] ++ [(vh, xs.length + 3)] = ll ++ [(lv, xs.length), (vf, xs.length + 1), (vg, xs.length + 2), (vh, xs.length + 3)] := by simp
  rw [hll] at B
  refine ⟨fun k => if k < w.heap.size then own k else if vl'.ownBlock = some k then 3 else 4, ll ++ [(lv, xs.length), (vf, xs.length + 1), (vg, xs.length + 2), (vh, xs.length + 3)], vl', ?_, by simp⟩
  have hin : ∀ i (hi : i < (ll ++ [(lv, xs.length), (vf, xs.length + 1), (vg, xs.length + 2), (vh, xs.length + 3)]).length), (∃ hi' : i < ll.length, (ll ++ [(lv, xs.length), (vf, xs.length + 1), (vg, xs.length + 2), (vh, xs.length + 3)])[i] = ll[i]) ∨ ((ll ++ [(lv, xs.length), (vf, xs.length + 1), (vg, xs.length + 2), (vh, xs.length + 3)])[i] ∈ [(lv, xs.length), (vf, xs.length + 1), (vg, xs.length + 2), (vh, xs.length + 3)] ∧ i / 4 = ll.length / 4) := by
    intro i hi
    by_cases h : i < ll.length
    · exact .inl ⟨h, List.getElem_append_left h⟩
    · right
      have h4 := I.four
      refine ⟨?_, by simp at hi; omega⟩
      rw [List.getElem_append_right (by omega)]
      exact List.getElem_mem _
  refine ⟨?_, ?_, B.blk, (hA _ (block_lt I.wblk)).trans I.wown, ?_, part_own I.brow I.bown hA, B.lst, ?_, ?_, ?_, by have := I.four; simp; omega, ?_, w0.loc _ _ _ _ _ I.oth B.kept (fun k _ hk h => by have := hcl k hk; unfold offCls at h; omega) hA⟩
  · exact I.bel.kept B.kept (fun k hF hk => I.old k (by have := hcl k hk; omega) hF)
  · intro k hk
    rcases I.far k with h | h
    · exact I.old k (by rw [← hA k h]; exact hk)
    · exact h
  · exact part_row I.brow I.bown B.kept (fun k _ hk => by have := hcl k hk; omega)
  · intro g hg
    rcases B.lown g hg with h | h
    · exact (hA g (I.lrow.lt h)).trans (I.lown g h)
    · show (if g < w.heap.size then own g else if vl'.ownBlock = some g then 3 else 4) = 3
      rw [if_neg (by omega), if_pos hg]
  · intro i hi
    rcases hin i hi with ⟨hi', e⟩ | ⟨hm, e⟩
    · rw [e]
      refine ⟨(I.full i hi').1, (I.full i hi').2.kept B.kept ?_⟩
      intro g hg hk
      have h4 := I.fown i hi' g hg
      rcases hk with rfl | h | h
      · rw [I.wown] at h4; omega
      · rw [I.lown g h] at h4; omega
      · exact hn i hi' g hg h
    · refine ⟨?_, by rw [e]; exact B.full _ hm⟩
      simp only [List.mem_cons, List.not_mem_nil, or_false] at hm
      rcases hm with h | h | h | h <;> rw [h] <;> simp <;> omega
  · intro i hi g hg
    rcases hin i hi with ⟨hi', e⟩ | ⟨hm, e⟩
    · rw [e] at hg
      exact (hA g ((I.full i hi').2.lt hg)).trans (I.fown i hi' g hg)
    · rcases B.rown _ hm g hg with h | h
      · exact (hA g (hlv.lt h)).trans (hlo g h)
      · show (if g < w.heap.size then own g else if vl'.ownBlock = some g then 3 else 4) = 4
        rw [if_neg (by omega), if_neg (B.apart _ hm g hg).1]
  · intro i hi
    exact (I.house i hi).kept B.kept (fun k hk' hk => by have := hcl k hk; omega) hA
/-- a house more -/
theorem MemInv.more (I : MemInv w0 w Wb own hs ll vb vl) (h : House) (vb' : Value) (hk : Kept (fun k => k = Wb ∨ vb.ownBlock = some k) w w')
    (hblk : w'.heap[Wb]? = some (.cells #[.bool w0.lg, vb', w0.vd, vl] 98 (0, 0))) (hrow : RowOf w' 124 1 ptrCell vb' (hs ++ [h])) (hb : ∀ g, vb'.ownBlock = some g → vb.ownBlock = some g ∨ w.heap.size ≤ g)
    (hn1 : w.heap.size ≤ h.hb) (hn2 : w.heap.size ≤ h.xb) (hn3 : w.heap.size ≤ h.rb) (hd1 : h.hb ≠ h.xb) (hd2 : h.hb ≠ h.rb) (hd3 : h.xb ≠ h.rb) (hd4 : vb'.ownBlock ≠ some h.hb ∧ vb'.ownBlock ≠ some h.xb ∧ vb'.ownBlock ≠ some h.rb)
    (hhb : w'.heap[h.hb]? = some (.cells #[.pointer (some ⟨h.xb, 0, none⟩), .pointer (some ⟨h.rb, 0, none⟩), .slice none 0 0] 165 (0, 0))) (hX : XB w' h.xb h.node [] [] (.slice none 0 0) (.slice none 0 0)) (hR : RB w' h.rb h.node [] (.slice none 0 0))
    (he : h.evs = [] ∧ h.ac = [] ∧ h.ls = [] ∧ h.va = .slice none 0 0 ∧ h.vl = .slice none 0 0 ∧ h.v = .slice none 0 0 ∧ h.lg = [] ∧ h.vg = .slice none 0 0) : ∃ own', MemInv w0 w' Wb own' (hs ++ [h]) ll vb' vl := by
  have hcl : ∀ k, (k = Wb ∨ vb.ownBlock = some k) → own k = 1 ∨ own k = 2 := by
    rintro k (rfl | h)
    · exact .inl I.wown
    · exact .inr (I.bown k h)
  have hA : ∀ k, k < w.heap.size → (fun k => if k < w.heap.size then own k else if k = h.hb then 6 + 8 * hs.length else if k = h.xb then 7 + 8 * hs.length else if k = h.rb then 8 + 8 * hs.length else 2) k = own k := fun k hk => by simp [hk]
  refine ⟨fun k => if k < w.heap.size then own k else if k = h.hb then 6 + 8 * hs.length else if k = h.xb then 7 + 8 * hs.length else if k = h.rb then 8 + 8 * hs.length else 2, ?_⟩
  refine ⟨?_, ?_, hblk, (hA _ (block_lt I.wblk)).trans I.wown, hrow, ?_, ?_, part_own I.lrow I.lown hA, ?_, ?_, I.four, ?_, w0.loc _ _ _ _ _ I.oth hk (fun k _ hk h => by have := hcl k hk; unfold offCls at h; omega) hA⟩
  · exact I.bel.kept hk (fun k hF hk => I.old k (by have := hcl k hk; omega) hF)
  · intro k hk'
    rcases I.far k with h | h
    · exact I.old k (by rw [← hA k h]; exact hk')
    · exact h
  · intro g hg
    rcases hb g hg with h' | h'
    · exact (hA g (I.brow.lt h')).trans (I.bown g h')
    · show (if g < w.heap.size then own g else if g = h.hb then 6 + 8 * hs.length else if g = h.xb then 7 + 8 * hs.length else if g = h.rb then 8 + 8 * hs.length else 2) = 2
      rw [if_neg (by omega), if_neg (fun e => hd4.1 (by rw [← e]; exact hg)), if_neg (fun e => hd4.2.1 (by rw [← e]; exact hg)), if_neg (fun e => hd4.2.2 (by rw [← e]; exact hg))]
  · exact part_row I.lrow I.lown hk (fun k _ hk => by have := hcl k hk; omega)
  · intro i hi
    exact ⟨(I.full i hi).1, part_row (I.full i hi).2 (I.fown i hi) hk (fun k _ hk => by have := hcl k hk; omega)⟩
  · intro i hi
    exact part_own (I.full i hi).2 (I.fown i hi) hA
  · intro i hi
    by_cases e : i < hs.length
    · rw [List.getElem_append_left e]
      exact (I.house i e).kept hk (fun k _ hk => by have := hcl k hk; omega) hA
    · obtain rfl : i = hs.length := by simp at hi; omega
      rw [List.getElem_append_right (Nat.le_refl _)]
      simp only [Nat.sub_self, List.getElem_cons_zero]
      obtain ⟨e1, e2, e3, e4, e5, e6, e7, e8⟩ := he
      refine ⟨by rw [e8]; exact hhb, ?_, by rw [e2, e3, e4, e5]; exact hX, ?_, ?_, by rw [e1, e6]; exact hR, by rw [e6]; simp [Value.ownBlock], ?_, by rw [e7, e8]; exact RowOf.nil _ _, by rw [e8]; intro g hg; simp [Value.ownBlock] at hg⟩
      · show (if h.hb < w.heap.size then own h.hb else if h.hb = h.hb then 6 + 8 * hs.length else if h.hb = h.xb then 7 + 8 * hs.length else if h.hb = h.rb then 8 + 8 * hs.length else 2) = _
        rw [if_neg (by omega), if_pos rfl]
      · rw [e4, e5]
        exact ⟨by simp [Value.ownBlock], by simp [Value.ownBlock], fun g hg => by simp [Value.ownBlock] at hg⟩
      · rw [e4, e5]
        rintro k (rfl | hk | hk)
        · show (if h.xb < w.heap.size then own h.xb else if h.xb = h.hb then 6 + 8 * hs.length else if h.xb = h.xb then 7 + 8 * hs.length else if h.xb = h.rb then 8 + 8 * hs.length else 2) = _
          rw [if_neg (by omega), if_neg (fun e => hd1 e.symm), if_pos rfl]
          omega
        · simp [Value.ownBlock] at hk
        · simp [Value.ownBlock] at hk
      · rw [e6]
        rintro k (rfl | hk)
        · show (if h.rb < w.heap.size then own h.rb else if h.rb = h.hb then 6 + 8 * hs.length else if h.rb = h.xb then 7 + 8 * hs.length else if h.rb = h.rb then 8 + 8 * hs.length else 2) = _
          rw [if_neg (by omega), if_neg (fun e => hd2 e.symm), if_neg (fun e => hd3 e.symm), if_pos rfl]
          omega
        · simp [Value.ownBlock] at hk
end
end Go.Proofs.YtjkhbjgfoopomabGreat
/-
  A step of a script; its frame; the program's Handle in package escrow.
-/
namespace Go.Proofs.YtjkhbjgfoopomabGreat
open Go.RowKit
set_option linter.unusedVariables false
set_option linter.unusedSimpArgs false
structure Opr where
  kind : Int
  at_ : Int
  n : Int
  s : List UInt8
  msg : Msg
  pid : Int
  dead : Int
  memo : List UInt8
  legs : Option Addr
  llen : Nat
  lcap : Nat
  acc : Nat
  amt : Nat
def i64ok (x : Int) : Prop := -9223372036854775808 ≤ x ∧ x ≤ 9223372036854775807
def Opr.ok (o : Opr) : Prop := i64ok o.kind ∧ i64ok o.at_ ∧ i64ok o.n ∧ o.s.length ≤ 140737488351232 ∧ o.msg.ok ∧ o.msg.m.length ≤ 140737488351232 ∧ o.acc < 65536 ∧ o.amt < 4294967296
def Opr.cells (o : Opr) : Array Value := #[.int .i64 o.kind, .int .i64 o.at_, .int .i64 o.n, .string (bs o.s), .int .u8 (o.msg.k : Int), .int .u8 (o.msg.f : Int), .int .u8 (o.msg.t : Int), .int .u32 (o.msg.i : Int), .int .u8 (o.msg.l : Int), .int .u16 (o.msg.p : Int), .int .u16 (o.msg.g : Int), .int .u32 (o.msg.a : Int), .string (bs o.msg.m),
  .int .u32 o.pid, .int .u64 o.dead, .string (bs o.memo), .slice o.legs o.llen o.lcap, .int .u16 (o.acc : Int), .int .u32 (o.amt : Int)]
def Opr.v (o : Opr) : Value := .agg o.cells
/-- the frame of a step -/
def Opr.frame (o : Opr) : List UInt8 := if o.s = [] then encOf o.msg else o.s

set_option maxRecDepth 100000 in
set_option maxHeartbeats 1000000 in
theorem eHandle_any (s : ByteArray) (hs : s.size ≤ 140737488351232) (w : World) (B node : Nat) (hnode : 1 ≤ node ∧ node ≤ 7) (evs : List Ev) (ac : List Ac) (ls : List Lg) (va vl : Value) (hr : Rel evs ac ls) (hX : XB w B node ac ls va vl) (hap : Apart B va vl) :
    Calls Tryz.prog 74 #[.pointer (some ⟨B, 0, none⟩), .string s] w (XDone w B node evs s.data.toList va vl) := by
  have hT := hide (xHandle_any s hs w B node hnode evs ac ls va vl hr hX hap)
  have hc : ∀ o, _ = _ := fun o => cell_at hX.blk o
  go_enter Tryz.func74, Tryz.ntmps74
  go_wp2_with fail
  refine hT.out.mono ?_
  rintro e w1 ⟨lv, ac', ls', va', vl', rfl, h1, h2⟩
  have H : Hid (XDone w B node evs s.data.toList va vl (.returned (.tuple #[lv, .string (bs (rLog node s.data.toList evs)), .int .i64 (rErr node s.data.toList evs : Int)])) w1) := hide ⟨lv, ac', ls', va', vl', rfl, h1, h2⟩
  clear h1 h2 hT hc
  go_wp2
  go_ret3
  exact H.out
end Go.Proofs.YtjkhbjgfoopomabGreat
