import Derived.Test.YtjkhbjgfoopomaaGreatG13
import Derived.Test.YtjkhbjgfoopomaaGreatXWrapD
/-
  What the statement Deeds keeps in memory: an owner for each block (the mirror of LawInv).
-/
namespace Go.Proofs.YtjkhbjgfoopomaaGreat
open Go.RowKit
set_option linter.unusedVariables false
set_option linter.unusedSimpArgs false
/-- an office: the blocks of its struct, of the program's notary, of the document's; how they stand -/
structure Office where
  hb : Nat
  xb : Nat
  rb : Nat
  ck : Nat
  acts : List Dt
  ps : List Xp
  xv : Value
  v : Value
  lg : List (List UInt8 × Nat)
  vg : Value
def Office.ok (N : Nat) (h : Office) : Prop := DRel h.acts h.ck h.ps ∧ h.lg = dlogOf h.acts ∧ h.acts.length ≤ N
structure OffMem (w : World) (own : Nat → Nat) (o : Nat) (h : Office) : Prop where
  blk : w.heap[h.hb]? = some (.cells #[.pointer (some ⟨h.xb, 0, none⟩), .pointer (some ⟨h.rb, 0, none⟩), h.vg] 68 (0, 0))
  hown : own h.hb = o
  x : XD w h.xb h.ck h.ps h.xv
  xap : XDap h.xb h.ps h.xv
  xown : ∀ k, xdfoot h.xb h.ps h.xv k → own k = o + 1
  r : RD w h.rb h.acts h.v
  rap : RDap h.rb h.acts h.v
  rown : ∀ k, rdfoot h.rb h.acts h.v k → own k = o + 2
  grow : RowOf w 152 2 logCell h.vg h.lg
  gown : ∀ g, h.vg.ownBlock = some g → own g = o + 3
def offCell (h : Office) : List Value := [.pointer (some ⟨h.hb, 0, none⟩)]
theorem offCell_length (h : Office) : (offCell h).length = 1 := rfl
/-- the owners that are banks' -/
def bankCls (c : Nat) : Prop := c = 2 ∨ (6 ≤ c ∧ (c - 6) % 8 < 4)
/-- a world, and the blocks of it that stay as they are; whether logs are asked for; the banks, and what holds of them, whatever is done elsewhere -/
structure DBase where
  w : World
  F : Nat → Prop
  lt : ∀ k, F k → k < w.heap.size
  lg : Bool
  vb : Value
  Q : World → (Nat → Nat) → Prop
  loc : ∀ (u u' : World) (own own' : Nat → Nat) (S : Nat → Prop), Q u own → Kept S u u' → (∀ k, k < u.heap.size → S k → ¬ bankCls (own k)) → (∀ k, k < u.heap.size → own' k = own k) → Q u' own'
def DBase.bs (b : DBase) : Base := ⟨b.w, b.F, b.lt, b.lg, .slice none 0 0, fun _ _ => True, fun _ _ _ _ _ _ _ _ _ => trivial⟩
structure DInv (w0 : DBase) (w : World) (Wb : Nat) (own : Nat → Nat) (hs : List Office) (ll : List (Value × Nat)) (vd vl : Value) : Prop where
  bel : BelF w0.bs w
  old : ∀ k, own k ≠ 0 → ¬ w0.F k
  wblk : w.heap[Wb]? = some (.cells #[.bool w0.lg, w0.vb, vd, vl] 30 (0, 0))
  wown : own Wb = 1
  drow : RowOf w 52 1 offCell vd hs
  down : ∀ g, vd.ownBlock = some g → own g = 5
  lrow : RowOf w 59 1 lstCell vl ll
  lown : ∀ g, vl.ownBlock = some g → own g = 3
  full : ∀ i (hi : i < ll.length), ll[i].2 ≤ 1000000 ∧ RowOf w 9 1 txtCell ll[i].1 (List.replicate ll[i].2 (markB (i / 4 + 1)))
  fown : ∀ i (hi : i < ll.length), ∀ g, ll[i].1.ownBlock = some g → own g = 4
  four : ll.length % 4 = 0
  house : ∀ i (hi : i < hs.length), OffMem w own (10 + 8 * i) hs[i]
  oth : w0.Q w own
theorem XD.kept {w w' : World} {S : Nat → Prop} {B ck : Nat} {ps : List Xp} {v : Value} (h : XD w B ck ps v) (hk : Kept S w w') (hS : ∀ k, xdfoot B ps v k → ¬ S k) : XD w' B ck ps v :=
  ⟨by rw [hk.block _ h.lt (hS _ (.inl rfl))]; exact h.blk, h.row.kept hk (fun g hg => hS g (.inr (.inl hg))), fun x hx => (h.legs x hx).kept hk (fun g hg => hS g (.inr (.inr ⟨x, hx, hg⟩)))⟩
theorem RD.kept {w w' : World} {S : Nat → Prop} {B : Nat} {acts : List Dt} {v : Value} (h : RD w B acts v) (hk : Kept S w w') (hS : ∀ k, rdfoot B acts v k → ¬ S k) : RD w' B acts v :=
  ⟨by rw [hk.block _ h.lt (hS _ (.inl rfl))]; exact h.blk, h.row.kept hk (fun g hg => hS g (.inr (.inl hg))), fun x hx => (h.legs x hx).kept hk (fun g hg => hS g (.inr (.inr ⟨x, hx, hg⟩)))⟩
section
variable {w0 : DBase} {w w' : World} {Wb : Nat} {own own' : Nat → Nat} {hs : List Office} {ll : List (Value × Nat)} {vd vl : Value} {S : Nat → Prop}
theorem OffMem.kept {o : Nat} {h : Office} (H : OffMem w own o h) (hk : Kept S w w') (hS : ∀ k, k < w.heap.size → S k → own k ≠ o ∧ own k ≠ o + 1 ∧ own k ≠ o + 2 ∧ own k ≠ o + 3) (hA : ∀ k, k < w.heap.size → own' k = own k) : OffMem w' own' o h := by
  have h1 := block_lt H.blk
  refine ⟨by rw [hk.block _ h1 (fun hs => (hS _ h1 hs).1 H.hown)]; exact H.blk, (hA _ h1).trans H.hown, H.x.kept hk (fun k hk' hs => (hS k (H.x.foot_lt hk') hs).2.1 (H.xown k hk')), H.xap, fun k hk' => (hA k (H.x.foot_lt hk')).trans (H.xown k hk'), H.r.kept hk (fun k hk' hs => (hS k (H.r.foot_lt hk') hs).2.2.1 (H.rown k hk')), H.rap, fun k hk' => (hA k (H.r.foot_lt hk')).trans (H.rown k hk'), part_row H.grow H.gown hk (fun k hk' hs => (hS k hk' hs).2.2.2), part_own H.grow H.gown hA⟩
/-- all but the offices: nothing of theirs is touched -/
theorem DInv.rest (I : DInv w0 w Wb own hs ll vd vl) (hk : Kept S w w') (hS : ∀ k, S k → 10 ≤ own k ∧ 4 ≤ (own k - 6) % 8) (hA : ∀ k, k < w.heap.size → own' k = own k) (hO : ∀ k, k < w.heap.size ∨ ¬ w0.F k)
    {hs' : List Office} (hr : RowOf w' 52 1 offCell vd hs') (hh : ∀ i (hi : i < hs'.length), OffMem w' own' (10 + 8 * i) hs'[i]) : DInv w0 w' Wb own' hs' ll vd vl := by
  have hWl := block_lt I.wblk
  refine ⟨I.bel.kept hk (fun k hF hs => I.old k (by have := hS k hs; omega) hF), ?_, ?_, (hA _ hWl).trans I.wown, hr, part_own I.drow I.down hA, ?_, part_own I.lrow I.lown hA, ?_, ?_, I.four, hh, w0.loc _ _ _ _ S I.oth hk (fun k _ hs h => by have := hS k hs; unfold bankCls at h; omega) hA⟩
  · intro k hk'
    rcases hO k with h | h
    · exact I.old k (by rw [← hA k h]; exact hk')
    · exact h
  · rw [hk.block _ hWl (fun hs => by have := hS _ hs; rw [I.wown] at this; omega)]
    exact I.wblk
  · exact part_row I.lrow I.lown hk (fun k _ hs => by have := hS k hs; omega)
  · intro i hi
    exact ⟨(I.full i hi).1, part_row (I.full i hi).2 (I.fown i hi) hk (fun k _ hs => by have := hS k hs; omega)⟩
  · intro i hi
    exact part_own (I.full i hi).2 (I.fown i hi) hA
theorem DInv.far (I : DInv w0 w Wb own hs ll vd vl) : ∀ k, k < w.heap.size ∨ ¬ w0.F k := fun k => by
  rcases Nat.lt_or_ge k w.heap.size with h | h
  · exact .inl h
  · exact .inr (fun hF => by have h1 := w0.lt k hF; have h2 : w0.w.heap.size ≤ w.heap.size := I.bel.size; omega)
/-- a call that turns nothing old -/
theorem DInv.below (I : DInv w0 w Wb own hs ll vd vl) (hb : Below w.heap.size w w') : DInv w0 w' Wb own hs ll vd vl :=
  I.rest (S := fun _ => False) (Kept.of_below hb) (fun _ h => h.elim) (fun _ _ => rfl) I.far (I.drow.below hb) (fun i hi => (I.house i hi).kept (S := fun _ => False) (Kept.of_below hb) (fun _ _ h => h.elim) (fun _ _ => rfl))
theorem orow_set (h : RowOf w 52 1 offCell vd hs) (i : Nat) (hi : i < hs.length) (x : Office) (hx : x.hb = hs[i].hb) : RowOf w 52 1 offCell vd (hs.set i x) := by
  have e : (hs.set i x).flatMap offCell = hs.flatMap offCell := by
    have : ∀ l : List Office, l.flatMap offCell = (l.map Office.hb).map fun b => Value.pointer (some ⟨b, 0, none⟩) := fun l => by
      induction l with
      | nil => rfl
      | cons y r ih => rw [List.flatMap_cons, ih]; rfl
    rw [this, this, List.map_set, hx]
    congr 1
    rw [show hs[i].hb = (hs.map Office.hb)[i]'(by simpa using hi) by simp]
    exact List.set_getElem_self _
  unfold RowOf
  rw [List.length_set, e]
  exact h
/-- the program's notary of office i has gone on; lv: a list that came out -/
theorem DInv.xstep (I : DInv w0 w Wb own hs ll vd vl) (i : Nat) (hi : i < hs.length) (lv : Value) (ck' : Nat) (ps' : List Xp) (xv' : Value) (hT : XDTo w w' hs[i].xb ck' hs[i].ps ps' hs[i].xv xv') (hf : ∀ g, lv.ownBlock = some g → w.heap.size ≤ g ∧ ¬ xdfoot hs[i].xb ps' xv' g) :
    DInv w0 w' Wb (fun k => if k < w.heap.size then own k else if lv.ownBlock = some k then 4 else 11 + 8 * i) (hs.set i { hs[i] with ck := ck', ps := ps', xv := xv' }) ll vd vl := by
  have H := I.house i hi
  have hA : ∀ k, k < w.heap.size → (fun k => if k < w.heap.size then own k else if lv.ownBlock = some k then 4 else 11 + 8 * i) k = own k := fun k hk => by simp [hk]
  have hSx : ∀ k, (k = hs[i].xb ∨ hs[i].xv.ownBlock = some k) → own k = 11 + 8 * i := fun k hk => by
    have hk' : xdfoot hs[i].xb hs[i].ps hs[i].xv k := hk.imp_right .inl
    rw [H.xown k hk']; omega
  have hr := I.rest (S := fun k => k = hs[i].xb ∨ hs[i].xv.ownBlock = some k) hT.kept (fun k hk => by rw [hSx k hk]; omega) hA I.far (hs' := hs.set i { hs[i] with ck := ck', ps := ps', xv := xv' })
  refine hr (orow_set (part_row I.drow I.down hT.kept (fun k _ hk => by rw [hSx k hk]; omega)) i hi _ rfl) ?_
  intro j hj
  rw [List.length_set] at hj
  by_cases e : i = j
  · subst e
    rw [List.getElem_set_self]
    have h1 := block_lt H.blk
    refine ⟨?_, (hA _ h1).trans H.hown, hT.xd, hT.ap, ?_, H.r.kept hT.kept (fun k hk' hx => by have h2 := hSx k hx; rw [H.rown k hk'] at h2; omega), H.rap, fun k hk' => (hA k (H.r.foot_lt hk')).trans (H.rown k hk'), part_row H.grow H.gown hT.kept (fun k _ hk => by rw [hSx k hk]; omega), part_own H.grow H.gown hA⟩
    · show w'.heap[hs[i].hb]? = _
      rw [hT.kept.block _ h1 (fun hx => by have := hSx _ hx; rw [H.hown] at this; omega)]
      exact H.blk
    · intro k hk
      rcases hT.own k hk with h | h
      · exact (hA k (H.x.foot_lt h)).trans (H.xown k h)
      · show (if k < w.heap.size then own k else if lv.ownBlock = some k then 4 else 11 + 8 * i) = 10 + 8 * i + 1
        rw [if_neg (by omega), if_neg (fun e => (hf k e).2 hk)]
        omega
  · rw [List.getElem_set_ne e]
    exact (I.house j hj).kept hT.kept (fun k hk hx => by rw [hSx k hx]; omega) hA
/-- the document's notary of office i has gone on -/
theorem DInv.rstep (I : DInv w0 w Wb own hs ll vd vl) (i : Nat) (hi : i < hs.length) (acts' : List Dt) (v' : Value) (hT : RDTo w w' hs[i].rb hs[i].acts acts' hs[i].v v') :
    DInv w0 w' Wb (fun k => if k < w.heap.size then own k else 12 + 8 * i) (hs.set i { hs[i] with acts := acts', v := v' }) ll vd vl := by
  have H := I.house i hi
  have hA : ∀ k, k < w.heap.size → (fun k => if k < w.heap.size then own k else 12 + 8 * i) k = own k := fun k hk => by simp [hk]
  have hSx : ∀ k, (k = hs[i].rb ∨ hs[i].v.ownBlock = some k) → own k = 12 + 8 * i := fun k hk => by
    have hk' : rdfoot hs[i].rb hs[i].acts hs[i].v k := hk.imp_right .inl
    rw [H.rown k hk']; omega
  have hr := I.rest (S := fun k => k = hs[i].rb ∨ hs[i].v.ownBlock = some k) hT.kept (fun k hk => by rw [hSx k hk]; omega) hA I.far (hs' := hs.set i { hs[i] with acts := acts', v := v' })
  refine hr (orow_set (part_row I.drow I.down hT.kept (fun k _ hk => by rw [hSx k hk]; omega)) i hi _ rfl) ?_
  intro j hj
  rw [List.length_set] at hj
  by_cases e : i = j
  · subst e
    rw [List.getElem_set_self]
    have h1 := block_lt H.blk
    refine ⟨?_, (hA _ h1).trans H.hown, H.x.kept hT.kept (fun k hk' hx => by have h2 := hSx k hx; rw [H.xown k hk'] at h2; omega), H.xap, fun k hk' => (hA k (H.x.foot_lt hk')).trans (H.xown k hk'), hT.rd, hT.ap, ?_, part_row H.grow H.gown hT.kept (fun k _ hk => by rw [hSx k hk]; omega), part_own H.grow H.gown hA⟩
    · show w'.heap[hs[i].hb]? = _
      rw [hT.kept.block _ h1 (fun hx => by have := hSx _ hx; rw [H.hown] at this; omega)]
      exact H.blk
    · intro k hk
      rcases hT.own k hk with h | h
      · exact (hA k (H.r.foot_lt h)).trans (H.rown k h)
      · show (if k < w.heap.size then own k else 12 + 8 * i) = 10 + 8 * i + 2
        rw [if_neg (by omega)]
        omega
  · rw [List.getElem_set_ne e]
    exact (I.house j hj).kept hT.kept (fun k hk hx => by rw [hSx k hx]; omega) hA
/-- the log of office i has gone on -/
theorem DInv.gstep (I : DInv w0 w Wb own hs ll vd vl) (i : Nat) (hi : i < hs.length) (lg' : List (List UInt8 × Nat)) (vg' : Value) (hk : Kept (fun k => k = hs[i].hb ∨ hs[i].vg.ownBlock = some k) w w')
    (hblk : w'.heap[hs[i].hb]? = some (.cells #[.pointer (some ⟨hs[i].xb, 0, none⟩), .pointer (some ⟨hs[i].rb, 0, none⟩), vg'] 68 (0, 0))) (hrow : RowOf w' 152 2 logCell vg' lg') (hown : ∀ g, vg'.ownBlock = some g → hs[i].vg.ownBlock = some g ∨ w.heap.size ≤ g) :
    DInv w0 w' Wb (fun k => if k < w.heap.size then own k else 13 + 8 * i) (hs.set i { hs[i] with lg := lg', vg := vg' }) ll vd vl := by
  have H := I.house i hi
  have hA : ∀ k, k < w.heap.size → (fun k => if k < w.heap.size then own k else 13 + 8 * i) k = own k := fun k hk => by simp [hk]
  have hSx : ∀ k, (k = hs[i].hb ∨ hs[i].vg.ownBlock = some k) → own k = 10 + 8 * i ∨ own k = 13 + 8 * i := by
    rintro k (rfl | h)
    · exact .inl H.hown
    · exact .inr (by rw [H.gown k h]; omega)
  have hr := I.rest (S := fun k => k = hs[i].hb ∨ hs[i].vg.ownBlock = some k) hk (fun k hk => by have := hSx k hk; omega) hA I.far (hs' := hs.set i { hs[i] with lg := lg', vg := vg' })
  refine hr (orow_set (part_row I.drow I.down hk (fun k _ hk => by have := hSx k hk; omega)) i hi _ rfl) ?_
  intro j hj
  rw [List.length_set] at hj
  by_cases e : i = j
  · subst e
    rw [List.getElem_set_self]
    have h1 := block_lt H.blk
    refine ⟨hblk, (hA _ h1).trans H.hown, H.x.kept hk (fun k hk' hx => by have h2 := hSx k hx; rw [H.xown k hk'] at h2; omega), H.xap, fun k hk' => (hA k (H.x.foot_lt hk')).trans (H.xown k hk'), H.r.kept hk (fun k hk' hx => by have h2 := hSx k hx; rw [H.rown k hk'] at h2; omega), H.rap, fun k hk' => (hA k (H.r.foot_lt hk')).trans (H.rown k hk'), hrow, ?_⟩
    intro g hg
    rcases hown g hg with h | h
    · exact (hA _ (H.grow.lt h)).trans (H.gown g h)
    · show (if g < w.heap.size then own g else 13 + 8 * i) = 10 + 8 * i + 3
      rw [if_neg (by omega)]
      omega
  · rw [List.getElem_set_ne e]
    exact (I.house j hj).kept hk (fun k hk hx => by have := hSx k hx; omega) hA
end
end Go.Proofs.YtjkhbjgfoopomaaGreat
/-
  What the statement Deeds keeps in memory: a list more in the book, an office more.
-/
namespace Go.Proofs.YtjkhbjgfoopomaaGreat
open Go.RowKit
set_option linter.unusedVariables false
set_option linter.unusedSimpArgs false
section
variable {w0 : DBase} {w w' : World} {Wb : Nat} {own own' : Nat → Nat} {hs : List Office} {ll : List (Value × Nat)} {vd vl : Value} {S : Nat → Prop}
theorem DInv.keeps (I : DInv w0 w Wb own hs ll vd vl) (lv : Value) (xs : List (List UInt8)) (hx : xs.length ≤ 1000) (hlv : RowOf w 9 1 txtCell lv xs) (hlo : ∀ g, lv.ownBlock = some g → own g = 4) (hn : ∀ i (hi : i < ll.length), ∀ g, ll[i].1.ownBlock = some g → lv.ownBlock ≠ some g)
    (hB : Booked w w' Wb w0.lg w0.vb vd vl ll lv xs.length) : ∃ own' ll' vl', DInv w0 w' Wb own' hs ll' vd vl' ∧ ll'.length = ll.length + 4 := by
  obtain ⟨vl', vf, vg, vh, B⟩ := hB
  have hcl : ∀ k, (k = Wb ∨ vl.ownBlock = some k ∨ lv.ownBlock = some k) → own k = 1 ∨ own k = 3 ∨ own k = 4 := by
    rintro k (rfl | h | h)
    · exact .inl I.wown
    · exact .inr (.inl (I.lown k h))
    · exact .inr (.inr (hlo k h))
  have hA : ∀ k, k < w.heap.size → (fun k => if k < w.heap.size then own k else if vl'.ownBlock = some k then 3 else 4) k = own k := fun k hk => by simp [hk]
  have hll : ll ++ [(lv, xs.length)] ++ [(vf, xs.length + 1)] ++ [(vg, xs.length + 2)] ++ [(vh, xs.length + 3)] = ll ++ [(lv, xs.length), (vf, xs.length + 1), (vg, xs.length + 2), (vh, xs.length + 3)] := by simp
  rw [hll] at B
  refine ⟨fun k => if k < w.heap.size then own k else if vl'.ownBlock = some k then 3 else 4, ll ++ [(lv, xs.length), (vf, xs.length + 1), (vg, xs.length + 2), (vh, xs.length + 3)], vl', ?_, by simp⟩
  have hin : ∀ i (hi : i < (ll ++ [(lv, xs.length), (vf, xs.length + 1), (vg, xs.length + 2), (vh, xs.length + 3)]).length), (∃ hi' : i < ll.length, (ll ++ [(lv, xs.length), (vf, xs.length + 1), (vg, xs.length + 2), (vh, xs.length + 3)])[i] = ll[i]) ∨ ((ll ++ [(lv, xs.length), (vf, xs.length + 1), (vg, xs.length + 2), (vh, xs.length + 3)])[i] ∈ [(lv, xs.length), (vf, xs.length + 1), (vg, xs.length + 2), (vh, xs.length + 3)] ∧ i / 4 = ll.length / 4) := by
    intro i hi
    by_cases h : i < ll.length
    · exact .inl ⟨h, List.getElem_append_left h⟩
    · right
      have h4 := I.four
      refine ⟨?_, by simp at hi; omega⟩
      rw [List.getElem_append_right (by omega)]
      exact List.getElem_mem _
  refine ⟨?_, ?_, B.blk, (hA _ (block_lt I.wblk)).trans I.wown, ?_, part_own I.drow I.down hA, B.lst, ?_, ?_, ?_, by have := I.four; simp; omega, ?_, w0.loc _ _ _ _ _ I.oth B.kept (fun k _ hk h => by have := hcl k hk; unfold bankCls at h; omega) hA⟩
  · exact I.bel.kept B.kept (fun k hF hk => I.old k (by have := hcl k hk; omega) hF)
  · intro k hk
    rcases I.far k with h | h
    · exact I.old k (by rw [← hA k h]; exact hk)
    · exact h
  · exact part_row I.drow I.down B.kept (fun k _ hk => by have := hcl k hk; omega)
  · intro g hg
    rcases B.lown g hg with h | h
    · exact (hA g (I.lrow.lt h)).trans (I.lown g h)
    · show (if g < w.heap.size then own g else if vl'.ownBlock = some g then 3 else 4) = 3
      rw [if_neg (by omega), if_pos hg]
  · intro i hi
    rcases hin i hi with ⟨hi', e⟩ | ⟨hm, e⟩
    · rw [e]
      refine ⟨(I.full i hi').1, (I.full i hi').2.kept B.kept ?_⟩
      intro g hg hk
      have h4 := I.fown i hi' g hg
      rcases hk with rfl | h | h
      · rw [I.wown] at h4; omega
      · rw [I.lown g h] at h4; omega
      · exact hn i hi' g hg h
    · refine ⟨?_, by rw [e]; exact B.full _ hm⟩
      simp only [List.mem_cons, List.not_mem_nil, or_false] at hm
      rcases hm with h | h | h | h <;> rw [h] <;> simp <;> omega
  · intro i hi g hg
    rcases hin i hi with ⟨hi', e⟩ | ⟨hm, e⟩
    · rw [e] at hg
      exact (hA g ((I.full i hi').2.lt hg)).trans (I.fown i hi' g hg)
    · rcases B.rown _ hm g hg with h | h
      · exact (hA g (hlv.lt h)).trans (hlo g h)
      · show (if g < w.heap.size then own g else if vl'.ownBlock = some g then 3 else 4) = 4
        rw [if_neg (by omega), if_neg (B.apart _ hm g hg).1]
  · intro i hi
    exact (I.house i hi).kept B.kept (fun k hk' hk => by have := hcl k hk; omega) hA
/-- an office more -/
theorem DInv.more (I : DInv w0 w Wb own hs ll vd vl) (h : Office) (vd' : Value) (hk : Kept (fun k => k = Wb ∨ vd.ownBlock = some k) w w')
    (hblk : w'.heap[Wb]? = some (.cells #[.bool w0.lg, w0.vb, vd', vl] 30 (0, 0))) (hrow : RowOf w' 52 1 offCell vd' (hs ++ [h])) (hb : ∀ g, vd'.ownBlock = some g → vd.ownBlock = some g ∨ w.heap.size ≤ g)
    (hn1 : w.heap.size ≤ h.hb) (hn2 : w.heap.size ≤ h.xb) (hn3 : w.heap.size ≤ h.rb) (hd1 : h.hb ≠ h.xb) (hd2 : h.hb ≠ h.rb) (hd3 : h.xb ≠ h.rb) (hd4 : vd'.ownBlock ≠ some h.hb ∧ vd'.ownBlock ≠ some h.xb ∧ vd'.ownBlock ≠ some h.rb)
    (hhb : w'.heap[h.hb]? = some (.cells #[.pointer (some ⟨h.xb, 0, none⟩), .pointer (some ⟨h.rb, 0, none⟩), .slice none 0 0] 68 (0, 0))) (hX : XD w' h.xb 0 [] (.slice none 0 0)) (hR : RD w' h.rb [] (.slice none 0 0))
    (he : h.acts = [] ∧ h.ck = 0 ∧ h.ps = [] ∧ h.xv = .slice none 0 0 ∧ h.v = .slice none 0 0 ∧ h.lg = [] ∧ h.vg = .slice none 0 0) : ∃ own', DInv w0 w' Wb own' (hs ++ [h]) ll vd' vl := by
  have hcl : ∀ k, (k = Wb ∨ vd.ownBlock = some k) → own k = 1 ∨ own k = 5 := by
    rintro k (rfl | h)
    · exact .inl I.wown
    · exact .inr (I.down k h)
  have hA : ∀ k, k < w.heap.size → (fun k => if k < w.heap.size then own k else if k = h.hb then 10 + 8 * hs.length else if k = h.xb then 11 + 8 * hs.length else if k = h.rb then 12 + 8 * hs.length else 5) k = own k := fun k hk => by simp [hk]
  refine ⟨fun k => if k < w.heap.size then own k else if k = h.hb then 10 + 8 * hs.length else if k = h.xb then 11 + 8 * hs.length else if k = h.rb then 12 + 8 * hs.length else 5, ?_⟩
  refine ⟨?_, ?_, hblk, (hA _ (block_lt I.wblk)).trans I.wown, hrow, ?_, ?_, part_own I.lrow I.lown hA, ?_, ?_, I.four, ?_, w0.loc _ _ _ _ _ I.oth hk (fun k _ hk h => by have := hcl k hk; unfold bankCls at h; omega) hA⟩
  · exact I.bel.kept hk (fun k hF hk => I.old k (by have := hcl k hk; omega) hF)
  · intro k hk'
    rcases I.far k with h | h
    · exact I.old k (by rw [← hA k h]; exact hk')
    · exact h
  · intro g hg
    rcases hb g hg with h' | h'
    · exact (hA g (I.drow.lt h')).trans (I.down g h')
    · show (if g < w.heap.size then own g else if g = h.hb then 10 + 8 * hs.length else if g = h.xb then 11 + 8 * hs.length else if g = h.rb then 12 + 8 * hs.length else 5) = 5
      rw [if_neg (by omega), if_neg (fun e => hd4.1 (by rw [← e]; exact hg)), if_neg (fun e => hd4.2.1 (by rw [← e]; exact hg)), if_neg (fun e => hd4.2.2 (by rw [← e]; exact hg))]
  · exact part_row I.lrow I.lown hk (fun k _ hk => by have := hcl k hk; omega)
  · intro i hi
    exact ⟨(I.full i hi).1, part_row (I.full i hi).2 (I.fown i hi) hk (fun k _ hk => by have := hcl k hk; omega)⟩
  · intro i hi
    exact part_own (I.full i hi).2 (I.fown i hi) hA
  · intro i hi
    by_cases e : i < hs.length
    · rw [List.getElem_append_left e]
      exact (I.house i e).kept hk (fun k _ hk => by have := hcl k hk; omega) hA
    · obtain rfl : i = hs.length := by simp at hi; omega
      rw [List.getElem_append_right (Nat.le_refl _)]
      simp only [Nat.sub_self, List.getElem_cons_zero]
      obtain ⟨hb', xb', rb', ck', acts', ps', xv', v', lg', vg'⟩ := h
      obtain ⟨e1, e2, e3, e4, e5, e6, e7⟩ := he
      simp only at e1 e2 e3 e4 e5 e6 e7 hX hR hhb hn1 hn2 hn3 hd1 hd2 hd3
      subst e1 e2 e3 e4 e5 e6 e7
      refine ⟨hhb, ?_, hX, ⟨by simp [Value.ownBlock], fun x hx => by simp at hx⟩, ?_, hR, ⟨by simp [Value.ownBlock], fun x hx => by simp at hx⟩, ?_, RowOf.nil _ _, fun g hg => by simp [Value.ownBlock] at hg⟩
      · show (if hb' < w.heap.size then own hb' else if hb' = hb' then 10 + 8 * hs.length else if hb' = xb' then 11 + 8 * hs.length else if hb' = rb' then 12 + 8 * hs.length else 5) = _
        rw [if_neg (by omega), if_pos rfl]
      · rintro k (rfl | hk | ⟨x, hx, hk⟩)
        · show (if k < w.heap.size then own k else if k = hb' then 10 + 8 * hs.length else if k = k then 11 + 8 * hs.length else if k = rb' then 12 + 8 * hs.length else 5) = _
          rw [if_neg (by omega), if_neg (fun e => hd1 e.symm), if_pos rfl]
          omega
        · simp [Value.ownBlock] at hk
        · simp at hx
      · rintro k (rfl | hk | ⟨x, hx, hk⟩)
        · show (if k < w.heap.size then own k else if k = hb' then 10 + 8 * hs.length else if k = xb' then 11 + 8 * hs.length else if k = k then 12 + 8 * hs.length else 5) = _
          rw [if_neg (by omega), if_neg (fun e => hd2 e.symm), if_neg (fun e => hd3 e.symm), if_pos rfl]
          omega
        · simp [Value.ownBlock] at hk
        · simp at hx
end
end Go.Proofs.YtjkhbjgfoopomaaGreat
