import Derived.Test.YtjkhbjgfoopomabGreatS7
import Derived.Test.YtjkhbjgfoopomabGreatS4
import Derived.Test.YtjkhbjgfoopomabGreatS3
import Derived.Deep.RegionHeld3
import Derived.Deep.RegionLaw
import Derived.BigQuiet
/-
  What the document's Bank.Handle does: plain, and how its answer lies in memory.
-/
namespace Go.Proofs.YtjkhbjgfoopomabGreat
open Go.RowKit
set_option linter.unusedVariables false
set_option linter.unusedSimpArgs false

theorem bs_same (a b : List UInt8) : ((bs a).toList == (bs b).toList) = decide (a = b) := by rw [bs_toList, bs_toList]; by_cases h : a = b <;> simp [h]
theorem legFold_asked (id l : Nat) (evs : List Ev) : ∀ s : Nat × Msg × Bool, (s.2.2 = true → s.1 ≠ 0) → ((evs.foldl (legStep id l) s).2.2 = true → (evs.foldl (legStep id l) s).1 ≠ 0) := by
  induction evs with
  | nil => intro s h; exact h
  | cons e r ih =>
    intro s h
    refine ih _ ?_
    unfold legStep
    (repeat' split) <;> first | exact h | (intro _; simp)
theorem legOf_asked (id l : Nat) (evs : List Ev) : (legOf id l evs).2.2 = true → (legOf id l evs).1 ≠ 0 := legFold_asked id l evs _ (by simp)

def otherB (x y : Msg) : Bool := decide (y.p ≠ x.p) || (decide (y.g ≠ x.g) || (decide (y.a ≠ x.a) || decide (y.m ≠ x.m)))
/-- the error of a message that is to this bank -/
def hErrT (x : Msg) (T : Nat × Msg × Bool) (n : Nat) : Nat :=
  if x.k = 1 ∧ T.2.2 = true ∧ otherB x T.2.1 = true then 11
  else if (x.k = 2 ∧ T.1 ≠ 1 ∧ T.1 ≠ 3) ∨ (x.k = 3 ∧ T.1 = 3) then 14
  else if x.k ≠ 2 ∧ T.1 = 0 ∧ 128 ≤ n then 10 else 0
def hErrOf (x : Msg) (evs : List Ev) : Nat := hErrT x (legOf x.i x.l evs) (keysOf evs).length
def hNewT (x : Msg) (T : Nat × Msg × Bool) (n : Nat) (can : Bool) : List Ev :=
  if hErrT x T n ≠ 0 then [] else if x.k = 1 ∧ T.1 = 0 then [⟨1, x, can⟩] else if x.k = 2 ∧ T.1 = 1 then [⟨2, x, false⟩] else if x.k = 3 ∧ T.1 ≠ 4 then [⟨3, x, false⟩] else []
/-- what has changed the bank behind it -/
def hEvsOf (x : Msg) (evs : List Ev) : List Ev := evs ++ hNewT x (legOf x.i x.l evs) (keysOf evs).length (canB x evs)

def strCell (l : List UInt8) : List Value := [.string (bs l)]
theorem strCell_length (l : List UInt8) : (strCell l).length = 1 := rfl
structure Handed (w w' : World) (B node : Nat) (evs' : List Ev) (v v' lv : Value) (outs : List (List UInt8)) : Prop where
  to : RBTo w w' B node evs' v v'
  row : RowOf w' 9 1 strCell lv outs
  fresh : ∀ g, lv.ownBlock = some g → w.heap.size ≤ g ∧ v'.ownBlock ≠ some g
theorem RBTo.then {w u u2 : World} {B node : Nat} {evs' : List Ev} {v v' : Value} (h : RBTo w u B node evs' v v') (hb : Below u.heap.size u u2) : RBTo w u2 B node evs' v v' :=
  ⟨h.rb.below hb, h.kept.trans (Kept.of_below (S := fun _ => False) hb) (fun i hi => hi.elim), h.own, h.ap⟩
theorem RBTo.same {w u : World} {B node : Nat} {evs : List Ev} {v : Value} (hR : RB w B node evs v) (hap : v.ownBlock ≠ some B) (hb : Below w.heap.size w u) : RBTo w u B node evs v v :=
  ⟨hR.below hb, Kept.of_below hb, fun g h => .inl h, hap⟩
theorem Handed.nil {w u : World} {B node : Nat} {evs' : List Ev} {v v' : Value} (h : RBTo w u B node evs' v v') : Handed w u B node evs' v v' (.slice none 0 0) [] :=
  ⟨h, RowOf.nil _ _, fun g hg => by simp [Value.ownBlock] at hg⟩
theorem Handed.single {w u u2 : World} {B node : Nat} {evs' : List Ev} {v v' : Value} (h : RBTo w u B node evs' v v') (hb : Below u.heap.size u u2) (ans : List UInt8) :
    Handed w (u2.alloc (.cells #[.string (bs ans)] 9)) B node evs' v v' (.slice (some ⟨u2.heap.size, 0, none⟩) 1 1) [ans] := by
  have h2 := h.then hb
  have hbel : Below u2.heap.size u2 (u2.alloc (.cells #[.string (bs ans)] 9)) := (Below.refl _ _).alloc (Nat.le_refl _) _
  have h3 := h2.then hbel
  refine ⟨h3, ⟨rfl, .inr ⟨u2.heap.size, 1, #[.string (bs ans)], rfl, Nat.zero_le _, heap_alloc_self _ _, Nat.le_refl _, by unfold maxLen; omega, rfl, rfl⟩⟩, ?_⟩
  intro g hg
  have : g = u2.heap.size := by simpa [Value.ownBlock] using hg.symm
  subst this
  refine ⟨h2.kept.size, fun e => ?_⟩
  have := h2.rb.row.lt e
  omega
end Go.Proofs.YtjkhbjgfoopomabGreat
/-
  The document's Same.
-/
namespace Go.Proofs.YtjkhbjgfoopomabGreat
open Go.RowKit
set_option linter.unusedVariables false
set_option linter.unusedSimpArgs false
def plSame (x y : Pl) : Bool := x.b == y.b && x.p == y.p && x.g == y.g && x.a == y.a
def lsSame : List Pl → List Pl → Bool
  | x :: r, y :: s => plSame x y && lsSame r s
  | _, _ => true
/-- P9: the same payment? -/
def sameOf (a b : Pm) : Bool := a.id == b.id && a.dl == b.dl && a.memo == b.memo && a.legs.length == b.legs.length && lsSame a.legs b.legs
theorem lsSame_at : ∀ (k : Nat) {l m : List Pl} (hl : k < l.length) (hm : k < m.length), lsSame (l.take k) (m.take k) = true → plSame l[k] m[k] = false → lsSame l m = false
  | 0, x :: r, y :: s, _, _, _, h => by
    simp only [List.getElem_cons_zero] at h
    simp [lsSame, h]
  | k + 1, x :: r, y :: s, hl, hm, h0, h => by
    simp only [List.take_succ_cons, lsSame, Bool.and_eq_true] at h0
    simp only [List.getElem_cons_succ] at h
    simp [lsSame, lsSame_at k (by simpa using hl) (by simpa using hm) h0.2 h]
theorem lsSame_next : ∀ (k : Nat) {l m : List Pl} (hl : k < l.length) (hm : k < m.length), lsSame (l.take k) (m.take k) = true → plSame l[k] m[k] = true → lsSame (l.take (k + 1)) (m.take (k + 1)) = true
  | 0, x :: r, y :: s, _, _, _, h => by
    simp only [List.getElem_cons_zero] at h
    simp [lsSame, h]
  | k + 1, x :: r, y :: s, hl, hm, h0, h => by
    simp only [List.take_succ_cons, lsSame, Bool.and_eq_true] at h0
    simp only [List.getElem_cons_succ] at h
    rw [List.take_succ_cons, List.take_succ_cons, lsSame, h0.1, lsSame_next k (by simpa using hl) (by simpa using hm) h0.2 h]
    rfl
theorem TwoP.mk2 (w : World) (x y : Pm) : TwoP w x y ((w.alloc (.cells x.cells.toArray 69)).alloc (.cells y.cells.toArray 69)) := by
  refine ⟨((Below.refl _ _).alloc (Nat.le_refl _) _).alloc (by simp) _, ?_, ?_⟩
  · rw [Below.heap_alloc _ _ _ (by simp)]
    exact heap_alloc_self _ _
  · rw [show w.heap.size + 1 = (w.alloc (.cells x.cells.toArray 69)).heap.size from by simp]
    exact heap_alloc_self _ _
theorem TwoP.below {w u u' : World} {x y : Pm} (h : TwoP w x y u) (hb : Below u.heap.size u u') : TwoP w x y u' :=
  ⟨h.bel.trans (hb.mono h.bel.size), by rw [hb.block _ (block_lt h.one)]; exact h.one, by rw [hb.block _ (block_lt h.two)]; exact h.two⟩

end Go.Proofs.YtjkhbjgfoopomabGreat
/-
  The document's Submit, where it answers an error.
-/
namespace Go.Proofs.YtjkhbjgfoopomabGreat
open Go.RowKit
set_option linter.unusedVariables false
set_option linter.unusedSimpArgs false
theorem findFold_mem (id : Nat) (acts : List Dt) : ∀ s : Pm × Bool × Nat, (acts.foldl (findStep id) s).2.1 = true → (s.2.1 = true ∧ (acts.foldl (findStep id) s).1 = s.1) ∨ ∃ x, x ∈ acts ∧ x.kind = -1 ∧ x.pay.id = id ∧ (acts.foldl (findStep id) s).1 = x.pay := by
  induction acts with
  | nil => intro s h; exact .inl ⟨h, rfl⟩
  | cons x r ih =>
    intro s h
    simp only [List.foldl_cons] at h ⊢
    rcases ih (findStep id s x) h with ⟨h1, h2⟩ | ⟨y, hy, h1, h2, h3⟩
    · by_cases hk : x.kind = -1
      · by_cases hi : x.pay.id = id
        · exact .inr ⟨x, by simp, hk, hi, by rw [h2]; simp [findStep, hk, hi]⟩
        · left
          simp only [findStep, hk, hi, if_true, if_false] at h1 h2 ⊢
          exact ⟨h1, h2⟩
      · left
        simp only [findStep, hk, if_false] at h1 h2 ⊢
        exact ⟨h1, h2⟩
    · exact .inr ⟨y, by simp [hy], h1, h2, h3⟩
theorem findOf_mem {id : Nat} {acts : List Dt} (h : (findOf id acts).2.1 = true) : ∃ x, x ∈ acts ∧ x.kind = -1 ∧ x.pay.id = id ∧ (findOf id acts).1 = x.pay := by
  rcases findFold_mem id acts (noPm, false, 0) h with ⟨h1, _⟩ | h1
  · simp at h1
  · exact h1
/-- P9: the error of Submit -/
def subErr (p : Pm) (acts : List Dt) : Nat :=
  if wrongOf p = 0 then (if (findOf p.id acts).2.1 then (if sameOf p (findOf p.id acts).1 then 0 else 11) else if p.dl ≤ clockOf acts then 12 else if 32 ≤ (findOf p.id acts).2.2 then 10 else 0) else wrongOf p
/-- the payments that are kept are none too large -/
def PayOk (x : Dt) : Prop := x.pay.legs.length ≤ 4 ∧ x.pay.memo.length ≤ 1000
theorem wrongOf_few {p : Pm} (h : wrongOf p = 0) : p.legs.length ≤ 4 := by
  unfold wrongOf at h
  split at h
  · omega
  · omega

end Go.Proofs.YtjkhbjgfoopomabGreat
/-
  append of one struct to a row of structs, as one step of a region that draws its order.
-/
namespace Go.Proofs.YtjkhbjgfoopomabGreat
open Go.RowKit
set_option linter.unusedVariables false
theorem step_row {P : Program} {ops : Array Oper} {o : Oper} {a : Act} {K : Act → World → Prop} {Q : Exit → Act → World → Prop} {E : Prop} {α : Type} {f : α → List Value} {sz : Nat} (hf : ∀ x, (f x).length = sz) {W : World} (hgd : o.guard = none) (s x : Operand) (t : TypeId)
    (ho : o.op = .call { callee := .builtin .append, args := #[s, x], argTypes := #[t, t] }) (e : TypeId) (i : TypeInfo) (z : Value) (bytes : Nat) (ht : P.underlying t = some (.slice e)) (hi : P.info? e = some i) (hz : i.zero = some z)
    (hsize : i.size = sz) (hby : i.bytes = bytes) (hzs : z.cells.size = sz) (hsz : 0 < sz) (v : Value) (xs : List α) (b c : Nat) (y : α) (h1 : ∀ u ∈ f y, u.oneCell' = true) (h63 : xs.length + 1 ≤ maxLen) (hbytes : (xs.length + 1) * bytes ≤ 140737488355328)
    (hs : a.eval s = v) (hx : a.eval x = .slice (some ⟨b, 0, none⟩) 1 c) (hrow : RowOf W e sz f v xs) (hb : W.heap[b]? = some (.cells (f y).toArray e (0, 0)))
    (h : ∀ g cap w', RowOf w' e sz f (.slice (some ⟨g, 0, none⟩) (xs.length + 1) cap) (xs ++ [y]) → Kept (fun k => v.ownBlock = some k) W w' → (v.ownBlock = some g ∨ W.heap.size ≤ g) → g < w'.heap.size → K (a.put o.dst (.slice (some ⟨g, 0, none⟩) (xs.length + 1) cap)) w') :
    if Region.wanted o (yielded ops a.tmps) = true then Oper.wp P o a W K Q else E := by
  refine step_append_lies _ hgd s x t ho 0 e i z sz bytes ht hi hz hsize hby hzs hsz v xs.length (xs.flatMap f) hs hrow ⟨b, 0, none⟩ 1 c (f y) hx (by rw [hf]; omega) ?_ h1 (by decide) h63 hbytes (Nat.zero_le _) _ rfl ?_
  · intro j u hu
    exact World.news_of_block hb j u hu
  · intro g cap w' hown hgrow hat hlt
    refine h g cap w' (RowOf.to (xs := xs) hf hown (by simp) (by simp)) (Kept.of_grown hgrow) ?_ hlt
    rcases hat with h' | h'
    · exact .inl h'
    · exact .inr (by omega)
end Go.Proofs.YtjkhbjgfoopomabGreat
/-
  The document's notary goes on: one act more.
-/
namespace Go.Proofs.YtjkhbjgfoopomabGreat
open Go.RowKit
set_option linter.unusedVariables false
set_option linter.unusedSimpArgs false
/-- the blocks of a notary of the document's -/
def rdfoot (B : Nat) (acts : List Dt) (v : Value) (k : Nat) : Prop := k = B ∨ v.ownBlock = some k ∨ ∃ x, x ∈ acts ∧ x.pay.lv.ownBlock = some k
/-- they are apart -/
structure RDap (B : Nat) (acts : List Dt) (v : Value) : Prop where
  a : v.ownBlock ≠ some B
  l : ∀ x, x ∈ acts → ∀ g, x.pay.lv.ownBlock = some g → g ≠ B ∧ v.ownBlock ≠ some g
/-- the document's notary has gone on -/
structure RDTo (w w' : World) (B : Nat) (acts acts' : List Dt) (v v' : Value) : Prop where
  rd : RD w' B acts' v'
  kept : Kept (fun k => k = B ∨ v.ownBlock = some k) w w'
  own : ∀ k, rdfoot B acts' v' k → rdfoot B acts v k ∨ w.heap.size ≤ k
  ap : RDap B acts' v'
theorem RDTo.same {w u : World} {B : Nat} {acts : List Dt} {v : Value} (hR : RD w B acts v) (hap : RDap B acts v) (hb : Below w.heap.size w u) : RDTo w u B acts acts v v :=
  ⟨hR.below hb, Kept.of_below hb, fun k h => .inl h, hap⟩
theorem RDTo.then {w u u2 : World} {B : Nat} {acts acts' : List Dt} {v v' : Value} (h : RDTo w u B acts acts' v v') (hb : Below u.heap.size u u2) : RDTo w u2 B acts acts' v v' :=
  ⟨h.rd.below hb, h.kept.trans (Kept.of_below (S := fun _ => False) hb) (fun i hi => hi.elim), h.own, h.ap⟩
theorem RD.foot_lt {w : World} {B : Nat} {acts : List Dt} {v : Value} (h : RD w B acts v) {k : Nat} (hk : rdfoot B acts v k) : k < w.heap.size := by
  rcases hk with rfl | hk | ⟨x, hx, hk⟩
  · exact h.lt
  · exact h.row.lt hk
  · exact (h.legs x hx).lt hk
/-- one act more -/
theorem RD.grow {w0 w w2 : World} {B g n cap : Nat} {acts : List Dt} {e : Dt} {v : Value} (hR : RD w0 B acts v) (hap : RDap B acts v) (hb : Below w0.heap.size w0 w) (hrow : RowOf w2 216 14 Dt.cells (.slice (some ⟨g, 0, none⟩) n cap) (acts ++ [e])) (hk : Kept (fun k => v.ownBlock = some k) w w2) (hg : v.ownBlock = some g ∨ w.heap.size ≤ g)
    (hL : RowOf w 67 4 Pl.cells e.pay.lv e.pay.legs) (hLf : ∀ h, e.pay.lv.ownBlock = some h → w0.heap.size ≤ h) : RDTo w0 (w2.setCell ⟨B, 0, none⟩ (.slice (some ⟨g, 0, none⟩) n cap)) B acts (acts ++ [e]) v (.slice (some ⟨g, 0, none⟩) n cap) := by
  have one : ∀ g', (Value.slice (some ⟨g, 0, none⟩) n cap).ownBlock = some g' → g' = g := fun g' h' => by simpa [Value.ownBlock] using h'.symm
  have hRw := hR.below hb
  have hBl := hR.lt
  have hs0 := hb.size
  have hB : w2.heap[B]? = some (.cells #[v] 155 (0, 0)) := by rw [hk.block B hRw.lt hap.a]; exact hRw.blk
  have hvl : ∀ k, v.ownBlock = some k → k < w0.heap.size := fun k h => hR.row.lt h
  have hgB : g ≠ B := by
    rcases hg with h | h
    · intro e; subst e; exact hap.a h
    · omega
  have hgl : ∀ x, x ∈ acts → ∀ h, x.pay.lv.ownBlock = some h → g ≠ h := fun x hx h hh e => by
    subst e
    rcases hg with h' | h'
    · exact (hap.l x hx _ hh).2 h'
    · have := (hRw.legs x hx).lt hh; omega
  have hge : ∀ h, e.pay.lv.ownBlock = some h → g ≠ h := fun h hh e => by
    subst e
    rcases hg with h' | h'
    · have := hvl _ h'; have := hLf _ hh; omega
    · have := hL.lt hh; omega
  refine ⟨⟨heap_set_self hB 0 _, hrow.kept (Kept.of_setCell _ _ _) (fun g' h' => by rw [one g' h']; exact hgB), ?_⟩, ?_, ?_, ⟨fun e => hgB (one _ e).symm, ?_⟩⟩
  · intro x hx
    rcases List.mem_append.1 hx with hx | hx
    · exact ((hRw.legs x hx).kept hk (fun h hh e => (hap.l x hx h hh).2 e)).kept (Kept.of_setCell _ _ _) (fun h hh => (hap.l x hx h hh).1)
    · rw [List.mem_singleton] at hx
      subst hx
      exact (hL.kept hk (fun h hh e => by have := hvl _ e; have := hLf _ hh; omega)).kept (Kept.of_setCell _ _ _) (fun h hh e => by
        have h1 := hLf _ hh
        have h2 : h = B := e
        omega)
  · exact ((Kept.of_below hb).trans hk (fun i h => .inl (.inr h))).trans (Kept.of_setCell _ _ _) (fun i h => .inl (.inl h))
  · rintro k (rfl | h | ⟨x, hx, h⟩)
    · exact .inl (.inl rfl)
    · rw [one k h]
      rcases hg with h' | h'
      · exact .inl (.inr (.inl h'))
      · exact .inr (by omega)
    · rcases List.mem_append.1 hx with hx | hx
      · exact .inl (.inr (.inr ⟨x, hx, h⟩))
      · rw [List.mem_singleton] at hx
        subst hx
        exact .inr (hLf _ h)
  · intro x hx h hh
    rcases List.mem_append.1 hx with hx | hx
    · exact ⟨(hap.l x hx h hh).1, fun e => hgl x hx h hh (one _ e).symm⟩
    · rw [List.mem_singleton] at hx
      subst hx
      exact ⟨by have := hLf _ hh; omega, fun e => hge h hh (one _ e).symm⟩
theorem plInfo : (Tryz.prog.info? 67).map (fun i => (i.zero, i.size, i.bytes)) = some (some (.agg #[.int .u8 0, .int .u16 0, .int .u16 0, .int .u32 0]), 4, 12) := by kernel_rfl
theorem pl_each (x : Pl) : ∀ u ∈ x.cells, u.oneCell' = true := by
  intro u hu
  simp only [Pl.cells, List.mem_cons, List.not_mem_nil, or_false] at hu
  rcases hu with h | h | h | h <;> subst h <;> rfl
/-- what is asked hangs on nothing but number, memo and legs -/
theorem asksTo_at (i d d' : Nat) (m : List UInt8) (l : List Pl) (la la' : Option Addr) (lc lc' k but : Nat) : ∀ n, asksTo ⟨i, d, m, l, la, lc⟩ k but n = asksTo ⟨i, d', m, l, la', lc'⟩ k but n
  | 0 => rfl
  | n + 1 => by
    simp only [asksTo]
    rw [asksTo_at i d d' m l la la' lc lc' k but n]
    rfl
theorem asksOf_at (i d d' : Nat) (m : List UInt8) (l : List Pl) (la la' : Option Addr) (lc lc' k but : Nat) : asksOf ⟨i, d, m, l, la, lc⟩ k but = asksOf ⟨i, d', m, l, la', lc'⟩ k but := asksTo_at i d d' m l la la' lc lc' k but _
end Go.Proofs.YtjkhbjgfoopomabGreat
/-
  The document's Submit, where the payment is new.
-/
namespace Go.Proofs.YtjkhbjgfoopomabGreat
open Go.RowKit
set_option linter.unusedVariables false
set_option linter.unusedSimpArgs false
theorem stopAt2 {p : Prop} (h : Hid p) : p := h
def zeroMsg : Msg := ⟨0, 0, 0, 0, 0, 0, 0, 0, []⟩
/-- the document's notary has gone on, and hands a fresh list out -/
structure DHanded (w w' : World) (B : Nat) (acts acts' : List Dt) (v v' lv : Value) (outs : List (List UInt8)) : Prop where
  to : RDTo w w' B acts acts' v v'
  row : RowOf w' 9 1 txtCell lv outs
  fresh : ∀ g, lv.ownBlock = some g → w.heap.size ≤ g ∧ ¬ rdfoot B acts' v' g
theorem DHanded.from {w u u2 : World} {B : Nat} {acts acts' : List Dt} {v v' lv : Value} {outs : List (List UInt8)} (h : RDTo w u B acts acts' v v') (hb : Below u.heap.size u u2) (hr : RowOf u2 9 1 txtCell lv outs) (hf : ∀ g, lv.ownBlock = some g → u.heap.size ≤ g) : DHanded w u2 B acts acts' v v' lv outs :=
  ⟨h.then hb, hr, fun g hg => ⟨Nat.le_trans h.kept.size (hf g hg), fun hk => by have := h.rd.foot_lt hk; have := hf g hg; omega⟩⟩
end Go.Proofs.YtjkhbjgfoopomabGreat
/-
  The document's Bank.Handle: errors.
-/
namespace Go.Proofs.YtjkhbjgfoopomabGreat
open Go.RowKit
set_option linter.unusedVariables false
set_option linter.unusedSimpArgs false

theorem Box.drewN {w u : World} {cs : Array Value} (h : Box w cs u) (n : Nat) : Box w cs (u.drewN n) := ⟨h.bel.drewN n, h.lt, h.cell, h.fro⟩

end Go.Proofs.YtjkhbjgfoopomabGreat
/-
  The document's Bank.Handle, for every text.
-/
namespace Go.Proofs.YtjkhbjgfoopomabGreat
open Go.RowKit
set_option linter.unusedVariables false
set_option linter.unusedSimpArgs false

theorem decMsg_ok (l : List UInt8) : (decMsg l).ok := by
  unfold decMsg
  split
  · rename_i h
    unfold decErr at h
    split at h
    · omega
    · rename_i hf
      have : 22 ≤ l.length := by
        simp only [formB, Bool.not_eq_true, Bool.not_eq_false', Bool.and_eq_true, decide_eq_true_eq] at hf
        exact hf.1.1
      exact sayOf_ok this
  · exact zero_ok
theorem decMsg_fault (l : List UInt8) (h : decErr l = 0) : faultOf (decMsg l) = 0 := by
  have h0 := h
  unfold decErr at h
  split at h
  · omega
  · split at h
    · omega
    · simp only [decMsg, h0, if_true]
      exact h
theorem fault_kind (x : Msg) (h : faultOf x = 0) (ht : x.t ≠ 0) : 1 ≤ x.k ∧ x.k ≤ 3 ∧ x.l < 4 ∧ (x.k = 1 → x.a ≠ 0) := by
  unfold faultOf at h
  split at h
  · omega
  · rename_i hk
    split at h
    · omega
    · rename_i hw
      split at h
      · omega
      · rename_i hl
        simp only [kindB, Bool.not_eq_true, Bool.not_eq_false', Bool.and_eq_true, decide_eq_true_eq] at hk
        simp only [wayB, Bool.not_eq_true, Bool.not_eq_false'] at hw
        refine ⟨hk.1, ?_, by omega, ?_⟩
        · by_cases h3 : x.k ≤ 3
          · exact h3
          · rw [if_neg h3] at hw
            simp only [Bool.and_eq_true, decide_eq_true_eq] at hw
            exact absurd hw.1 ht
        · intro h1
          rw [if_pos h1] at h
          unfold termsOf at h
          split at h
          · omega
          · assumption

def rErr (node : Nat) (l : List UInt8) (evs : List Ev) : Nat := if decErr l ≠ 0 then decErr l else if (decMsg l).t ≠ node then 4 else hErrOf (decMsg l) evs
def rEvs (node : Nat) (l : List UInt8) (evs : List Ev) : List Ev := if rErr node l evs = 0 then hEvsOf (decMsg l) evs else evs
def rOuts (node : Nat) (l : List UInt8) (evs : List Ev) : List (List UInt8) := if rErr node l evs = 0 then [ansOf node (decMsg l).i (decMsg l).l (legOf (decMsg l).i (decMsg l).l (hEvsOf (decMsg l) evs)).1] else []

end Go.Proofs.YtjkhbjgfoopomabGreat
/-
  The document's notary: Handle, where it answers an error ahead of all else.
-/
namespace Go.Proofs.YtjkhbjgfoopomabGreat
open Go.RowKit
set_option linter.unusedVariables false
set_option linter.unusedSimpArgs false
/-- has the payment this leg at this bank? -/
def hasLegB (p : Pm) (l f : Nat) : Bool := match p.legs[l]? with
  | none => false
  | some y => y.b == f
/-- P10: the error of Handle -/
def tErr (l : List UInt8) (acts : List Dt) : Nat :=
  if decErr l ≠ 0 then decErr l else if (decMsg l).t ≠ 0 then 4 else if ((findOf (decMsg l).i acts).2.1 && hasLegB (findOf (decMsg l).i acts).1 (decMsg l).l (decMsg l).f) = false then 13
  else if ((decMsg l).k = 5 ∧ (stOf (findOf (decMsg l).i acts).1 acts).1 = 2) ∨ ((decMsg l).k = 6 ∧ (stOf (findOf (decMsg l).i acts).1 acts).1 = 1) then 14 else 0
def tActs (l : List UInt8) (acts : List Dt) : List Dt := if tErr l acts = 0 then acts ++ [⟨((decMsg l).k : Int), noPm, decMsg l⟩] else acts
/-- what is sent -/
def tSay (p : Pm) (x : Msg) (st now : Nat) : List (List UInt8) :=
  if x.k = 6 then [] else if st = 1 ∧ now = 1 then [] else if st = 1 then asksOf p (askKind now) 0 else match p.legs[x.l]? with
    | none => []
    | some y => [askOf p y x.l (askKind st)]
def tOuts (l : List UInt8) (acts : List Dt) : List (List UInt8) :=
  if tErr l acts = 0 then tSay (findOf (decMsg l).i acts).1 (decMsg l) (stOf (findOf (decMsg l).i acts).1 acts).1 (stOf (findOf (decMsg l).i acts).1 (tActs l acts)).1 else []
theorem fault_notary {x : Msg} (h : faultOf x = 0) (ht : x.t = 0) : (x.k = 4 ∨ x.k = 5 ∨ x.k = 6) ∧ x.l < 4 ∧ 1 ≤ x.f ∧ x.f ≤ 7 := by
  unfold faultOf at h
  split at h
  · omega
  · rename_i hk
    split at h
    · omega
    · rename_i hw
      split at h
      · omega
      · rename_i hl
        simp only [kindB, Bool.not_eq_true, Bool.not_eq_false', Bool.and_eq_true, decide_eq_true_eq] at hk
        simp only [wayB, Bool.not_eq_true, Bool.not_eq_false'] at hw
        by_cases h3 : x.k ≤ 3
        · rw [if_pos h3] at hw
          simp only [bankB, Bool.and_eq_true, decide_eq_true_eq] at hw
          omega
        · rw [if_neg h3] at hw
          simp only [bankB, Bool.and_eq_true, decide_eq_true_eq] at hw
          omega
end Go.Proofs.YtjkhbjgfoopomabGreat
