import Derived.Test.YtjkhbjgfoopomabGreatA37
import Derived.Laws.CopyOwn
namespace Go.Proofs.YtjkhbjgfoopomabGreat
open Go.RowKit
set_option linter.unusedVariables false
set_option linter.unusedSimpArgs false
set_option maxRecDepth 100000
set_option maxHeartbeats 2000000
section
variable {w0 : DBase} {w w' : World} {Wb : Nat} {own own' : Nat → Nat} {hs : List Office} {ll : List (Value × Nat)} {vd vl : Value} {S : Nat → Prop}
theorem DInv.keeps (I : DInv w0 w Wb own hs ll vd vl) (lv : Value) (xs : List (List UInt8)) (hx : xs.length ≤ 1000) (hlv : RowOf w 9 1 txtCell lv xs) (hlo : ∀ g, lv.ownBlock = some g → own g = 4) (hn : ∀ i (hi : i < ll.length), ∀ g, ll[i].1.ownBlock = some g → lv.ownBlock ≠ some g)
  (hB : Booked w w' Wb w0.lg w0.vb vd vl ll lv xs.length) : ∃ own' ll' vl', DInv w0 w' Wb own' hs ll' vd vl' ∧ ll'.length = ll.length + 4 := by
 obtain ⟨vl', vf, vg, vh, B⟩ := hB
 have hcl : ∀ k, (k = Wb ∨ vl.ownBlock = some k ∨ lv.ownBlock = some k) → own k = 1 ∨ own k = 3 ∨ own k = 4 := by
  rintro k (rfl | h | h)
  ·exact .inl I.wown
  ·exact .inr (.inl (I.lown k h))
  ·exact .inr (.inr (hlo k h))
 have hA : ∀ k, k < w.heap.size → (fun k => if k < w.heap.size then own k else if vl'.ownBlock = some k then 3 else 4) k = own k := fun k hk => by simp [hk]
 have hll : ll ++ [(lv, xs.length)] ++ [(vf, xs.length + 1)] ++ [(vg, xs.length + 2)] ++ [(vh, xs.length + 3)] = ll ++ [(lv, xs.length), (vf, xs.length + 1), (vg, xs.length + 2), (vh, xs.length + 3)] := by simp
 rw [hll] at B
 refine ⟨fun k => if k < w.heap.size then own k else if vl'.ownBlock = some k then 3 else 4, ll ++ [(lv, xs.length), (vf, xs.length + 1), (vg, xs.length + 2), (vh, xs.length + 3)], vl', ?_, by simp⟩
 have hin : ∀ i (hi : i < (ll ++ [(lv, xs.length), (vf, xs.length + 1), (vg, xs.length + 2), (vh, xs.length + 3)]).length), (∃ hi' : i < ll.length, (ll ++ [(lv, xs.length), (vf, xs.length + 1), (vg, xs.length + 2), (vh, xs.length + 3)])[i] = ll[i]) ∨ ((ll ++ [(lv, xs.length), (vf, xs.length + 1), (vg, xs.length + 2), (vh, xs.length + 3)])[i] ∈ [(lv, xs.length), (vf, xs.length + 1), (vg, xs.length + 2), (vh, xs.length + 3)] ∧ i / 4 = ll.length / 4) := by
  intro i hi;by_cases h : i < ll.length
  ·exact .inl ⟨h, List.getElem_append_left h⟩
  ·right;have h4 := I.four;refine ⟨?_, by simp at hi; omega⟩;rw [List.getElem_append_right (by omega)];exact List.getElem_mem _
 refine ⟨?_, ?_, B.blk, (hA _ (block_lt I.wblk)).trans I.wown, ?_, part_own I.drow I.down hA, B.lst, ?_, ?_, ?_, by have := I.four; simp; omega, ?_, w0.loc _ _ _ _ _ I.oth B.kept (fun k _ hk h => by have := hcl k hk; unfold bankCls at h; omega) hA⟩
 ·exact I.bel.kept B.kept (fun k hF hk => I.old k (by have := hcl k hk; omega) hF)
 ·intro k hk;rcases I.far k with h | h
  ·exact I.old k (by rw [← hA k h]; exact hk)
  ·exact h
 ·exact part_row I.drow I.down B.kept (fun k _ hk => by have := hcl k hk; omega)
 ·intro g hg;rcases B.lown g hg with h | h
  ·exact (hA g (I.lrow.lt h)).trans (I.lown g h)
  ·show (if g < w.heap.size then own g else if vl'.ownBlock = some g then 3 else 4) = 3;rw [if_neg (by omega), if_pos hg]
 ·intro i hi;rcases hin i hi with ⟨hi', e⟩ | ⟨hm, e⟩
  ·rw [e];refine ⟨(I.full i hi').1, (I.full i hi').2.kept B.kept ?_⟩;intro g hg hk;have h4 := I.fown i hi' g hg;rcases hk with rfl | h | h
   ·rw [I.wown] at h4; omega
   ·rw [I.lown g h] at h4; omega
   ·exact hn i hi' g hg h
  ·refine ⟨?_, by rw [e]; exact B.full _ hm⟩;simp only [List.mem_cons, List.not_mem_nil, or_false] at hm;rcases hm with h | h | h | h <;> rw [h] <;> simp <;> omega
 ·intro i hi g hg;rcases hin i hi with ⟨hi', e⟩ | ⟨hm, e⟩
  ·rw [e] at hg;exact (hA g ((I.full i hi').2.lt hg)).trans (I.fown i hi' g hg)
  ·rcases B.rown _ hm g hg with h | h
   ·exact (hA g (hlv.lt h)).trans (hlo g h)
   ·show (if g < w.heap.size then own g else if vl'.ownBlock = some g then 3 else 4) = 4;rw [if_neg (by omega), if_neg (B.apart _ hm g hg).1]
 ·intro i hi;exact (I.house i hi).kept B.kept (fun k hk' hk => by have := hcl k hk; omega) hA
theorem DInv.more (I : DInv w0 w Wb own hs ll vd vl) (h : Office) (vd' : Value) (hk : Kept (fun k => k = Wb ∨ vd.ownBlock = some k) w w')
  (hblk : w'.heap[Wb]? = some (.cells #[.bool w0.lg, w0.vb, vd', vl] 98 (0, 0))) (hrow : RowOf w' 126 1 offCell vd' (hs ++ [h])) (hb : ∀ g, vd'.ownBlock = some g → vd.ownBlock = some g ∨ w.heap.size ≤ g)
  (hn1 : w.heap.size ≤ h.hb) (hn2 : w.heap.size ≤ h.xb) (hn3 : w.heap.size ≤ h.rb) (hd1 : h.hb ≠ h.xb) (hd2 : h.hb ≠ h.rb) (hd3 : h.xb ≠ h.rb) (hd4 : vd'.ownBlock ≠ some h.hb ∧ vd'.ownBlock ≠ some h.xb ∧ vd'.ownBlock ≠ some h.rb)
  (hhb : w'.heap[h.hb]? = some (.cells #[.pointer (some ⟨h.xb, 0, none⟩), .pointer (some ⟨h.rb, 0, none⟩), .slice none 0 0] 158 (0, 0))) (hX : XD w' h.xb 0 [] (.slice none 0 0)) (hR : RD w' h.rb [] (.slice none 0 0))
  (he : h.acts = [] ∧ h.ck = 0 ∧ h.ps = [] ∧ h.xv = .slice none 0 0 ∧ h.v = .slice none 0 0 ∧ h.lg = [] ∧ h.vg = .slice none 0 0) : ∃ own', DInv w0 w' Wb own' (hs ++ [h]) ll vd' vl := by
 have hcl : ∀ k, (k = Wb ∨ vd.ownBlock = some k) → own k = 1 ∨ own k = 5 := by
  rintro k (rfl | h)
  ·exact .inl I.wown
  ·exact .inr (I.down k h)
 have hA : ∀ k, k < w.heap.size → (fun k => if k < w.heap.size then own k else if k = h.hb then 10 + 8 * hs.length else if k = h.xb then 11 + 8 * hs.length else if k = h.rb then 12 + 8 * hs.length else 5) k = own k := fun k hk => by simp [hk]
 refine ⟨fun k => if k < w.heap.size then own k else if k = h.hb then 10 + 8 * hs.length else if k = h.xb then 11 + 8 * hs.length else if k = h.rb then 12 + 8 * hs.length else 5, ?_⟩
 refine ⟨?_, ?_, hblk, (hA _ (block_lt I.wblk)).trans I.wown, hrow, ?_, ?_, part_own I.lrow I.lown hA, ?_, ?_, I.four, ?_, w0.loc _ _ _ _ _ I.oth hk (fun k _ hk h => by have := hcl k hk; unfold bankCls at h; omega) hA⟩
 ·exact I.bel.kept hk (fun k hF hk => I.old k (by have := hcl k hk; omega) hF)
 ·intro k hk';rcases I.far k with h | h
  ·exact I.old k (by rw [← hA k h]; exact hk')
  ·exact h
 ·intro g hg;rcases hb g hg with h' | h'
  ·exact (hA g (I.drow.lt h')).trans (I.down g h')
  ·show (if g < w.heap.size then own g else if g = h.hb then 10 + 8 * hs.length else if g = h.xb then 11 + 8 * hs.length else if g = h.rb then 12 + 8 * hs.length else 5) = 5;rw [if_neg (by omega), if_neg (fun e => hd4.1 (by rw [← e]; exact hg)), if_neg (fun e => hd4.2.1 (by rw [← e]; exact hg)), if_neg (fun e => hd4.2.2 (by rw [← e]; exact hg))]
 ·exact part_row I.lrow I.lown hk (fun k _ hk => by have := hcl k hk; omega)
 ·intro i hi;exact ⟨(I.full i hi).1, part_row (I.full i hi).2 (I.fown i hi) hk (fun k _ hk => by have := hcl k hk; omega)⟩
 ·intro i hi;exact part_own (I.full i hi).2 (I.fown i hi) hA
 ·intro i hi;by_cases e : i < hs.length
  ·rw [List.getElem_append_left e];exact (I.house i e).kept hk (fun k _ hk => by have := hcl k hk; omega) hA
  ·obtain rfl : i = hs.length := by simp at hi; omega
   rw [List.getElem_append_right (Nat.le_refl _)];simp only [Nat.sub_self, List.getElem_cons_zero];obtain ⟨hb', xb', rb', ck', acts', ps', xv', v', lg', vg'⟩ := h;obtain ⟨e1, e2, e3, e4, e5, e6, e7⟩ := he;simp only at e1 e2 e3 e4 e5 e6 e7 hX hR hhb hn1 hn2 hn3 hd1 hd2 hd3;subst e1 e2 e3 e4 e5 e6 e7;refine ⟨hhb, ?_, hX, ⟨by simp [Value.ownBlock], fun x hx => by simp at hx⟩, ?_, hR, ⟨by simp [Value.ownBlock], fun x hx => by simp at hx⟩, ?_, RowOf.nil _ _, fun g hg => by simp [Value.ownBlock] at hg⟩
   ·show (if hb' < w.heap.size then own hb' else if hb' = hb' then 10 + 8 * hs.length else if hb' = xb' then 11 + 8 * hs.length else if hb' = rb' then 12 + 8 * hs.length else 5) = _;rw [if_neg (by omega), if_pos rfl]
   ·rintro k (rfl | hk | ⟨x, hx, hk⟩)
    ·show (if k < w.heap.size then own k else if k = hb' then 10 + 8 * hs.length else if k = k then 11 + 8 * hs.length else if k = rb' then 12 + 8 * hs.length else 5) = _;rw [if_neg (by omega), if_neg (fun e => hd1 e.symm), if_pos rfl];omega
    ·simp [Value.ownBlock] at hk
    ·simp at hx
   ·rintro k (rfl | hk | ⟨x, hx, hk⟩)
    ·show (if k < w.heap.size then own k else if k = hb' then 10 + 8 * hs.length else if k = xb' then 11 + 8 * hs.length else if k = k then 12 + 8 * hs.length else 5) = _;rw [if_neg (by omega), if_neg (fun e => hd2 e.symm), if_neg (fun e => hd3 e.symm), if_pos rfl];omega
    ·simp [Value.ownBlock] at hk
    ·simp at hx
end
def DGoes (w0 : DBase) (N : Nat) (w' : World) (Wb : Nat) (hs : List Office) (ll : List (Value × Nat)) (vd : Value) (i hb : Nat) : Prop :=
 ∃ own' hs' ll' vl', DInv w0 w' Wb own' hs' ll' vd vl' ∧ (∀ h, h ∈ hs' → h.ok (N + 1)) ∧ hs'.map Office.hb = (hs.map Office.hb).set i hb ∧ ll'.length ≤ ll.length + 4
theorem os_set_ok {N M : Nat} {hs : List Office} (hNM : N ≤ M) (hok : ∀ h, h ∈ hs → h.ok N) (i : Nat) (x : Office) (hx : x.ok M) : ∀ h, h ∈ hs.set i x → h.ok M := by
 intro h hh
 rcases List.mem_or_eq_of_mem_set hh with h' | h'
 ·have := hok h h';exact ⟨this.1, this.2.1, Nat.le_trans this.2.2 hNM⟩
 ·rw [h']; exact hx
theorem DInv.at {w0 : DBase} {w : World} {Wb : Nat} {own : Nat → Nat} {hs : List Office} {ll : List (Value × Nat)} {vd vl : Value} {i : Nat} {x : Office} (hi : i < hs.length) (I : DInv w0 w Wb own (hs.set i x) ll vd vl) : OffMem w own (10 + 8 * i) x := by
 have h := I.house i (by simpa using hi)
 rw [List.getElem_set_self] at h
 exact h
theorem DInv.xstepS {w0 : DBase} {w w' : World} {Wb : Nat} {own : Nat → Nat} {hs : List Office} {ll : List (Value × Nat)} {vd vl : Value} {i : Nat} {x : Office} (I : DInv w0 w Wb own (hs.set i x) ll vd vl) (hi : i < hs.length) (lv : Value) (ck' : Nat) (ps' : List Xp) (xv' : Value) (hT : XDTo w w' x.xb ck' x.ps ps' x.xv xv') (hf : ∀ g, lv.ownBlock = some g → w.heap.size ≤ g ∧ ¬ xdfoot x.xb ps' xv' g) :
  DInv w0 w' Wb (fun k => if k < w.heap.size then own k else if lv.ownBlock = some k then 4 else 11 + 8 * i) (hs.set i { x with ck := ck', ps := ps', xv := xv' }) ll vd vl := by
 have h := I.xstep (w' := w') i (by simpa using hi) lv ck' ps' xv'
 simp only [List.getElem_set_self, List.set_set] at h
 exact h hT hf
theorem DInv.rstepS {w0 : DBase} {w w' : World} {Wb : Nat} {own : Nat → Nat} {hs : List Office} {ll : List (Value × Nat)} {vd vl : Value} {i : Nat} {x : Office} (I : DInv w0 w Wb own (hs.set i x) ll vd vl) (hi : i < hs.length) (acts' : List Dt) (v' : Value) (hT : RDTo w w' x.rb x.acts acts' x.v v') :
  DInv w0 w' Wb (fun k => if k < w.heap.size then own k else 12 + 8 * i) (hs.set i { x with acts := acts', v := v' }) ll vd vl := by
 have h := I.rstep (w' := w') i (by simpa using hi) acts' v'
 simp only [List.getElem_set_self, List.set_set] at h
 exact h hT
theorem DInv.gstepS {w0 : DBase} {w w' : World} {Wb : Nat} {own : Nat → Nat} {hs : List Office} {ll : List (Value × Nat)} {vd vl : Value} {i : Nat} {x : Office} (I : DInv w0 w Wb own (hs.set i x) ll vd vl) (hi : i < hs.length) (lg' : List (List UInt8 × Nat)) (vg' : Value) (hk : Kept (fun k => k = x.hb ∨ x.vg.ownBlock = some k) w w')
  (hblk : w'.heap[x.hb]? = some (.cells #[.pointer (some ⟨x.xb, 0, none⟩), .pointer (some ⟨x.rb, 0, none⟩), vg'] 158 (0, 0))) (hrow : RowOf w' 209 2 logCell vg' lg') (hown : ∀ g, vg'.ownBlock = some g → x.vg.ownBlock = some g ∨ w.heap.size ≤ g) :
  DInv w0 w' Wb (fun k => if k < w.heap.size then own k else 13 + 8 * i) (hs.set i { x with lg := lg', vg := vg' }) ll vd vl := by
 have h := I.gstep (w' := w') i (by simpa using hi) lg' vg'
 simp only [List.getElem_set_self, List.set_set] at h
 exact h hk hblk hrow hown
theorem DInv.log {w0 : DBase} {w w1 : World} {Wb : Nat} {own : Nat → Nat} {hs : List Office} {ll : List (Value × Nat)} {vd vl : Value} {i : Nat} {x : Office} (I : DInv w0 w Wb own (hs.set i x) ll vd vl) (hi : i < hs.length) (lg' : List (List UInt8 × Nat)) (vg' : Value) (hk : Kept (fun k => x.vg.ownBlock = some k) w w1)
  (hrow : RowOf w1 209 2 logCell vg' lg') (hown : ∀ g, vg'.ownBlock = some g → x.vg.ownBlock = some g ∨ w.heap.size ≤ g) :
  w1.heap[x.hb]? = some (.cells #[.pointer (some ⟨x.xb, 0, none⟩), .pointer (some ⟨x.rb, 0, none⟩), x.vg] 158 (0, 0)) ∧ DInv w0 (w1.setCell ⟨x.hb, 2, none⟩ vg') Wb (fun k => if k < w.heap.size then own k else 13 + 8 * i) (hs.set i { x with lg := lg', vg := vg' }) ll vd vl := by
 have H := DInv.at hi I
 have hnb : x.vg.ownBlock ≠ some x.hb := fun e => by have h1 := H.gown _ e; rw [H.hown] at h1; omega
 have hb1 : w1.heap[x.hb]? = some (.cells #[.pointer (some ⟨x.xb, 0, none⟩), .pointer (some ⟨x.rb, 0, none⟩), x.vg] 158 (0, 0)) := by rw [hk.block _ (block_lt H.blk) hnb]; exact H.blk
 refine ⟨hb1, I.gstepS hi lg' vg' ((hk.mono (fun i _ h => .inr h)).trans (Kept.of_setCell _ _ _) (fun i h => .inl (.inl h))) (heap_set_self hb1 2 _) (hrow.kept (Kept.of_setCell _ _ _) (fun g hg e => ?_)) hown⟩
 have e' : g = x.hb := e
 subst e'
 rcases hown _ hg with h | h
 ·exact hnb h
 ·have := block_lt H.blk; omega
def DeedSays (w0 : DBase) (N : Nat) (Wb : Nat) (hs : List Office) (ll : List (Value × Nat)) (vd : Value) (i hb : Nat) (e : Ending) (w' : World) : Prop := e = .returned (.bool true) ∧ DGoes w0 N w' Wb hs ll vd i hb
theorem dgoes_of {w0 : DBase} {N : Nat} {w' : World} {Wb : Nat} {own : Nat → Nat} {hs : List Office} {ll ll' : List (Value × Nat)} {vd vl : Value} {i : Nat} {x : Office} (I : DInv w0 w' Wb own (hs.set i x) ll' vd vl) (hok : ∀ h, h ∈ hs → h.ok N) (hx : x.ok (N + 1)) (hl : ll'.length ≤ ll.length + 4) : DGoes w0 N w' Wb hs ll vd i x.hb :=
 ⟨own, hs.set i x, ll', vl, I, os_set_ok (Nat.le_succ _) hok i x hx, by rw [List.map_set], hl⟩
theorem DInv.apartL {w0 : DBase} {w : World} {Wb : Nat} {own : Nat → Nat} {hs : List Office} {ll : List (Value × Nat)} {vd vl : Value} (I : DInv w0 w Wb own hs ll vd vl) {lv : Value} (hf : ∀ g, lv.ownBlock = some g → w.heap.size ≤ g) : ∀ i (hi : i < ll.length), ∀ g, ll[i].1.ownBlock = some g → lv.ownBlock ≠ some g := by
 intro i hi g hg e
 have h1 := (I.full i hi).2.lt hg
 have h2 := hf g e
 omega
theorem DInv.sep {w0 : DBase} {w : World} {Wb : Nat} {own : Nat → Nat} {hs : List Office} {ll : List (Value × Nat)} {vd vl : Value} (I : DInv w0 w Wb own hs ll vd vl) {lv : Value} (hlo : ∀ g, lv.ownBlock = some g → own g = 4) : vl.ownBlock ≠ some Wb ∧ lv.ownBlock ≠ some Wb ∧ ∀ g, lv.ownBlock = some g → vl.ownBlock ≠ some g := by
 refine ⟨fun e => ?_, fun e => ?_, fun g hg e => ?_⟩
 ·have h1 := I.lown _ e; rw [I.wown] at h1; omega
 ·have h1 := hlo _ e; rw [I.wown] at h1; omega
 ·have h1 := I.lown _ e; rw [hlo g hg] at h1; omega
theorem DInv.again {w0 : DBase} {w w' : World} {Wb : Nat} {own : Nat → Nat} {hs : List Office} {ll : List (Value × Nat)} {vd vl : Value} {i : Nat} {x : Office} (I : DInv w0 w Wb own (hs.set i x) ll vd vl) (hi : i < hs.length) (w1 w2 : World) (y : Office) (hy : y.hb = x.hb)
  (hk : Kept (fun k => k = x.hb) w w') (H : OffMem w' (ownAgain w w1 w2 (10 + 8 * i) own) (10 + 8 * i) y) : DInv w0 w' Wb (ownAgain w w1 w2 (10 + 8 * i) own) (hs.set i y) ll vd vl := by
 have hX := DInv.at hi I
 have hA : ∀ k, k < w.heap.size → ownAgain w w1 w2 (10 + 8 * i) own k = own k := fun k hk => if_pos hk
 have hown : own x.hb = 10 + 8 * i := hX.hown
 have hset : (hs.set i x).set i y = hs.set i y := List.set_set ..
 have hrow : RowOf w' 126 1 offCell vd (hs.set i y) := by
  rw [← hset];refine orow_set (part_row I.drow I.down hk (fun k _ hs e => by rw [hs, hown] at e; omega)) i (by simpa using hi) y ?_;rw [hy];simp
 refine I.rest (S := fun k => k = x.hb) hk (fun k hs => by rw [hs, hown]; omega) hA I.far hrow (fun j hj => ?_)
 have hj' : j < (hs.set i x).length := by simpa using hj
 by_cases e : j = i
 ·subst e;have : (hs.set j y)[j] = y := by simp
  rw [this];exact H
 ·have h1 : (hs.set i y)[j] = (hs.set i x)[j] := by simp [List.getElem_set, Ne.symm e]
  rw [h1];refine (I.house j hj').kept (S := fun k => k = x.hb) hk (fun k _ hs => ?_) hA;rw [hs, hown];omega
theorem ownAgain_0 {w w1 w2 : World} {o : Nat} {own : Nat → Nat} {k : Nat} (h0 : k < w.heap.size) : ownAgain w w1 w2 o own k = own k := by
 unfold ownAgain
 rw [if_pos h0]
theorem ownAgain_1 {w w1 w2 : World} {o : Nat} {own : Nat → Nat} {k : Nat} (h0 : w.heap.size ≤ k) (h1 : k < w1.heap.size) : ownAgain w w1 w2 o own k = o + 3 := by
 unfold ownAgain
 rw [if_neg (by omega), if_pos h1]
theorem ownAgain_2 {w w1 w2 : World} {o : Nat} {own : Nat → Nat} {k : Nat} (h0 : w.heap.size ≤ k) (h1 : w1.heap.size ≤ k) (h2 : k < w2.heap.size) : ownAgain w w1 w2 o own k = o + 1 := by
 unfold ownAgain
 rw [if_neg (by omega), if_neg (by omega), if_pos h2]
theorem ownAgain_3 {w w1 w2 : World} {o : Nat} {own : Nat → Nat} {k : Nat} (h0 : w.heap.size ≤ k) (h1 : w1.heap.size ≤ k) (h2 : w2.heap.size ≤ k) : ownAgain w w1 w2 o own k = o + 2 := by
 unfold ownAgain
 rw [if_neg (by omega), if_neg (by omega), if_neg (by omega)]
theorem XB.keptA {w w' : World} {S : Nat → Prop} {B node : Nat} {ac : List Ac} {ls : List Lg} {va vl : Value} (h : XB w B node ac ls va vl) (hk : Kept S w w') (hS : ∀ k, xfoot B va vl k → ¬ S k) : XB w' B node ac ls va vl :=
 ⟨ty_of (T := tyAt w B) (by rw [hk.block _ h.lt (hS _ (.inl rfl))]; exact h.blk), h.arow.kept hk (fun g hg => hS g (.inr (.inl hg))), h.lrow.kept hk (fun g hg => hS g (.inr (.inr hg)))⟩
theorem XB.footA {w : World} {B node : Nat} {ac : List Ac} {ls : List Lg} {va vl : Value} (h : XB w B node ac ls va vl) {k : Nat} (hk : xfoot B va vl k) : k < w.heap.size := by
 rcases hk with rfl | hk | hk
 ·exact h.lt
 ·exact h.arow.lt hk
 ·exact h.lrow.lt hk
structure WayOf (hb : Nat) (w w1 w2 w3 w4 w' : World) : Prop where
 b1 : Below w.heap.size w w1
 b2 : Below w1.heap.size w1 w2
 k3 : Kept (fun k => k = hb) w2 w3
 b4 : Below w3.heap.size w3 w4
 k5 : Kept (fun k => k = hb) w4 w'
section
variable {hb : Nat} {w w1 w2 w3 w4 w' : World}
theorem WayOf.k3' (h : WayOf hb w w1 w2 w3 w4 w') : Kept (fun k => k = hb) w3 w' := (Kept.of_below h.b4).trans h.k5 (fun i h => .inl h)
theorem WayOf.k2 (h : WayOf hb w w1 w2 w3 w4 w') : Kept (fun k => k = hb) w2 w' := h.k3.trans h.k3' (fun i h => .inl h)
theorem WayOf.k1 (h : WayOf hb w w1 w2 w3 w4 w') : Kept (fun k => k = hb) w1 w' := (Kept.of_below h.b2).trans h.k2 (fun i h => .inl h)
theorem WayOf.k0 (h : WayOf hb w w1 w2 w3 w4 w') : Kept (fun k => k = hb) w w' := (Kept.of_below h.b1).trans h.k1 (fun i h => .inl h)
end
theorem MemInv.restored {w0 : Base} {w : World} {Wb : Nat} {own : Nat → Nat} {hs : List House} {ll : List (Value × Nat)} {vb vl : Value} {i : Nat} {hb xb rb node : Nat} {evs : List Ev} {ac : List Ac} {ls : List Lg} {va vll v : Value} {lgs : List (List UInt8 × Nat)} {vg : Value}
  (I : MemInv w0 w Wb own (hs.set i ⟨hb, xb, rb, node, evs, ac, ls, va, vll, v, lgs, vg⟩) ll vb vl) (hi : i < hs.length) {w1 w2 w3 w4 w' : World} (hW : WayOf hb w w1 w2 w3 w4 w')
  {B R : Nat} {vg' : Value} {pl : List (List UInt8 × Nat)} (hblk : w'.heap[hb]? = some (.cells #[.pointer (some ⟨B, 0, none⟩), .pointer (some ⟨R, 0, none⟩), vg'] 165 (0, 0)))
  (hg : RowOf w1 209 2 logCell vg' pl) (hgf : vg' = vg ∨ ∀ g, vg'.ownBlock = some g → w.heap.size ≤ g)
  {ac' : List Ac} {ls' : List Lg} {va' vl' : Value} (hX : XB w2 B node ac' ls' va' vl') (hap : Apart B va' vl') (hfx : ∀ i, xfoot B va' vl' i → w1.heap.size ≤ i)
  {evs' : List Ev} {v' : Value} (hR : RB w4 R node evs' v') (hRa : v'.ownBlock ≠ some R) (hR1 : w3.heap.size ≤ R) (hR2 : ∀ g, v'.ownBlock = some g → w3.heap.size ≤ g) :
  ∃ own', MemInv w0 w' Wb own' (hs.set i ⟨hb, B, R, node, evs', ac', ls', va', vl', v', pl, vg'⟩) ll vb vl := by
 have H := MemInv.at hi I
 have hl : hb < w.heap.size := block_lt H.blk
 have s1 := hW.b1.size
 have s2 := hW.b2.size
 have s3 := hW.k3.size
 have hgo : ∀ g, vg'.ownBlock = some g → g ≠ hb := by
  intro g hg' e;subst e;rcases hgf with rfl | h
  ·have h1 := H.gown _ hg';rw [H.hown] at h1;omega
  ·have := h _ hg';omega
 refine ⟨_, I.again hi w1 w2 _ rfl hW.k0 ⟨hblk, ?_, ?_, hap, ?_, ?_, hRa, ?_, hg.kept hW.k1 (fun g hg' e => hgo g hg' e), ?_⟩⟩
 ·rw [ownAgain_0 hl];exact H.hown
 ·exact hX.keptA hW.k2 (fun k hk e => by have := hfx k hk; omega)
 ·intro k hk;have h1 := hfx k hk;exact ownAgain_2 (by omega) h1 (hX.footA hk)
 ·exact ⟨by rw [hW.k5.block _ hR.lt (fun e => by omega)]; exact hR.blk, hR.row.kept hW.k5 (fun g hg' e => by have := hR2 g hg'; omega)⟩
 ·intro k hk
  have h1 : w3.heap.size ≤ k := by
   rcases hk with rfl | hk
   ·exact hR1
   ·exact hR2 k hk
  exact ownAgain_3 (by omega) (by omega) (by omega)
 ·intro g hg';rcases hgf with rfl | h
  ·rw [ownAgain_0 (H.grow.lt hg')];exact H.gown g hg'
  ·exact ownAgain_1 (h g hg') (hg.lt hg')
theorem DInv.restored {w0 : DBase} {w : World} {Wb : Nat} {own : Nat → Nat} {hs : List Office} {ll : List (Value × Nat)} {vd vl : Value} {i : Nat} {hb xb rb ck : Nat} {acts : List Dt} {ps : List Xp} {xv v : Value} {lgs : List (List UInt8 × Nat)} {vg : Value}
  (I : DInv w0 w Wb own (hs.set i ⟨hb, xb, rb, ck, acts, ps, xv, v, lgs, vg⟩) ll vd vl) (hi : i < hs.length) {w1 w2 w3 w4 w' : World} (hW : WayOf hb w w1 w2 w3 w4 w')
  {B R : Nat} {vg' : Value} {pl : List (List UInt8 × Nat)} (hblk : w'.heap[hb]? = some (.cells #[.pointer (some ⟨B, 0, none⟩), .pointer (some ⟨R, 0, none⟩), vg'] 158 (0, 0)))
  (hg : RowOf w1 209 2 logCell vg' pl) (hgf : vg' = vg ∨ ∀ g, vg'.ownBlock = some g → w.heap.size ≤ g)
  {ck' : Nat} {ps' : List Xp} {xv' : Value} (hX : XD w2 B ck' ps' xv') (hap : XDap B ps' xv') (hfx : ∀ i, xdfoot B ps' xv' i → w1.heap.size ≤ i)
  {acts' : List Dt} (hsub : ∀ x, x ∈ acts' → x ∈ acts) {v' : Value} (hR : RD w4 R acts' v') (hRa : v'.ownBlock ≠ some R) (hR1 : w3.heap.size ≤ R) (hR2 : ∀ g, v'.ownBlock = some g → w3.heap.size ≤ g) :
  ∃ own', DInv w0 w' Wb own' (hs.set i ⟨hb, B, R, ck', acts', ps', xv', v', pl, vg'⟩) ll vd vl := by
 have H := DInv.at hi I
 have hl : hb < w.heap.size := block_lt H.blk
 have s1 := hW.b1.size
 have s2 := hW.b2.size
 have s3 := hW.k3.size
 have hgo : ∀ g, vg'.ownBlock = some g → g ≠ hb := by
  intro g hg' e;subst e;rcases hgf with rfl | h
  ·have h1 := H.gown _ hg';rw [H.hown] at h1;omega
  ·have := h _ hg';omega
 have hold : ∀ x, x ∈ acts' → ∀ g, x.pay.lv.ownBlock = some g → g < w.heap.size ∧ own g = 10 + 8 * i + 2 := fun x hx g hg' => by
  have hf : rdfoot rb acts v g := .inr (.inr ⟨x, hsub x hx, hg'⟩);exact ⟨H.r.foot_lt hf, H.rown g hf⟩
 refine ⟨_, I.again hi w1 w2 _ rfl hW.k0 ⟨hblk, ?_, ?_, hap, ?_, ?_, ⟨hRa, fun x hx g hg' => ⟨fun e => ?_, fun e => ?_⟩⟩, ?_, hg.kept hW.k1 (fun g hg' e => hgo g hg' e), ?_⟩⟩
 ·rw [ownAgain_0 hl];exact H.hown
 ·exact hX.kept hW.k2 (fun k hk e => by have := hfx k hk; omega)
 ·intro k hk;have h1 := hfx k hk;exact ownAgain_2 (by omega) h1 (hX.foot_lt hk)
 ·refine hR.kept hW.k5 (fun k hk e => ?_);subst e;rcases hk with h | h | ⟨x, hx, h⟩
  ·omega
  ·have := hR2 _ h; omega
  ·have h1 := (hold x hx _ h).2;have h2 : own k = 10 + 8 * i := H.hown;omega
 ·have h1 := (hold x hx g hg').1;have e' : g = R := e;omega
 ·have h1 := (hold x hx g hg').1;have := hR2 g e;omega
 ·intro k hk;rcases hk with h | h | ⟨x, hx, h⟩
  ·have h' : k = R := h;exact ownAgain_3 (by omega) (by omega) (by omega)
  ·have := hR2 _ h;exact ownAgain_3 (by omega) (by omega) (by omega)
  ·rw [ownAgain_0 (hold x hx k h).1];exact (hold x hx k h).2
 ·intro g hg';rcases hgf with rfl | h
  ·rw [ownAgain_0 (H.grow.lt hg')];exact H.gown g hg'
  ·exact ownAgain_1 (h g hg') (hg.lt hg')
theorem run_copy_many {P : Program} (w : World) (dT sT ty elem : TypeId) (sz g o dLen dCap : Nat) (a : Addr) (sLen sCap : Nat) (cur : Array Value) (t : TypeId) (cs : List Value)
  (hu : P.underlying dT = some (.slice elem)) (hs : (P.info? elem).map (·.size) = some sz)
  (hg : w.heap[g]? = some (.cells cur t (0, 0))) (hn : cs.length = Nat.min sLen dLen * sz)
  (hsrc : ∀ j v, cs[j]? = some v → w.cell? (a.add j) = some v) (hfit : o + cs.length ≤ cur.size) (h1 : ∀ v ∈ cs, v.oneCell' = true) :
  (Builtin.copy_ #[dT, sT] ty #[.slice (some ⟨g, o, none⟩) dLen dCap, .slice (some a) sLen sCap]).run P w =
   .ok (goInt (Nat.min sLen dLen : Nat)) (w.setRow g (cur.toList.take o ++ cs ++ cur.toList.drop (o + cs.length)).toArray) := by
 have hl := run_loadCells_list (P := P) w a cs hsrc
 have hst := run_storeCells_at P g o t cs 0 cur w hg (by simpa using hfit) h1
 cases hq : P.info? elem with
 | none => simp [hq] at hs
 | some i =>
  have hi : i.size = sz := by simpa [hq] using hs
  simp [Builtin.copy_, run_underlying hu, Builtin.lenOf, Builtin.firstCells, sizeOf, typeInfo, hq, hi, ← hn, hl, hst]
theorem run_copy_zero {P : Program} (w : World) (dT sT ty elem : TypeId) (sz g dLen dCap : Nat) (ad : Option Addr) (sCap : Nat) (cur : Array Value) (t : TypeId) (hg : w.heap[g]? = some (.cells cur t (0, 0)))
  (hu : P.underlying dT = some (.slice elem)) (hs : (P.info? elem).map (·.size) = some sz) :
  (Builtin.copy_ #[dT, sT] ty #[.slice (some ⟨g, 0, none⟩) dLen dCap, .slice ad 0 sCap]).run P w = .ok (goInt 0) w := by
 cases hq : P.info? elem with
 | none => simp [hq] at hs
 | some i =>
  cases ad with
  | none => simp [Builtin.copy_, run_underlying hu, Builtin.lenOf, Builtin.firstCells, sizeOf, typeInfo, hq, storeCells]
  | some a =>
   have hl := run_loadCells_list (P := P) w a [] (by simp);simp at hl;simp [Builtin.copy_, run_underlying hu, Builtin.lenOf, Builtin.firstCells, sizeOf, typeInfo, hq, storeCells, hl]
theorem RowOf.cut {α : Type} {f : α → List Value} {sz : Nat} (hf : ∀ x, (f x).length = sz) {w : World} {e : TypeId} {g cap : Nat} {xs ys : List α} (h : RowOf w e sz f (.slice (some ⟨g, 0, none⟩) (xs ++ ys).length cap) (xs ++ ys)) : RowOf w e sz f (.slice (some ⟨g, 0, none⟩) xs.length cap) xs := by
 refine ⟨flat_length hf xs, ?_⟩
 rcases h.2 with ⟨h1, h2⟩ | ⟨g', cap', cur, h1, h2, h3, h4, h5, h6, h7⟩
 ·cases h1
 ·injection h1 with e1 e2 e3
  injection e1 with e1
  injection e1 with e1
  subst e1 e3;refine .inr ⟨g, cap, cur, rfl, h2, h3, by simp at h4; omega, h5, h6, ?_⟩;have e4 : (xs ++ ys).flatMap f = xs.flatMap f ++ ys.flatMap f := List.flatMap_append ..;have e5 := congrArg (List.take (xs.length * sz)) h7;rw [List.take_take, Nat.min_eq_left (Nat.mul_le_mul_right _ (by simp)), e4, List.take_append, flat_length hf, Nat.sub_self, List.take_zero, List.append_nil] at e5;rw [e5];exact List.take_of_length_le (by rw [flat_length hf]; exact Nat.le_refl _)
def leg77 : Pl := ⟨77, 0, 0, 0⟩
def leg99 : Pl := ⟨99, 0, 0, 0⟩
def legNo : Pl := ⟨0, 0, 0, 0⟩
theorem made_legs (n : Nat) : (madeCells (Value.agg #[.int .u8 0, .int .u16 0, .int .u16 0, .int .u32 0]).cells (n * 4)).toList = (List.replicate n legNo).flatMap Pl.cells := by
 have hz : (Value.agg #[.int .u8 0, .int .u16 0, .int .u16 0, .int .u32 0]).cells = #[.int .u8 0, .int .u16 0, .int .u16 0, .int .u32 0] := rfl
 rw [hz]
 induction n with
 | zero => simp [madeCells]
 | succ n ih =>
  rw [List.replicate_succ', List.flatMap_append, ← ih];have e : (n + 1) * 4 = n * 4 + 1 + 1 + 1 + 1 := by omega
  have m0 : n * 4 % 4 = 0 := by omega
  have m1 : (n * 4 + 1) % 4 = 1 := by omega
  have m2 : (n * 4 + 1 + 1) % 4 = 2 := by omega
  have m3 : (n * 4 + 1 + 1 + 1) % 4 = 3 := by omega
  simp only [madeCells, Array.toList_map, Array.toList_range, e, List.range_succ, List.map_append, List.map_cons, List.map_nil, List.append_assoc]
  congr 1
  simp [m0, m1, m2, m3, legNo, Pl.cells]
theorem flat_legs (legs : List Pl) : ∀ j v, (legs.flatMap Pl.cells)[j]? = some v → ∃ k, ∃ hk : k < legs.length, ∃ i, j = k * 4 + i ∧ legs[k].cells[i]? = some v := by
 induction legs with
 | nil => intro j v h; simp at h
 | cons x r ih =>
  intro j v h;rw [List.flatMap_cons] at h;by_cases hj : j < 4
  ·rw [List.getElem?_append_left (by rw [Pl.cells_length]; exact hj)] at h;exact ⟨0, by simp, j, by omega, h⟩
  ·rw [List.getElem?_append_right (by rw [Pl.cells_length]; omega), Pl.cells_length] at h;obtain ⟨k, hk, i, e, h2⟩ := ih (j - 4) v h;exact ⟨k + 1, by simpa using hk, i, by omega, h2⟩
theorem pl_flat_one (legs : List Pl) : ∀ v ∈ legs.flatMap Pl.cells, v.oneCell' = true := by
 intro v hv
 obtain ⟨x, hx, h⟩ := List.mem_flatMap.1 hv
 exact pl_each x v h
theorem copy_run (w : World) (ty : TypeId) (g n : Nat) (la : Option Addr) (lc : Nat) (legs : List Pl)
  (hrow : RowOf w 67 4 Pl.cells (.slice (some ⟨g, 0, none⟩) n n) (List.replicate n legNo)) (hL : LegsAt w la legs) (hln : legs.length ≤ n) :
  ∃ w', (Builtin.copy_ #[29, 29] ty #[.slice (some ⟨g, 0, none⟩) n n, .slice la legs.length lc]).run Tryz.prog w = .ok (goInt (legs.length : Nat)) w' ∧ RowOf w' 67 4 Pl.cells (.slice (some ⟨g, 0, none⟩) n n) (legs ++ List.replicate (n - legs.length) legNo) ∧ Kept (fun k => k = g) w w' := by
 have hsz : (Tryz.prog.info? 67).map (·.size) = some 4 := by kernel_rfl
 rcases hrow.2 with ⟨h1, _⟩ | ⟨g', cap, cur, h1, h2, h3, h4, h5, h6, h7⟩
 ·cases h1
 ·injection h1 with e1 e2 e3
  injection e1 with e1
  injection e1 with e1
  subst e1 e3;simp only [List.length_replicate] at h4 h7 e2;cases legs with
  | nil =>
   have hrun := run_copy_zero (P := Tryz.prog) w 29 29 ty 67 4 g n n la lc cur 67 h3 Tryz.underlying29 hsz;exact ⟨w, hrun, by simpa using hrow, ⟨rfl, rfl, rfl, Nat.le_refl _, fun _ _ _ => rfl⟩⟩
  | cons x r =>
   obtain ⟨ad, rfl, _, _⟩ := hL 0 (by simp);have hmin : Nat.min (x :: r).length n = (x :: r).length := Nat.min_eq_left hln;have hcl : ((x :: r).flatMap Pl.cells).length = (x :: r).length * 4 := flat_length Pl.cells_length (x :: r);have hfit : 0 + ((x :: r).flatMap Pl.cells).length ≤ cur.size := by rw [hcl, h6, Nat.zero_add]; exact Nat.mul_le_mul_right _ hln
   have hrun := run_copy_many (P := Tryz.prog) w 29 29 ty 67 4 g 0 n n ad (x :: r).length lc cur 67 ((x :: r).flatMap Pl.cells) Tryz.underlying29 hsz h3 (by rw [hmin]; exact hcl)
    (fun j v hv => by
     obtain ⟨k, hk, i, e, h8⟩ := flat_legs _ j v hv;obtain ⟨a', e', _, h9⟩ := hL k hk;injection e' with e'
     subst e';rw [e, ← addr_add]
     exact h9 i v h8) hfit (pl_flat_one _)
   rw [hmin] at hrun;have hset := setRow_heap w g cur (cur.toList.take 0 ++ (x :: r).flatMap Pl.cells ++ cur.toList.drop (0 + ((x :: r).flatMap Pl.cells).length)).toArray 67 (0, 0) h3;have hkept : Kept (fun k => k = g) w (w.setRow g (cur.toList.take 0 ++ (x :: r).flatMap Pl.cells ++ cur.toList.drop (0 + ((x :: r).flatMap Pl.cells).length)).toArray) := ⟨rfl, rfl, rfl, by simp [World.setRow], fun k hk hn => setRow_other w g k _ (fun e => hn e)⟩;refine ⟨_, hrun, ⟨by rw [flat_length Pl.cells_length], .inr ⟨g, n, _, by simp only [List.length_append, List.length_replicate]; rw [Nat.add_sub_cancel' hln], h2, hset, by simp only [List.length_append, List.length_replicate]; omega, h5, ?_, ?_⟩⟩, hkept⟩
   ·simp only [List.size_toArray, List.length_append, List.length_take, List.length_drop, hcl];have : (x :: r).length * 4 ≤ n * 4 := Nat.mul_le_mul_right _ hln;simp only [Array.length_toList, h6];omega
   ·have e9 : List.replicate n legNo = List.replicate (x :: r).length legNo ++ List.replicate (n - (x :: r).length) legNo := by rw [List.replicate_append_replicate]; congr 1; omega
    rw [e9, List.flatMap_append] at h7;have e10 := congrArg (List.drop ((x :: r).length * 4)) h7;have e11 : ((List.replicate (x :: r).length legNo).flatMap Pl.cells).length = (x :: r).length * 4 := by rw [flat_length Pl.cells_length, List.length_replicate]
    rw [List.drop_left' e11, List.drop_take] at e10;simp only [List.length_append, List.length_replicate, Nat.add_sub_cancel' hln, List.take_zero, List.nil_append, Nat.zero_add, hcl];rw [List.take_append, hcl, List.take_of_length_le (by rw [hcl]; exact Nat.mul_le_mul_right _ hln), e10, List.flatMap_append]
structure OffsAt (vd : Value) (os : List Office) (w : World) (own : Nat → Nat) : Prop where
 row : RowOf w 126 1 offCell vd os
 own5 : ∀ g, vd.ownBlock = some g → own g = 5
 off : ∀ i (hi : i < os.length), OffMem w own (10 + 8 * i) os[i]
structure HousesAt (vb : Value) (hs : List House) (w : World) (own : Nat → Nat) : Prop where
 row : RowOf w 124 1 ptrCell vb hs
 own2 : ∀ g, vb.ownBlock = some g → own g = 2
 hou : ∀ i (hi : i < hs.length), HouseMem w own (6 + 8 * i) hs[i]
theorem OffsAt.loc (vd : Value) (os : List Office) (u u' : World) (own own' : Nat → Nat) (S : Nat → Prop) (h : OffsAt vd os u own) (hk : Kept S u u') (hS : ∀ k, k < u.heap.size → S k → ¬ offCls (own k)) (hA : ∀ k, k < u.heap.size → own' k = own k) : OffsAt vd os u' own' := by
 refine ⟨part_row h.row h.own5 hk (fun k hl hs e => hS k hl hs (.inl e)), part_own h.row h.own5 hA, fun i hi => (h.off i hi).kept hk (fun k hl hs => ?_) hA⟩
 have h1 := hS k hl hs
 unfold offCls at h1
 omega
theorem HousesAt.loc (vb : Value) (hs : List House) (u u' : World) (own own' : Nat → Nat) (S : Nat → Prop) (h : HousesAt vb hs u own) (hk : Kept S u u') (hS : ∀ k, k < u.heap.size → S k → ¬ bankCls (own k)) (hA : ∀ k, k < u.heap.size → own' k = own k) : HousesAt vb hs u' own' := by
 refine ⟨part_row h.row h.own2 hk (fun k hl hs e => hS k hl hs (.inl e)), part_own h.row h.own2 hA, fun i hi => (h.hou i hi).kept hk (fun k hl hs => ?_) hA⟩
 have h1 := hS k hl hs
 unfold bankCls at h1
 omega
def baseB (W : World) (vd : Value) (os : List Office) : Base := ⟨W, fun k => k < W.heap.size, fun _ h => h, true, vd, OffsAt vd os, OffsAt.loc vd os⟩
def baseD (W : World) (vb : Value) (hs : List House) : DBase := ⟨W, fun k => k < W.heap.size, fun _ h => h, true, vb, HousesAt vb hs, HousesAt.loc vb hs⟩
theorem MemInv.toD {W w : World} {Wb : Nat} {own : Nat → Nat} {hs : List House} {os : List Office} {ll : List (Value × Nat)} {vb vd vl : Value} (I : MemInv (baseB W vd os) w Wb own hs ll vb vl) : DInv (baseD W vb hs) w Wb own os ll vd vl :=
 ⟨⟨I.bel.os, I.bel.tape, I.bel.output, I.bel.size, I.bel.block⟩, I.old, I.wblk, I.wown, I.oth.row, I.oth.own5, I.lrow, I.lown, I.full, I.fown, I.four, I.oth.off, ⟨I.brow, I.bown, I.house⟩⟩
theorem DInv.toB {W w : World} {Wb : Nat} {own : Nat → Nat} {hs : List House} {os : List Office} {ll : List (Value × Nat)} {vb vd vl : Value} (I : DInv (baseD W vb hs) w Wb own os ll vd vl) : MemInv (baseB W vd os) w Wb own hs ll vb vl :=
 ⟨⟨I.bel.os, I.bel.tape, I.bel.output, I.bel.size, I.bel.block⟩, I.old, I.wblk, I.wown, I.oth.row, I.oth.own2, I.lrow, I.lown, I.full, I.fown, I.four, I.oth.hou, ⟨I.drow, I.down, I.house⟩⟩
end Go.Proofs.YtjkhbjgfoopomabGreat
