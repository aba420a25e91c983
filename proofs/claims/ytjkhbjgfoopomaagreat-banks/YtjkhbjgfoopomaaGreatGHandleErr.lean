import Derived.Test.YtjkhbjgfoopomaaGreatRefOpen
import Derived.Test.YtjkhbjgfoopomaaGreatGCanTold
import Derived.Test.YtjkhbjgfoopomaaGreatGDecode
import Derived.BigQuiet
/-
  What the document's Bank.Handle does: plain, and how its answer lies in memory.
-/
namespace Go.Proofs.YtjkhbjgfoopomaaGreat
open Go.RowKit
set_option linter.unusedVariables false
set_option linter.unusedSimpArgs false

theorem bs_same (a b : List UInt8) : ((bs a).toList == (bs b).toList) = decide (a = b) := by rw [bs_toList, bs_toList]; by_cases h : a = b <;> simp [h]
theorem legFold_asked (id l : Nat) (evs : List Ev) : ∀ s : Nat × Msg × Bool, (s.2.2 = true → s.1 ≠ 0) → ((evs.foldl (legStep id l) s).2.2 = true → (evs.foldl (legStep id l) s).1 ≠ 0) := by
  induction evs with
  | nil => intro s h; exact h
  | cons e r ih =>
    intro s h
    refine ih _ ?_
    unfold legStep
    (repeat' split) <;> first | exact h | (intro _; simp)
theorem legOf_asked (id l : Nat) (evs : List Ev) : (legOf id l evs).2.2 = true → (legOf id l evs).1 ≠ 0 := legFold_asked id l evs _ (by simp)

def otherB (x y : Msg) : Bool := decide (y.p ≠ x.p) || (decide (y.g ≠ x.g) || (decide (y.a ≠ x.a) || decide (y.m ≠ x.m)))
/-- the error of a message that is to this bank -/
def hErrT (x : Msg) (T : Nat × Msg × Bool) (n : Nat) : Nat :=
  if x.k = 1 ∧ T.2.2 = true ∧ otherB x T.2.1 = true then 11
  else if (x.k = 2 ∧ T.1 ≠ 1 ∧ T.1 ≠ 3) ∨ (x.k = 3 ∧ T.1 = 3) then 14
  else if x.k ≠ 2 ∧ T.1 = 0 ∧ 128 ≤ n then 10 else 0
def hErrOf (x : Msg) (evs : List Ev) : Nat := hErrT x (legOf x.i x.l evs) (keysOf evs).length
def hNewT (x : Msg) (T : Nat × Msg × Bool) (n : Nat) (can : Bool) : List Ev :=
  if hErrT x T n ≠ 0 then [] else if x.k = 1 ∧ T.1 = 0 then [⟨1, x, can⟩] else if x.k = 2 ∧ T.1 = 1 then [⟨2, x, false⟩] else if x.k = 3 ∧ T.1 ≠ 4 then [⟨3, x, false⟩] else []
/-- what has changed the bank behind it -/
def hEvsOf (x : Msg) (evs : List Ev) : List Ev := evs ++ hNewT x (legOf x.i x.l evs) (keysOf evs).length (canB x evs)

def strCell (l : List UInt8) : List Value := [.string (bs l)]
theorem strCell_length (l : List UInt8) : (strCell l).length = 1 := rfl
structure Handed (w w' : World) (B node : Nat) (evs' : List Ev) (v v' lv : Value) (outs : List (List UInt8)) : Prop where
  to : RBTo w w' B node evs' v v'
  row : RowOf w' 9 1 strCell lv outs
  fresh : ∀ g, lv.ownBlock = some g → w.heap.size ≤ g ∧ v'.ownBlock ≠ some g
theorem RBTo.then {w u u2 : World} {B node : Nat} {evs' : List Ev} {v v' : Value} (h : RBTo w u B node evs' v v') (hb : Below u.heap.size u u2) : RBTo w u2 B node evs' v v' :=
  ⟨h.rb.below hb, h.kept.trans (Kept.of_below (S := fun _ => False) hb) (fun i hi => hi.elim), h.own, h.ap⟩
theorem RBTo.same {w u : World} {B node : Nat} {evs : List Ev} {v : Value} (hR : RB w B node evs v) (hap : v.ownBlock ≠ some B) (hb : Below w.heap.size w u) : RBTo w u B node evs v v :=
  ⟨hR.below hb, Kept.of_below hb, fun g h => .inl h, hap⟩
theorem Handed.nil {w u : World} {B node : Nat} {evs' : List Ev} {v v' : Value} (h : RBTo w u B node evs' v v') : Handed w u B node evs' v v' (.slice none 0 0) [] :=
  ⟨h, RowOf.nil _ _, fun g hg => by simp [Value.ownBlock] at hg⟩
theorem Handed.single {w u u2 : World} {B node : Nat} {evs' : List Ev} {v v' : Value} (h : RBTo w u B node evs' v v') (hb : Below u.heap.size u u2) (ans : List UInt8) :
    Handed w (u2.alloc (.cells #[.string (bs ans)] 9)) B node evs' v v' (.slice (some ⟨u2.heap.size, 0, none⟩) 1 1) [ans] := by
  have h2 := h.then hb
  have hbel : Below u2.heap.size u2 (u2.alloc (.cells #[.string (bs ans)] 9)) := (Below.refl _ _).alloc (Nat.le_refl _) _
  have h3 := h2.then hbel
  refine ⟨h3, ⟨rfl, .inr ⟨u2.heap.size, 1, #[.string (bs ans)], rfl, Nat.zero_le _, heap_alloc_self _ _, Nat.le_refl _, by unfold maxLen; omega, rfl, rfl⟩⟩, ?_⟩
  intro g hg
  have : g = u2.heap.size := by simpa [Value.ownBlock] using hg.symm
  subst this
  refine ⟨h2.kept.size, fun e => ?_⟩
  have := h2.rb.row.lt e
  omega
theorem told_at (k f t i l p g a : Nat) (m : List UInt8) (hx : (⟨k, f, t, i, l, p, g, a, m⟩ : Msg).ok) (kk : Int) (hkk : (k : Int) = kk) (B node : Nat) (hnode : node < 256) (E : List Ev) (hok : ∀ e, e ∈ E → e.ok) (hlen : E.length ≤ 1000000) :
    Hid (∀ u v', RB u B node E v' → Calls Tryz.prog 65 #[.pointer (some ⟨B, 0, none⟩), .agg #[.int .u8 kk, .int .u8 (f : Int), .int .u8 (t : Int), .int .u32 (i : Int), .int .u8 (l : Int), .int .u16 (p : Int), .int .u16 (g : Int), .int .u32 (a : Int), .string (bs m)]] u fun e w' => e = .returned (.string (bs (ansOf node i l (legOf i l E).1))) ∧ Below u.heap.size u w') := by
  subst hkk
  exact hide (fun u v' hu => told_any ⟨k, f, t, i, l, p, g, a, m⟩ hx u B node hnode E v' hu hok hlen)
theorem boxes_kept {w1 u u' : World} {S : Nat → Prop} {cs : Array Value} (h : Box w1 cs u) (hk : Kept S u u') (hs : ∀ k, S k → k < w1.heap.size) : ∀ o, u'.cell? ⟨w1.heap.size, o, none⟩ = cs[o]? := fun o => by
  rw [hk.cell (p := ⟨w1.heap.size, o, none⟩) h.lt (fun x => by have := hs _ x; simp at this)]
  exact h.cell o
end Go.Proofs.YtjkhbjgfoopomaaGreat
/-
  The document's Bank.Handle: errors.
-/
namespace Go.Proofs.YtjkhbjgfoopomaaGreat
open Go.RowKit
set_option linter.unusedVariables false
set_option linter.unusedSimpArgs false

theorem Box.drewN {w u : World} {cs : Array Value} (h : Box w cs u) (n : Nat) : Box w cs (u.drewN n) := ⟨h.bel.drewN n, h.lt, h.cell, h.fro⟩

set_option maxRecDepth 100000 in
set_option maxHeartbeats 1000000 in
theorem rh_conflict (s : ByteArray) (hs : s.size ≤ 140737488351232) (w : World) (B : Nat) (evs : List Ev) (v : Value) (f t i l p g a : Nat) (m : List UInt8) (hxok : (⟨1, f, t, i, l, p, g, a, m⟩ : Msg).ok) (t1 nk nf nt ni nl np ng na : Nat) (nm : List UInt8) (t3 : Bool)
    (he0 : decErr s.data.toList = 0) (hx : decMsg s.data.toList = ⟨1, f, t, i, l, p, g, a, m⟩) (hT : legOf i l evs = (t1, ⟨nk, nf, nt, ni, nl, np, ng, na, nm⟩, t3))
    (hR : RB w B t evs v) (hap : v.ownBlock ≠ some B) (hok : ∀ e, e ∈ evs → e.ok) (hlen : evs.length ≤ 900000) (h3 : t3 = true) (ho : otherB ⟨1, f, t, i, l, p, g, a, m⟩ ⟨nk, nf, nt, ni, nl, np, ng, na, nm⟩ = true) :
    Calls Tryz.prog 31 #[.pointer (some ⟨B, 0, none⟩), .string s] w fun e w' => e = .returned (.tuple #[.slice none 0 0, .int .i64 11]) ∧ ∃ v', RBTo w w' B t evs v v' := by
  have hD := hide (refDecode_any s hs)
  rw [he0, hx] at hD
  have hL := hide (fun u (hu : RB u B t evs v) => leg_any i l hxok.2.2.2.1 hxok.2.2.2.2.1 u B t evs v hu hok (by omega))
  rw [hT] at hL
  have hK := hide (fun u (hu : RB u B t evs v) => kept_any u B t evs v hu hok (by omega))
  have hkl : (keysOf evs).length ≤ evs.length := keysTo_length _ _
  generalize hnn : (keysOf evs).length = n at *
  replace hnn := hide hnn
  obtain ⟨ad, cap, hv, hev⟩ := hR.form
  clear hev he0 hx
  replace hT := hide hT
  subst hv
  have hxok' := hide hxok
  obtain ⟨hk, hf, ht, hi, hl, hp, hg, ha⟩ := hxok
  simp only [Msg.v, Msg.cells] at hk hf ht hi hl hp hg ha hD hL
  have hBl := hR.lt
  have hcs : ((t : Int) != (t : Int)) = false := by simp
  go_enter Tryz.func31, Tryz.ntmps31
  go_wp2_with fail
  refine (hD.out _).mono ?_
  rintro e w1 ⟨rfl, hb⟩
  have hR1 := hR.below hb
  have hc : ∀ o, _ = _ := fun o => cell_at hR1.blk o
  have hBl1 := hR1.lt
  clear hD
  go_wp2_with fail
  go_quiet (fail)
  have B1 := (Box.mk0 w1 #[Value.int .u8 1, .int .u8 (f : Int), .int .u8 (t : Int), .int .u32 (i : Int), .int .u8 (l : Int), .int .u16 (p : Int), .int .u16 (g : Int), .int .u32 (a : Int), .string (bs m)] 40).drewN nq
  generalize World.drewN _ _ = w2 at *
  have hcm := B1.cell
  have hlt1 := B1.lt
  have hR2 := hR1.below B1.bel
  have hBl2 := hR2.lt
  clear hc
  go_wp2_with fail
  refine (hL.out _ hR2).mono ?_
  rintro e w3 ⟨rfl, hb3⟩
  have hR3 := hR2.below hb3
  have B3 := B1.below hb3
  clear hcm hlt1 B1 hL
  go_wp2_with fail
  refine (hK.out _ (hR3.below ((Below.refl _ _).alloc (Nat.le_refl _) _))).mono ?_
  rintro e w4 ⟨rfl, hb4⟩
  have B4 := (B3.alloc _).below hb4
  have hcm := B4.cell
  have hltm := B4.lt
  have hco := fun o => cel_kept hb4 o
  have hlto := lt_kept hb4
  have hR4 := (hR3.below ((Below.refl _ _).alloc (Nat.le_refl _) _)).below hb4
  have hbel4 := hb.trans (B4.bel.mono hb.size)
  clear hb3 hb4 hK B3
  subst h3
  have hno := (legOf_ok i l evs hok).2
  rw [hT.out] at hno
  obtain ⟨_, _, _, _, _, hnp, hng, hna⟩ := hno
  simp only at hnp hng hna
  simp only [otherB, Bool.or_eq_true, decide_eq_true_eq] at ho
  by_cases o1 : np = p
  · have d1 : ((np : Int) != (p : Int)) = false := by simp; omega
    by_cases o2 : ng = g
    · have d2 : ((ng : Int) != (g : Int)) = false := by simp; omega
      by_cases o3 : na = a
      · have d3 : ((na : Int) != (a : Int)) = false := by simp; omega
        have o4 : nm ≠ m := by
          rcases ho with h | h | h | h
          · exact absurd o1 h
          · exact absurd o2 h
          · exact absurd o3 h
          · exact h
        have d4 : ((bs nm).toList == (bs m).toList) = false := by rw [bs_same]; simpa using o4
        clear ho o1 o2 o3
        go_wp2
        go_ret2
        exact ⟨rfl, _, RBTo.same hR hap hbel4⟩
      · have d3 : ((na : Int) != (a : Int)) = true := by simp; omega
        clear ho o1 o2 o3
        go_wp2
        go_ret2
        exact ⟨rfl, _, RBTo.same hR hap hbel4⟩
    · have d2 : ((ng : Int) != (g : Int)) = true := by simp; omega
      clear ho o1 o2
      go_wp2
      go_ret2
      exact ⟨rfl, _, RBTo.same hR hap hbel4⟩
  · have d1 : ((np : Int) != (p : Int)) = true := by simp; omega
    clear ho o1
    go_wp2
    go_ret2
    exact ⟨rfl, _, RBTo.same hR hap hbel4⟩

set_option maxRecDepth 100000 in
set_option maxHeartbeats 1000000 in
theorem rh_state2 (s : ByteArray) (hs : s.size ≤ 140737488351232) (w : World) (B : Nat) (evs : List Ev) (v : Value) (f t i l p g a : Nat) (m : List UInt8) (hxok : (⟨2, f, t, i, l, p, g, a, m⟩ : Msg).ok) (t1 nk nf nt ni nl np ng na : Nat) (nm : List UInt8) (t3 : Bool)
    (he0 : decErr s.data.toList = 0) (hx : decMsg s.data.toList = ⟨2, f, t, i, l, p, g, a, m⟩) (hT : legOf i l evs = (t1, ⟨nk, nf, nt, ni, nl, np, ng, na, nm⟩, t3))
    (hR : RB w B t evs v) (hap : v.ownBlock ≠ some B) (hok : ∀ e, e ∈ evs → e.ok) (hlen : evs.length ≤ 900000) (h1 : t1 ≠ 1) (h3 : t1 ≠ 3) :
    Calls Tryz.prog 31 #[.pointer (some ⟨B, 0, none⟩), .string s] w fun e w' => e = .returned (.tuple #[.slice none 0 0, .int .i64 14]) ∧ ∃ v', RBTo w w' B t evs v v' := by
  have hD := hide (refDecode_any s hs)
  rw [he0, hx] at hD
  have hL := hide (fun u (hu : RB u B t evs v) => leg_any i l hxok.2.2.2.1 hxok.2.2.2.2.1 u B t evs v hu hok (by omega))
  rw [hT] at hL
  have hK := hide (fun u (hu : RB u B t evs v) => kept_any u B t evs v hu hok (by omega))
  have hkl : (keysOf evs).length ≤ evs.length := keysTo_length _ _
  generalize hnn : (keysOf evs).length = n at *
  replace hnn := hide hnn
  obtain ⟨ad, cap, hv, hev⟩ := hR.form
  clear hev he0 hx
  replace hT := hide hT
  subst hv
  have hxok' := hide hxok
  obtain ⟨hk, hf, ht, hi, hl, hp, hg, ha⟩ := hxok
  simp only [Msg.v, Msg.cells] at hk hf ht hi hl hp hg ha hD hL
  have hBl := hR.lt
  have hcs : ((t : Int) != (t : Int)) = false := by simp
  go_enter Tryz.func31, Tryz.ntmps31
  go_wp2_with fail
  refine (hD.out _).mono ?_
  rintro e w1 ⟨rfl, hb⟩
  have hR1 := hR.below hb
  have hc : ∀ o, _ = _ := fun o => cell_at hR1.blk o
  have hBl1 := hR1.lt
  clear hD
  go_wp2_with fail
  go_quiet (fail)
  have B1 := (Box.mk0 w1 #[Value.int .u8 2, .int .u8 (f : Int), .int .u8 (t : Int), .int .u32 (i : Int), .int .u8 (l : Int), .int .u16 (p : Int), .int .u16 (g : Int), .int .u32 (a : Int), .string (bs m)] 40).drewN nq
  generalize World.drewN _ _ = w2 at *
  have hcm := B1.cell
  have hlt1 := B1.lt
  have hR2 := hR1.below B1.bel
  have hBl2 := hR2.lt
  clear hc
  go_wp2_with fail
  refine (hL.out _ hR2).mono ?_
  rintro e w3 ⟨rfl, hb3⟩
  have hR3 := hR2.below hb3
  have B3 := B1.below hb3
  clear hcm hlt1 B1 hL
  go_wp2_with fail
  refine (hK.out _ (hR3.below ((Below.refl _ _).alloc (Nat.le_refl _) _))).mono ?_
  rintro e w4 ⟨rfl, hb4⟩
  have B4 := (B3.alloc _).below hb4
  have hcm := B4.cell
  have hltm := B4.lt
  have hco := fun o => cel_kept hb4 o
  have hlto := lt_kept hb4
  have hR4 := (hR3.below ((Below.refl _ _).alloc (Nat.le_refl _) _)).below hb4
  have hbel4 := hb.trans (B4.bel.mono hb.size)
  clear hb3 hb4 hK B3
  have d1 : ((t1 : Int) != 1) = true := by simp; omega
  have d3 : ((t1 : Int) != 3) = true := by simp; omega
  clear h1 h3
  go_wp2
  go_ret2
  exact ⟨rfl, _, RBTo.same hR hap hbel4⟩

set_option maxRecDepth 100000 in
set_option maxHeartbeats 1000000 in
theorem rh_state3 (s : ByteArray) (hs : s.size ≤ 140737488351232) (w : World) (B : Nat) (evs : List Ev) (v : Value) (f t i l p g a : Nat) (m : List UInt8) (hxok : (⟨3, f, t, i, l, p, g, a, m⟩ : Msg).ok) (t1 nk nf nt ni nl np ng na : Nat) (nm : List UInt8) (t3 : Bool)
    (he0 : decErr s.data.toList = 0) (hx : decMsg s.data.toList = ⟨3, f, t, i, l, p, g, a, m⟩) (hT : legOf i l evs = (t1, ⟨nk, nf, nt, ni, nl, np, ng, na, nm⟩, t3))
    (hR : RB w B t evs v) (hap : v.ownBlock ≠ some B) (hok : ∀ e, e ∈ evs → e.ok) (hlen : evs.length ≤ 900000) (h3 : t1 = 3) :
    Calls Tryz.prog 31 #[.pointer (some ⟨B, 0, none⟩), .string s] w fun e w' => e = .returned (.tuple #[.slice none 0 0, .int .i64 14]) ∧ ∃ v', RBTo w w' B t evs v v' := by
  have hD := hide (refDecode_any s hs)
  rw [he0, hx] at hD
  have hL := hide (fun u (hu : RB u B t evs v) => leg_any i l hxok.2.2.2.1 hxok.2.2.2.2.1 u B t evs v hu hok (by omega))
  rw [hT] at hL
  have hK := hide (fun u (hu : RB u B t evs v) => kept_any u B t evs v hu hok (by omega))
  have hkl : (keysOf evs).length ≤ evs.length := keysTo_length _ _
  generalize hnn : (keysOf evs).length = n at *
  replace hnn := hide hnn
  obtain ⟨ad, cap, hv, hev⟩ := hR.form
  clear hev he0 hx
  replace hT := hide hT
  subst hv
  have hxok' := hide hxok
  obtain ⟨hk, hf, ht, hi, hl, hp, hg, ha⟩ := hxok
  simp only [Msg.v, Msg.cells] at hk hf ht hi hl hp hg ha hD hL
  have hBl := hR.lt
  have hcs : ((t : Int) != (t : Int)) = false := by simp
  go_enter Tryz.func31, Tryz.ntmps31
  go_wp2_with fail
  refine (hD.out _).mono ?_
  rintro e w1 ⟨rfl, hb⟩
  have hR1 := hR.below hb
  have hc : ∀ o, _ = _ := fun o => cell_at hR1.blk o
  have hBl1 := hR1.lt
  clear hD
  go_wp2_with fail
  go_quiet (fail)
  have B1 := (Box.mk0 w1 #[Value.int .u8 3, .int .u8 (f : Int), .int .u8 (t : Int), .int .u32 (i : Int), .int .u8 (l : Int), .int .u16 (p : Int), .int .u16 (g : Int), .int .u32 (a : Int), .string (bs m)] 40).drewN nq
  generalize World.drewN _ _ = w2 at *
  have hcm := B1.cell
  have hlt1 := B1.lt
  have hR2 := hR1.below B1.bel
  have hBl2 := hR2.lt
  clear hc
  go_wp2_with fail
  refine (hL.out _ hR2).mono ?_
  rintro e w3 ⟨rfl, hb3⟩
  have hR3 := hR2.below hb3
  have B3 := B1.below hb3
  clear hcm hlt1 B1 hL
  go_wp2_with fail
  refine (hK.out _ (hR3.below ((Below.refl _ _).alloc (Nat.le_refl _) _))).mono ?_
  rintro e w4 ⟨rfl, hb4⟩
  have B4 := (B3.alloc _).below hb4
  have hcm := B4.cell
  have hltm := B4.lt
  have hco := fun o => cel_kept hb4 o
  have hlto := lt_kept hb4
  have hR4 := (hR3.below ((Below.refl _ _).alloc (Nat.le_refl _) _)).below hb4
  have hbel4 := hb.trans (B4.bel.mono hb.size)
  clear hb3 hb4 hK B3
  have d3 : ((t1 : Int) == 3) = true := by simp; omega
  clear h3
  go_wp2
  go_ret2
  exact ⟨rfl, _, RBTo.same hR hap hbel4⟩

set_option maxRecDepth 100000 in
set_option maxHeartbeats 1000000 in
theorem rh_full1 (s : ByteArray) (hs : s.size ≤ 140737488351232) (w : World) (B : Nat) (evs : List Ev) (v : Value) (f t i l p g a : Nat) (m : List UInt8) (hxok : (⟨1, f, t, i, l, p, g, a, m⟩ : Msg).ok) (t1 nk nf nt ni nl np ng na : Nat) (nm : List UInt8) (t3 : Bool)
    (he0 : decErr s.data.toList = 0) (hx : decMsg s.data.toList = ⟨1, f, t, i, l, p, g, a, m⟩) (hT : legOf i l evs = (t1, ⟨nk, nf, nt, ni, nl, np, ng, na, nm⟩, t3))
    (hR : RB w B t evs v) (hap : v.ownBlock ≠ some B) (hok : ∀ e, e ∈ evs → e.ok) (hlen : evs.length ≤ 900000) (h0 : t1 = 0) (ha3 : t3 = false) (hfull : 128 ≤ (keysOf evs).length) :
    Calls Tryz.prog 31 #[.pointer (some ⟨B, 0, none⟩), .string s] w fun e w' => e = .returned (.tuple #[.slice none 0 0, .int .i64 10]) ∧ ∃ v', RBTo w w' B t evs v v' := by
  have hD := hide (refDecode_any s hs)
  rw [he0, hx] at hD
  have hL := hide (fun u (hu : RB u B t evs v) => leg_any i l hxok.2.2.2.1 hxok.2.2.2.2.1 u B t evs v hu hok (by omega))
  rw [hT] at hL
  have hK := hide (fun u (hu : RB u B t evs v) => kept_any u B t evs v hu hok (by omega))
  have hkl : (keysOf evs).length ≤ evs.length := keysTo_length _ _
  generalize hnn : (keysOf evs).length = n at *
  replace hnn := hide hnn
  obtain ⟨ad, cap, hv, hev⟩ := hR.form
  clear hev he0 hx
  replace hT := hide hT
  subst hv
  have hxok' := hide hxok
  obtain ⟨hk, hf, ht, hi, hl, hp, hg, ha⟩ := hxok
  simp only [Msg.v, Msg.cells] at hk hf ht hi hl hp hg ha hD hL
  have hBl := hR.lt
  have hcs : ((t : Int) != (t : Int)) = false := by simp
  go_enter Tryz.func31, Tryz.ntmps31
  go_wp2_with fail
  refine (hD.out _).mono ?_
  rintro e w1 ⟨rfl, hb⟩
  have hR1 := hR.below hb
  have hc : ∀ o, _ = _ := fun o => cell_at hR1.blk o
  have hBl1 := hR1.lt
  clear hD
  go_wp2_with fail
  go_quiet (fail)
  have B1 := (Box.mk0 w1 #[Value.int .u8 1, .int .u8 (f : Int), .int .u8 (t : Int), .int .u32 (i : Int), .int .u8 (l : Int), .int .u16 (p : Int), .int .u16 (g : Int), .int .u32 (a : Int), .string (bs m)] 40).drewN nq
  generalize World.drewN _ _ = w2 at *
  have hcm := B1.cell
  have hlt1 := B1.lt
  have hR2 := hR1.below B1.bel
  have hBl2 := hR2.lt
  clear hc
  go_wp2_with fail
  refine (hL.out _ hR2).mono ?_
  rintro e w3 ⟨rfl, hb3⟩
  have hR3 := hR2.below hb3
  have B3 := B1.below hb3
  clear hcm hlt1 B1 hL
  go_wp2_with fail
  refine (hK.out _ (hR3.below ((Below.refl _ _).alloc (Nat.le_refl _) _))).mono ?_
  rintro e w4 ⟨rfl, hb4⟩
  have B4 := (B3.alloc _).below hb4
  have hcm := B4.cell
  have hltm := B4.lt
  have hco := fun o => cel_kept hb4 o
  have hlto := lt_kept hb4
  have hR4 := (hR3.below ((Below.refl _ _).alloc (Nat.le_refl _) _)).below hb4
  have hbel4 := hb.trans (B4.bel.mono hb.size)
  clear hb3 hb4 hK B3
  subst ha3
  have d0 : ((t1 : Int) == 0) = true := by simp; omega
  have d3 : ((t1 : Int) == 3) = false := by simp; omega
  have dn : decide ((n : Int) ≥ 128) = true := by simp; omega
  have dn' : decide ((128 : Int) ≤ (n : Int)) = true := by simp; omega
  clear h0
  go_wp2
  go_ret2
  exact ⟨rfl, _, RBTo.same hR hap hbel4⟩

set_option maxRecDepth 100000 in
set_option maxHeartbeats 1000000 in
theorem rh_full3 (s : ByteArray) (hs : s.size ≤ 140737488351232) (w : World) (B : Nat) (evs : List Ev) (v : Value) (f t i l p g a : Nat) (m : List UInt8) (hxok : (⟨3, f, t, i, l, p, g, a, m⟩ : Msg).ok) (t1 nk nf nt ni nl np ng na : Nat) (nm : List UInt8) (t3 : Bool)
    (he0 : decErr s.data.toList = 0) (hx : decMsg s.data.toList = ⟨3, f, t, i, l, p, g, a, m⟩) (hT : legOf i l evs = (t1, ⟨nk, nf, nt, ni, nl, np, ng, na, nm⟩, t3))
    (hR : RB w B t evs v) (hap : v.ownBlock ≠ some B) (hok : ∀ e, e ∈ evs → e.ok) (hlen : evs.length ≤ 900000) (h0 : t1 = 0) (ha3 : t3 = false) (hfull : 128 ≤ (keysOf evs).length) :
    Calls Tryz.prog 31 #[.pointer (some ⟨B, 0, none⟩), .string s] w fun e w' => e = .returned (.tuple #[.slice none 0 0, .int .i64 10]) ∧ ∃ v', RBTo w w' B t evs v v' := by
  have hD := hide (refDecode_any s hs)
  rw [he0, hx] at hD
  have hL := hide (fun u (hu : RB u B t evs v) => leg_any i l hxok.2.2.2.1 hxok.2.2.2.2.1 u B t evs v hu hok (by omega))
  rw [hT] at hL
  have hK := hide (fun u (hu : RB u B t evs v) => kept_any u B t evs v hu hok (by omega))
  have hkl : (keysOf evs).length ≤ evs.length := keysTo_length _ _
  generalize hnn : (keysOf evs).length = n at *
  replace hnn := hide hnn
  obtain ⟨ad, cap, hv, hev⟩ := hR.form
  clear hev he0 hx
  replace hT := hide hT
  subst hv
  have hxok' := hide hxok
  obtain ⟨hk, hf, ht, hi, hl, hp, hg, ha⟩ := hxok
  simp only [Msg.v, Msg.cells] at hk hf ht hi hl hp hg ha hD hL
  have hBl := hR.lt
  have hcs : ((t : Int) != (t : Int)) = false := by simp
  go_enter Tryz.func31, Tryz.ntmps31
  go_wp2_with fail
  refine (hD.out _).mono ?_
  rintro e w1 ⟨rfl, hb⟩
  have hR1 := hR.below hb
  have hc : ∀ o, _ = _ := fun o => cell_at hR1.blk o
  have hBl1 := hR1.lt
  clear hD
  go_wp2_with fail
  go_quiet (fail)
  have B1 := (Box.mk0 w1 #[Value.int .u8 3, .int .u8 (f : Int), .int .u8 (t : Int), .int .u32 (i : Int), .int .u8 (l : Int), .int .u16 (p : Int), .int .u16 (g : Int), .int .u32 (a : Int), .string (bs m)] 40).drewN nq
  generalize World.drewN _ _ = w2 at *
  have hcm := B1.cell
  have hlt1 := B1.lt
  have hR2 := hR1.below B1.bel
  have hBl2 := hR2.lt
  clear hc
  go_wp2_with fail
  refine (hL.out _ hR2).mono ?_
  rintro e w3 ⟨rfl, hb3⟩
  have hR3 := hR2.below hb3
  have B3 := B1.below hb3
  clear hcm hlt1 B1 hL
  go_wp2_with fail
  refine (hK.out _ (hR3.below ((Below.refl _ _).alloc (Nat.le_refl _) _))).mono ?_
  rintro e w4 ⟨rfl, hb4⟩
  have B4 := (B3.alloc _).below hb4
  have hcm := B4.cell
  have hltm := B4.lt
  have hco := fun o => cel_kept hb4 o
  have hlto := lt_kept hb4
  have hR4 := (hR3.below ((Below.refl _ _).alloc (Nat.le_refl _) _)).below hb4
  have hbel4 := hb.trans (B4.bel.mono hb.size)
  clear hb3 hb4 hK B3
  subst ha3
  have d0 : ((t1 : Int) == 0) = true := by simp; omega
  have d3 : ((t1 : Int) == 3) = false := by simp; omega
  have dn : decide ((n : Int) ≥ 128) = true := by simp; omega
  have dn' : decide ((128 : Int) ≤ (n : Int)) = true := by simp; omega
  clear h0
  go_wp2
  go_ret2
  exact ⟨rfl, _, RBTo.same hR hap hbel4⟩

end Go.Proofs.YtjkhbjgfoopomaaGreat
