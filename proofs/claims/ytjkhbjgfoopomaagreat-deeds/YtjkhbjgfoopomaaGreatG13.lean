import Derived.Test.YtjkhbjgfoopomaaGreatLawInv
import Derived.Test.YtjkhbjgfoopomaaGreatG4
import Derived.Test.YtjkhbjgfoopomaaGreatG3
import Derived.Test.YtjkhbjgfoopomaaGreatG1
import Derived.BigQuiet
/-
  What the statement Banks keeps in memory: a list more in the book, a house more.
-/
namespace Go.Proofs.YtjkhbjgfoopomaaGreat
open Go.RowKit
set_option linter.unusedVariables false
set_option linter.unusedSimpArgs false
section
variable {w0 : Base} {w w' : World} {Wb : Nat} {own own' : Nat → Nat} {hs : List House} {ll : List (Value × Nat)} {vb vl : Value} {S : Nat → Prop}
theorem MemInv.keeps (I : MemInv w0 w Wb own hs ll vb vl) (lv : Value) (xs : List (List UInt8)) (hx : xs.length ≤ 1000) (hlv : RowOf w 9 1 txtCell lv xs) (hlo : ∀ g, lv.ownBlock = some g → own g = 4) (hn : ∀ i (hi : i < ll.length), ∀ g, ll[i].1.ownBlock = some g → lv.ownBlock ≠ some g)
    (hB : Booked w w' Wb w0.lg vb w0.vd vl ll lv xs.length) : ∃ own' ll' vl', MemInv w0 w' Wb own' hs ll' vb vl' ∧ ll'.length = ll.length + 4 := by
  obtain ⟨vl', vf, vg, vh, B⟩ := hB
  have hcl : ∀ k, (k = Wb ∨ vl.ownBlock = some k ∨ lv.ownBlock = some k) → own k = 1 ∨ own k = 3 ∨ own k = 4 := by
    rintro k (rfl | h | h)
    · exact .inl I.wown
    · exact .inr (.inl (I.lown k h))
    · exact .inr (.inr (hlo k h))
  have hA : ∀ k, k < w.heap.size → (fun k => if k < w.heap.size then own k else if vl'.ownBlock = some k then 3 else 4) k = own k := fun k hk => by simp [hk]
  have hll : ll ++ [(lv, xs.length)] ++ [(vf, xs.length + 1)] ++ [(vg, xs.length + 2)] ++ [(vh, xs.length + 3)] = ll ++ [(lv, xs.length), (vf, xs.length + 1), (vg, xs.length + 2), (vh, xs.length + 3)] := by simp
  rw [hll] at B
  refine ⟨fun k => if k < w.heap.size then own k else if vl'.ownBlock = some k then 3 else 4, ll ++ [(lv, xs.length), (vf, xs.length + 1), (vg, xs.length + 2), (vh, xs.length + 3)], vl', ?_, by simp⟩
  have hin : ∀ i (hi : i < (ll ++ [(lv, xs.length), (vf, xs.length + 1), (vg, xs.length + 2), (vh, xs.length + 3)]).length), (∃ hi' : i < ll.length, (ll ++ [(lv, xs.length), (vf, xs.length + 1), (vg, xs.length + 2), (vh, xs.length + 3)])[i] = ll[i]) ∨ ((ll ++ [(lv, xs.length), (vf, xs.length + 1), (vg, xs.length + 2), (vh, xs.length + 3)])[i] ∈ [(lv, xs.length), (vf, xs.length + 1), (vg, xs.length + 2), (vh, xs.length + 3)] ∧ i / 4 = ll.length / 4) := by
    intro i hi
    by_cases h : i < ll.length
    · exact .inl ⟨h, List.getElem_append_left h⟩
    · right
      have h4 := I.four
      refine ⟨?_, by simp at hi; omega⟩
      rw [List.getElem_append_right (by omega)]
      exact List.getElem_mem _
  refine ⟨?_, ?_, B.blk, (hA _ (block_lt I.wblk)).trans I.wown, ?_, part_own I.brow I.bown hA, B.lst, ?_, ?_, ?_, by have := I.four; simp; omega, ?_, w0.loc _ _ _ _ _ I.oth B.kept (fun k _ hk h => by have := hcl k hk; unfold offCls at h; omega) hA⟩
  · exact I.bel.kept B.kept (fun k hF hk => I.old k (by have := hcl k hk; omega) hF)
  · intro k hk
    rcases I.far k with h | h
    · exact I.old k (by rw [← hA k h]; exact hk)
    · exact h
  · exact part_row I.brow I.bown B.kept (fun k _ hk => by have := hcl k hk; omega)
  · intro g hg
    rcases B.lown g hg with h | h
    · exact (hA g (I.lrow.lt h)).trans (I.lown g h)
    · show (if g < w.heap.size then own g else if vl'.ownBlock = some g then 3 else 4) = 3
      rw [if_neg (by omega), if_pos hg]
  · intro i hi
    rcases hin i hi with ⟨hi', e⟩ | ⟨hm, e⟩
    · rw [e]
      refine ⟨(I.full i hi').1, (I.full i hi').2.kept B.kept ?_⟩
      intro g hg hk
      have h4 := I.fown i hi' g hg
      rcases hk with rfl | h | h
      · rw [I.wown] at h4; omega
      · rw [I.lown g h] at h4; omega
      · exact hn i hi' g hg h
    · refine ⟨?_, by rw [e]; exact B.full _ hm⟩
      simp only [List.mem_cons, List.not_mem_nil, or_false] at hm
      rcases hm with h | h | h | h <;> rw [h] <;> simp <;> omega
  · intro i hi g hg
    rcases hin i hi with ⟨hi', e⟩ | ⟨hm, e⟩
    · rw [e] at hg
      exact (hA g ((I.full i hi').2.lt hg)).trans (I.fown i hi' g hg)
    · rcases B.rown _ hm g hg with h | h
      · exact (hA g (hlv.lt h)).trans (hlo g h)
      · show (if g < w.heap.size then own g else if vl'.ownBlock = some g then 3 else 4) = 4
        rw [if_neg (by omega), if_neg (B.apart _ hm g hg).1]
  · intro i hi
    exact (I.house i hi).kept B.kept (fun k hk' hk => by have := hcl k hk; omega) hA
/-- a house more -/
theorem MemInv.more (I : MemInv w0 w Wb own hs ll vb vl) (h : House) (vb' : Value) (hk : Kept (fun k => k = Wb ∨ vb.ownBlock = some k) w w')
    (hblk : w'.heap[Wb]? = some (.cells #[.bool w0.lg, vb', w0.vd, vl] 30 (0, 0))) (hrow : RowOf w' 50 1 ptrCell vb' (hs ++ [h])) (hb : ∀ g, vb'.ownBlock = some g → vb.ownBlock = some g ∨ w.heap.size ≤ g)
    (hn1 : w.heap.size ≤ h.hb) (hn2 : w.heap.size ≤ h.xb) (hn3 : w.heap.size ≤ h.rb) (hd1 : h.hb ≠ h.xb) (hd2 : h.hb ≠ h.rb) (hd3 : h.xb ≠ h.rb) (hd4 : vb'.ownBlock ≠ some h.hb ∧ vb'.ownBlock ≠ some h.xb ∧ vb'.ownBlock ≠ some h.rb)
    (hhb : w'.heap[h.hb]? = some (.cells #[.pointer (some ⟨h.xb, 0, none⟩), .pointer (some ⟨h.rb, 0, none⟩), .slice none 0 0] 80 (0, 0))) (hX : XB w' h.xb h.node [] [] (.slice none 0 0) (.slice none 0 0)) (hR : RB w' h.rb h.node [] (.slice none 0 0))
    (he : h.evs = [] ∧ h.ac = [] ∧ h.ls = [] ∧ h.va = .slice none 0 0 ∧ h.vl = .slice none 0 0 ∧ h.v = .slice none 0 0 ∧ h.lg = [] ∧ h.vg = .slice none 0 0) : ∃ own', MemInv w0 w' Wb own' (hs ++ [h]) ll vb' vl := by
  have hcl : ∀ k, (k = Wb ∨ vb.ownBlock = some k) → own k = 1 ∨ own k = 2 := by
    rintro k (rfl | h)
    · exact .inl I.wown
    · exact .inr (I.bown k h)
  have hA : ∀ k, k < w.heap.size → (fun k => if k < w.heap.size then own k else if k = h.hb then 6 + 8 * hs.length else if k = h.xb then 7 + 8 * hs.length else if k = h.rb then 8 + 8 * hs.length else 2) k = own k := fun k hk => by simp [hk]
  refine ⟨fun k => if k < w.heap.size then own k else if k = h.hb then 6 + 8 * hs.length else if k = h.xb then 7 + 8 * hs.length else if k = h.rb then 8 + 8 * hs.length else 2, ?_⟩
  refine ⟨?_, ?_, hblk, (hA _ (block_lt I.wblk)).trans I.wown, hrow, ?_, ?_, part_own I.lrow I.lown hA, ?_, ?_, I.four, ?_, w0.loc _ _ _ _ _ I.oth hk (fun k _ hk h => by have := hcl k hk; unfold offCls at h; omega) hA⟩
  · exact I.bel.kept hk (fun k hF hk => I.old k (by have := hcl k hk; omega) hF)
  · intro k hk'
    rcases I.far k with h | h
    · exact I.old k (by rw [← hA k h]; exact hk')
    · exact h
  · intro g hg
    rcases hb g hg with h' | h'
    · exact (hA g (I.brow.lt h')).trans (I.bown g h')
    · show (if g < w.heap.size then own g else if g = h.hb then 6 + 8 * hs.length else if g = h.xb then 7 + 8 * hs.length else if g = h.rb then 8 + 8 * hs.length else 2) = 2
      rw [if_neg (by omega), if_neg (fun e => hd4.1 (by rw [← e]; exact hg)), if_neg (fun e => hd4.2.1 (by rw [← e]; exact hg)), if_neg (fun e => hd4.2.2 (by rw [← e]; exact hg))]
  · exact part_row I.lrow I.lown hk (fun k _ hk => by have := hcl k hk; omega)
  · intro i hi
    exact ⟨(I.full i hi).1, part_row (I.full i hi).2 (I.fown i hi) hk (fun k _ hk => by have := hcl k hk; omega)⟩
  · intro i hi
    exact part_own (I.full i hi).2 (I.fown i hi) hA
  · intro i hi
    by_cases e : i < hs.length
    · rw [List.getElem_append_left e]
      exact (I.house i e).kept hk (fun k _ hk => by have := hcl k hk; omega) hA
    · obtain rfl : i = hs.length := by simp at hi; omega
      rw [List.getElem_append_right (Nat.le_refl _)]
      simp only [Nat.sub_self, List.getElem_cons_zero]
      obtain ⟨e1, e2, e3, e4, e5, e6, e7, e8⟩ := he
      refine ⟨by rw [e8]; exact hhb, ?_, by rw [e2, e3, e4, e5]; exact hX, ?_, ?_, by rw [e1, e6]; exact hR, by rw [e6]; simp [Value.ownBlock], ?_, by rw [e7, e8]; exact RowOf.nil _ _, by rw [e8]; intro g hg; simp [Value.ownBlock] at hg⟩
      · show (if h.hb < w.heap.size then own h.hb else if h.hb = h.hb then 6 + 8 * hs.length else if h.hb = h.xb then 7 + 8 * hs.length else if h.hb = h.rb then 8 + 8 * hs.length else 2) = _
        rw [if_neg (by omega), if_pos rfl]
      · rw [e4, e5]
        exact ⟨by simp [Value.ownBlock], by simp [Value.ownBlock], fun g hg => by simp [Value.ownBlock] at hg⟩
      · rw [e4, e5]
        rintro k (rfl | hk | hk)
        · show (if h.xb < w.heap.size then own h.xb else if h.xb = h.hb then 6 + 8 * hs.length else if h.xb = h.xb then 7 + 8 * hs.length else if h.xb = h.rb then 8 + 8 * hs.length else 2) = _
          rw [if_neg (by omega), if_neg (fun e => hd1 e.symm), if_pos rfl]
          omega
        · simp [Value.ownBlock] at hk
        · simp [Value.ownBlock] at hk
      · rw [e6]
        rintro k (rfl | hk)
        · show (if h.rb < w.heap.size then own h.rb else if h.rb = h.hb then 6 + 8 * hs.length else if h.rb = h.xb then 7 + 8 * hs.length else if h.rb = h.rb then 8 + 8 * hs.length else 2) = _
          rw [if_neg (by omega), if_neg (fun e => hd2 e.symm), if_neg (fun e => hd3 e.symm), if_pos rfl]
          omega
        · simp [Value.ownBlock] at hk
end
end Go.Proofs.YtjkhbjgfoopomaaGreat
/-
  Plain: what has changed a notary, and what the document reckons of it.
-/
namespace Go.Proofs.YtjkhbjgfoopomaaGreat
set_option linter.unusedVariables false

/-- a leg of a payment -/
structure Pl where
  b : Nat
  p : Nat
  g : Nat
  a : Nat
def Pl.ok (x : Pl) : Prop := x.b < 256 ∧ x.p < 65536 ∧ x.g < 65536 ∧ x.a < 4294967296
def Pl.cells (x : Pl) : List Value := [.int .u8 (x.b : Int), .int .u16 (x.p : Int), .int .u16 (x.g : Int), .int .u32 (x.a : Int)]
theorem Pl.cells_length (x : Pl) : x.cells.length = 4 := rfl
/-- a payment; la, lc: where its legs lie, and how many places there are -/
structure Pm where
  id : Nat
  dl : Nat
  memo : List UInt8
  legs : List Pl
  la : Option Addr
  lc : Nat
/-- the slice of its legs -/
def Pm.lv (x : Pm) : Value := .slice x.la x.legs.length x.lc
def Pm.ok (x : Pm) : Prop := x.id < 4294967296 ∧ x.dl < 18446744073709551616 ∧ ∀ l, l ∈ x.legs → l.ok
def Pm.v (x : Pm) : Value := .agg #[.int .u32 (x.id : Int), .int .u64 (x.dl : Int), .string (bs x.memo), x.lv]
def noPm : Pm := ⟨0, 0, [], [], none, 0⟩
/-- what has changed a notary -/
structure Dt where
  kind : Int
  pay : Pm
  msg : Msg
def Dt.ok (x : Dt) : Prop := -1 ≤ x.kind ∧ x.kind ≤ 6 ∧ x.pay.ok ∧ x.msg.ok
def Dt.cells (x : Dt) : List Value := [.int .i64 x.kind, .int .u32 (x.pay.id : Int), .int .u64 (x.pay.dl : Int), .string (bs x.pay.memo), x.pay.lv, .int .u8 (x.msg.k : Int), .int .u8 (x.msg.f : Int), .int .u8 (x.msg.t : Int), .int .u32 (x.msg.i : Int), .int .u8 (x.msg.l : Int), .int .u16 (x.msg.p : Int), .int .u16 (x.msg.g : Int), .int .u32 (x.msg.a : Int), .string (bs x.msg.m)]
theorem Dt.cells_length (x : Dt) : x.cells.length = 14 := rfl

/-- P11: the clock -/
def clockStep (n : Nat) (x : Dt) : Nat := if x.kind = 0 then n + 1 else n
def clockOf (acts : List Dt) : Nat := acts.foldl clockStep 0
theorem clockOf_snoc (acts : List Dt) (x : Dt) : clockOf (acts ++ [x]) = clockStep (clockOf acts) x := by simp [clockOf, List.foldl_append]
theorem clockFold_le (acts : List Dt) : ∀ n, acts.foldl clockStep n ≤ n + acts.length := by
  induction acts with
  | nil => intro n; simp
  | cons x r ih =>
    intro n
    have h := ih (clockStep n x)
    have h2 : clockStep n x ≤ n + 1 := by unfold clockStep; split <;> omega
    simp only [List.foldl_cons, List.length_cons]
    omega
theorem clockOf_le (acts : List Dt) : clockOf acts ≤ acts.length := by
  have := clockFold_le acts 0
  unfold clockOf
  omega
/-- the payment of a number; is it kept; how many are -/
def findStep (id : Nat) (s : Pm × Bool × Nat) (x : Dt) : Pm × Bool × Nat := if x.kind = -1 then (if x.pay.id = id then (x.pay, true, s.2.2 + 1) else (s.1, s.2.1, s.2.2 + 1)) else s
def findOf (id : Nat) (acts : List Dt) : Pm × Bool × Nat := acts.foldl (findStep id) (noPm, false, 0)
theorem findOf_snoc (id : Nat) (acts : List Dt) (x : Dt) : findOf id (acts ++ [x]) = findStep id (findOf id acts) x := by simp [findOf, List.foldl_append]
theorem findFold_le (id : Nat) (acts : List Dt) : ∀ s, (acts.foldl (findStep id) s).2.2 ≤ s.2.2 + acts.length := by
  induction acts with
  | nil => intro n; simp
  | cons x r ih =>
    intro s
    have h := ih (findStep id s x)
    have h2 : (findStep id s x).2.2 ≤ s.2.2 + 1 := by unfold findStep; (repeat' split) <;> simp
    simp only [List.foldl_cons, List.length_cons]
    omega
theorem findOf_le (id : Nat) (acts : List Dt) : (findOf id acts).2.2 ≤ acts.length := by
  have := findFold_le id acts (noPm, false, 0)
  unfold findOf
  simpa using this
def fullOf (n : Nat) : Nat := 2 ^ n - 1
def withOf (bits leg : Nat) : Nat := if bits / 2 ^ leg % 2 = 1 then bits else bits + 2 ^ leg
def askKind (st : Nat) : Nat := if st = 1 then 1 else if st = 2 then 2 else 3
end Go.Proofs.YtjkhbjgfoopomaaGreat
/-
  The document's notary in memory; Clock, full, with, kind.
-/
namespace Go.Proofs.YtjkhbjgfoopomaaGreat
open Go.RowKit
set_option linter.unusedVariables false
set_option linter.unusedSimpArgs false
/-- a notary of the document's lies at B -/
structure RD (w : World) (B : Nat) (acts : List Dt) (v : Value) : Prop where
  blk : w.heap[B]? = some (.cells #[v] 65 (0, 0))
  row : RowOf w 162 14 Dt.cells v acts
  legs : ∀ x, x ∈ acts → RowOf w 54 4 Pl.cells x.pay.lv x.pay.legs
theorem RD.lt {w : World} {B : Nat} {acts : List Dt} {v : Value} (h : RD w B acts v) : B < w.heap.size := block_lt h.blk
theorem RD.below {w u : World} {B : Nat} {acts : List Dt} {v : Value} (h : RD w B acts v) (hb : Below w.heap.size w u) : RD u B acts v :=
  ⟨by rw [hb.block B h.lt]; exact h.blk, h.row.below hb, fun x hx => (h.legs x hx).below hb⟩
/-- legs that lie there to be read -/
def LegsAt (w : World) (la : Option Addr) (legs : List Pl) : Prop := ∀ k (hk : k < legs.length), ∃ a, la = some a ∧ a.block < w.heap.size ∧ ∀ j v, legs[k].cells[j]? = some v → w.cell? ((a.add (k * 4)).add j) = some v
theorem addr_block (a : Addr) (n : Nat) : (a.add n).block = a.block := by unfold Addr.add; split <;> rfl
theorem addr_add (a : Addr) (i j : Nat) : (a.add i).add j = a.add (i + j) := by
  unfold Addr.add
  by_cases hi : i = 0
  · subst hi; simp
  · by_cases hj : j = 0
    · subst hj; simp [hi]
    · simp [hi, hj, Nat.add_assoc]
theorem LegsAt.below {w u : World} {la : Option Addr} {legs : List Pl} (h : LegsAt w la legs) (hb : Below w.heap.size w u) : LegsAt u la legs := by
  intro k hk
  obtain ⟨a, e, hl, hc⟩ := h k hk
  refine ⟨a, e, Nat.lt_of_lt_of_le hl hb.size, fun j v hj => ?_⟩
  exact (World.cell?_of_block (w := w) (by rw [addr_block, addr_block]; exact hb.block _ hl)).trans (hc j v hj)
theorem RowOf.legsAt {w : World} {la : Option Addr} {lc : Nat} {legs : List Pl} (h : RowOf w 54 4 Pl.cells (.slice la legs.length lc) legs) : LegsAt w la legs := by
  intro k hk
  obtain ⟨ad, cap, hv, hev⟩ := h.form Pl.cells_length
  obtain ⟨g, hg, hcell, _⟩ := hev k hk
  have ead : la = ad := by injection hv
  subst ead
  subst hg
  refine ⟨_, rfl, h.lt rfl, fun j v hj => ?_⟩
  have hjl : j < 4 := by
    have := (List.getElem?_eq_some_iff.1 hj).1
    rwa [Pl.cells_length] at this
  rw [addr_add]
  have e : (⟨g, 0, none⟩ : Addr).add (k * 4 + j) = ⟨g, k * 4 + j, none⟩ := by unfold Addr.add; split <;> simp_all
  rw [e, hcell j hjl]
  exact hj
theorem take_snoc_dt {α : Type} (l : List α) (k : Nat) (h : k < l.length) : l.take (k + 1) = l.take k ++ [l[k]] := by rw [List.take_succ_eq_append_getElem h]

set_option maxRecDepth 100000 in
set_option maxHeartbeats 1000000 in
theorem clock_any (w : World) (B : Nat) (acts : List Dt) (v : Value) (hR : RD w B acts v) (hok : ∀ x, x ∈ acts → x.ok) (hlen : acts.length ≤ 1000000000000) :
    Calls Tryz.prog 47 #[.pointer (some ⟨B, 0, none⟩)] w fun e w' => e = .returned (.int .u64 (clockOf acts : Int)) ∧ w' = w := by
  obtain ⟨ad, cap, hv, hev⟩ := hR.row.form Dt.cells_length
  subst hv
  have hc : ∀ o, _ = _ := fun o => cell_at hR.blk o
  go_enter Tryz.func47, Tryz.ntmps47
  go_wp2
  go_loopw [3, 4] (fun x c u => ∃ k : Nat, k ≤ acts.length ∧ c = .int .i64 k ∧ x = .int .u64 (clockOf (acts.take k) : Int) ∧ u = w) (fun _ c _ => acts.length - (intOf c).toNat)
  case atStart => exact ⟨0, Nat.zero_le _, rfl, rfl, rfl⟩
  case round =>
    obtain ⟨k, hk, rfl, rfl, rfl⟩ := hrel
    have hcl : clockOf (acts.take k) ≤ k := Nat.le_trans (clockOf_le _) (List.length_take_le _ _)
    by_cases hlt : k < acts.length
    · obtain ⟨g, hg, hcell, _⟩ := hev k hlt
      subst hg
      have hs : Hid (clockOf (acts.take (k + 1)) = clockStep (clockOf (acts.take k)) acts[k]) := hide (by rw [take_snoc_dt acts k hlt, clockOf_snoc])
      have c0 := hcell 0 (by decide)
      have hek := hok acts[k] (List.getElem_mem hlt)
      clear hcell hev
      generalize clockOf (acts.take k) = S at *
      generalize acts[k] = E at *
      obtain ⟨kind, pay, msg⟩ := E
      simp only [Dt.cells, List.getElem?_cons_zero, Nat.add_zero] at c0
      by_cases hz : kind = 0
      · have dz : (kind == 0) = true := by simp [hz]
        have hq : Hid (clockOf (acts.take (k + 1)) = S + 1) := hide (by rw [hs.out]; simp [clockStep, hz])
        clear hs
        subst hz
        go_wp2
        exact ⟨⟨k + 1, hlt, by go_num, by rw [hq.out]; go_num, trivial⟩, by simp [intOf]; omega⟩
      · have dz : (kind == 0) = false := by simp [hz]
        have hq : Hid (clockOf (acts.take (k + 1)) = S) := hide (by rw [hs.out]; simp [clockStep, hz])
        clear hs hz
        go_wp2
        exact ⟨⟨k + 1, hlt, by go_num, by rw [hq.out], trivial⟩, by simp [intOf]; omega⟩
    · obtain rfl : k = acts.length := by omega
      rw [List.take_length] at hcl ⊢
      clear hev
      go_wp2
      go_ret
      exact ⟨rfl, rfl⟩

set_option maxHeartbeats 400000 in
theorem kind_any (st : Nat) (hst : st < 1000) (w : World) : Calls Tryz.prog 74 #[.int .i64 (st : Int)] w fun e w' => e = .returned (.int .i64 (askKind st : Int)) ∧ w' = w := by
  have hz : Hid (askKind st = if st = 1 then 1 else if st = 2 then 2 else 3) := hide rfl
  by_cases h1 : st = 1
  · subst h1
    have hq : Hid (askKind 1 = 1) := hide rfl
    clear hz
    go_enter Tryz.func74, Tryz.ntmps74
    go_wp2
    go_ret
    exact ⟨by rw [hq.out]; rfl, rfl⟩
  · by_cases h2 : st = 2
    · subst h2
      have hq : Hid (askKind 2 = 2) := hide rfl
      clear hz
      go_enter Tryz.func74, Tryz.ntmps74
      go_wp2
      go_ret
      exact ⟨by rw [hq.out]; rfl, rfl⟩
    · have d1 : ((st : Int) == 1) = false := by simp; omega
      have d2 : ((st : Int) == 2) = false := by simp; omega
      have hq : Hid (askKind st = 3) := hide (by rw [hz.out, if_neg h1, if_neg h2])
      clear hz h1 h2
      go_enter Tryz.func74, Tryz.ntmps74
      go_wp2
      go_ret
      exact ⟨by rw [hq.out]; rfl, rfl⟩
end Go.Proofs.YtjkhbjgfoopomaaGreat
