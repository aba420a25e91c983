import Derived.Test.YtjkhbjgfoopomaaA3
import Derived.Test.YtjkhbjgfoopomaaA1
import Derived.Test.YtjkhbjgfoopomaaA2
import Derived.Deep.RegionHeld3
/-
  The document's ask.
-/
namespace Go.Proofs.Ytjkhbjgfoopomaa
open Go.RowKit
set_option linter.unusedVariables false
set_option linter.unusedSimpArgs false
/-- P9 to P11: what is asked of a leg's bank -/
def askMsg (p : Pm) (x : Pl) (leg kind : Nat) : Msg := if kind = 1 then ⟨1, 0, x.b, p.id, leg, x.p, x.g, x.a, p.memo⟩ else ⟨kind, 0, x.b, p.id, leg, 0, 0, 0, []⟩
def askOf (p : Pm) (x : Pl) (leg kind : Nat) : List UInt8 := encOf (askMsg p x leg kind)
theorem askMsg_ok {p : Pm} {x : Pl} {leg kind : Nat} (hp : p.ok) (hx : x.ok) (hl : leg < 256) (hk : kind < 256) : (askMsg p x leg kind).ok := by
  unfold askMsg
  split
  · exact ⟨by show (1 : Nat) < 256; omega, by show (0 : Nat) < 256; omega, hx.1, hp.1, hl, hx.2.1, hx.2.2.1, hx.2.2.2⟩
  · exact ⟨hk, by show (0 : Nat) < 256; omega, hx.1, hp.1, hl, by show (0 : Nat) < 65536; omega, by show (0 : Nat) < 65536; omega, by show (0 : Nat) < 4294967296; omega⟩

end Go.Proofs.Ytjkhbjgfoopomaa
/-
  Plain: what has changed a bank, and what the document reckons of it.
-/
namespace Go.Proofs.Ytjkhbjgfoopomaa
set_option linter.unusedVariables false

/-- what has changed a bank -/
structure Ev where
  kind : Nat
  msg : Msg
  held : Bool
def Ev.ok (e : Ev) : Prop := e.kind < 4 ∧ e.msg.ok
def Ev.cells (e : Ev) : List Value := [.int .i64 (e.kind : Int), .int .u8 (e.msg.k : Int), .int .u8 (e.msg.f : Int), .int .u8 (e.msg.t : Int), .int .u32 (e.msg.i : Int), .int .u8 (e.msg.l : Int), .int .u16 (e.msg.p : Int), .int .u16 (e.msg.g : Int), .int .u32 (e.msg.a : Int), .string (bs e.msg.m), .bool e.held]
theorem Ev.cells_length (e : Ev) : e.cells.length = 11 := rfl
/-- with how much an account was opened; was it; how many were -/
def openedStep (a : Nat) (s : Nat × Bool × Nat) (e : Ev) : Nat × Bool × Nat :=
  if e.kind = 0 then (if e.msg.p = a then (e.msg.a, true, s.2.2 + 1) else (s.1, s.2.1, s.2.2 + 1)) else s
def openedOf (a : Nat) (evs : List Ev) : Nat × Bool × Nat := evs.foldl (openedStep a) (0, false, 0)
theorem openedOf_snoc (a : Nat) (evs : List Ev) (e : Ev) : openedOf a (evs ++ [e]) = openedStep a (openedOf a evs) e := by simp [openedOf, List.foldl_append]
/-- the state of a leg, its Prepare, and whether it came by one -/
def legStep (id l : Nat) (s : Nat × Msg × Bool) (e : Ev) : Nat × Msg × Bool :=
  if e.kind = 0 then s else if e.msg.i ≠ id then s else if e.msg.l ≠ l then s
  else if e.kind = 1 then (if e.held then (1, e.msg, true) else (2, e.msg, true))
  else if e.kind = 2 then (3, s.2.1, s.2.2) else (4, s.2.1, s.2.2)
def noMsg : Msg := ⟨0, 0, 0, 0, 0, 0, 0, 0, []⟩
def legOf (id l : Nat) (evs : List Ev) : Nat × Msg × Bool := evs.foldl (legStep id l) (0, noMsg, false)
theorem legOf_snoc (id l : Nat) (evs : List Ev) (e : Ev) : legOf id l (evs ++ [e]) = legStep id l (legOf id l evs) e := by simp [legOf, List.foldl_append]
/-- is this an event of that leg? -/
def ofLeg (id l : Nat) (e : Ev) : Bool := decide (e.kind ≠ 0) && (decide (e.msg.i = id) && decide (e.msg.l = l))
/-- event i is the first one of its leg -/
def firstB (evs : List Ev) (i : Nat) : Bool :=
  match evs[i]? with
  | none => false
  | some e => decide (e.kind ≠ 0) && (evs.take i).all fun x => !ofLeg e.msg.i e.msg.l x
theorem firstB_at {evs : List Ev} {i : Nat} (h : i < evs.length) : firstB evs i = (decide (evs[i].kind ≠ 0) && (evs.take i).all fun x => !ofLeg evs[i].msg.i evs[i].msg.l x) := by
  simp [firstB, h]
/-- the legs, each at its first event -/
def keysTo (evs : List Ev) : Nat → List (Nat × Nat)
  | 0 => []
  | k + 1 => match evs[k]? with
    | none => keysTo evs k
    | some e => if firstB evs k then keysTo evs k ++ [(e.msg.i, e.msg.l)] else keysTo evs k
theorem keysTo_yes {evs : List Ev} {k : Nat} (h : k < evs.length) (hf : firstB evs k = true) : keysTo evs (k + 1) = keysTo evs k ++ [(evs[k].msg.i, evs[k].msg.l)] := by
  simp [keysTo, h, hf]
theorem keysTo_no {evs : List Ev} {k : Nat} (h : k < evs.length) (hf : firstB evs k = false) : keysTo evs (k + 1) = keysTo evs k := by
  simp [keysTo, h, hf]
def keysOf (evs : List Ev) : List (Nat × Nat) := keysTo evs evs.length
def sumBy (ks : List (Nat × Nat)) (g : Nat × Nat → Nat) : Nat := (ks.map g).sum
theorem sumBy_snoc (ks : List (Nat × Nat)) (x : Nat × Nat) (g : Nat × Nat → Nat) : sumBy (ks ++ [x]) g = sumBy ks g + g x := by simp [sumBy]
/-- of a leg: its amount, if it is in this state and its payer | its getter is a -/
def amtPay (st a : Nat) (s : Nat × Msg × Bool) : Nat := if s.2.2 = true ∧ s.1 = st ∧ s.2.1.p = a then s.2.1.a else 0
def amtGet (st a : Nat) (s : Nat × Msg × Bool) : Nat := if s.2.2 = true ∧ s.1 = st ∧ s.2.1.g = a then s.2.1.a else 0
def outOf (a : Nat) (evs : List Ev) (ks : List (Nat × Nat)) : Nat := sumBy ks fun x => amtPay 3 a (legOf x.1 x.2 evs)
def inOf (a : Nat) (evs : List Ev) (ks : List (Nat × Nat)) : Nat := sumBy ks fun x => amtGet 3 a (legOf x.1 x.2 evs)
def staysOf (a : Nat) (evs : List Ev) (ks : List (Nat × Nat)) : Nat := sumBy ks fun x => amtPay 1 a (legOf x.1 x.2 evs)
def comesOf (a : Nat) (evs : List Ev) (ks : List (Nat × Nat)) : Nat := sumBy ks fun x => amtGet 1 a (legOf x.1 x.2 evs)
end Go.Proofs.Ytjkhbjgfoopomaa
/-
  The document's Bank.Leg.
-/
namespace Go.Proofs.Ytjkhbjgfoopomaa
open Go.RowKit
set_option linter.unusedVariables false

/-- two messages of ours: the first blocks behind w -/
structure Two (w : World) (x y : Msg) (u : World) : Prop where
  bel : Below w.heap.size w u
  one : u.heap[w.heap.size]? = some (.cells x.cells 32 (0, 0))
  two : u.heap[w.heap.size + 1]? = some (.cells y.cells 32 (0, 0))
theorem Two.mk0 (w : World) : Two w noMsg noMsg ((w.alloc (.cells noMsg.cells 32)).alloc (.cells noMsg.cells 32)) := by
  refine ⟨((Below.refl _ _).alloc (Nat.le_refl _) _).alloc (by simp) _, ?_, ?_⟩
  · rw [Below.heap_alloc _ _ _ (by simp)]
    exact heap_alloc_self _ _
  · rw [show w.heap.size + 1 = (w.alloc (.cells noMsg.cells 32)).heap.size from by simp]
    exact heap_alloc_self _ _
theorem Two.putOne {w u : World} {x y : Msg} (h : Two w x y u) (z : Msg) : Two w z y (putL u w.heap.size 0 z.cells.toList) :=
  have hk := putL_kept z.cells.toList u w.heap.size 0
  ⟨h.bel.trans (hk.below h.bel.size (fun k e => by omega)), putL_whole _ h.one rfl, by rw [hk.block _ (block_lt h.two) (by omega)]; exact h.two⟩
theorem Two.alloc {w u : World} {x y : Msg} (h : Two w x y u) (o : Obj) : Two w x y (u.alloc o) := by
  have h1 := block_lt h.one
  have h2 := block_lt h.two
  exact ⟨h.bel.alloc h.bel.size _, by rw [Below.heap_alloc _ _ _ h1]; exact h.one, by rw [Below.heap_alloc _ _ _ h2]; exact h.two⟩
end Go.Proofs.Ytjkhbjgfoopomaa
/-
  The document's Bank.told.
-/
namespace Go.Proofs.Ytjkhbjgfoopomaa
open Go.RowKit
set_option linter.unusedVariables false
set_option linter.unusedSimpArgs false

/-- the kind of the answer to a leg's state, and its frame -/
def kindFor (st : Nat) : Nat := if st = 1 then 4 else if st = 2 then 5 else 6
def ansMsg (node id l st : Nat) : Msg := ⟨kindFor st, node, 0, id, l, 0, 0, 0, []⟩
def ansOf (node id l st : Nat) : List UInt8 := encOf (ansMsg node id l st)
theorem kindFor_lt (st : Nat) : kindFor st < 256 := by unfold kindFor; (repeat' split) <;> omega

end Go.Proofs.Ytjkhbjgfoopomaa
/-
  append of one struct to a row of structs, as one step of the walk.
-/
namespace Go.Proofs.Ytjkhbjgfoopomaa
open Go.RowKit
set_option linter.unusedVariables false
theorem wpList_row {P : Program} {ops : Array Oper} {rest : List Oper} {o : Oper} {a : Act} {Q : Exit → Act → World → Prop} {α : Type} {f : α → List Value} {sz : Nat} (hf : ∀ x, (f x).length = sz) (w : World) (hgd : o.guard = none) (s x : Operand) (t : TypeId)
    (ho : o.op = .call { callee := .builtin .append, args := #[s, x], argTypes := #[t, t] }) (e : TypeId) (i : TypeInfo) (z : Value) (bytes : Nat) (ht : P.underlying t = some (.slice e)) (hi : P.info? e = some i) (hz : i.zero = some z)
    (hsize : i.size = sz) (hby : i.bytes = bytes) (hzs : z.cells.size = sz) (hsz : 0 < sz) (v : Value) (xs : List α) (hs : a.eval s = v) (hrow : RowOf w e sz f v xs) (c : Nat) (y : α) (hx : a.eval x = .slice (some ⟨w.heap.size, 0, none⟩) 1 c)
    (h1 : ∀ u ∈ f y, u.oneCell' = true) (h63 : xs.length + 1 ≤ maxLen) (hbytes : (xs.length + 1) * bytes ≤ 140737488355328)
    (h : ∀ g cap w', RowOf w' e sz f (.slice (some ⟨g, 0, none⟩) (xs.length + 1) cap) (xs ++ [y]) → Kept (fun k => v.ownBlock = some k) w w' → (v.ownBlock = some g ∨ w.heap.size ≤ g) → g < w'.heap.size → wpList P ops Q rest (a.put o.dst (.slice (some ⟨g, 0, none⟩) (xs.length + 1) cap)) w') :
    ∀ W, W = w.alloc (.cells (f y).toArray e) → wpList P ops Q (o :: rest) a W := by
  rintro W rfl
  have hrow' : RowOf (w.alloc (.cells (f y).toArray e)) e sz f v xs := hrow.below ((Below.refl _ _).alloc (Nat.le_refl _) _)
  refine wpList_append_lies _ hgd s x t ho 0 e i z sz bytes ht hi hz hsize hby hzs hsz v xs.length (xs.flatMap f) hs hrow' ⟨w.heap.size, 0, none⟩ 1 c (f y) hx (by rw [hf]; omega) ?_ h1 (by decide) h63 hbytes (Nat.zero_le _) _ rfl ?_
  · intro j u hu
    exact World.news_of_block (heap_alloc_self w (.cells (f y).toArray e)) j u hu
  · intro g cap w' hown hgrow hat hlt
    refine h g cap w' (RowOf.to (xs := xs) hf hown (by simp) (by simp)) ?_ ?_ hlt
    · exact (Kept.of_alloc w _).trans (Kept.of_grown hgrow) (fun k hk => .inl hk)
    · rcases hat with h' | h'
      · exact .inl h'
      · right
        rw [h']
        simp
end Go.Proofs.Ytjkhbjgfoopomaa
/-
  The document's Bank.Tick: plain, and the walk.
-/
namespace Go.Proofs.Ytjkhbjgfoopomaa
open Go.RowKit
set_option linter.unusedVariables false
set_option linter.unusedSimpArgs false

def txtCell (l : List UInt8) : List Value := [.string (bs l)]
theorem txtCell_length (l : List UInt8) : (txtCell l).length = 1 := rfl
theorem txt_one (e : List UInt8) : ∀ u ∈ txtCell e, u.oneCell' = true := by
  intro u hu
  simp only [txtCell, List.mem_cons, List.not_mem_nil, or_false] at hu
  subst hu
  rfl
theorem txtInfo : (Try.prog.info? 9).map (fun i => (i.zero, i.size, i.bytes)) = some (some (.string ByteArray.empty), 1, 16) := by kernel_rfl

def rankK (k : Nat × Nat) : Nat := k.1 * 4 + k.2
def keyE (e : Ev) : Nat × Nat := (e.msg.i, e.msg.l)
/-- an event whose leg is held and comes at nx or behind -/
def goodE (evs : List Ev) (nx : Nat) (e : Ev) : Prop := e.kind ≠ 0 ∧ (legOf e.msg.i e.msg.l evs).1 = 1 ∧ nx ≤ rankK (keyE e)
/-- the legs that are held, in their order -/
structure Helds (evs : List Ev) (hs : List (Nat × Nat)) : Prop where
  sort : hs.Pairwise fun a b => rankK a < rankK b
  mem : ∀ k, k ∈ hs ↔ ∃ e, e ∈ evs ∧ e.kind ≠ 0 ∧ keyE e = k ∧ (legOf k.1 k.2 evs).1 = 1
  few : ∀ e, e ∈ evs → e.kind ≠ 0 → e.msg.l < 4
def nextK (hs : List (Nat × Nat)) : Nat → Nat
  | 0 => 0
  | n + 1 => match hs[n]? with
    | none => 0
    | some k => rankK k + 1
theorem Helds.below {evs : List Ev} {hs : List (Nat × Nat)} (h : Helds evs hs) (n : Nat) (hn : n ≤ hs.length) (q : Nat) (hq : q < hs.length) : nextK hs n ≤ rankK hs[q] ↔ n ≤ q := by
  have hp := List.pairwise_iff_getElem.1 h.sort
  cases n with
  | zero => simp [nextK]
  | succ n =>
    have hn' : n < hs.length := hn
    simp only [nextK, List.getElem?_eq_getElem hn']
    constructor
    · intro h1
      rcases Nat.lt_or_ge n q with x | x
      · omega
      · rcases Nat.lt_or_ge q n with y | y
        · have := hp q n hq hn' y
          omega
        · obtain rfl : q = n := by omega
          omega
    · intro h1
      have := hp n q hn' hq h1
      omega
theorem Helds.toEvent {evs : List Ev} {hs : List (Nat × Nat)} (h : Helds evs hs) (n : Nat) (hn : n < hs.length) : ∃ j, ∃ hj : j < evs.length, goodE evs (nextK hs n) evs[j] ∧ keyE evs[j] = hs[n] := by
  obtain ⟨e, he, h0, hk, h1⟩ := (h.mem hs[n]).1 (List.getElem_mem hn)
  obtain ⟨j, hj, rfl⟩ := List.getElem_of_mem he
  refine ⟨j, hj, ⟨h0, ?_, ?_⟩, hk⟩
  · rw [← hk] at h1; exact h1
  · rw [hk]; exact (h.below n (by omega) n hn).2 (Nat.le_refl _)
theorem Helds.done {evs : List Ev} {hs : List (Nat × Nat)} (h : Helds evs hs) (n : Nat) (hn : n ≤ hs.length) (hno : ∀ j (hj : j < evs.length), ¬ goodE evs (nextK hs n) evs[j]) : n = hs.length := by
  rcases Nat.lt_or_ge n hs.length with x | x
  · obtain ⟨j, hj, hg, _⟩ := h.toEvent n x
    exact absurd hg (hno j hj)
  · omega
/-- the least so far -/
def BestTo (evs : List Ev) (nx k : Nat) (best at_ : Int) : Prop :=
  (best = -1 ∧ at_ = -1 ∧ ∀ j (hj : j < evs.length), j < k → ¬ goodE evs nx evs[j]) ∨
  ∃ j, ∃ hj : j < evs.length, j < k ∧ at_ = (j : Int) ∧ best = (rankK (keyE evs[j]) : Int) ∧ goodE evs nx evs[j] ∧ ∀ i (hi : i < evs.length), i < k → goodE evs nx evs[i] → rankK (keyE evs[j]) ≤ rankK (keyE evs[i])
theorem BestTo.stay {evs : List Ev} {nx k : Nat} {b a : Int} (h : BestTo evs nx k b a) (hk : k < evs.length) (hn : ¬ goodE evs nx evs[k] ∨ (0 ≤ b ∧ b ≤ (rankK (keyE evs[k]) : Int))) : BestTo evs nx (k + 1) b a := by
  rcases h with ⟨h1, h2, h3⟩ | ⟨j, hj, h1, h2, h3, h4, h5⟩
  · left
    refine ⟨h1, h2, fun j hj hj2 => ?_⟩
    rcases Nat.lt_or_ge j k with x | x
    · exact h3 j hj x
    · obtain rfl : j = k := by omega
      rcases hn with hn | hn
      · exact hn
      · omega
  · right
    refine ⟨j, hj, by omega, h2, h3, h4, fun i hi hi2 hg => ?_⟩
    rcases Nat.lt_or_ge i k with x | x
    · exact h5 i hi x hg
    · obtain rfl : i = k := by omega
      rcases hn with hn | hn
      · exact absurd hg hn
      · omega
theorem BestTo.take {evs : List Ev} {nx k : Nat} {b a : Int} (h : BestTo evs nx k b a) (hk : k < evs.length) (hg : goodE evs nx evs[k]) (hb : b < 0 ∨ (rankK (keyE evs[k]) : Int) < b) : BestTo evs nx (k + 1) (rankK (keyE evs[k]) : Int) (k : Int) := by
  right
  refine ⟨k, hk, by omega, rfl, rfl, hg, fun i hi hi2 hgi => ?_⟩
  rcases Nat.lt_or_ge i k with x | x
  · rcases h with ⟨h1, h2, h3⟩ | ⟨j, hj, h1, h2, h3, h4, h5⟩
    · exact absurd hgi (h3 i hi x)
    · have := h5 i hi x hgi
      omega
  · obtain rfl : i = k := by omega
    exact Nat.le_refl _
theorem RowOf.slice {α : Type} {f : α → List Value} {sz : Nat} {w : World} {e : TypeId} {v : Value} {xs : List α} (h : RowOf w e sz f v xs) : ∃ ad cap, v = .slice ad xs.length cap := by
  rcases h.2 with ⟨h1, h2⟩ | ⟨g, cap, cur, h1, _⟩
  · exact ⟨none, 0, by rw [h1, h2]⟩
  · exact ⟨_, cap, h1⟩
end Go.Proofs.Ytjkhbjgfoopomaa
/-
  The document's asks.
-/
namespace Go.Proofs.Ytjkhbjgfoopomaa
open Go.RowKit
set_option linter.unusedVariables false
set_option linter.unusedSimpArgs false
/-- P9 to P11: the frames to the first legs, those but whose bit is there -/
def asksTo (p : Pm) (k but : Nat) : Nat → List (List UInt8)
  | 0 => []
  | n + 1 => asksTo p k but n ++ (if withOf but n = but then [] else match p.legs[n]? with
    | none => []
    | some x => [askOf p x n k])
def asksOf (p : Pm) (k but : Nat) : List (List UInt8) := asksTo p k but p.legs.length
theorem asksTo_le (p : Pm) (k but : Nat) : ∀ n, (asksTo p k but n).length ≤ n
  | 0 => Nat.le_refl _
  | n + 1 => by
    have := asksTo_le p k but n
    simp only [asksTo, List.length_append]
    split
    · simp; omega
    · split <;> simp <;> omega

end Go.Proofs.Ytjkhbjgfoopomaa
/-
  The type of a block, whatever it is.
-/
namespace Go.Proofs.Ytjkhbjgfoopomaa
open Go.RowKit
def tyAt (w : World) (B : Nat) : TypeId := match w.heap[B]? with
  | some (.cells _ T _) => T
  | _ => 9
theorem ty_of {w : World} {B : Nat} {cs : Array Value} {T : TypeId} {f : Nat × Nat} (h : w.heap[B]? = some (.cells cs T f)) : w.heap[B]? = some (.cells cs (tyAt w B) f) := by
  have : tyAt w B = T := by unfold tyAt; rw [h]
  rw [this]
  exact h
end Go.Proofs.Ytjkhbjgfoopomaa
/-
  The program's notary in memory; find, status, hasLeg.
-/
namespace Go.Proofs.Ytjkhbjgfoopomaa
open Go.RowKit
set_option linter.unusedVariables false
set_option linter.unusedSimpArgs false
/-- a payment that the program's notary keeps -/
structure Xp where
  pm : Pm
  st : Nat
  held : Nat
  done : Nat
def Xp.ok (x : Xp) : Prop := x.pm.ok ∧ x.st < 256 ∧ x.held < 256 ∧ x.done < 256
def Xp.cells (x : Xp) : List Value := [.int .u32 (x.pm.id : Int), .int .u64 (x.pm.dl : Int), .string (bs x.pm.memo), .slice x.pm.la x.pm.legs.length x.pm.lc, .int .u8 (x.st : Int), .int .u8 (x.held : Int), .int .u8 (x.done : Int)]
theorem Xp.cells_length (x : Xp) : x.cells.length = 7 := rfl
/-- a notary of the program's lies at B -/
structure XD (w : World) (B ck : Nat) (ps : List Xp) (v : Value) : Prop where
  blk : w.heap[B]? = some (.cells #[.int .u64 (ck : Int), v] (tyAt w B) (0, 0))
  row : RowOf w 139 7 Xp.cells v ps
  legs : ∀ x, x ∈ ps → RowOf w 57 4 Pl.cells x.pm.lv x.pm.legs
theorem XD.lt {w : World} {B ck : Nat} {ps : List Xp} {v : Value} (h : XD w B ck ps v) : B < w.heap.size := block_lt h.blk
theorem XD.below {w u : World} {B ck : Nat} {ps : List Xp} {v : Value} (h : XD w B ck ps v) (hb : Below w.heap.size w u) : XD u B ck ps v :=
  ⟨ty_of (by rw [hb.block B h.lt]; exact h.blk), h.row.below hb, fun x hx => (h.legs x hx).below hb⟩
/-- where a payment stands; the list's length, if it is not kept -/
def findX (id : Nat) : List Xp → Nat
  | [] => 0
  | x :: r => if x.pm.id = id then 0 else findX id r + 1
theorem findX_le (id : Nat) : ∀ ps, findX id ps ≤ ps.length
  | [] => Nat.le_refl _
  | x :: r => by
    have := findX_le id r
    simp only [findX, List.length_cons]
    split <;> omega
theorem findX_at (id : Nat) : ∀ (ps : List Xp) (h : findX id ps < ps.length), ps[findX id ps].pm.id = id
  | [], h => by simp at h
  | x :: r, h => by
    simp only [findX] at h ⊢
    split at h
    · rename_i e
      simp [e]
    · rename_i e
      simp only [e, if_false, List.getElem_cons_succ]
      exact findX_at id r (by simpa using h)
theorem findX_no (id : Nat) : ∀ (ps : List Xp) (k : Nat) (h : k < ps.length), k < findX id ps → ps[k].pm.id ≠ id
  | [], k, h, _ => by simp at h
  | x :: r, k, h, hk => by
    simp only [findX] at hk
    split at hk
    · omega
    · rename_i e
      cases k with
      | zero => exact e
      | succ k => exact findX_no id r k (by simpa using h) (by omega)
theorem findX_is (id : Nat) (ps : List Xp) (k : Nat) (hk : k ≤ ps.length) (hno : ∀ j (hj : j < ps.length), j < k → ps[j].pm.id ≠ id) (hat : ∀ h : k < ps.length, ps[k].pm.id = id) : findX id ps = k := by
  have h1 := findX_le id ps
  rcases Nat.lt_trichotomy (findX id ps) k with h | h | h
  · have h2 : findX id ps < ps.length := by omega
    exact absurd (findX_at id ps h2) (hno _ h2 h)
  · exact h
  · have h2 : k < ps.length := by omega
    exact absurd (hat h2) (findX_no id ps k h2 h)
set_option maxRecDepth 100000 in
set_option maxHeartbeats 1000000 in
theorem xfind_any (id : Nat) (hid : id < 4294967296) (w : World) (B ck : Nat) (ps : List Xp) (v : Value) (hX : XD w B ck ps v) (hok : ∀ x, x ∈ ps → x.ok) (hlen : ps.length ≤ 1000000) :
    Calls Try.prog 73 #[.pointer (some ⟨B, 0, none⟩), .int .u32 (id : Int)] w fun e w' => e = .returned (.int .i64 (findX id ps : Int)) ∧ w' = w := by
  obtain ⟨ad, cap, hv, hev⟩ := hX.row.form Xp.cells_length
  subst hv
  have hc : ∀ o, w.cell? ⟨B, o, none⟩ = (#[.int .u64 (ck : Int), .slice ad ps.length cap] : Array Value)[o]? := fun o => cell_at hX.blk o
  go_enter Try.func73, Try.ntmps73
  go_wp2
  go_loopw [5] (fun c u => ∃ k : Nat, k ≤ ps.length ∧ c = .int .i64 k ∧ (∀ j (hj : j < ps.length), j < k → ps[j].pm.id ≠ id) ∧ u = w) (fun c _ => ps.length - (intOf c).toNat)
  case atStart => exact ⟨0, Nat.zero_le _, rfl, fun j hj h => by omega, rfl⟩
  case round =>
    obtain ⟨k, hk, rfl, hno, rfl⟩ := hrel
    replace hno := hide hno
    by_cases hlt : k < ps.length
    · obtain ⟨g, hg, hcell, _⟩ := hev k hlt
      subst hg
      have c0 := hcell 0 (by decide)
      have hek := hok ps[k] (List.getElem_mem hlt)
      have hlk : (k : Int) < (ps.length : Int) := by omega
      have dl : decide ((k : Int) < (ps.length : Int)) = true := by simp; omega
      have hnx : Hid (ps[k].pm.id ≠ id → ∀ j (hj : j < ps.length), j < k + 1 → ps[j].pm.id ≠ id) := hide (fun h j hj hj2 => by
        rcases Nat.lt_or_ge j k with x | x
        · exact hno.out j hj x
        · obtain rfl : j = k := by omega
          exact h)
      have hqq : Hid (ps[k].pm.id = id → findX id ps = k) := hide (fun h => findX_is id ps k hk hno.out (fun _ => h))
      clear hcell hev hno
      generalize ps[k] = E at *
      obtain ⟨⟨pi, pd, pm, pl, pa, pc⟩, st, he, dn⟩ := E
      obtain ⟨⟨hpi, _, _⟩, _⟩ := hek
      simp only [Xp.cells, List.getElem?_cons_zero, Nat.add_zero] at c0 hpi hnx hqq
      by_cases hi : pi = id
      · have di : ((pi : Int) != (id : Int)) = false := by simp; omega
        have hq := hide (hqq.out hi)
        clear hnx hqq hi
        go_wp2
        go_ret
        exact ⟨by rw [hq.out]; rfl, rfl⟩
      · have di : ((pi : Int) != (id : Int)) = true := by simp; omega
        have hq := hide (hnx.out hi)
        clear hnx hqq hi
        go_wp2
        exact ⟨⟨k + 1, hlt, by go_num, hq.out, trivial⟩, by simp [intOf]; omega⟩
    · obtain rfl : k = ps.length := by omega
      have hq : Hid (findX id ps = ps.length) := hide (findX_is id ps _ (Nat.le_refl _) hno.out (fun h => by omega))
      have dl : decide ((ps.length : Int) < (ps.length : Int)) = false := by simp
      clear hev hno
      go_wp2
      go_ret
      exact ⟨by rw [hq.out]; rfl, rfl⟩
/-- a payment in a box of its own -/
structure PBox (w : World) (b : Nat) (x : Xp) : Prop where
  blk : w.heap[b]? = some (.cells x.cells.toArray 139 (0, 0))
  legs : RowOf w 57 4 Pl.cells x.pm.lv x.pm.legs
theorem PBox.lt {w : World} {b : Nat} {x : Xp} (h : PBox w b x) : b < w.heap.size := block_lt h.blk
theorem PBox.below {w u : World} {b : Nat} {x : Xp} (h : PBox w b x) (hb : Below w.heap.size w u) : PBox u b x :=
  ⟨by rw [hb.block b h.lt]; exact h.blk, h.legs.below hb⟩
set_option maxRecDepth 100000 in
set_option maxHeartbeats 1000000 in
theorem pstatus_any (w : World) (b : Nat) (x : Xp) (hx : x.ok) (hP : PBox w b x) :
    Calls Try.prog 82 #[.pointer (some ⟨b, 0, none⟩)] w fun e w' => e = .returned (.agg #[.int .u8 (x.st : Int), .int .u8 (x.held : Int), .int .u8 (x.done : Int)]) ∧ Below w.heap.size w w' := by
  have hc := fun o => cell_at hP.blk o
  have hbl := hP.lt
  obtain ⟨⟨pi, pd, pm, pl, pa, pc⟩, st, he, dn⟩ := x
  simp only [Xp.cells] at *
  go_enter Try.func82, Try.ntmps82
  go_wp2_with fail
  go_region
  go_wp2
  refine bodyPost_ret (v := .agg #[.int .u8 (st : Int), .int .u8 (he : Int), .int .u8 (dn : Int)]) (by simp [results, Try.results82, go_sem]) rfl ⟨rfl, ?_⟩
  repeat' (first | exact Below.refl _ _ | refine Below.drew ?_ | refine Below.setCell ?_ (by simp) _ | refine Below.alloc ?_ (by simp) _)
end Go.Proofs.Ytjkhbjgfoopomaa
