import Derived.Test.YtjkhbjgfoopomaaG3
import Derived.Deep.RegionHeld3
import Derived.Test.YtjkhbjgfoopomaaG1
import Derived.Test.YtjkhbjgfoopomaaG2
/-
  The walk over Encode, the code's.
-/
namespace Go.Proofs.Ytjkhbjgfoopomaa
open Go.RowKit
set_option linter.unusedVariables false
attribute [local go_sem] conv1 conv2 conv4 bs_size bs_append be_length

theorem conv4' (w : World) (o : Obj) (a b c d : Int) : (convert 47 9 (.slice (some ⟨w.heap.size + 1, 0, none⟩) 4 4)).run Try.prog ((w.alloc o).alloc (.cells #[.int .u8 a, .int .u8 b, .int .u8 c, .int .u8 d] 5)) =
    .ok (.string (bs [UInt8.ofNat a.toNat, UInt8.ofNat b.toNat, UInt8.ofNat c.toNat, UInt8.ofNat d.toNat])) ((w.alloc o).alloc (.cells #[.int .u8 a, .int .u8 b, .int .u8 c, .int .u8 d] 5)) := by
  rw [show w.heap.size + 1 = (w.alloc o).heap.size from by simp]
  exact conv4 (w.alloc o) a b c d
attribute [local go_sem] conv4'

/-- a box of ours: nothing older has turned, and its cells lie there -/
structure Box (w : World) (cs : Array Value) (u : World) : Prop where
  bel : Below w.heap.size w u
  lt : w.heap.size < u.heap.size
  cell : ∀ o, u.cell? ⟨w.heap.size, o, none⟩ = cs[o]?
  fro : ∀ o, u.frozen? ⟨w.heap.size, o, none⟩ = false
theorem Box.mk0 (w : World) (cs : Array Value) (t : TypeId) : Box w cs (w.alloc (.cells cs t)) :=
  ⟨(Below.refl _ _).alloc (Nat.le_refl _) _, by simp, fun o => World.cell?_alloc_new .., fun o => by simp⟩
theorem Box.below {w u u' : World} {cs : Array Value} (h : Box w cs u) (hb : Below u.heap.size u u') : Box w cs u' :=
  ⟨h.bel.trans (hb.mono (Nat.le_of_lt h.lt)), Nat.lt_of_lt_of_le h.lt hb.size, fun o => by rw [hb.cell (p := ⟨w.heap.size, o, none⟩) h.lt]; exact h.cell o,
    fun o => by rw [hb.frozen (p := ⟨w.heap.size, o, none⟩) h.lt]; exact h.fro o⟩
theorem Box.alloc {w u : World} {cs : Array Value} (h : Box w cs u) (o : Obj) : Box w cs (u.alloc o) :=
  h.below ((Below.refl _ _).alloc (Nat.le_refl _) _)
theorem Box.drew {w u : World} {cs : Array Value} (h : Box w cs u) : Box w cs u.drew := ⟨h.bel.drew, h.lt, h.cell, h.fro⟩

theorem fault_zero_memo {x : Msg} (h : faultOf x = 0) : x.m.length ≤ 64 := by
  unfold faultOf at h
  split at h
  · omega
  · split at h
    · omega
    · split at h
      · omega
      · split at h
        · unfold termsOf at h
          split at h
          · omega
          · split at h
            · rename_i hmb
              exact memoB_len hmb
            · omega
        · split at h
          · rename_i hb
            simp [bareB] at hb
            simp [hb.2]
          · omega
set_option maxRecDepth 100000 in
set_option maxHeartbeats 1000000 in
theorem spell_any (x : Msg) (hx : x.ok) (hm64 : x.m.length ≤ 64) (w : World) :
    Calls Try.prog 65 #[x.v] w fun e w' => e = .returned (.string (bs (frameOf x))) ∧ Below w.heap.size w w' := by
  obtain ⟨k, f, t, i, l, p, g, a, m⟩ := x
  obtain ⟨hk, hf, ht, hi, hl, hp, hg, ha⟩ := hx
  simp only [Msg.v, Msg.cells] at *
  have hz2 : Hid (frameOf ⟨k, f, t, i, l, p, g, a, m⟩ = bodyOf ⟨k, f, t, i, l, p, g, a, m⟩ ++ be 4 (sumOf (bodyOf ⟨k, f, t, i, l, p, g, a, m⟩))) := hide rfl
  have hz3 : Hid (69 :: UInt8.ofNat k :: UInt8.ofNat f :: UInt8.ofNat t :: (be 4 i ++ UInt8.ofNat l :: (be 2 p ++ (be 2 g ++ (be 4 a ++ UInt8.ofNat m.length :: m)))) = bodyOf ⟨k, f, t, i, l, p, g, a, m⟩) := hide rfl
  have hz4 : Hid ((bodyOf ⟨k, f, t, i, l, p, g, a, m⟩).length = 18 + m.length) := hide (bodyOf_length _)
  go_enter Try.func65, Try.ntmps65
  go_wp2_with fail
  refine (four_any i hi _).mono ?_
  rintro e w2 ⟨rfl, hb⟩
  have B2 := ((Box.mk0 _ _ _).alloc _).below hb
  have hc := B2.cell
  have hlt := B2.lt
  clear hb
  go_wp2_with fail
  refine (two_any p hp _).mono ?_
  rintro e w3 ⟨rfl, hb⟩
  have B3 := (B2.alloc _).below hb
  replace hc := B3.cell
  replace hlt := B3.lt
  clear hb B2
  go_wp2_with fail
  refine (two_any g hg _).mono ?_
  rintro e w4 ⟨rfl, hb⟩
  have B4 := B3.below hb
  replace hc := B4.cell
  replace hlt := B4.lt
  clear hb B3
  go_wp2_with fail
  refine (four_any a ha _).mono ?_
  rintro e w5 ⟨rfl, hb⟩
  have B5 := B4.below hb
  replace hc := B5.cell
  replace hlt := B5.lt
  clear hb B4
  go_wp2_with fail
  rw [hz3.out]
  clear hz3
  generalize bodyOf ⟨k, f, t, i, l, p, g, a, m⟩ = B at *
  have hBl : B.length ≤ 82 := by have := hz4.out; omega
  clear hz4
  refine (frameSum_any (bs B) (by rw [bs_size]; unfold maxLen; omega) _).mono ?_
  rintro e w6 ⟨rfl, rfl⟩
  rw [bs_data]
  have hs := sumOf_lt B
  go_wp2_with fail
  refine (four_any _ hs _).mono ?_
  rintro e w6 ⟨rfl, hb⟩
  have B6 := (B5.alloc _).below hb
  clear hb B5 hc
  go_wp2
  go_ret
  exact ⟨by rw [hz2.out]; rfl, B6.bel⟩

end Go.Proofs.Ytjkhbjgfoopomaa
/-
  The walk over Encode, the document's.
-/
namespace Go.Proofs.Ytjkhbjgfoopomaa
open Go.RowKit
set_option linter.unusedVariables false
attribute [local go_sem] bs_size bs_append be_length

theorem bs_E (l : List UInt8) : (⟨#[69]⟩ : ByteArray) ++ bs l = bs (69 :: l) := ByteArray.mk_append_mk [69] l
attribute [local go_sem] bs_E
end Go.Proofs.Ytjkhbjgfoopomaa
/-
  The document's ask.
-/
namespace Go.Proofs.Ytjkhbjgfoopomaa
open Go.RowKit
set_option linter.unusedVariables false
set_option linter.unusedSimpArgs false
/-- P9 to P11: what is asked of a leg's bank -/
def askMsg (p : Pm) (x : Pl) (leg kind : Nat) : Msg := if kind = 1 then ⟨1, 0, x.b, p.id, leg, x.p, x.g, x.a, p.memo⟩ else ⟨kind, 0, x.b, p.id, leg, 0, 0, 0, []⟩
def askOf (p : Pm) (x : Pl) (leg kind : Nat) : List UInt8 := encOf (askMsg p x leg kind)
theorem askMsg_ok {p : Pm} {x : Pl} {leg kind : Nat} (hp : p.ok) (hx : x.ok) (hl : leg < 256) (hk : kind < 256) : (askMsg p x leg kind).ok := by
  unfold askMsg
  split
  · exact ⟨by show (1 : Nat) < 256; omega, by show (0 : Nat) < 256; omega, hx.1, hp.1, hl, hx.2.1, hx.2.2.1, hx.2.2.2⟩
  · exact ⟨hk, by show (0 : Nat) < 256; omega, hx.1, hp.1, hl, by show (0 : Nat) < 65536; omega, by show (0 : Nat) < 65536; omega, by show (0 : Nat) < 4294967296; omega⟩

end Go.Proofs.Ytjkhbjgfoopomaa
/-
  Plain: what has changed a bank, and what the document reckons of it.
-/
namespace Go.Proofs.Ytjkhbjgfoopomaa
set_option linter.unusedVariables false

/-- what has changed a bank -/
structure Ev where
  kind : Nat
  msg : Msg
  held : Bool
def Ev.ok (e : Ev) : Prop := e.kind < 4 ∧ e.msg.ok
def Ev.cells (e : Ev) : List Value := [.int .i64 (e.kind : Int), .int .u8 (e.msg.k : Int), .int .u8 (e.msg.f : Int), .int .u8 (e.msg.t : Int), .int .u32 (e.msg.i : Int), .int .u8 (e.msg.l : Int), .int .u16 (e.msg.p : Int), .int .u16 (e.msg.g : Int), .int .u32 (e.msg.a : Int), .string (bs e.msg.m), .bool e.held]
theorem Ev.cells_length (e : Ev) : e.cells.length = 11 := rfl
/-- with how much an account was opened; was it; how many were -/
def openedStep (a : Nat) (s : Nat × Bool × Nat) (e : Ev) : Nat × Bool × Nat :=
  if e.kind = 0 then (if e.msg.p = a then (e.msg.a, true, s.2.2 + 1) else (s.1, s.2.1, s.2.2 + 1)) else s
def openedOf (a : Nat) (evs : List Ev) : Nat × Bool × Nat := evs.foldl (openedStep a) (0, false, 0)
theorem openedOf_snoc (a : Nat) (evs : List Ev) (e : Ev) : openedOf a (evs ++ [e]) = openedStep a (openedOf a evs) e := by simp [openedOf, List.foldl_append]
/-- the state of a leg, its Prepare, and whether it came by one -/
def legStep (id l : Nat) (s : Nat × Msg × Bool) (e : Ev) : Nat × Msg × Bool :=
  if e.kind = 0 then s else if e.msg.i ≠ id then s else if e.msg.l ≠ l then s
  else if e.kind = 1 then (if e.held then (1, e.msg, true) else (2, e.msg, true))
  else if e.kind = 2 then (3, s.2.1, s.2.2) else (4, s.2.1, s.2.2)
def noMsg : Msg := ⟨0, 0, 0, 0, 0, 0, 0, 0, []⟩
def legOf (id l : Nat) (evs : List Ev) : Nat × Msg × Bool := evs.foldl (legStep id l) (0, noMsg, false)
theorem legOf_snoc (id l : Nat) (evs : List Ev) (e : Ev) : legOf id l (evs ++ [e]) = legStep id l (legOf id l evs) e := by simp [legOf, List.foldl_append]
/-- is this an event of that leg? -/
def ofLeg (id l : Nat) (e : Ev) : Bool := decide (e.kind ≠ 0) && (decide (e.msg.i = id) && decide (e.msg.l = l))
/-- event i is the first one of its leg -/
def firstB (evs : List Ev) (i : Nat) : Bool :=
  match evs[i]? with
  | none => false
  | some e => decide (e.kind ≠ 0) && (evs.take i).all fun x => !ofLeg e.msg.i e.msg.l x
theorem firstB_at {evs : List Ev} {i : Nat} (h : i < evs.length) : firstB evs i = (decide (evs[i].kind ≠ 0) && (evs.take i).all fun x => !ofLeg evs[i].msg.i evs[i].msg.l x) := by
  simp [firstB, h]
/-- the legs, each at its first event -/
def keysTo (evs : List Ev) : Nat → List (Nat × Nat)
  | 0 => []
  | k + 1 => match evs[k]? with
    | none => keysTo evs k
    | some e => if firstB evs k then keysTo evs k ++ [(e.msg.i, e.msg.l)] else keysTo evs k
theorem keysTo_yes {evs : List Ev} {k : Nat} (h : k < evs.length) (hf : firstB evs k = true) : keysTo evs (k + 1) = keysTo evs k ++ [(evs[k].msg.i, evs[k].msg.l)] := by
  simp [keysTo, h, hf]
theorem keysTo_no {evs : List Ev} {k : Nat} (h : k < evs.length) (hf : firstB evs k = false) : keysTo evs (k + 1) = keysTo evs k := by
  simp [keysTo, h, hf]
def keysOf (evs : List Ev) : List (Nat × Nat) := keysTo evs evs.length
def sumBy (ks : List (Nat × Nat)) (g : Nat × Nat → Nat) : Nat := (ks.map g).sum
/-- of a leg: its amount, if it is in this state and its payer | its getter is a -/
def amtPay (st a : Nat) (s : Nat × Msg × Bool) : Nat := if s.2.2 = true ∧ s.1 = st ∧ s.2.1.p = a then s.2.1.a else 0
def amtGet (st a : Nat) (s : Nat × Msg × Bool) : Nat := if s.2.2 = true ∧ s.1 = st ∧ s.2.1.g = a then s.2.1.a else 0
def outOf (a : Nat) (evs : List Ev) (ks : List (Nat × Nat)) : Nat := sumBy ks fun x => amtPay 3 a (legOf x.1 x.2 evs)
def inOf (a : Nat) (evs : List Ev) (ks : List (Nat × Nat)) : Nat := sumBy ks fun x => amtGet 3 a (legOf x.1 x.2 evs)
def staysOf (a : Nat) (evs : List Ev) (ks : List (Nat × Nat)) : Nat := sumBy ks fun x => amtPay 1 a (legOf x.1 x.2 evs)
def comesOf (a : Nat) (evs : List Ev) (ks : List (Nat × Nat)) : Nat := sumBy ks fun x => amtGet 1 a (legOf x.1 x.2 evs)
end Go.Proofs.Ytjkhbjgfoopomaa
/-
  The document's Bank.Leg.
-/
namespace Go.Proofs.Ytjkhbjgfoopomaa
open Go.RowKit
set_option linter.unusedVariables false

/-- two messages of ours: the first blocks behind w -/
structure Two (w : World) (x y : Msg) (u : World) : Prop where
  bel : Below w.heap.size w u
  one : u.heap[w.heap.size]? = some (.cells x.cells 32 (0, 0))
  two : u.heap[w.heap.size + 1]? = some (.cells y.cells 32 (0, 0))
theorem Two.mk0 (w : World) : Two w noMsg noMsg ((w.alloc (.cells noMsg.cells 32)).alloc (.cells noMsg.cells 32)) := by
  refine ⟨((Below.refl _ _).alloc (Nat.le_refl _) _).alloc (by simp) _, ?_, ?_⟩
  · rw [Below.heap_alloc _ _ _ (by simp)]
    exact heap_alloc_self _ _
  · rw [show w.heap.size + 1 = (w.alloc (.cells noMsg.cells 32)).heap.size from by simp]
    exact heap_alloc_self _ _
theorem Two.putOne {w u : World} {x y : Msg} (h : Two w x y u) (z : Msg) : Two w z y (putL u w.heap.size 0 z.cells.toList) :=
  have hk := putL_kept z.cells.toList u w.heap.size 0
  ⟨h.bel.trans (hk.below h.bel.size (fun k e => by omega)), putL_whole _ h.one rfl, by rw [hk.block _ (block_lt h.two) (by omega)]; exact h.two⟩
theorem Two.alloc {w u : World} {x y : Msg} (h : Two w x y u) (o : Obj) : Two w x y (u.alloc o) := by
  have h1 := block_lt h.one
  have h2 := block_lt h.two
  exact ⟨h.bel.alloc h.bel.size _, by rw [Below.heap_alloc _ _ _ h1]; exact h.one, by rw [Below.heap_alloc _ _ _ h2]; exact h.two⟩
end Go.Proofs.Ytjkhbjgfoopomaa
/-
  The document's Bank.told.
-/
namespace Go.Proofs.Ytjkhbjgfoopomaa
open Go.RowKit
set_option linter.unusedVariables false
set_option linter.unusedSimpArgs false

/-- the kind of the answer to a leg's state, and its frame -/
def kindFor (st : Nat) : Nat := if st = 1 then 4 else if st = 2 then 5 else 6
def ansMsg (node id l st : Nat) : Msg := ⟨kindFor st, node, 0, id, l, 0, 0, 0, []⟩
def ansOf (node id l st : Nat) : List UInt8 := encOf (ansMsg node id l st)
theorem kindFor_lt (st : Nat) : kindFor st < 256 := by unfold kindFor; (repeat' split) <;> omega

end Go.Proofs.Ytjkhbjgfoopomaa
/-
  append of one struct to a row of structs, as one step of the walk.
-/
namespace Go.Proofs.Ytjkhbjgfoopomaa
open Go.RowKit
set_option linter.unusedVariables false
theorem wpList_row {P : Program} {ops : Array Oper} {rest : List Oper} {o : Oper} {a : Act} {Q : Exit → Act → World → Prop} {α : Type} {f : α → List Value} {sz : Nat} (hf : ∀ x, (f x).length = sz) (w : World) (hgd : o.guard = none) (s x : Operand) (t : TypeId)
    (ho : o.op = .call { callee := .builtin .append, args := #[s, x], argTypes := #[t, t] }) (e : TypeId) (i : TypeInfo) (z : Value) (bytes : Nat) (ht : P.underlying t = some (.slice e)) (hi : P.info? e = some i) (hz : i.zero = some z)
    (hsize : i.size = sz) (hby : i.bytes = bytes) (hzs : z.cells.size = sz) (hsz : 0 < sz) (v : Value) (xs : List α) (hs : a.eval s = v) (hrow : RowOf w e sz f v xs) (c : Nat) (y : α) (hx : a.eval x = .slice (some ⟨w.heap.size, 0, none⟩) 1 c)
    (h1 : ∀ u ∈ f y, u.oneCell' = true) (h63 : xs.length + 1 ≤ maxLen) (hbytes : (xs.length + 1) * bytes ≤ 140737488355328)
    (h : ∀ g cap w', RowOf w' e sz f (.slice (some ⟨g, 0, none⟩) (xs.length + 1) cap) (xs ++ [y]) → Kept (fun k => v.ownBlock = some k) w w' → (v.ownBlock = some g ∨ w.heap.size ≤ g) → g < w'.heap.size → wpList P ops Q rest (a.put o.dst (.slice (some ⟨g, 0, none⟩) (xs.length + 1) cap)) w') :
    ∀ W, W = w.alloc (.cells (f y).toArray e) → wpList P ops Q (o :: rest) a W := by
  rintro W rfl
  have hrow' : RowOf (w.alloc (.cells (f y).toArray e)) e sz f v xs := hrow.below ((Below.refl _ _).alloc (Nat.le_refl _) _)
  refine wpList_append_lies _ hgd s x t ho 0 e i z sz bytes ht hi hz hsize hby hzs hsz v xs.length (xs.flatMap f) hs hrow' ⟨w.heap.size, 0, none⟩ 1 c (f y) hx (by rw [hf]; omega) ?_ h1 (by decide) h63 hbytes (Nat.zero_le _) _ rfl ?_
  · intro j u hu
    exact World.news_of_block (heap_alloc_self w (.cells (f y).toArray e)) j u hu
  · intro g cap w' hown hgrow hat hlt
    refine h g cap w' (RowOf.to (xs := xs) hf hown (by simp) (by simp)) ?_ ?_ hlt
    · exact (Kept.of_alloc w _).trans (Kept.of_grown hgrow) (fun k hk => .inl hk)
    · rcases hat with h' | h'
      · exact .inl h'
      · right
        rw [h']
        simp
end Go.Proofs.Ytjkhbjgfoopomaa
/-
  The document's Bank.Tick: plain, and the walk.
-/
namespace Go.Proofs.Ytjkhbjgfoopomaa
open Go.RowKit
set_option linter.unusedVariables false
set_option linter.unusedSimpArgs false

def txtCell (l : List UInt8) : List Value := [.string (bs l)]
theorem txtCell_length (l : List UInt8) : (txtCell l).length = 1 := rfl
theorem txt_one (e : List UInt8) : ∀ u ∈ txtCell e, u.oneCell' = true := by
  intro u hu
  simp only [txtCell, List.mem_cons, List.not_mem_nil, or_false] at hu
  subst hu
  rfl
theorem txtInfo : (Try.prog.info? 9).map (fun i => (i.zero, i.size, i.bytes)) = some (some (.string ByteArray.empty), 1, 16) := by kernel_rfl

def rankK (k : Nat × Nat) : Nat := k.1 * 4 + k.2
def keyE (e : Ev) : Nat × Nat := (e.msg.i, e.msg.l)
/-- an event whose leg is held and comes at nx or behind -/
def goodE (evs : List Ev) (nx : Nat) (e : Ev) : Prop := e.kind ≠ 0 ∧ (legOf e.msg.i e.msg.l evs).1 = 1 ∧ nx ≤ rankK (keyE e)
/-- the legs that are held, in their order -/
structure Helds (evs : List Ev) (hs : List (Nat × Nat)) : Prop where
  sort : hs.Pairwise fun a b => rankK a < rankK b
  mem : ∀ k, k ∈ hs ↔ ∃ e, e ∈ evs ∧ e.kind ≠ 0 ∧ keyE e = k ∧ (legOf k.1 k.2 evs).1 = 1
  few : ∀ e, e ∈ evs → e.kind ≠ 0 → e.msg.l < 4
def nextK (hs : List (Nat × Nat)) : Nat → Nat
  | 0 => 0
  | n + 1 => match hs[n]? with
    | none => 0
    | some k => rankK k + 1
theorem Helds.below {evs : List Ev} {hs : List (Nat × Nat)} (h : Helds evs hs) (n : Nat) (hn : n ≤ hs.length) (q : Nat) (hq : q < hs.length) : nextK hs n ≤ rankK hs[q] ↔ n ≤ q := by
  have hp := List.pairwise_iff_getElem.1 h.sort
  cases n with
  | zero => simp [nextK]
  | succ n =>
    have hn' : n < hs.length := hn
    simp only [nextK, List.getElem?_eq_getElem hn']
    constructor
    · intro h1
      rcases Nat.lt_or_ge n q with x | x
      · omega
      · rcases Nat.lt_or_ge q n with y | y
        · have := hp q n hq hn' y
          omega
        · obtain rfl : q = n := by omega
          omega
    · intro h1
      have := hp n q hn' hq h1
      omega
theorem Helds.toEvent {evs : List Ev} {hs : List (Nat × Nat)} (h : Helds evs hs) (n : Nat) (hn : n < hs.length) : ∃ j, ∃ hj : j < evs.length, goodE evs (nextK hs n) evs[j] ∧ keyE evs[j] = hs[n] := by
  obtain ⟨e, he, h0, hk, h1⟩ := (h.mem hs[n]).1 (List.getElem_mem hn)
  obtain ⟨j, hj, rfl⟩ := List.getElem_of_mem he
  refine ⟨j, hj, ⟨h0, ?_, ?_⟩, hk⟩
  · rw [← hk] at h1; exact h1
  · rw [hk]; exact (h.below n (by omega) n hn).2 (Nat.le_refl _)
theorem Helds.done {evs : List Ev} {hs : List (Nat × Nat)} (h : Helds evs hs) (n : Nat) (hn : n ≤ hs.length) (hno : ∀ j (hj : j < evs.length), ¬ goodE evs (nextK hs n) evs[j]) : n = hs.length := by
  rcases Nat.lt_or_ge n hs.length with x | x
  · obtain ⟨j, hj, hg, _⟩ := h.toEvent n x
    exact absurd hg (hno j hj)
  · omega
/-- the least so far -/
def BestTo (evs : List Ev) (nx k : Nat) (best at_ : Int) : Prop :=
  (best = -1 ∧ at_ = -1 ∧ ∀ j (hj : j < evs.length), j < k → ¬ goodE evs nx evs[j]) ∨
  ∃ j, ∃ hj : j < evs.length, j < k ∧ at_ = (j : Int) ∧ best = (rankK (keyE evs[j]) : Int) ∧ goodE evs nx evs[j] ∧ ∀ i (hi : i < evs.length), i < k → goodE evs nx evs[i] → rankK (keyE evs[j]) ≤ rankK (keyE evs[i])
theorem BestTo.stay {evs : List Ev} {nx k : Nat} {b a : Int} (h : BestTo evs nx k b a) (hk : k < evs.length) (hn : ¬ goodE evs nx evs[k] ∨ (0 ≤ b ∧ b ≤ (rankK (keyE evs[k]) : Int))) : BestTo evs nx (k + 1) b a := by
  rcases h with ⟨h1, h2, h3⟩ | ⟨j, hj, h1, h2, h3, h4, h5⟩
  · left
    refine ⟨h1, h2, fun j hj hj2 => ?_⟩
    rcases Nat.lt_or_ge j k with x | x
    · exact h3 j hj x
    · obtain rfl : j = k := by omega
      rcases hn with hn | hn
      · exact hn
      · omega
  · right
    refine ⟨j, hj, by omega, h2, h3, h4, fun i hi hi2 hg => ?_⟩
    rcases Nat.lt_or_ge i k with x | x
    · exact h5 i hi x hg
    · obtain rfl : i = k := by omega
      rcases hn with hn | hn
      · exact absurd hg hn
      · omega
theorem BestTo.take {evs : List Ev} {nx k : Nat} {b a : Int} (h : BestTo evs nx k b a) (hk : k < evs.length) (hg : goodE evs nx evs[k]) (hb : b < 0 ∨ (rankK (keyE evs[k]) : Int) < b) : BestTo evs nx (k + 1) (rankK (keyE evs[k]) : Int) (k : Int) := by
  right
  refine ⟨k, hk, by omega, rfl, rfl, hg, fun i hi hi2 hgi => ?_⟩
  rcases Nat.lt_or_ge i k with x | x
  · rcases h with ⟨h1, h2, h3⟩ | ⟨j, hj, h1, h2, h3, h4, h5⟩
    · exact absurd hgi (h3 i hi x)
    · have := h5 i hi x hgi
      omega
  · obtain rfl : i = k := by omega
    exact Nat.le_refl _
theorem RowOf.slice {α : Type} {f : α → List Value} {sz : Nat} {w : World} {e : TypeId} {v : Value} {xs : List α} (h : RowOf w e sz f v xs) : ∃ ad cap, v = .slice ad xs.length cap := by
  rcases h.2 with ⟨h1, h2⟩ | ⟨g, cap, cur, h1, _⟩
  · exact ⟨none, 0, by rw [h1, h2]⟩
  · exact ⟨_, cap, h1⟩
end Go.Proofs.Ytjkhbjgfoopomaa
/-
  The document's asks.
-/
namespace Go.Proofs.Ytjkhbjgfoopomaa
open Go.RowKit
set_option linter.unusedVariables false
set_option linter.unusedSimpArgs false
/-- P9 to P11: the frames to the first legs, those but whose bit is there -/
def asksTo (p : Pm) (k but : Nat) : Nat → List (List UInt8)
  | 0 => []
  | n + 1 => asksTo p k but n ++ (if withOf but n = but then [] else match p.legs[n]? with
    | none => []
    | some x => [askOf p x n k])
def asksOf (p : Pm) (k but : Nat) : List (List UInt8) := asksTo p k but p.legs.length
theorem asksTo_le (p : Pm) (k but : Nat) : ∀ n, (asksTo p k but n).length ≤ n
  | 0 => Nat.le_refl _
  | n + 1 => by
    have := asksTo_le p k but n
    simp only [asksTo, List.length_append]
    split
    · simp; omega
    · split <;> simp <;> omega

end Go.Proofs.Ytjkhbjgfoopomaa
/-
  The type of a block, whatever it is.
-/
namespace Go.Proofs.Ytjkhbjgfoopomaa
open Go.RowKit
def tyAt (w : World) (B : Nat) : TypeId := match w.heap[B]? with
  | some (.cells _ T _) => T
  | _ => 9
theorem ty_of {w : World} {B : Nat} {cs : Array Value} {T : TypeId} {f : Nat × Nat} (h : w.heap[B]? = some (.cells cs T f)) : w.heap[B]? = some (.cells cs (tyAt w B) f) := by
  have : tyAt w B = T := by unfold tyAt; rw [h]
  rw [this]
  exact h
end Go.Proofs.Ytjkhbjgfoopomaa
