/-
  Plain: what has changed a bank, and what the document reckons of it.
-/
import Derived.Test.YtjkhbjgfoopomaaGreatMsg
namespace Go.Proofs.YtjkhbjgfoopomaaGreat
set_option linter.unusedVariables false

/-- what has changed a bank -/
structure Ev where
  kind : Nat
  msg : Msg
  held : Bool
def Ev.ok (e : Ev) : Prop := e.kind < 4 ∧ e.msg.ok
def Ev.cells (e : Ev) : List Value := [.int .i64 (e.kind : Int), .int .u8 (e.msg.k : Int), .int .u8 (e.msg.f : Int), .int .u8 (e.msg.t : Int), .int .u32 (e.msg.i : Int), .int .u8 (e.msg.l : Int), .int .u16 (e.msg.p : Int), .int .u16 (e.msg.g : Int), .int .u32 (e.msg.a : Int), .string (bs e.msg.m), .bool e.held]
theorem Ev.cells_length (e : Ev) : e.cells.length = 11 := rfl
theorem take_snoc_ev {α : Type} (l : List α) (k : Nat) (h : k < l.length) : l.take (k + 1) = l.take k ++ [l[k]] := by
  rw [List.take_succ_eq_append_getElem h]

/-- with how much an account was opened; was it; how many were -/
def openedStep (a : Nat) (s : Nat × Bool × Nat) (e : Ev) : Nat × Bool × Nat :=
  if e.kind = 0 then (if e.msg.p = a then (e.msg.a, true, s.2.2 + 1) else (s.1, s.2.1, s.2.2 + 1)) else s
def openedOf (a : Nat) (evs : List Ev) : Nat × Bool × Nat := evs.foldl (openedStep a) (0, false, 0)
theorem openedOf_snoc (a : Nat) (evs : List Ev) (e : Ev) : openedOf a (evs ++ [e]) = openedStep a (openedOf a evs) e := by simp [openedOf, List.foldl_append]
theorem openedFold_bd (a : Nat) (evs : List Ev) (hok : ∀ e, e ∈ evs → e.ok) : ∀ s : Nat × Bool × Nat, s.1 < 4294967296 → (evs.foldl (openedStep a) s).1 < 4294967296 ∧ (evs.foldl (openedStep a) s).2.2 ≤ s.2.2 + evs.length := by
  induction evs with
  | nil => intro s h; exact ⟨h, Nat.le_refl _⟩
  | cons e r ih =>
    intro s h
    have he := hok e (by simp)
    have h1 : (openedStep a s e).1 < 4294967296 ∧ (openedStep a s e).2.2 ≤ s.2.2 + 1 := by
      unfold openedStep
      split
      · split
        · exact ⟨he.2.2.2.2.2.2.2.2, Nat.le_refl _⟩
        · exact ⟨h, Nat.le_refl _⟩
      · exact ⟨h, Nat.le_succ _⟩
    have h2 := ih (fun x hx => hok x (by simp [hx])) _ h1.1
    refine ⟨h2.1, ?_⟩
    have := h2.2
    simp only [List.foldl_cons, List.length_cons]
    omega
theorem openedOf_bd (a : Nat) (evs : List Ev) (hok : ∀ e, e ∈ evs → e.ok) : (openedOf a evs).1 < 4294967296 ∧ (openedOf a evs).2.2 ≤ evs.length := by
  have := openedFold_bd a evs hok (0, false, 0) (by decide)
  refine ⟨this.1, ?_⟩
  have h2 := this.2
  show (List.foldl (openedStep a) (0, false, 0) evs).2.2 ≤ evs.length
  simpa using h2

/-- the state of a leg, its Prepare, and whether it came by one -/
def legStep (id l : Nat) (s : Nat × Msg × Bool) (e : Ev) : Nat × Msg × Bool :=
  if e.kind = 0 then s else if e.msg.i ≠ id then s else if e.msg.l ≠ l then s
  else if e.kind = 1 then (if e.held then (1, e.msg, true) else (2, e.msg, true))
  else if e.kind = 2 then (3, s.2.1, s.2.2) else (4, s.2.1, s.2.2)
def noMsg : Msg := ⟨0, 0, 0, 0, 0, 0, 0, 0, []⟩
theorem noMsg_ok : noMsg.ok := by simp [Msg.ok, noMsg]
def legOf (id l : Nat) (evs : List Ev) : Nat × Msg × Bool := evs.foldl (legStep id l) (0, noMsg, false)
theorem legOf_snoc (id l : Nat) (evs : List Ev) (e : Ev) : legOf id l (evs ++ [e]) = legStep id l (legOf id l evs) e := by simp [legOf, List.foldl_append]
theorem legFold_ok (id l : Nat) (evs : List Ev) (hok : ∀ e, e ∈ evs → e.ok) : ∀ s : Nat × Msg × Bool, s.1 < 5 ∧ s.2.1.ok → (evs.foldl (legStep id l) s).1 < 5 ∧ (evs.foldl (legStep id l) s).2.1.ok := by
  induction evs with
  | nil => intro s h; exact h
  | cons e r ih =>
    intro s h
    have he := hok e (by simp)
    refine ih (fun x hx => hok x (by simp [hx])) _ ?_
    unfold legStep
    (repeat' split) <;> first | exact h | exact ⟨by simp, he.2⟩ | exact ⟨by simp, h.2⟩
theorem legOf_ok (id l : Nat) (evs : List Ev) (hok : ∀ e, e ∈ evs → e.ok) : (legOf id l evs).1 < 5 ∧ (legOf id l evs).2.1.ok := legFold_ok id l evs hok _ ⟨by decide, noMsg_ok⟩

/-- is this an event of that leg? -/
def ofLeg (id l : Nat) (e : Ev) : Bool := decide (e.kind ≠ 0) && (decide (e.msg.i = id) && decide (e.msg.l = l))
/-- event i is the first one of its leg -/
def firstB (evs : List Ev) (i : Nat) : Bool :=
  match evs[i]? with
  | none => false
  | some e => decide (e.kind ≠ 0) && (evs.take i).all fun x => !ofLeg e.msg.i e.msg.l x
theorem firstB_at {evs : List Ev} {i : Nat} (h : i < evs.length) : firstB evs i = (decide (evs[i].kind ≠ 0) && (evs.take i).all fun x => !ofLeg evs[i].msg.i evs[i].msg.l x) := by
  simp [firstB, h]
/-- the legs, each at its first event -/
def keysTo (evs : List Ev) : Nat → List (Nat × Nat)
  | 0 => []
  | k + 1 => match evs[k]? with
    | none => keysTo evs k
    | some e => if firstB evs k then keysTo evs k ++ [(e.msg.i, e.msg.l)] else keysTo evs k
theorem keysTo_yes {evs : List Ev} {k : Nat} (h : k < evs.length) (hf : firstB evs k = true) : keysTo evs (k + 1) = keysTo evs k ++ [(evs[k].msg.i, evs[k].msg.l)] := by
  simp [keysTo, h, hf]
theorem keysTo_no {evs : List Ev} {k : Nat} (h : k < evs.length) (hf : firstB evs k = false) : keysTo evs (k + 1) = keysTo evs k := by
  simp [keysTo, h, hf]
def keysOf (evs : List Ev) : List (Nat × Nat) := keysTo evs evs.length
theorem keysTo_length (evs : List Ev) (k : Nat) : (keysTo evs k).length ≤ k := by
  induction k with
  | zero => simp [keysTo]
  | succ k ih =>
    simp only [keysTo]
    split
    · omega
    · split
      · simp; omega
      · omega
def sumBy (ks : List (Nat × Nat)) (g : Nat × Nat → Nat) : Nat := (ks.map g).sum
theorem sumBy_snoc (ks : List (Nat × Nat)) (x : Nat × Nat) (g : Nat × Nat → Nat) : sumBy (ks ++ [x]) g = sumBy ks g + g x := by simp [sumBy]
theorem sumBy_le (ks : List (Nat × Nat)) (g : Nat × Nat → Nat) (b : Nat) (h : ∀ x, g x ≤ b) : sumBy ks g ≤ ks.length * b := by
  induction ks with
  | nil => simp [sumBy]
  | cons x r ih =>
    have := h x
    simp only [sumBy, List.map_cons, List.sum_cons, List.length_cons, Nat.add_mul, Nat.one_mul] at *
    omega
/-- of a leg: its amount, if it is in this state and its payer | its getter is a -/
def amtPay (st a : Nat) (s : Nat × Msg × Bool) : Nat := if s.2.2 = true ∧ s.1 = st ∧ s.2.1.p = a then s.2.1.a else 0
def amtGet (st a : Nat) (s : Nat × Msg × Bool) : Nat := if s.2.2 = true ∧ s.1 = st ∧ s.2.1.g = a then s.2.1.a else 0
def outOf (a : Nat) (evs : List Ev) (ks : List (Nat × Nat)) : Nat := sumBy ks fun x => amtPay 3 a (legOf x.1 x.2 evs)
def inOf (a : Nat) (evs : List Ev) (ks : List (Nat × Nat)) : Nat := sumBy ks fun x => amtGet 3 a (legOf x.1 x.2 evs)
def staysOf (a : Nat) (evs : List Ev) (ks : List (Nat × Nat)) : Nat := sumBy ks fun x => amtPay 1 a (legOf x.1 x.2 evs)
def comesOf (a : Nat) (evs : List Ev) (ks : List (Nat × Nat)) : Nat := sumBy ks fun x => amtGet 1 a (legOf x.1 x.2 evs)
theorem amtPay_le (st a id l : Nat) (evs : List Ev) (hok : ∀ e, e ∈ evs → e.ok) : amtPay st a (legOf id l evs) ≤ 4294967295 := by
  have := (legOf_ok id l evs hok).2.2.2.2.2.2.2.2
  unfold amtPay
  split <;> omega
theorem amtGet_le (st a id l : Nat) (evs : List Ev) (hok : ∀ e, e ∈ evs → e.ok) : amtGet st a (legOf id l evs) ≤ 4294967295 := by
  have := (legOf_ok id l evs hok).2.2.2.2.2.2.2.2
  unfold amtGet
  split <;> omega
theorem sums_bd (a : Nat) (evs : List Ev) (hok : ∀ e, e ∈ evs → e.ok) (ks : List (Nat × Nat)) (h : ks.length ≤ 1000000) :
    outOf a evs ks ≤ 4294967295000000 ∧ inOf a evs ks ≤ 4294967295000000 ∧ staysOf a evs ks ≤ 4294967295000000 ∧ comesOf a evs ks ≤ 4294967295000000 := by
  have h1 : outOf a evs ks ≤ ks.length * 4294967295 := sumBy_le ks _ 4294967295 fun x => amtPay_le _ _ _ _ _ hok
  have h2 : inOf a evs ks ≤ ks.length * 4294967295 := sumBy_le ks _ 4294967295 fun x => amtGet_le _ _ _ _ _ hok
  have h3 : staysOf a evs ks ≤ ks.length * 4294967295 := sumBy_le ks _ 4294967295 fun x => amtPay_le _ _ _ _ _ hok
  have h4 : comesOf a evs ks ≤ ks.length * 4294967295 := sumBy_le ks _ 4294967295 fun x => amtGet_le _ _ _ _ _ hok
  have h5 : ks.length * 4294967295 ≤ 1000000 * 4294967295 := Nat.mul_le_mul_right _ h
  omega
end Go.Proofs.YtjkhbjgfoopomaaGreat
