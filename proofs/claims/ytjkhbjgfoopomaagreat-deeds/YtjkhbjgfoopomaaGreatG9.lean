import Derived.Test.YtjkhbjgfoopomaaGreatG3
import Derived.Deep.RegionLaw
import Derived.Test.YtjkhbjgfoopomaaGreatG8
import Derived.Test.YtjkhbjgfoopomaaGreatG6
import Derived.Deep.RegionHeld3
import Derived.BigQuiet
import Derived.Test.YtjkhbjgfoopomaaGreatFault
import Derived.Lib.ConvBytes
import Derived.Test.YtjkhbjgfoopomaaGreatG4
import Derived.WalkKit
import Derived.Test.YtjkhbjgfoopomaaGreatG5
/-
  append of one struct to a row of structs, as one step of a region that draws its order.
-/
namespace Go.Proofs.YtjkhbjgfoopomaaGreat
open Go.RowKit
set_option linter.unusedVariables false
theorem step_row {P : Program} {ops : Array Oper} {o : Oper} {a : Act} {K : Act → World → Prop} {Q : Exit → Act → World → Prop} {E : Prop} {α : Type} {f : α → List Value} {sz : Nat} (hf : ∀ x, (f x).length = sz) {W : World} (hgd : o.guard = none) (s x : Operand) (t : TypeId)
    (ho : o.op = .call { callee := .builtin .append, args := #[s, x], argTypes := #[t, t] }) (e : TypeId) (i : TypeInfo) (z : Value) (bytes : Nat) (ht : P.underlying t = some (.slice e)) (hi : P.info? e = some i) (hz : i.zero = some z)
    (hsize : i.size = sz) (hby : i.bytes = bytes) (hzs : z.cells.size = sz) (hsz : 0 < sz) (v : Value) (xs : List α) (b c : Nat) (y : α) (h1 : ∀ u ∈ f y, u.oneCell' = true) (h63 : xs.length + 1 ≤ maxLen) (hbytes : (xs.length + 1) * bytes ≤ 140737488355328)
    (hs : a.eval s = v) (hx : a.eval x = .slice (some ⟨b, 0, none⟩) 1 c) (hrow : RowOf W e sz f v xs) (hb : W.heap[b]? = some (.cells (f y).toArray e (0, 0)))
    (h : ∀ g cap w', RowOf w' e sz f (.slice (some ⟨g, 0, none⟩) (xs.length + 1) cap) (xs ++ [y]) → Kept (fun k => v.ownBlock = some k) W w' → (v.ownBlock = some g ∨ W.heap.size ≤ g) → g < w'.heap.size → K (a.put o.dst (.slice (some ⟨g, 0, none⟩) (xs.length + 1) cap)) w') :
    if Region.wanted o (yielded ops a.tmps) = true then Oper.wp P o a W K Q else E := by
  refine step_append_lies _ hgd s x t ho 0 e i z sz bytes ht hi hz hsize hby hzs hsz v xs.length (xs.flatMap f) hs hrow ⟨b, 0, none⟩ 1 c (f y) hx (by rw [hf]; omega) ?_ h1 (by decide) h63 hbytes (Nat.zero_le _) _ rfl ?_
  · intro j u hu
    exact World.news_of_block hb j u hu
  · intro g cap w' hown hgrow hat hlt
    refine h g cap w' (RowOf.to (xs := xs) hf hown (by simp) (by simp)) (Kept.of_grown hgrow) ?_ hlt
    rcases hat with h' | h'
    · exact .inl h'
    · exact .inr (by omega)
end Go.Proofs.YtjkhbjgfoopomaaGreat
/-
  The program's Bank.Open.
-/
namespace Go.Proofs.YtjkhbjgfoopomaaGreat
open Go.RowKit
set_option linter.unusedVariables false
set_option linter.unusedSimpArgs false

/-- the blocks of a bank -/
def xfoot (B : Nat) (va vl : Value) (k : Nat) : Prop := k = B ∨ va.ownBlock = some k ∨ vl.ownBlock = some k
/-- they are apart -/
structure Apart (B : Nat) (va vl : Value) : Prop where
  a : va.ownBlock ≠ some B
  l : vl.ownBlock ≠ some B
  al : ∀ g, va.ownBlock = some g → vl.ownBlock ≠ some g
/-- the program's bank has gone on -/
structure XBTo (w w' : World) (B node : Nat) (ac' : List Ac) (ls' : List Lg) (va vl va' vl' : Value) : Prop where
  xb : XB w' B node ac' ls' va' vl'
  kept : Kept (xfoot B va vl) w w'
  owna : ∀ g, va'.ownBlock = some g → va.ownBlock = some g ∨ w.heap.size ≤ g
  ownl : ∀ g, vl'.ownBlock = some g → vl.ownBlock = some g ∨ w.heap.size ≤ g
  ap : Apart B va' vl'
theorem XBTo.same {w u : World} {B node : Nat} {ac : List Ac} {ls : List Lg} {va vl : Value} (hX : XB w B node ac ls va vl) (hap : Apart B va vl) (hb : Below w.heap.size w u) : XBTo w u B node ac ls va vl va vl :=
  ⟨hX.below hb, Kept.of_below hb, fun g h => .inl h, fun g h => .inl h, hap⟩
theorem XBTo.from {w w1 w2 : World} {B node : Nat} {ac' : List Ac} {ls' : List Lg} {va vl va' vl' : Value} (hb : Below w.heap.size w w1) (h : XBTo w1 w2 B node ac' ls' va vl va' vl') : XBTo w w2 B node ac' ls' va vl va' vl' :=
  ⟨h.xb, (Kept.of_below hb).trans h.kept (fun i hi => .inl hi), fun g hg => (h.owna g hg).imp_right (fun x => Nat.le_trans hb.size x), fun g hg => (h.ownl g hg).imp_right (fun x => Nat.le_trans hb.size x), h.ap⟩
theorem XBTo.then {w u u2 : World} {B node : Nat} {ac' : List Ac} {ls' : List Lg} {va vl va' vl' : Value} (h : XBTo w u B node ac' ls' va vl va' vl') (hb : Below u.heap.size u u2) : XBTo w u2 B node ac' ls' va vl va' vl' :=
  ⟨h.xb.below hb, h.kept.trans (Kept.of_below (S := fun _ => False) hb) (fun i hi => hi.elim), h.owna, h.ownl, h.ap⟩
/-- what Open logs -/
def openTextOf (a b : Nat) : List UInt8 := 79 :: (be 2 a ++ be 4 b)
end Go.Proofs.YtjkhbjgfoopomaaGreat
/-
  The program's Bank.carryOut.
-/
namespace Go.Proofs.YtjkhbjgfoopomaaGreat
open Go.RowKit
set_option linter.unusedVariables false
set_option linter.unusedSimpArgs false

theorem XBTo.drew {w u : World} {B node : Nat} {ac' : List Ac} {ls' : List Lg} {va vl va' vl' : Value} (h : XBTo w u B node ac' ls' va vl va' vl') : XBTo w u.drew B node ac' ls' va vl va' vl' := h.then ((Below.refl _ _).drew)
theorem XBTo.drewN {w u : World} {B node : Nat} {ac' : List Ac} {ls' : List Lg} {va vl va' vl' : Value} (h : XBTo w u B node ac' ls' va vl va' vl') (n : Nat) : XBTo w (u.drewN n) B node ac' ls' va vl va' vl' := h.then ⟨rfl, rfl, rfl, Nat.le_refl _, fun _ _ => rfl⟩
def Like (u u' : World) : Prop := u'.heap = u.heap ∧ u'.os = u.os ∧ u'.tape = u.tape ∧ u'.output = u.output
theorem Like.below {u u' : World} (h : Like u u') : Below u.heap.size u u' := ⟨h.2.1, h.2.2.1, h.2.2.2, by rw [h.1]; exact Nat.le_refl _, fun k _ => by rw [h.1]⟩
end Go.Proofs.YtjkhbjgfoopomaaGreat
/-
  The program's Bank.funds.
-/
namespace Go.Proofs.YtjkhbjgfoopomaaGreat
open Go.RowKit
set_option linter.unusedVariables false
set_option linter.unusedSimpArgs false

def balStep (a : Nat) (s : Nat) (x : Ac) : Nat := if x.n = a then x.b else s
def balL (a : Nat) (ac : List Ac) : Nat := ac.foldl (balStep a) 0
def payL (a : Nat) (x : Lg) : Nat := if x.st = 1 ∧ x.p = a then x.a else 0
def getL (a : Nat) (x : Lg) : Nat := if x.st = 1 ∧ x.g = a then x.a else 0
def heldL (a : Nat) (ls : List Lg) : Nat := (ls.map (payL a)).sum
def dueL (a : Nat) (ls : List Lg) : Nat := (ls.map (getL a)).sum
def fcells (x : Nat × Nat × Nat) : Array Value := #[.int .u32 (x.1 : Int), .int .u32 (x.2.1 : Int), .int .u32 (x.2.2 : Int)]
structure TwoF (w : World) (x y : Nat × Nat × Nat) (u : World) : Prop where
  bel : Below w.heap.size w u
  one : u.heap[w.heap.size]? = some (.cells (fcells x) 88 (0, 0))
  two : u.heap[w.heap.size + 1]? = some (.cells (fcells y) 88 (0, 0))
theorem TwoF.mk0 (w : World) : TwoF w (0, 0, 0) (0, 0, 0) ((w.alloc (.cells (fcells (0, 0, 0)) 88)).alloc (.cells (fcells (0, 0, 0)) 88)) := by
  refine ⟨((Below.refl _ _).alloc (Nat.le_refl _) _).alloc (by simp) _, ?_, ?_⟩
  · rw [Below.heap_alloc _ _ _ (by simp)]
    exact heap_alloc_self _ _
  · rw [show w.heap.size + 1 = (w.alloc (.cells (fcells (0, 0, 0)) 88)).heap.size from by simp]
    exact heap_alloc_self _ _
theorem TwoF.set {w u : World} {x y y' : Nat × Nat × Nat} (h : TwoF w x y u) (j : Nat) (c : Value) (hy : (fcells y).setIfInBounds j c = fcells y') : TwoF w x y' (u.setCell ⟨w.heap.size + 1, j, none⟩ c) := by
  have hk := Kept.of_setCell u ⟨w.heap.size + 1, j, none⟩ c
  refine ⟨h.bel.trans (hk.below h.bel.size (fun k e => by simp at e; omega)), by rw [hk.block _ (block_lt h.one) (by simp)]; exact h.one, ?_⟩
  rw [heap_set_self h.two, hy]
theorem TwoF.drewN {w u : World} {x y : Nat × Nat × Nat} (h : TwoF w x y u) (n : Nat) : TwoF w x y (u.drewN n) := ⟨⟨h.bel.os, h.bel.tape, h.bel.output, h.bel.size, h.bel.block⟩, h.one, h.two⟩
theorem TwoF.drew {w u : World} {x y : Nat × Nat × Nat} (h : TwoF w x y u) : TwoF w x y u.drew := ⟨h.bel.drew, h.one, h.two⟩
theorem TwoF.putOne {w u : World} {x y : Nat × Nat × Nat} (h : TwoF w x y u) (z : Nat × Nat × Nat) : TwoF w z y (putL u w.heap.size 0 (fcells z).toList) :=
  have hk := putL_kept (fcells z).toList u w.heap.size 0
  ⟨h.bel.trans (hk.below h.bel.size (fun k e => by omega)), putL_whole _ h.one rfl, by rw [hk.block _ (block_lt h.two) (by omega)]; exact h.two⟩

end Go.Proofs.YtjkhbjgfoopomaaGreat
/-
  The program's Bank.keep: a new leg in its place.
-/
namespace Go.Proofs.YtjkhbjgfoopomaaGreat
open Go.RowKit
set_option linter.unusedVariables false
set_option linter.unusedSimpArgs false

theorem wrap_nat (n : Nat) (h : n < 1000) : IntKind.i64.wrap (n : Int) = (n : Int) := by rw [IntKind.wrap_i64]; omega
/-- the legs are written in place -/
theorem XBTo.rowL {w u u' : World} {B node : Nat} {ac : List Ac} {ls1 ls2 : List Lg} {va vl vl1 : Value} (h : XBTo w u B node ac ls1 va vl va vl1) (hk : Kept (fun k => vl1.ownBlock = some k) u u') (hrow : RowOf u' 188 7 Lg.cells vl1 ls2) : XBTo w u' B node ac ls2 va vl va vl1 :=
  ⟨⟨by rw [hk.block B h.xb.lt h.ap.l]; exact h.xb.blk, h.xb.arow.kept hk (fun g h' e => h.ap.al g h' e), hrow⟩, h.kept.trans hk (fun i hi => (h.ownl i hi).imp_left (fun x => .inr (.inr x))), h.owna, h.ownl, h.ap⟩
theorem XBTo.putL {w u : World} {B node : Nat} {ac : List Ac} {ls1 : List Lg} {va vl : Value} {g n cap : Nat} (h : XBTo w u B node ac ls1 va vl va (.slice (some ⟨g, 0, none⟩) n cap)) (k : Nat) (hk : k < ls1.length) (x : Lg) :
    XBTo w (putL u g (k * 7) x.cells) B node ac (ls1.set k x) va vl va (.slice (some ⟨g, 0, none⟩) n cap) :=
  h.rowL ((putL_kept x.cells u g (k * 7)).mono (fun i _ e => by subst e; rfl)) (h.xb.lrow.put Lg.cells_length rfl k hk x)

def aheadB (x y : Lg) : Bool := decide (x.id < y.id ∨ (x.id = y.id ∧ x.l < y.l))
/-- with x at place k -/
def insAt (x : Lg) (k : Nat) (ls : List Lg) : List Lg := ls.take k ++ x :: ls.drop k
theorem insAt_length (x : Lg) (k : Nat) (ls : List Lg) : (insAt x k ls).length = ls.length + 1 := by simp [insAt]; omega
end Go.Proofs.YtjkhbjgfoopomaaGreat
/-
  The program's termsOf, New.
-/
namespace Go.Proofs.YtjkhbjgfoopomaaGreat
open Go.RowKit
set_option linter.unusedVariables false
set_option linter.unusedSimpArgs false

/-- the bytes of a text, laid anew -/
theorem bytes_laid2 (w : World) (F : List UInt8) : ∃ (W : World) (cap : Nat),
    (∀ ty : World, ty = w → (convert 9 131 (.string (bs F))).run Tryz.prog ty = .ok (.slice (some ⟨w.heap.size, 0, none⟩) F.length cap) W) ∧
    Below w.heap.size w W ∧ W.heap.size = w.heap.size + 1 ∧ (∀ j, j < F.length → W.cell? ⟨w.heap.size, j, none⟩ = some (.int .u8 ((F.getD j 0).toNat : Int))) ∧ (∀ j, j < F.length → W.frozen? ⟨w.heap.size, j, none⟩ = false) := by
  have hsz := bs_size F
  have hcs : F.length ≤ (Lib.bytesCells w 5 (bs F)).size := by
    have e : (bs F).data.size = F.length := by simp [bs]
    simp [Lib.bytesCells, e]
  refine ⟨Lib.bytesWorld w 5 (bs F), grownCap w F.length 0 5, fun ty h => ?_, ?_, Lib.bytesWorld_size _ _ _, fun j hj => ?_, fun j hj => ?_⟩
  · subst h
    have h := Lib.run_convert_string_bytes (P := Tryz.prog) ty 9 131 5 (bs F) Tryz.underlying9 Tryz.underlying131 Tryz.underlying5
    rw [hsz] at h
    exact h
  · exact ⟨rfl, rfl, rfl, by rw [Lib.bytesWorld_size]; omega, fun k hk => Lib.bytesWorld_at_old _ _ _ k hk⟩
  · have h := Lib.bytesWorld_cell w 5 (bs F) j (by rw [hsz]; exact hj)
    rw [bs_data] at h
    exact h
  · unfold World.frozen?
    rw [Lib.bytesWorld_at_new]
    simp
    omega
theorem bytes_read (W : World) (N cap : Nat) (F : List UInt8) (hc : ∀ j, j < F.length → W.cell? ⟨N, j, none⟩ = some (.int .u8 ((F.getD j 0).toNat : Int))) :
    (convert 131 9 (.slice (some ⟨N, 0, none⟩) F.length cap)).run Tryz.prog W = .ok (.string (bs F)) W := by
  have h := run_convert_bytes_arg (P := Tryz.prog) W 131 5 Tryz.underlying131 Tryz.underlying5 N 0 F.length cap (F.map fun b => (b.toNat : Int)) (by simp) (fun j hj => by
    rw [Nat.zero_add, hc j hj]
    simp [List.getD_eq_getElem?_getD, List.getElem?_eq_getElem hj]) 9 Tryz.underlying9
  have hid : ((fun n : Int => UInt8.ofNat n.toNat) ∘ fun b : UInt8 => (b.toNat : Int)) = id := by
    funext b
    simp
  have e : strOfNums (F.map fun b => (b.toNat : Int)) = bs F := by rw [strOfNums_bs, List.map_map, hid, List.map_id]
  rw [h, e]
end Go.Proofs.YtjkhbjgfoopomaaGreat
/-
  The program's Bank.canHold.
-/
namespace Go.Proofs.YtjkhbjgfoopomaaGreat
open Go.RowKit
set_option linter.unusedVariables false
set_option linter.unusedSimpArgs false

def canX (p g a : Nat) (ac : List Ac) (ls : List Lg) : Bool := hasB p ac && (hasB g ac && (decide (heldL p ls + a ≤ balL p ac) && decide (balL g ac + dueL g ls + a ≤ 4294967295)))
end Go.Proofs.YtjkhbjgfoopomaaGreat
/-
  The document's Bank.Open.
-/
namespace Go.Proofs.YtjkhbjgfoopomaaGreat
open Go.RowKit
set_option linter.unusedVariables false
set_option linter.unusedSimpArgs false

/-- the document's bank has gone on -/
structure RBTo (w w' : World) (B node : Nat) (evs' : List Ev) (v v' : Value) : Prop where
  rb : RB w' B node evs' v'
  kept : Kept (fun k => k = B ∨ v.ownBlock = some k) w w'
  own : ∀ g, v'.ownBlock = some g → v.ownBlock = some g ∨ w.heap.size ≤ g
  ap : v'.ownBlock ≠ some B
theorem RBTo.from {w w1 w2 : World} {B node : Nat} {evs' : List Ev} {v v' : Value} (hb : Below w.heap.size w w1) (h : RBTo w1 w2 B node evs' v v') : RBTo w w2 B node evs' v v' :=
  ⟨h.rb, (Kept.of_below hb).trans h.kept (fun i hi => .inl hi), fun g hg => (h.own g hg).imp_right (fun x => Nat.le_trans hb.size x), h.ap⟩
theorem RB.grow {w w2 : World} {B node g n cap : Nat} {evs : List Ev} {e : Ev} {v : Value} (hR : RB w B node evs v) (hap : v.ownBlock ≠ some B) (hrow : RowOf w2 150 11 Ev.cells (.slice (some ⟨g, 0, none⟩) n cap) (evs ++ [e]))
    (hk : Kept (fun k => v.ownBlock = some k) w w2) (hg : v.ownBlock = some g ∨ w.heap.size ≤ g) : RBTo w (w2.setCell ⟨B, 1, none⟩ (.slice (some ⟨g, 0, none⟩) n cap)) B node (evs ++ [e]) v (.slice (some ⟨g, 0, none⟩) n cap) := by
  have hB : w2.heap[B]? = some (.cells #[.int .u8 (node : Int), v] 78 (0, 0)) := by rw [hk.block B hR.lt hap]; exact hR.blk
  have hgB : g ≠ B := by
    rcases hg with h | h
    · intro e; subst e; exact hap h
    · have := hR.lt; omega
  refine ⟨⟨heap_set_self hB 1 _, hrow.kept (Kept.of_setCell _ _ _) ?_⟩, ?_, ?_, ?_⟩
  · intro g' h'
    have : g' = g := by simpa [Value.ownBlock] using h'.symm
    subst this
    exact hgB
  · exact (hk.mono (fun i _ h => .inr h)).trans (Kept.of_setCell _ _ _) (fun i h => .inl (.inl h))
  · intro g' h'
    have : g' = g := by simpa [Value.ownBlock] using h'.symm
    subst this
    exact hg
  · intro h'
    exact hgB (by simpa [Value.ownBlock] using h')
end Go.Proofs.YtjkhbjgfoopomaaGreat
/-
  The document's Bank.first and Bank.kept.
-/
namespace Go.Proofs.YtjkhbjgfoopomaaGreat
open Go.RowKit
set_option linter.unusedVariables false
theorem _root_.Go.RowKit.Below.drewN {B : Nat} {a w : World} (h : Below B a w) (n : Nat) : Below B a (w.drewN n) := ⟨h.os, h.tape, h.output, h.size, h.block⟩

end Go.Proofs.YtjkhbjgfoopomaaGreat
/-
  Plain: what a frame says.
-/
namespace Go.Proofs.YtjkhbjgfoopomaaGreat

/-- the number that bytes say, the high one first -/
def val (l : List UInt8) : Nat := l.foldl (fun v b => v * 256 + b.toNat) 0
theorem val_snoc (l : List UInt8) (b : UInt8) : val (l ++ [b]) = val l * 256 + b.toNat := by simp [val, List.foldl_append]
theorem val_from (l : List UInt8) : ∀ (v k : Nat), v < 256 ^ k → l.foldl (fun v b => v * 256 + b.toNat) v < 256 ^ (k + l.length) := by
  induction l with
  | nil => intro v k h; exact h
  | cons b l ih =>
    intro v k h
    have hb := b.toNat_lt
    have := ih (v * 256 + b.toNat) (k + 1) (by rw [Nat.pow_succ]; omega)
    simp only [List.foldl_cons, List.length_cons]
    rwa [show k + (l.length + 1) = k + 1 + l.length by omega]
theorem val_lt (l : List UInt8) : val l < 256 ^ l.length := by
  have := val_from l 0 0 (by decide)
  rwa [Nat.zero_add] at this
theorem val_lt4 {l : List UInt8} (h : l.length ≤ 4) : val l < 4294967296 := by
  have h1 := val_lt l
  have h2 : 256 ^ l.length ≤ 256 ^ 4 := Nat.pow_le_pow_right (by decide) h
  omega
theorem val_lt2 {l : List UInt8} (h : l.length ≤ 2) : val l < 65536 := by
  have h1 := val_lt l
  have h2 : 256 ^ l.length ≤ 256 ^ 2 := Nat.pow_le_pow_right (by decide) h
  omega
theorem val_lt3 {l : List UInt8} (h : l.length ≤ 3) : val l < 16777216 := by
  have h1 := val_lt l
  have h2 : 256 ^ l.length ≤ 256 ^ 3 := Nat.pow_le_pow_right (by decide) h
  omega

/-- the byte at a place -/
def at8 (l : List UInt8) (i : Nat) : Nat := (l.getD i 0).toNat
theorem at8_lt (l : List UInt8) (i : Nat) : at8 l i < 256 := (l.getD i 0).toNat_lt
/-- from one place to another -/
def cut (l : List UInt8) (a b : Nat) : List UInt8 := (l.drop a).take (b - a)
theorem cut_length {l : List UInt8} {a b : Nat} (h : b ≤ l.length) : (cut l a b).length = b - a := by
  simp [cut]; omega
/-- what a text says, if it is a frame -/
def sayOf (l : List UInt8) : Msg := ⟨at8 l 1, at8 l 2, at8 l 3, val (cut l 4 8), at8 l 8, val (cut l 9 11), val (cut l 11 13), val (cut l 13 17), cut l 18 (l.length - 4)⟩
def formB (l : List UInt8) : Bool := decide (22 ≤ l.length) && decide (at8 l 0 = 69) && decide (l.length = 22 + at8 l 17)
def sealB (l : List UInt8) : Bool := decide (val (cut l (l.length - 4) l.length) = sumOf (cut l 0 (l.length - 4)))
/-- P5: the error of a text -/
def decErr (l : List UInt8) : Nat := if !formB l then 1 else if !sealB l then 2 else faultOf (sayOf l)
def Msg.zero : Msg := ⟨0, 0, 0, 0, 0, 0, 0, 0, []⟩
/-- P5: Decode -/
def decMsg (l : List UInt8) : Msg := if decErr l = 0 then sayOf l else Msg.zero
theorem sayOf_ok {l : List UInt8} (h : 22 ≤ l.length) : (sayOf l).ok :=
  ⟨at8_lt _ _, at8_lt _ _, at8_lt _ _, val_lt4 (by rw [cut_length (by omega)]; decide), at8_lt _ _, val_lt2 (by rw [cut_length (by omega)]; decide), val_lt2 (by rw [cut_length (by omega)]; decide), val_lt4 (by rw [cut_length (by omega)]; decide)⟩
theorem zero_ok : Msg.zero.ok := ⟨by decide, by decide, by decide, by decide, by decide, by decide, by decide, by decide⟩
end Go.Proofs.YtjkhbjgfoopomaaGreat
/-
  The walks over numbers in bytes.
-/
namespace Go.Proofs.YtjkhbjgfoopomaaGreat
open Go.RowKit
set_option linter.unusedVariables false

theorem u64_or_low (x : Nat) (b : UInt8) (hx : x < 72057594037927936) : bits .or .u64 ((x : Int) * 256) (b.toNat : Int) = ((x * 256 + b.toNat : Nat) : Int) := by
  have hb := byte_lt b
  rw [show (x : Int) * 256 = ((x * 256 : Nat) : Int) by omega, u64_or_nat _ _ (by omega) (by omega)]
  congr 1
  have := Nat.two_pow_add_eq_or_of_lt (i := 8) (b := b.toNat) (by omega) x
  rw [show x * 256 = 2 ^ 8 * x by omega, this]
theorem val_lt7 {l : List UInt8} (h : l.length ≤ 7) : val l < 72057594037927936 := by
  have h1 := val_lt l
  have h2 : 256 ^ l.length ≤ 256 ^ 7 := Nat.pow_le_pow_right (by decide) h
  omega
set_option maxRecDepth 100000 in
set_option maxHeartbeats 400000 in
theorem number_any (s : ByteArray) (hs : s.size ≤ 8) (w : World) :
    Calls Tryz.prog 115 #[.string s] w fun e w' => e = .returned (.int .u64 ((val s.data.toList : Nat) : Int)) ∧ w' = w := by
  go_enter Tryz.func115, Tryz.ntmps115
  go_wp2
  go_loop [3, 4] (fun c i => ∃ k : Nat, k ≤ s.size ∧ i = .int .i64 k ∧ c = .int .u64 ((val (s.data.toList.take k) : Nat) : Int)) (fun _ i => s.size - (intOf i).toNat)
  case atStart => exact ⟨0, Nat.zero_le _, rfl, rfl⟩
  case round =>
    obtain ⟨k, hk, rfl, rfl⟩ := hrel
    by_cases hlt : k < s.size
    · have hd : val (s.data.toList.take k) < 72057594037927936 := val_lt7 (by simp; omega)
      have hn : Hid (val (s.data.toList.take (k + 1)) = val (s.data.toList.take k) * 256 + s[k].toNat) := hide (by rw [take_snoc s k hlt, val_snoc])
      generalize val (s.data.toList.take k) = x at *
      have hb := byte_lt s[k]
      have e1 := u64_or_low x s[k] hd
      go_wp2
      exact ⟨⟨k + 1, by omega, by go_num, by rw [hn.out]; go_num⟩, by simp [intOf]; omega⟩
    · have hn : Hid (s.data.toList.take k = s.data.toList) := hide (List.take_of_length_le (by simp; omega))
      go_wp2
      go_ret
      exact ⟨ret_int (by rw [hn.out]), rfl⟩
set_option maxRecDepth 100000 in
set_option maxHeartbeats 400000 in
theorem value_any (s : ByteArray) (hs : s.size ≤ 4) (w : World) :
    Calls Tryz.prog 88 #[.string s] w fun e w' => e = .returned (.int .u64 ((val s.data.toList : Nat) : Int)) ∧ w' = w := by
  go_enter Tryz.func88, Tryz.ntmps88
  go_wp2
  go_loop [3, 4] (fun c i => ∃ k : Nat, k ≤ s.size ∧ i = .int .i64 k ∧ c = .int .u64 ((val (s.data.toList.take k) : Nat) : Int)) (fun _ i => s.size - (intOf i).toNat)
  case atStart => exact ⟨0, Nat.zero_le _, rfl, rfl⟩
  case round =>
    obtain ⟨k, hk, rfl, rfl⟩ := hrel
    by_cases hlt : k < s.size
    · have hd : val (s.data.toList.take k) < 16777216 := val_lt3 (by simp; omega)
      have hn : Hid (val (s.data.toList.take (k + 1)) = val (s.data.toList.take k) * 256 + s[k].toNat) := hide (by rw [take_snoc s k hlt, val_snoc])
      generalize val (s.data.toList.take k) = x at *
      have hb := byte_lt s[k]
      go_wp2
      exact ⟨⟨k + 1, by omega, by go_num, by rw [hn.out]; go_num⟩, by simp [intOf]; omega⟩
    · have hn : Hid (s.data.toList.take k = s.data.toList) := hide (List.take_of_length_le (by simp; omega))
      go_wp2
      go_ret
      exact ⟨ret_int (by rw [hn.out]), rfl⟩
end Go.Proofs.YtjkhbjgfoopomaaGreat
