import Derived.Test.YtjkhbjgfoopomaaGreatG6
import Derived.Deep.RegionHeld3
import Derived.Test.YtjkhbjgfoopomaaGreatG5
import Derived.Test.YtjkhbjgfoopomaaGreatG1
import Derived.Test.YtjkhbjgfoopomaaGreatG3
/-
  The walk over Encode, the document's.
-/
namespace Go.Proofs.YtjkhbjgfoopomaaGreat
open Go.RowKit
set_option linter.unusedVariables false
attribute [local go_sem] bs_size bs_append be_length

theorem refBytes1 (v : Nat) (hv : v < 256) (w : World) :
    Calls Tryz.prog 85 #[.int .u64 (v : Int), .int .i64 1] w fun e w' => e = .returned (.string (bs [UInt8.ofNat v])) ∧ Below w.heap.size w w' := by
  have h := refBytes_any v 1 (by omega) (by decide) w
  rw [← be1 v hv] at h
  exact h
theorem refBytes2 (v : Nat) (hv : v < 65536) (w : World) :
    Calls Tryz.prog 85 #[.int .u64 (v : Int), .int .i64 2] w fun e w' => e = .returned (.string (bs (be 2 v))) ∧ Below w.heap.size w w' :=
  refBytes_any v 2 (by omega) (by decide) w
theorem refBytes4 (v : Nat) (hv : v < 4294967296) (w : World) :
    Calls Tryz.prog 85 #[.int .u64 (v : Int), .int .i64 4] w fun e w' => e = .returned (.string (bs (be 4 v))) ∧ Below w.heap.size w w' :=
  refBytes_any v 4 (by omega) (by decide) w

theorem u64_wrap (n : Nat) (h : n < 18446744073709551616) : IntKind.u64.wrap (n : Int) = (n : Int) := by rw [IntKind.wrap_u64]; omega
theorem boxA {w u : World} {k f t i l p g a : Nat} {m : List UInt8} (h : Box w #[Value.int .u8 (k : Int), .int .u8 (f : Int), .int .u8 (t : Int), .int .u32 (i : Int), .int .u8 (l : Int), .int .u16 (p : Int), .int .u16 (g : Int), .int .u32 (a : Int), .string (bs m)] u) :
    (u.cell? ⟨w.heap.size, 0, none⟩ = some (.int .u8 (k : Int)) ∧ u.cell? ⟨w.heap.size, 1, none⟩ = some (.int .u8 (f : Int)) ∧ u.cell? ⟨w.heap.size, 2, none⟩ = some (.int .u8 (t : Int)) ∧ u.cell? ⟨w.heap.size, 3, none⟩ = some (.int .u32 (i : Int)) ∧ u.cell? ⟨w.heap.size, 4, none⟩ = some (.int .u8 (l : Int)) ∧ u.cell? ⟨w.heap.size, 5, none⟩ = some (.int .u16 (p : Int)) ∧ u.cell? ⟨w.heap.size, 6, none⟩ = some (.int .u16 (g : Int)) ∧ u.cell? ⟨w.heap.size, 7, none⟩ = some (.int .u32 (a : Int)) ∧ u.cell? ⟨w.heap.size, 8, none⟩ = some (.string (bs m))) ∧ Box w #[Value.int .u8 (k : Int), .int .u8 (f : Int), .int .u8 (t : Int), .int .u32 (i : Int), .int .u8 (l : Int), .int .u16 (p : Int), .int .u16 (g : Int), .int .u32 (a : Int), .string (bs m)] u :=
  ⟨⟨h.cell 0, h.cell 1, h.cell 2, h.cell 3, h.cell 4, h.cell 5, h.cell 6, h.cell 7, h.cell 8⟩, h⟩
theorem boxA2 {w u u' : World} {k f t i l p g a : Nat} {m : List UInt8} (h : (u.cell? ⟨w.heap.size, 0, none⟩ = some (.int .u8 (k : Int)) ∧ u.cell? ⟨w.heap.size, 1, none⟩ = some (.int .u8 (f : Int)) ∧ u.cell? ⟨w.heap.size, 2, none⟩ = some (.int .u8 (t : Int)) ∧ u.cell? ⟨w.heap.size, 3, none⟩ = some (.int .u32 (i : Int)) ∧ u.cell? ⟨w.heap.size, 4, none⟩ = some (.int .u8 (l : Int)) ∧ u.cell? ⟨w.heap.size, 5, none⟩ = some (.int .u16 (p : Int)) ∧ u.cell? ⟨w.heap.size, 6, none⟩ = some (.int .u16 (g : Int)) ∧ u.cell? ⟨w.heap.size, 7, none⟩ = some (.int .u32 (a : Int)) ∧ u.cell? ⟨w.heap.size, 8, none⟩ = some (.string (bs m))) ∧ Box w #[Value.int .u8 (k : Int), .int .u8 (f : Int), .int .u8 (t : Int), .int .u32 (i : Int), .int .u8 (l : Int), .int .u16 (p : Int), .int .u16 (g : Int), .int .u32 (a : Int), .string (bs m)] u) (hb : Below u.heap.size u u') :
    (u'.cell? ⟨w.heap.size, 0, none⟩ = some (.int .u8 (k : Int)) ∧ u'.cell? ⟨w.heap.size, 1, none⟩ = some (.int .u8 (f : Int)) ∧ u'.cell? ⟨w.heap.size, 2, none⟩ = some (.int .u8 (t : Int)) ∧ u'.cell? ⟨w.heap.size, 3, none⟩ = some (.int .u32 (i : Int)) ∧ u'.cell? ⟨w.heap.size, 4, none⟩ = some (.int .u8 (l : Int)) ∧ u'.cell? ⟨w.heap.size, 5, none⟩ = some (.int .u16 (p : Int)) ∧ u'.cell? ⟨w.heap.size, 6, none⟩ = some (.int .u16 (g : Int)) ∧ u'.cell? ⟨w.heap.size, 7, none⟩ = some (.int .u32 (a : Int)) ∧ u'.cell? ⟨w.heap.size, 8, none⟩ = some (.string (bs m))) ∧ Box w #[Value.int .u8 (k : Int), .int .u8 (f : Int), .int .u8 (t : Int), .int .u32 (i : Int), .int .u8 (l : Int), .int .u16 (p : Int), .int .u16 (g : Int), .int .u32 (a : Int), .string (bs m)] u' := boxA (h.2.below hb)
theorem bs_E (l : List UInt8) : (⟨#[69]⟩ : ByteArray) ++ bs l = bs (69 :: l) := ByteArray.mk_append_mk [69] l
attribute [local go_sem] bs_E
set_option maxRecDepth 100000 in
set_option maxHeartbeats 1000000 in
theorem refEncode_any (x : Msg) (hx : x.ok) (hm : x.m.length ≤ 140737488351232) (w : World) :
    Calls Tryz.prog 51 #[x.v] w fun e w' => e = .returned (.tuple #[.string (bs (encOf x)), .int .i64 ((faultOf x : Nat) : Int)]) ∧ Below w.heap.size w w' := by
  have hfault := hide (refFault_any x hx hm)
  have h64 : Hid (faultOf x = 0 → x.m.length ≤ 64) := hide fault_zero_memo
  have hz : Hid (encOf x = if faultOf x = 0 then frameOf x else []) := hide rfl
  obtain ⟨k, f, t, i, l, p, g, a, m⟩ := x
  obtain ⟨hk, hf, ht, hi, hl, hp, hg, ha⟩ := hx
  generalize faultOf ⟨k, f, t, i, l, p, g, a, m⟩ = fv at *
  simp only [Msg.v, Msg.cells] at *
  by_cases f0 : fv = 0
  · subst f0
    have hm64 := h64.out rfl
    have hz1 : Hid (encOf ⟨k, f, t, i, l, p, g, a, m⟩ = frameOf ⟨k, f, t, i, l, p, g, a, m⟩) := hide (by rw [hz.out]; simp)
    have hz2 : Hid (frameOf ⟨k, f, t, i, l, p, g, a, m⟩ = bodyOf ⟨k, f, t, i, l, p, g, a, m⟩ ++ be 4 (sumOf (bodyOf ⟨k, f, t, i, l, p, g, a, m⟩))) := hide rfl
    have hz3 : Hid (69 :: UInt8.ofNat k :: UInt8.ofNat f :: UInt8.ofNat t :: (be 4 i ++ UInt8.ofNat l :: (be 2 p ++ (be 2 g ++ (be 4 a ++ UInt8.ofNat m.length :: m)))) = bodyOf ⟨k, f, t, i, l, p, g, a, m⟩) := hide rfl
    have hz4 : Hid ((bodyOf ⟨k, f, t, i, l, p, g, a, m⟩).length = 18 + m.length) := hide (bodyOf_length _)
    clear h64 hz
    have wk := u64_wrap k (by omega)
    have wf := u64_wrap f (by omega)
    have wt := u64_wrap t (by omega)
    have wi := u64_wrap i (by omega)
    have wl := u64_wrap l (by omega)
    have wp := u64_wrap p (by omega)
    have wg := u64_wrap g (by omega)
    have wa := u64_wrap a (by omega)
    have wm := u64_wrap m.length (by omega)
    have hadd : ∀ u : World, (Op.stringOp .add (bs (be 4 a ++ [UInt8.ofNat m.length])) (bs m)).run Tryz.prog u = .ok (.string (bs (be 4 a ++ UInt8.ofNat m.length :: m))) u := fun u => by
      rw [run_string_add_sum u _ _ (by simp [bs_size, be_length]; omega), bs_append, List.append_assoc]
      rfl
    go_enter Tryz.func51, Tryz.ntmps51
    go_wp2_with fail
    refine (hfault.out _).mono ?_
    rintro e w1 ⟨rfl, hb⟩
    have B1 := (Box.mk0 _ _ _).below hb
    have hc := B1.cell
    have hlt := B1.lt
    clear hb hfault
    go_wp2_with fail
    go_region_held3 (fun u => (u.cell? ⟨w.heap.size, 0, none⟩ = some (.int .u8 (k : Int)) ∧ u.cell? ⟨w.heap.size, 1, none⟩ = some (.int .u8 (f : Int)) ∧ u.cell? ⟨w.heap.size, 2, none⟩ = some (.int .u8 (t : Int)) ∧ u.cell? ⟨w.heap.size, 3, none⟩ = some (.int .u32 (i : Int)) ∧ u.cell? ⟨w.heap.size, 4, none⟩ = some (.int .u8 (l : Int)) ∧ u.cell? ⟨w.heap.size, 5, none⟩ = some (.int .u16 (p : Int)) ∧ u.cell? ⟨w.heap.size, 6, none⟩ = some (.int .u16 (g : Int)) ∧ u.cell? ⟨w.heap.size, 7, none⟩ = some (.int .u32 (a : Int)) ∧ u.cell? ⟨w.heap.size, 8, none⟩ = some (.string (bs m))) ∧ Box w #[Value.int .u8 (k : Int), .int .u8 (f : Int), .int .u8 (t : Int), .int .u32 (i : Int), .int .u8 (l : Int), .int .u16 (p : Int), .int .u16 (g : Int), .int .u32 (a : Int), .string (bs m)] u) ((first | exact boxA B1.drew | exact boxA2 (by assumption) hb))
      (first
        | (go_at_call_of 85 (Value.int .u64 (k : Int)); refine (refBytes1 k hk _).mono ?_; rintro e u2 ⟨rfl, hb⟩)
        | (go_at_call_of 85 (Value.int .u64 (f : Int)); refine (refBytes1 f hf _).mono ?_; rintro e u2 ⟨rfl, hb⟩)
        | (go_at_call_of 85 (Value.int .u64 (t : Int)); refine (refBytes1 t ht _).mono ?_; rintro e u2 ⟨rfl, hb⟩))
    have B2 : Box w #[Value.int .u8 (k : Int), .int .u8 (f : Int), .int .u8 (t : Int), .int .u32 (i : Int), .int .u8 (l : Int), .int .u16 (p : Int), .int .u16 (g : Int), .int .u32 (a : Int), .string (bs m)] u2 := And.right (by assumption)
    replace hc := B2.cell
    replace hlt := B2.lt
    clear hb B1
    go_wp2_with fail
    go_region_held3 (fun u => (u.cell? ⟨w.heap.size, 0, none⟩ = some (.int .u8 (k : Int)) ∧ u.cell? ⟨w.heap.size, 1, none⟩ = some (.int .u8 (f : Int)) ∧ u.cell? ⟨w.heap.size, 2, none⟩ = some (.int .u8 (t : Int)) ∧ u.cell? ⟨w.heap.size, 3, none⟩ = some (.int .u32 (i : Int)) ∧ u.cell? ⟨w.heap.size, 4, none⟩ = some (.int .u8 (l : Int)) ∧ u.cell? ⟨w.heap.size, 5, none⟩ = some (.int .u16 (p : Int)) ∧ u.cell? ⟨w.heap.size, 6, none⟩ = some (.int .u16 (g : Int)) ∧ u.cell? ⟨w.heap.size, 7, none⟩ = some (.int .u32 (a : Int)) ∧ u.cell? ⟨w.heap.size, 8, none⟩ = some (.string (bs m))) ∧ Box w #[Value.int .u8 (k : Int), .int .u8 (f : Int), .int .u8 (t : Int), .int .u32 (i : Int), .int .u8 (l : Int), .int .u16 (p : Int), .int .u16 (g : Int), .int .u32 (a : Int), .string (bs m)] u) ((first | exact boxA B2.drew | exact boxA2 (by assumption) hb))
      (first
        | (go_at_call_of 85 (Value.int .u64 (i : Int)); refine (refBytes4 i hi _).mono ?_; rintro e u2 ⟨rfl, hb⟩)
        | (go_at_call_of 85 (Value.int .u64 (l : Int)); refine (refBytes1 l hl _).mono ?_; rintro e u2 ⟨rfl, hb⟩)
        | (go_at_call_of 85 (Value.int .u64 (p : Int)); refine (refBytes2 p hp _).mono ?_; rintro e u2 ⟨rfl, hb⟩)
        | (go_at_call_of 85 (Value.int .u64 (g : Int)); refine (refBytes2 g hg _).mono ?_; rintro e u2 ⟨rfl, hb⟩))
    have B3 : Box w #[Value.int .u8 (k : Int), .int .u8 (f : Int), .int .u8 (t : Int), .int .u32 (i : Int), .int .u8 (l : Int), .int .u16 (p : Int), .int .u16 (g : Int), .int .u32 (a : Int), .string (bs m)] u2 := And.right (by assumption)
    replace hc := B3.cell
    replace hlt := B3.lt
    clear hb B2
    go_wp2_with fail
    go_region_held3 (fun u => (u.cell? ⟨w.heap.size, 0, none⟩ = some (.int .u8 (k : Int)) ∧ u.cell? ⟨w.heap.size, 1, none⟩ = some (.int .u8 (f : Int)) ∧ u.cell? ⟨w.heap.size, 2, none⟩ = some (.int .u8 (t : Int)) ∧ u.cell? ⟨w.heap.size, 3, none⟩ = some (.int .u32 (i : Int)) ∧ u.cell? ⟨w.heap.size, 4, none⟩ = some (.int .u8 (l : Int)) ∧ u.cell? ⟨w.heap.size, 5, none⟩ = some (.int .u16 (p : Int)) ∧ u.cell? ⟨w.heap.size, 6, none⟩ = some (.int .u16 (g : Int)) ∧ u.cell? ⟨w.heap.size, 7, none⟩ = some (.int .u32 (a : Int)) ∧ u.cell? ⟨w.heap.size, 8, none⟩ = some (.string (bs m))) ∧ Box w #[Value.int .u8 (k : Int), .int .u8 (f : Int), .int .u8 (t : Int), .int .u32 (i : Int), .int .u8 (l : Int), .int .u16 (p : Int), .int .u16 (g : Int), .int .u32 (a : Int), .string (bs m)] u) ((first | exact boxA B3.drew | exact boxA2 (by assumption) hb))
      (first
        | (go_at_call_of 85 (Value.int .u64 (a : Int)); refine (refBytes4 a ha _).mono ?_; rintro e u2 ⟨rfl, hb⟩)
        | (go_at_call_of 85 (Value.int .u64 (m.length : Int)); refine (refBytes1 m.length (by omega) _).mono ?_; rintro e u2 ⟨rfl, hb⟩))
    have B4 : Box w #[Value.int .u8 (k : Int), .int .u8 (f : Int), .int .u8 (t : Int), .int .u32 (i : Int), .int .u8 (l : Int), .int .u16 (p : Int), .int .u16 (g : Int), .int .u32 (a : Int), .string (bs m)] u2 := And.right (by assumption)
    clear hb B3 hc hlt
    go_wp2_with fail
    rw [hz3.out]
    clear hz3
    generalize bodyOf ⟨k, f, t, i, l, p, g, a, m⟩ = B at *
    have hBl : B.length ≤ 82 := by have := hz4.out; omega
    clear hz4
    refine (refSum_any (bs B) (by rw [bs_size]; unfold maxLen; omega) _).mono ?_
    rintro e w6 ⟨rfl, rfl⟩
    rw [bs_data]
    have hs := sumOf_lt B
    go_wp2_with fail
    refine (refBytes4 _ hs _).mono ?_
    rintro e w7 ⟨rfl, hb⟩
    have B6 := B4.below hb
    clear hb B4
    go_wp2
    go_ret2
    exact ⟨ret_pair (by rw [hz1.out, hz2.out]) rfl, B6.bel⟩
  · have hz1 : Hid (encOf ⟨k, f, t, i, l, p, g, a, m⟩ = []) := hide (by rw [hz.out]; simp [f0])
    have d0 : ((fv : Int) != 0) = true := by simp; omega
    clear h64 hz
    go_enter Tryz.func51, Tryz.ntmps51
    go_wp2_with fail
    refine (hfault.out _).mono ?_
    rintro e w1 ⟨rfl, hb⟩
    have B1 := (Box.mk0 _ _ _).below hb
    clear hb hfault
    go_wp2
    go_ret2
    exact ⟨by rw [hz1.out]; rfl, B1.bel⟩
end Go.Proofs.YtjkhbjgfoopomaaGreat
/-
  The document's Bank.Tick: plain, and the walk.
-/
namespace Go.Proofs.YtjkhbjgfoopomaaGreat
open Go.RowKit
set_option linter.unusedVariables false
set_option linter.unusedSimpArgs false

def txtCell (l : List UInt8) : List Value := [.string (bs l)]
theorem txtCell_length (l : List UInt8) : (txtCell l).length = 1 := rfl
theorem txt_one (e : List UInt8) : ∀ u ∈ txtCell e, u.oneCell' = true := by
  intro u hu
  simp only [txtCell, List.mem_cons, List.not_mem_nil, or_false] at hu
  subst hu
  rfl
theorem txtInfo : (Tryz.prog.info? 9).map (fun i => (i.zero, i.size, i.bytes)) = some (some (.string ByteArray.empty), 1, 16) := by kernel_rfl

def rankK (k : Nat × Nat) : Nat := k.1 * 4 + k.2
def keyE (e : Ev) : Nat × Nat := (e.msg.i, e.msg.l)
/-- an event whose leg is held and comes at nx or behind -/
def goodE (evs : List Ev) (nx : Nat) (e : Ev) : Prop := e.kind ≠ 0 ∧ (legOf e.msg.i e.msg.l evs).1 = 1 ∧ nx ≤ rankK (keyE e)
/-- the legs that are held, in their order -/
structure Helds (evs : List Ev) (hs : List (Nat × Nat)) : Prop where
  sort : hs.Pairwise fun a b => rankK a < rankK b
  mem : ∀ k, k ∈ hs ↔ ∃ e, e ∈ evs ∧ e.kind ≠ 0 ∧ keyE e = k ∧ (legOf k.1 k.2 evs).1 = 1
  few : ∀ e, e ∈ evs → e.kind ≠ 0 → e.msg.l < 4
def nextK (hs : List (Nat × Nat)) : Nat → Nat
  | 0 => 0
  | n + 1 => match hs[n]? with
    | none => 0
    | some k => rankK k + 1
theorem Helds.below {evs : List Ev} {hs : List (Nat × Nat)} (h : Helds evs hs) (n : Nat) (hn : n ≤ hs.length) (q : Nat) (hq : q < hs.length) : nextK hs n ≤ rankK hs[q] ↔ n ≤ q := by
  have hp := List.pairwise_iff_getElem.1 h.sort
  cases n with
  | zero => simp [nextK]
  | succ n =>
    have hn' : n < hs.length := hn
    simp only [nextK, List.getElem?_eq_getElem hn']
    constructor
    · intro h1
      rcases Nat.lt_or_ge n q with x | x
      · omega
      · rcases Nat.lt_or_ge q n with y | y
        · have := hp q n hq hn' y
          omega
        · obtain rfl : q = n := by omega
          omega
    · intro h1
      have := hp n q hn' hq h1
      omega
theorem Helds.ofEvent {evs : List Ev} {hs : List (Nat × Nat)} (h : Helds evs hs) (n : Nat) (hn : n ≤ hs.length) (e : Ev) (he : e ∈ evs) (hg : goodE evs (nextK hs n) e) : ∃ q, ∃ hq : q < hs.length, hs[q] = keyE e ∧ n ≤ q := by
  obtain ⟨q, hq, hk⟩ := List.getElem_of_mem ((h.mem (keyE e)).2 ⟨e, he, hg.1, rfl, hg.2.1⟩)
  exact ⟨q, hq, hk, (h.below n hn q hq).1 (by rw [hk]; exact hg.2.2)⟩
theorem Helds.toEvent {evs : List Ev} {hs : List (Nat × Nat)} (h : Helds evs hs) (n : Nat) (hn : n < hs.length) : ∃ j, ∃ hj : j < evs.length, goodE evs (nextK hs n) evs[j] ∧ keyE evs[j] = hs[n] := by
  obtain ⟨e, he, h0, hk, h1⟩ := (h.mem hs[n]).1 (List.getElem_mem hn)
  obtain ⟨j, hj, rfl⟩ := List.getElem_of_mem he
  refine ⟨j, hj, ⟨h0, ?_, ?_⟩, hk⟩
  · rw [← hk] at h1; exact h1
  · rw [hk]; exact (h.below n (by omega) n hn).2 (Nat.le_refl _)
theorem Helds.done {evs : List Ev} {hs : List (Nat × Nat)} (h : Helds evs hs) (n : Nat) (hn : n ≤ hs.length) (hno : ∀ j (hj : j < evs.length), ¬ goodE evs (nextK hs n) evs[j]) : n = hs.length := by
  rcases Nat.lt_or_ge n hs.length with x | x
  · obtain ⟨j, hj, hg, _⟩ := h.toEvent n x
    exact absurd hg (hno j hj)
  · omega
theorem Helds.next {evs : List Ev} {hs : List (Nat × Nat)} (h : Helds evs hs) (n : Nat) (hn : n ≤ hs.length) (j : Nat) (hj : j < evs.length) (hg : goodE evs (nextK hs n) evs[j]) (hmin : ∀ i (hi : i < evs.length), goodE evs (nextK hs n) evs[i] → rankK (keyE evs[j]) ≤ rankK (keyE evs[i])) : ∃ hn' : n < hs.length, hs[n] = keyE evs[j] := by
  obtain ⟨q, hq, hk, hnq⟩ := h.ofEvent n hn evs[j] (List.getElem_mem hj) hg
  have hn' : n < hs.length := by omega
  refine ⟨hn', ?_⟩
  obtain ⟨i, hi, hgi, hki⟩ := h.toEvent n hn'
  have h1 := hmin i hi hgi
  rw [hki, ← hk] at h1
  rcases Nat.lt_or_ge n q with x | x
  · have := List.pairwise_iff_getElem.1 h.sort n q hn' hq x
    omega
  · obtain rfl : q = n := by omega
    exact hk
/-- the least so far -/
def BestTo (evs : List Ev) (nx k : Nat) (best at_ : Int) : Prop :=
  (best = -1 ∧ at_ = -1 ∧ ∀ j (hj : j < evs.length), j < k → ¬ goodE evs nx evs[j]) ∨
  ∃ j, ∃ hj : j < evs.length, j < k ∧ at_ = (j : Int) ∧ best = (rankK (keyE evs[j]) : Int) ∧ goodE evs nx evs[j] ∧ ∀ i (hi : i < evs.length), i < k → goodE evs nx evs[i] → rankK (keyE evs[j]) ≤ rankK (keyE evs[i])
theorem BestTo.stay {evs : List Ev} {nx k : Nat} {b a : Int} (h : BestTo evs nx k b a) (hk : k < evs.length) (hn : ¬ goodE evs nx evs[k] ∨ (0 ≤ b ∧ b ≤ (rankK (keyE evs[k]) : Int))) : BestTo evs nx (k + 1) b a := by
  rcases h with ⟨h1, h2, h3⟩ | ⟨j, hj, h1, h2, h3, h4, h5⟩
  · left
    refine ⟨h1, h2, fun j hj hj2 => ?_⟩
    rcases Nat.lt_or_ge j k with x | x
    · exact h3 j hj x
    · obtain rfl : j = k := by omega
      rcases hn with hn | hn
      · exact hn
      · omega
  · right
    refine ⟨j, hj, by omega, h2, h3, h4, fun i hi hi2 hg => ?_⟩
    rcases Nat.lt_or_ge i k with x | x
    · exact h5 i hi x hg
    · obtain rfl : i = k := by omega
      rcases hn with hn | hn
      · exact absurd hg hn
      · omega
theorem BestTo.take {evs : List Ev} {nx k : Nat} {b a : Int} (h : BestTo evs nx k b a) (hk : k < evs.length) (hg : goodE evs nx evs[k]) (hb : b < 0 ∨ (rankK (keyE evs[k]) : Int) < b) : BestTo evs nx (k + 1) (rankK (keyE evs[k]) : Int) (k : Int) := by
  right
  refine ⟨k, hk, by omega, rfl, rfl, hg, fun i hi hi2 hgi => ?_⟩
  rcases Nat.lt_or_ge i k with x | x
  · rcases h with ⟨h1, h2, h3⟩ | ⟨j, hj, h1, h2, h3, h4, h5⟩
    · exact absurd hgi (h3 i hi x)
    · have := h5 i hi x hgi
      omega
  · obtain rfl : i = k := by omega
    exact Nat.le_refl _
theorem RowOf.slice {α : Type} {f : α → List Value} {sz : Nat} {w : World} {e : TypeId} {v : Value} {xs : List α} (h : RowOf w e sz f v xs) : ∃ ad cap, v = .slice ad xs.length cap := by
  rcases h.2 with ⟨h1, h2⟩ | ⟨g, cap, cur, h1, _⟩
  · exact ⟨none, 0, by rw [h1, h2]⟩
  · exact ⟨_, cap, h1⟩
end Go.Proofs.YtjkhbjgfoopomaaGreat
