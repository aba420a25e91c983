import Derived.Test.YtjkhbjgfoopomaaGreatRefFunds
import Derived.Test.YtjkhbjgfoopomaaGreatEncode
import Derived.Test.YtjkhbjgfoopomaaGreatRefLeg
import Derived.Test.YtjkhbjgfoopomaaGreatRefEncode
import Derived.Test.YtjkhbjgfoopomaaGreatMem2
import Derived.Deep.RegionHeld3
/-
  The document's Bank.can.
-/
namespace Go.Proofs.YtjkhbjgfoopomaaGreat
open Go.RowKit
set_option linter.unusedVariables false
set_option linter.unusedSimpArgs false

def balOf (a : Nat) (evs : List Ev) : Nat := (openedOf a evs).1 + inOf a evs (keysOf evs) - outOf a evs (keysOf evs)
def heldOf (a : Nat) (evs : List Ev) : Nat := staysOf a evs (keysOf evs)
def dueOf (a : Nat) (evs : List Ev) : Nat := comesOf a evs (keysOf evs)
def canB (x : Msg) (evs : List Ev) : Bool := (openedOf x.p evs).2.1 && ((openedOf x.g evs).2.1 && (decide (heldOf x.p evs + x.a ≤ balOf x.p evs) && decide (balOf x.g evs + dueOf x.g evs + x.a ≤ 4294967295)))
theorem bals_bd (a : Nat) (evs : List Ev) (hok : ∀ e, e ∈ evs → e.ok) (hlen : evs.length ≤ 1000000) : balOf a evs ≤ 4294971589967296 ∧ heldOf a evs ≤ 4294967295000000 ∧ dueOf a evs ≤ 4294967295000000 := by
  have h1 := sums_bd a evs hok (keysOf evs) (Nat.le_trans (keysTo_length _ _) hlen)
  have h2 := openedOf_bd a evs hok
  unfold balOf heldOf dueOf
  omega

set_option maxRecDepth 100000 in
set_option maxHeartbeats 1000000 in
theorem can_any (x : Msg) (hx : x.ok) (w : World) (B node : Nat) (evs : List Ev) (v : Value) (hR : RB w B node evs v) (hok : ∀ e, e ∈ evs → e.ok) (hlen : evs.length ≤ 1000000)
    (hge : ∀ a, outOf a evs (keysOf evs) ≤ (openedOf a evs).1 + inOf a evs (keysOf evs)) :
    Calls Tryz.prog 64 #[.pointer (some ⟨B, 0, none⟩), x.v] w fun e w' => e = .returned (.bool (canB x evs)) ∧ Below w.heap.size w w' := by
  have hF1 := hide (fun u (hu : RB u B node evs v) => funds_any x.p hx.2.2.2.2.2.1 u B node evs v hu hok hlen (hge x.p))
  have hF2 := hide (fun u (hu : RB u B node evs v) => funds_any x.g hx.2.2.2.2.2.2.1 u B node evs v hu hok hlen (hge x.g))
  have hz : Hid (canB x evs = ((openedOf x.p evs).2.1 && ((openedOf x.g evs).2.1 && (decide (heldOf x.p evs + x.a ≤ balOf x.p evs) && decide (balOf x.g evs + dueOf x.g evs + x.a ≤ 4294967295))))) := hide rfl
  have b1 := bals_bd x.p evs hok hlen
  have b2 := bals_bd x.g evs hok hlen
  change Hid (∀ u, RB u B node evs v → Calls Tryz.prog 26 #[.pointer (some ⟨B, 0, none⟩), .int .u16 (x.p : Int)] u fun e w' => e = .returned (.tuple #[.int .u64 (balOf x.p evs : Int), .int .u64 (heldOf x.p evs : Int), .int .u64 (dueOf x.p evs : Int), .bool (openedOf x.p evs).2.1]) ∧ Below u.heap.size u w') at hF1
  change Hid (∀ u, RB u B node evs v → Calls Tryz.prog 26 #[.pointer (some ⟨B, 0, none⟩), .int .u16 (x.g : Int)] u fun e w' => e = .returned (.tuple #[.int .u64 (balOf x.g evs : Int), .int .u64 (heldOf x.g evs : Int), .int .u64 (dueOf x.g evs : Int), .bool (openedOf x.g evs).2.1]) ∧ Below u.heap.size u w') at hF2
  clear hge
  generalize canB x evs = R at *
  generalize (openedOf x.p evs).2.1 = o1 at *
  generalize (openedOf x.g evs).2.1 = o2 at *
  generalize balOf x.p evs = bp at *
  generalize heldOf x.p evs = sp at *
  generalize dueOf x.p evs = dp at *
  generalize balOf x.g evs = bg at *
  generalize heldOf x.g evs = sg at *
  generalize dueOf x.g evs = dg at *
  obtain ⟨k, f, t, i, l, p, g, a, m⟩ := x
  obtain ⟨hk, hf, ht, hi, hl, hp, hg, ha⟩ := hx
  simp only [Msg.v, Msg.cells] at *
  obtain ⟨b11, b12, b13⟩ := b1
  obtain ⟨b21, b22, b23⟩ := b2
  have W1 : IntKind.u64.wrap ((sp : Int) + (a : Int)) = ((sp + a : Nat) : Int) := by rw [IntKind.wrap_u64]; omega
  have W2 : IntKind.u64.wrap ((bg : Int) + (dg : Int)) = ((bg + dg : Nat) : Int) := by rw [IntKind.wrap_u64]; omega
  have W3 : IntKind.u64.wrap (((bg + dg : Nat) : Int) + (a : Int)) = ((bg + dg + a : Nat) : Int) := by rw [IntKind.wrap_u64]; omega
  go_enter Tryz.func64, Tryz.ntmps64
  go_wp2_with fail
  refine (hF1.out _ (hR.below ((Below.refl _ _).alloc (Nat.le_refl _) _))).mono ?_
  rintro e w1 ⟨rfl, hb⟩
  have B1 := (Box.mk0 _ _ _).below hb
  have hc := B1.cell
  have hlt := B1.lt
  have hR1 := hR.below B1.bel
  clear hb hF1
  go_wp2_with fail
  refine (hF2.out _ hR1).mono ?_
  rintro e w2 ⟨rfl, hb⟩
  have B2 := B1.below hb
  clear hc
  have hc := B2.cell
  have hbel := B2.bel
  clear hb hF2 B1 B2 hR1 hR hlt
  cases o1 with
  | false =>
    have hq : Hid (R = false) := hide (by rw [hz.out]; simp)
    clear hz
    go_wp2
    go_ret
    exact ⟨by rw [hq.out]; rfl, hbel⟩
  | true =>
    cases o2 with
    | false =>
      have hq : Hid (R = false) := hide (by rw [hz.out]; simp)
      clear hz
      go_wp2
      go_ret
      exact ⟨by rw [hq.out]; rfl, hbel⟩
    | true =>
      by_cases h1 : sp + a ≤ bp
      · have d1 : decide ((sp : Int) + (a : Int) ≤ (bp : Int)) = true := by simp; omega
        have d1' : decide (((sp + a : Nat) : Int) ≤ (bp : Int)) = true := by simp; omega
        have d1'' : decide ((bp : Int) ≥ (sp : Int) + (a : Int)) = true := by simp; omega
        have hq : Hid (R = decide (bg + dg + a ≤ 4294967295)) := hide (by rw [hz.out]; simp [h1])
        have hq2 : Hid (decide ((bg : Int) + (dg : Int) + (a : Int) ≤ 4294967295) = decide (bg + dg + a ≤ 4294967295)) := hide (decide_eq_decide.2 (by omega))
        clear hz h1
        go_wp2
        go_ret
        exact ⟨by rw [hq.out, ← hq2.out]; rfl, hbel⟩
      · have d1 : decide ((sp : Int) + (a : Int) ≤ (bp : Int)) = false := by simp; omega
        have d1' : decide (((sp + a : Nat) : Int) ≤ (bp : Int)) = false := by simp; omega
        have hq : Hid (R = false) := hide (by rw [hz.out]; simp [h1])
        clear hz h1
        go_wp2
        go_ret
        exact ⟨by rw [hq.out]; rfl, hbel⟩
end Go.Proofs.YtjkhbjgfoopomaaGreat
/-
  The document's Bank.told.
-/
namespace Go.Proofs.YtjkhbjgfoopomaaGreat
open Go.RowKit
set_option linter.unusedVariables false
set_option linter.unusedSimpArgs false

/-- the kind of the answer to a leg's state, and its frame -/
def kindFor (st : Nat) : Nat := if st = 1 then 4 else if st = 2 then 5 else 6
def ansMsg (node id l st : Nat) : Msg := ⟨kindFor st, node, 0, id, l, 0, 0, 0, []⟩
def ansOf (node id l st : Nat) : List UInt8 := encOf (ansMsg node id l st)
theorem kindFor_lt (st : Nat) : kindFor st < 256 := by unfold kindFor; (repeat' split) <;> omega

set_option maxRecDepth 100000 in
set_option maxHeartbeats 1000000 in
theorem told_any (x : Msg) (hx : x.ok) (w : World) (B node : Nat) (hnode : node < 256) (evs : List Ev) (v : Value) (hR : RB w B node evs v) (hok : ∀ e, e ∈ evs → e.ok) (hlen : evs.length ≤ 1000000) :
    Calls Tryz.prog 65 #[.pointer (some ⟨B, 0, none⟩), x.v] w fun e w' => e = .returned (.string (bs (ansOf node x.i x.l (legOf x.i x.l evs).1))) ∧ Below w.heap.size w w' := by
  have hL := hide (fun u (hu : RB u B node evs v) => leg_any x.i x.l hx.2.2.2.1 hx.2.2.2.2.1 u B node evs v hu hok hlen)
  have hE := hide (fun st u => refEncode_any (ansMsg node x.i x.l st) ⟨kindFor_lt st, hnode, by show (0:Nat) < 256; omega, hx.2.2.2.1, hx.2.2.2.2.1, by show (0:Nat) < 65536; omega, by show (0:Nat) < 65536; omega, by show (0:Nat) < 4294967296; omega⟩ (by show (0:Nat) ≤ _; omega) u)
  change Hid (∀ st u, Calls Tryz.prog 51 #[(ansMsg node x.i x.l st).v] u fun e w' => e = .returned (.tuple #[.string (bs (ansOf node x.i x.l st)), .int .i64 ((faultOf (ansMsg node x.i x.l st) : Nat) : Int)]) ∧ Below u.heap.size u w') at hE
  generalize legOf x.i x.l evs = T at *
  obtain ⟨t1, ⟨nk, nf, nt, ni, nl, np, ng, na, nm⟩, t3⟩ := T
  obtain ⟨k, f, t, i, l, p, g, a, m⟩ := x
  obtain ⟨hk, hf, ht, hi, hl, hp, hg, ha⟩ := hx
  simp only [Msg.v, Msg.cells, ansMsg] at *
  have hEt := hide (hE.out t1)
  generalize ansOf node i l t1 = A at *
  generalize faultOf _ = fv at hEt
  clear hE
  have hc0 : ∀ o, _ = _ := fun o => cell_at hR.blk o
  have hBl := hR.lt
  go_enter Tryz.func65, Tryz.ntmps65
  go_wp2_with fail
  refine (hL.out _ (hR.below ((Below.refl _ _).alloc (Nat.le_refl _) _))).mono ?_
  rintro e w1 ⟨rfl, hb⟩
  have B1 := (Box.mk0 _ _ _).below hb
  have hc := B1.cell
  have hlt := B1.lt
  have hR1 := hR.below B1.bel
  clear hb hL hc0
  have hc0 : ∀ o, _ = _ := fun o => cell_at hR1.blk o
  have e0 : w1.cell? ⟨B, 0, none⟩ = some (.int .u8 (node : Int)) := hc0 0
  have e3 : w1.cell? ⟨w.heap.size, 3, none⟩ = some (.int .u32 (i : Int)) := hc 3
  have e4 : w1.cell? ⟨w.heap.size, 4, none⟩ = some (.int .u8 (l : Int)) := hc 4
  have hB1 : B < w1.heap.size := hR1.lt
  have hE1 : Hid (t1 = 1 → kindFor t1 = 4) := hide (by intro h; simp [kindFor, h])
  have hE2 : Hid (t1 = 2 → kindFor t1 = 5) := hide (by intro h; simp [kindFor, h])
  have hE3 : Hid (t1 ≠ 1 → t1 ≠ 2 → kindFor t1 = 6) := hide (by intro h1 h2; simp [kindFor, h1, h2])
  by_cases h1 : t1 = 1
  · have d1 : ((t1 : Int) == 1) = true := by simp; omega
    have d2 : ((t1 : Int) == 2) = false := by simp; omega
    have hEu : Hid (∀ u, Calls Tryz.prog 51 #[.agg #[.int .u8 4, .int .u8 (node : Int), .int .u8 0, .int .u32 (i : Int), .int .u8 (l : Int), .int .u16 0, .int .u16 0, .int .u32 0, .string ⟨#[]⟩]] u fun e w' => e = .returned (.tuple #[.string (bs A), .int .i64 (fv : Int)]) ∧ Below u.heap.size u w') := hide (by
      have h := hEt.out
      rw [hE1.out h1] at h
      exact h)
    clear h1 hEt hE1 hE2 hE3
    go_wp2_with fail
    go_region_held3 (fun u => (u.cell? ⟨B, 0, none⟩ = some (.int .u8 (node : Int)) ∧ u.cell? ⟨w.heap.size, 3, none⟩ = some (.int .u32 (i : Int)) ∧ u.cell? ⟨w.heap.size, 4, none⟩ = some (.int .u8 (l : Int))) ∧ Below w1.heap.size w1 u)
      (first
        | with_reducible exact keep3_start hB1 hlt hlt ⟨e0, e3, e4⟩ _
        | with_reducible exact keep3_call hB1 hlt hlt (by assumption) hb9)
      (first
        | (go_at_call 51; refine (hEu.out _).mono ?_; rintro e u2 ⟨rfl, hb9⟩))
    have B2 := B1.below (all_kept (undrew hb9))
    clear hb9 hEu hc hc0
    go_wp2
    go_ret
    exact ⟨rfl, B2.bel⟩
  · have d1 : ((t1 : Int) == 1) = false := by simp; omega
    by_cases h2 : t1 = 2
    · have d2 : ((t1 : Int) == 2) = true := by simp; omega
      have hEu : Hid (∀ u, Calls Tryz.prog 51 #[.agg #[.int .u8 5, .int .u8 (node : Int), .int .u8 0, .int .u32 (i : Int), .int .u8 (l : Int), .int .u16 0, .int .u16 0, .int .u32 0, .string ⟨#[]⟩]] u fun e w' => e = .returned (.tuple #[.string (bs A), .int .i64 (fv : Int)]) ∧ Below u.heap.size u w') := hide (by
        have h := hEt.out
        rw [hE2.out h2] at h
        exact h)
      clear h1 h2 hEt hE1 hE2 hE3
      go_wp2_with fail
      go_region_held3 (fun u => (u.cell? ⟨B, 0, none⟩ = some (.int .u8 (node : Int)) ∧ u.cell? ⟨w.heap.size, 3, none⟩ = some (.int .u32 (i : Int)) ∧ u.cell? ⟨w.heap.size, 4, none⟩ = some (.int .u8 (l : Int))) ∧ Below w1.heap.size w1 u)
        (first
          | with_reducible exact keep3_start hB1 hlt hlt ⟨e0, e3, e4⟩ _
          | with_reducible exact keep3_call hB1 hlt hlt (by assumption) hb9)
        (first
          | (go_at_call 51; refine (hEu.out _).mono ?_; rintro e u2 ⟨rfl, hb9⟩))
      have B2 := B1.below (all_kept (undrew hb9))
      clear hb9 hEu hc hc0
      go_wp2
      go_ret
      exact ⟨rfl, B2.bel⟩
    · have d2 : ((t1 : Int) == 2) = false := by simp; omega
      have hEu : Hid (∀ u, Calls Tryz.prog 51 #[.agg #[.int .u8 6, .int .u8 (node : Int), .int .u8 0, .int .u32 (i : Int), .int .u8 (l : Int), .int .u16 0, .int .u16 0, .int .u32 0, .string ⟨#[]⟩]] u fun e w' => e = .returned (.tuple #[.string (bs A), .int .i64 (fv : Int)]) ∧ Below u.heap.size u w') := hide (by
        have h := hEt.out
        rw [hE3.out h1 h2] at h
        exact h)
      clear h1 h2 hEt hE1 hE2 hE3
      go_wp2_with fail
      go_region_held3 (fun u => (u.cell? ⟨B, 0, none⟩ = some (.int .u8 (node : Int)) ∧ u.cell? ⟨w.heap.size, 3, none⟩ = some (.int .u32 (i : Int)) ∧ u.cell? ⟨w.heap.size, 4, none⟩ = some (.int .u8 (l : Int))) ∧ Below w1.heap.size w1 u)
        (first
          | with_reducible exact keep3_start hB1 hlt hlt ⟨e0, e3, e4⟩ _
          | with_reducible exact keep3_call hB1 hlt hlt (by assumption) hb9)
        (first
          | (go_at_call 51; refine (hEu.out _).mono ?_; rintro e u2 ⟨rfl, hb9⟩))
      have B2 := B1.below (all_kept (undrew hb9))
      clear hb9 hEu hc hc0
      go_wp2
      go_ret
      exact ⟨rfl, B2.bel⟩
end Go.Proofs.YtjkhbjgfoopomaaGreat
