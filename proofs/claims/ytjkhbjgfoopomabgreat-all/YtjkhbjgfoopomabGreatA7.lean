import Derived.Test.YtjkhbjgfoopomabGreatA6
import Derived.Deep.RegionHeld3
namespace Go.Proofs.YtjkhbjgfoopomabGreat
open Go.RowKit
set_option maxRecDepth 100000
set_option maxHeartbeats 1000000
set_option linter.unusedVariables false
attribute [local go_sem] conv1 bs_size bs_append
theorem be_pow (v i : Nat) : v / 256 ^ i / 256 = v / 256 ^ (i + 1) := by rw [Nat.div_div_eq_div_mul, Nat.pow_succ]
theorem refBytes_any (v n : Nat) (hv : v < 18446744073709551616) (hn : n ≤ 8) (w : World) :
  Calls Tryz.prog 133 #[.int .u64 (v : Int), .int .i64 (n : Int)] w fun e w' => e = .returned (.string (bs (be n v))) ∧ Below w.heap.size w w' := by
 go_enter Tryz.func133, Tryz.ntmps133
 go_wp2
 go_loopw [0, 5, 6] (fun a s i u => ∃ k : Nat, k ≤ n ∧ i = .int .i64 k ∧ a = .int .u64 ((v / 256 ^ k : Nat) : Int) ∧ s = .string (bs (be k v)) ∧ Below w.heap.size w u) (fun _ _ i _ => n - (intOf i).toNat)
 case atStart => exact ⟨0, by omega, rfl, by simp, rfl, Below.refl _ _⟩
 case round =>
  obtain ⟨k, hk, rfl, rfl, rfl, hbel⟩ := hrel;by_cases hlt : k < n
  ·have hs : Hid (be (k + 1) v = UInt8.ofNat (v / 256 ^ k % 256) :: be k v) := hide rfl;have hp : Hid (v / 256 ^ (k + 1) = v / 256 ^ k / 256) := hide (be_pow v k).symm;have hl := be_length k v;have hy : v / 256 ^ k < 18446744073709551616 := Nat.lt_of_le_of_lt (Nat.div_le_self _ _) hv;generalize v / 256 ^ k = y at *;generalize be k v = z at *;have hz : z.length ≤ 8 := by omega
   clear hl;go_wp2;exact ⟨⟨k + 1, by omega, by go_num, by rw [hp.out]; go_num, by rw [hs.out], hbel.alloc hbel.size _⟩, by simp [intOf]; omega⟩
  ·obtain rfl : k = n := by omega
   go_wp2;go_ret;exact ⟨rfl, hbel⟩
theorem wayB_down {k f t i l p g a : Nat} {m : List UInt8} (h : k ≤ 3) : wayB ⟨k, f, t, i, l, p, g, a, m⟩ = (decide (f = 0) && (decide (1 ≤ t) && decide (t ≤ 7))) := by simp [wayB, h, bankB]
theorem wayB_up {k f t i l p g a : Nat} {m : List UInt8} (h : ¬ k ≤ 3) : wayB ⟨k, f, t, i, l, p, g, a, m⟩ = (decide (t = 0) && (decide (1 ≤ f) && decide (f ≤ 7))) := by simp [wayB, h, bankB]
theorem refFault_down (k f t i l p g a : Nat) (m : List UInt8) (hx : (Msg.mk k f t i l p g a m).ok) (hm : m.length ≤ 140737488351232) (k1 : 1 ≤ k) (k6 : k ≤ 6) (k3 : k ≤ 3) (w : World) :
  Calls Tryz.prog 132 #[(Msg.mk k f t i l p g a m).v] w fun e w' => e = .returned (.int .i64 ((faultOf ⟨k, f, t, i, l, p, g, a, m⟩ : Nat) : Int)) ∧ Below w.heap.size w w' := by
 obtain ⟨hk, hf, ht, hi, hl, hp, hg, ha⟩ := hx
 simp only [Msg.v, Msg.cells] at *
 have dk1 : decide ((k : Int) < 1) = false := by simp; omega
 have dk6 : decide (6 < (k : Int)) = false := by simp; omega
 have dk3 : decide (3 < (k : Int)) = false := by simp; omega
 by_cases f0 : ¬ f = 0
 ·have E : True := trivial;have df : ((f : Int) != 0) = true := by simp; omega
  have e : Hid (faultOf ⟨k, f, t, i, l, p, g, a, m⟩ = 4) := hide (by simp [faultOf, kindB, k1, k6, wayB_down k3, f0]);clear E;go_enter Tryz.func132, Tryz.ntmps132;go_wp2_with fail
  go_ret;exact ⟨ret_int (by rw [e.out]; rfl), (Below.refl _ _).alloc (Nat.le_refl _) _⟩
 replace f0 := Decidable.of_not_not f0
 have df : ((f : Int) != 0) = false := by simp; omega
 by_cases t1 : ¬ 1 ≤ t
 ·have E : True := trivial;have dt : decide ((t : Int) < 1) = true := by simp; omega
  have e : Hid (faultOf ⟨k, f, t, i, l, p, g, a, m⟩ = 4) := hide (by simp [faultOf, kindB, k1, k6, wayB_down k3, t1]);clear E;go_enter Tryz.func132, Tryz.ntmps132;go_wp2_with fail
  go_ret;exact ⟨ret_int (by rw [e.out]; rfl), (Below.refl _ _).alloc (Nat.le_refl _) _⟩
 replace t1 := Decidable.of_not_not t1
 have dt : decide ((t : Int) < 1) = false := by simp; omega
 by_cases t7 : ¬ t ≤ 7
 ·have E : True := trivial;have dt7 : decide (7 < (t : Int)) = true := by simp; omega
  have e : Hid (faultOf ⟨k, f, t, i, l, p, g, a, m⟩ = 4) := hide (by simp [faultOf, kindB, k1, k6, wayB_down k3, t7]);clear E;go_enter Tryz.func132, Tryz.ntmps132;go_wp2_with fail
  go_ret;exact ⟨ret_int (by rw [e.out]; rfl), (Below.refl _ _).alloc (Nat.le_refl _) _⟩
 replace t7 := Decidable.of_not_not t7
 have dt7 : decide (7 < (t : Int)) = false := by simp; omega
 have E : Hid (faultOf ⟨k, f, t, i, l, p, g, a, m⟩ = if 4 ≤ l then 5 else if k = 1 then termsOf ⟨k, f, t, i, l, p, g, a, m⟩ else if bareB ⟨k, f, t, i, l, p, g, a, m⟩ then 0 else 3) := hide (by simp [faultOf, kindB, k1, k6, wayB_down k3, f0, t1, t7])
 clear f0
 by_cases l4 : 4 ≤ l
 ·have d1 : decide (3 < (l : Int)) = true := by simp; omega
  have e : Hid (faultOf ⟨k, f, t, i, l, p, g, a, m⟩ = 5) := hide (by rw [E.out]; simp [l4]);clear E;go_enter Tryz.func132, Tryz.ntmps132;go_wp2_with fail
  go_ret;exact ⟨ret_int (by rw [e.out]; rfl), (Below.refl _ _).alloc (Nat.le_refl _) _⟩
 ·have d1 : decide (3 < (l : Int)) = false := by simp; omega
  by_cases ke : k = 1
  ·have d2 : ((k : Int) != 1) = false := by simp; omega
   by_cases a0 : a = 0
   ·have d3 : decide ((a : Int) < 1) = true := by simp; omega
    have e : Hid (faultOf ⟨k, f, t, i, l, p, g, a, m⟩ = 6) := hide (by rw [E.out]; simp [l4, ke, termsOf, a0]);clear E;go_enter Tryz.func132, Tryz.ntmps132;go_wp2_with fail
    go_ret;exact ⟨ret_int (by rw [e.out]; rfl), (Below.refl _ _).alloc (Nat.le_refl _) _⟩
   ·have d3 : decide ((a : Int) < 1) = false := by simp; omega
    have e : Hid (faultOf ⟨k, f, t, i, l, p, g, a, m⟩ = if memoB m then 0 else 7) := hide (by rw [E.out]; simp [l4, ke, termsOf, a0]);clear E ke a0;have hms : (bs m).size ≤ 140737488351232 := by rw [bs_size]; exact hm
    have hmd := hide (bs_data m);go_enter Tryz.func132, Tryz.ntmps132;go_wp2_with fail
    refine (refMemo_any (bs m) hms _).mono ?_;rintro e w1 ⟨rfl, rfl⟩;rw [hmd.out];cases hb : memoB m with
    | true =>
     rw [hb] at e;clear hb;go_wp2;go_ret;exact ⟨ret_int (by rw [e.out]; rfl), (Below.refl _ _).alloc (Nat.le_refl _) _⟩
    | false =>
     rw [hb] at e;clear hb;go_wp2;go_ret;exact ⟨ret_int (by rw [e.out]; rfl), (Below.refl _ _).alloc (Nat.le_refl _) _⟩
  ·have d2 : ((k : Int) != 1) = true := by simp; omega
   by_cases p0 : ¬ p = 0
   ·have dd : decide (0 < (p : Int)) = true := by simp; omega
    have e : Hid (faultOf ⟨k, f, t, i, l, p, g, a, m⟩ = 3) := hide (by rw [E.out]; simp [l4, ke, bareB, p0]);clear E;go_enter Tryz.func132, Tryz.ntmps132;go_wp2_with fail
    go_ret;exact ⟨ret_int (by rw [e.out]; rfl), (Below.refl _ _).alloc (Nat.le_refl _) _⟩
   replace p0 := Decidable.of_not_not p0;have dp : decide (0 < (p : Int)) = false := by simp; omega
   by_cases g0 : ¬ g = 0
   ·have dd : decide (0 < (g : Int)) = true := by simp; omega
    have e : Hid (faultOf ⟨k, f, t, i, l, p, g, a, m⟩ = 3) := hide (by rw [E.out]; simp [l4, ke, bareB, g0]);clear E;go_enter Tryz.func132, Tryz.ntmps132;go_wp2_with fail
    go_ret;exact ⟨ret_int (by rw [e.out]; rfl), (Below.refl _ _).alloc (Nat.le_refl _) _⟩
   replace g0 := Decidable.of_not_not g0;have dg : decide (0 < (g : Int)) = false := by simp; omega
   by_cases a0 : ¬ a = 0
   ·have dd : decide (0 < (a : Int)) = true := by simp; omega
    have e : Hid (faultOf ⟨k, f, t, i, l, p, g, a, m⟩ = 3) := hide (by rw [E.out]; simp [l4, ke, bareB, a0]);clear E;go_enter Tryz.func132, Tryz.ntmps132;go_wp2_with fail
    go_ret;exact ⟨ret_int (by rw [e.out]; rfl), (Below.refl _ _).alloc (Nat.le_refl _) _⟩
   replace a0 := Decidable.of_not_not a0;have da : decide (0 < (a : Int)) = false := by simp; omega
   cases m with
   | nil =>
    have dm : (bs ([] : List UInt8)).size = 0 := by rw [bs_size]; rfl
    have e : Hid (faultOf ⟨k, f, t, i, l, p, g, a, []⟩ = 0) := hide (by rw [E.out]; simp [l4, ke, bareB, p0, g0, a0]);clear E;go_enter Tryz.func132, Tryz.ntmps132;go_wp2_with fail
    go_ret;exact ⟨ret_int (by rw [e.out]; rfl), (Below.refl _ _).alloc (Nat.le_refl _) _⟩
   | cons b r =>
    have dm : 0 < (bs (b :: r)).size := by rw [bs_size]; simp
    have e : Hid (faultOf ⟨k, f, t, i, l, p, g, a, b :: r⟩ = 3) := hide (by rw [E.out]; simp [l4, ke, bareB]);clear E;go_enter Tryz.func132, Tryz.ntmps132;go_wp2_with fail
    go_ret;exact ⟨ret_int (by rw [e.out]; rfl), (Below.refl _ _).alloc (Nat.le_refl _) _⟩
theorem refFault_up (k f t i l p g a : Nat) (m : List UInt8) (hx : (Msg.mk k f t i l p g a m).ok) (hm : m.length ≤ 140737488351232) (k1 : 1 ≤ k) (k6 : k ≤ 6) (k3 : ¬ k ≤ 3) (w : World) :
  Calls Tryz.prog 132 #[(Msg.mk k f t i l p g a m).v] w fun e w' => e = .returned (.int .i64 ((faultOf ⟨k, f, t, i, l, p, g, a, m⟩ : Nat) : Int)) ∧ Below w.heap.size w w' := by
 obtain ⟨hk, hf, ht, hi, hl, hp, hg, ha⟩ := hx
 simp only [Msg.v, Msg.cells] at *
 have dk1 : decide ((k : Int) < 1) = false := by simp; omega
 have dk6 : decide (6 < (k : Int)) = false := by simp; omega
 have dk3 : decide (3 < (k : Int)) = true := by simp; omega
 by_cases f0 : ¬ t = 0
 ·have E : True := trivial;have df : ((t : Int) != 0) = true := by simp; omega
  have e : Hid (faultOf ⟨k, f, t, i, l, p, g, a, m⟩ = 4) := hide (by simp [faultOf, kindB, k1, k6, wayB_up k3, f0]);clear E;go_enter Tryz.func132, Tryz.ntmps132;go_wp2_with fail
  go_ret;exact ⟨ret_int (by rw [e.out]; rfl), (Below.refl _ _).alloc (Nat.le_refl _) _⟩
 replace f0 := Decidable.of_not_not f0
 have df : ((t : Int) != 0) = false := by simp; omega
 by_cases t1 : ¬ 1 ≤ f
 ·have E : True := trivial;have dt : decide ((f : Int) < 1) = true := by simp; omega
  have e : Hid (faultOf ⟨k, f, t, i, l, p, g, a, m⟩ = 4) := hide (by simp [faultOf, kindB, k1, k6, wayB_up k3, t1]);clear E;go_enter Tryz.func132, Tryz.ntmps132;go_wp2_with fail
  go_ret;exact ⟨ret_int (by rw [e.out]; rfl), (Below.refl _ _).alloc (Nat.le_refl _) _⟩
 replace t1 := Decidable.of_not_not t1
 have dt : decide ((f : Int) < 1) = false := by simp; omega
 by_cases t7 : ¬ f ≤ 7
 ·have E : True := trivial;have dt7 : decide (7 < (f : Int)) = true := by simp; omega
  have e : Hid (faultOf ⟨k, f, t, i, l, p, g, a, m⟩ = 4) := hide (by simp [faultOf, kindB, k1, k6, wayB_up k3, t7]);clear E;go_enter Tryz.func132, Tryz.ntmps132;go_wp2_with fail
  go_ret;exact ⟨ret_int (by rw [e.out]; rfl), (Below.refl _ _).alloc (Nat.le_refl _) _⟩
 replace t7 := Decidable.of_not_not t7
 have dt7 : decide (7 < (f : Int)) = false := by simp; omega
 have E : Hid (faultOf ⟨k, f, t, i, l, p, g, a, m⟩ = if 4 ≤ l then 5 else if k = 1 then termsOf ⟨k, f, t, i, l, p, g, a, m⟩ else if bareB ⟨k, f, t, i, l, p, g, a, m⟩ then 0 else 3) := hide (by simp [faultOf, kindB, k1, k6, wayB_up k3, f0, t1, t7])
 clear f0
 by_cases l4 : 4 ≤ l
 ·have d1 : decide (3 < (l : Int)) = true := by simp; omega
  have e : Hid (faultOf ⟨k, f, t, i, l, p, g, a, m⟩ = 5) := hide (by rw [E.out]; simp [l4]);clear E;go_enter Tryz.func132, Tryz.ntmps132;go_wp2_with fail
  go_ret;exact ⟨ret_int (by rw [e.out]; rfl), (Below.refl _ _).alloc (Nat.le_refl _) _⟩
 ·have d1 : decide (3 < (l : Int)) = false := by simp; omega
  by_cases ke : k = 1
  ·omega
  ·have d2 : ((k : Int) != 1) = true := by simp; omega
   by_cases p0 : ¬ p = 0
   ·have dd : decide (0 < (p : Int)) = true := by simp; omega
    have e : Hid (faultOf ⟨k, f, t, i, l, p, g, a, m⟩ = 3) := hide (by rw [E.out]; simp [l4, ke, bareB, p0]);clear E;go_enter Tryz.func132, Tryz.ntmps132;go_wp2_with fail
    go_ret;exact ⟨ret_int (by rw [e.out]; rfl), (Below.refl _ _).alloc (Nat.le_refl _) _⟩
   replace p0 := Decidable.of_not_not p0;have dp : decide (0 < (p : Int)) = false := by simp; omega
   by_cases g0 : ¬ g = 0
   ·have dd : decide (0 < (g : Int)) = true := by simp; omega
    have e : Hid (faultOf ⟨k, f, t, i, l, p, g, a, m⟩ = 3) := hide (by rw [E.out]; simp [l4, ke, bareB, g0]);clear E;go_enter Tryz.func132, Tryz.ntmps132;go_wp2_with fail
    go_ret;exact ⟨ret_int (by rw [e.out]; rfl), (Below.refl _ _).alloc (Nat.le_refl _) _⟩
   replace g0 := Decidable.of_not_not g0;have dg : decide (0 < (g : Int)) = false := by simp; omega
   by_cases a0 : ¬ a = 0
   ·have dd : decide (0 < (a : Int)) = true := by simp; omega
    have e : Hid (faultOf ⟨k, f, t, i, l, p, g, a, m⟩ = 3) := hide (by rw [E.out]; simp [l4, ke, bareB, a0]);clear E;go_enter Tryz.func132, Tryz.ntmps132;go_wp2_with fail
    go_ret;exact ⟨ret_int (by rw [e.out]; rfl), (Below.refl _ _).alloc (Nat.le_refl _) _⟩
   replace a0 := Decidable.of_not_not a0;have da : decide (0 < (a : Int)) = false := by simp; omega
   cases m with
   | nil =>
    have dm : (bs ([] : List UInt8)).size = 0 := by rw [bs_size]; rfl
    have e : Hid (faultOf ⟨k, f, t, i, l, p, g, a, []⟩ = 0) := hide (by rw [E.out]; simp [l4, ke, bareB, p0, g0, a0]);clear E;go_enter Tryz.func132, Tryz.ntmps132;go_wp2_with fail
    go_ret;exact ⟨ret_int (by rw [e.out]; rfl), (Below.refl _ _).alloc (Nat.le_refl _) _⟩
   | cons b r =>
    have dm : 0 < (bs (b :: r)).size := by rw [bs_size]; simp
    have e : Hid (faultOf ⟨k, f, t, i, l, p, g, a, b :: r⟩ = 3) := hide (by rw [E.out]; simp [l4, ke, bareB]);clear E;go_enter Tryz.func132, Tryz.ntmps132;go_wp2_with fail
    go_ret;exact ⟨ret_int (by rw [e.out]; rfl), (Below.refl _ _).alloc (Nat.le_refl _) _⟩
theorem refFault_any (x : Msg) (hx : x.ok) (hm : x.m.length ≤ 140737488351232) (w : World) :
  Calls Tryz.prog 132 #[x.v] w fun e w' => e = .returned (.int .i64 ((faultOf x : Nat) : Int)) ∧ Below w.heap.size w w' := by
 obtain ⟨k, f, t, i, l, p, g, a, m⟩ := x
 by_cases k1 : 1 ≤ k
 ·by_cases k6 : k ≤ 6
  ·by_cases k3 : k ≤ 3
   ·exact refFault_down k f t i l p g a m hx hm k1 k6 k3 w
   ·exact refFault_up k f t i l p g a m hx hm k1 k6 k3 w
  ·obtain ⟨hk, hf, ht, hi, hl, hp, hg, ha⟩ := hx;simp only [Msg.v, Msg.cells] at *;have E : True := trivial;have dk1 : decide ((k : Int) < 1) = false := by simp; omega
   have dk6 : decide (6 < (k : Int)) = true := by simp; omega
   have e : Hid (faultOf ⟨k, f, t, i, l, p, g, a, m⟩ = 3) := hide (by simp [faultOf, kindB, k6]);clear E;go_enter Tryz.func132, Tryz.ntmps132;go_wp2_with fail
   go_ret;exact ⟨ret_int (by rw [e.out]; rfl), (Below.refl _ _).alloc (Nat.le_refl _) _⟩
 ·obtain ⟨hk, hf, ht, hi, hl, hp, hg, ha⟩ := hx;simp only [Msg.v, Msg.cells] at *;have E : True := trivial;have dk1 : decide ((k : Int) < 1) = true := by simp; omega
  have e : Hid (faultOf ⟨k, f, t, i, l, p, g, a, m⟩ = 3) := hide (by simp [faultOf, kindB, k1]);clear E;go_enter Tryz.func132, Tryz.ntmps132;go_wp2_with fail
  go_ret;exact ⟨ret_int (by rw [e.out]; rfl), (Below.refl _ _).alloc (Nat.le_refl _) _⟩
end Go.Proofs.YtjkhbjgfoopomabGreat
namespace Go.Proofs.YtjkhbjgfoopomabGreat
open Go.RowKit
set_option maxRecDepth 100000
set_option maxHeartbeats 1000000
set_option linter.unusedVariables false
attribute [local go_sem] conv1 conv2 conv4 bs_size bs_append be_length
theorem conv4' (w : World) (o : Obj) (a b c d : Int) : (convert 193 9 (.slice (some ⟨w.heap.size + 1, 0, none⟩) 4 4)).run Tryz.prog ((w.alloc o).alloc (.cells #[.int .u8 a, .int .u8 b, .int .u8 c, .int .u8 d] 5)) =
  .ok (.string (bs [UInt8.ofNat a.toNat, UInt8.ofNat b.toNat, UInt8.ofNat c.toNat, UInt8.ofNat d.toNat])) ((w.alloc o).alloc (.cells #[.int .u8 a, .int .u8 b, .int .u8 c, .int .u8 d] 5)) := by
 rw [show w.heap.size + 1 = (w.alloc o).heap.size from by simp]
 exact conv4 (w.alloc o) a b c d
attribute [local go_sem] conv4'
structure Box (w : World) (cs : Array Value) (u : World) : Prop where
 bel : Below w.heap.size w u
 lt : w.heap.size < u.heap.size
 cell : ∀ o, u.cell? ⟨w.heap.size, o, none⟩ = cs[o]?
 fro : ∀ o, u.frozen? ⟨w.heap.size, o, none⟩ = false
theorem Box.mk0 (w : World) (cs : Array Value) (t : TypeId) : Box w cs (w.alloc (.cells cs t)) :=
 ⟨(Below.refl _ _).alloc (Nat.le_refl _) _, by simp, fun o => World.cell?_alloc_new .., fun o => by simp⟩
theorem Box.below {w u u' : World} {cs : Array Value} (h : Box w cs u) (hb : Below u.heap.size u u') : Box w cs u' :=
 ⟨h.bel.trans (hb.mono (Nat.le_of_lt h.lt)), Nat.lt_of_lt_of_le h.lt hb.size, fun o => by rw [hb.cell (p := ⟨w.heap.size, o, none⟩) h.lt]; exact h.cell o,
  fun o => by rw [hb.frozen (p := ⟨w.heap.size, o, none⟩) h.lt]; exact h.fro o⟩
theorem Box.alloc {w u : World} {cs : Array Value} (h : Box w cs u) (o : Obj) : Box w cs (u.alloc o) :=
 h.below ((Below.refl _ _).alloc (Nat.le_refl _) _)
theorem Box.drew {w u : World} {cs : Array Value} (h : Box w cs u) : Box w cs u.drew := ⟨h.bel.drew, h.lt, h.cell, h.fro⟩
theorem fault_zero_memo {x : Msg} (h : faultOf x = 0) : x.m.length ≤ 64 := by
 unfold faultOf at h
 split at h
 ·omega
 ·split at h
  ·omega
  ·split at h
   ·omega
   ·split at h
    ·unfold termsOf at h;split at h
     ·omega
     ·split at h
      ·rename_i hmb;exact memoB_len hmb
      ·omega
    ·split at h
     ·rename_i hb;simp [bareB] at hb;simp [hb.2]
     ·omega
theorem ret_pair {s t : List UInt8} {a b : Int} (h : s = t) (h2 : a = b) : Ending.returned (.tuple #[.string (bs s), .int .i64 a]) = .returned (.tuple #[.string (bs t), .int .i64 b]) := by rw [h, h2]
theorem spell_any (x : Msg) (hx : x.ok) (hm64 : x.m.length ≤ 64) (w : World) :
  Calls Tryz.prog 137 #[x.v] w fun e w' => e = .returned (.string (bs (frameOf x))) ∧ Below w.heap.size w w' := by
 obtain ⟨k, f, t, i, l, p, g, a, m⟩ := x
 obtain ⟨hk, hf, ht, hi, hl, hp, hg, ha⟩ := hx
 simp only [Msg.v, Msg.cells] at *
 have hz2 : Hid (frameOf ⟨k, f, t, i, l, p, g, a, m⟩ = bodyOf ⟨k, f, t, i, l, p, g, a, m⟩ ++ be 4 (sumOf (bodyOf ⟨k, f, t, i, l, p, g, a, m⟩))) := hide rfl
 have hz3 : Hid (69 :: UInt8.ofNat k :: UInt8.ofNat f :: UInt8.ofNat t :: (be 4 i ++ UInt8.ofNat l :: (be 2 p ++ (be 2 g ++ (be 4 a ++ UInt8.ofNat m.length :: m)))) = bodyOf ⟨k, f, t, i, l, p, g, a, m⟩) := hide rfl
 have hz4 : Hid ((bodyOf ⟨k, f, t, i, l, p, g, a, m⟩).length = 18 + m.length) := hide (bodyOf_length _)
 go_enter Tryz.func137, Tryz.ntmps137
 go_wp2_with fail
 refine (four_any i hi _).mono ?_
 rintro e w2 ⟨rfl, hb⟩
 have B2 := ((Box.mk0 _ _ _).alloc _).below hb
 have hc := B2.cell
 have hlt := B2.lt
 clear hb
 go_wp2_with fail
 refine (two_any p hp _).mono ?_
 rintro e w3 ⟨rfl, hb⟩
 have B3 := (B2.alloc _).below hb
 replace hc := B3.cell
 replace hlt := B3.lt
 clear hb B2
 go_wp2_with fail
 refine (two_any g hg _).mono ?_
 rintro e w4 ⟨rfl, hb⟩
 have B4 := B3.below hb
 replace hc := B4.cell
 replace hlt := B4.lt
 clear hb B3
 go_wp2_with fail
 refine (four_any a ha _).mono ?_
 rintro e w5 ⟨rfl, hb⟩
 have B5 := B4.below hb
 replace hc := B5.cell
 replace hlt := B5.lt
 clear hb B4
 go_wp2_with fail
 rw [hz3.out]
 clear hz3
 generalize bodyOf ⟨k, f, t, i, l, p, g, a, m⟩ = B at *
 have hBl : B.length ≤ 82 := by have := hz4.out; omega
 clear hz4
 refine (frameSum_any (bs B) (by rw [bs_size]; unfold maxLen; omega) _).mono ?_
 rintro e w6 ⟨rfl, rfl⟩
 rw [bs_data]
 have hs := sumOf_lt B
 go_wp2_with fail
 refine (four_any _ hs _).mono ?_
 rintro e w6 ⟨rfl, hb⟩
 have B6 := (B5.alloc _).below hb
 clear hb B5 hc
 go_wp2
 go_ret
 exact ⟨by rw [hz2.out]; rfl, B6.bel⟩
theorem encode_any (x : Msg) (hx : x.ok) (hm : x.m.length ≤ 140737488351232) (w : World) :
  Calls Tryz.prog 131 #[x.v] w fun e w' => e = .returned (.tuple #[.string (bs (encOf x)), .int .i64 ((faultOf x : Nat) : Int)]) ∧ Below w.heap.size w w' := by
 have hfault := hide (fault_any x hx hm)
 have hspell := hide (spell_any x hx)
 have h64 : Hid (faultOf x = 0 → x.m.length ≤ 64) := hide fault_zero_memo
 have hz : Hid (encOf x = if faultOf x = 0 then frameOf x else []) := hide rfl
 generalize encOf x = E at *
 generalize frameOf x = F at *
 obtain ⟨k, f, t, i, l, p, g, a, m⟩ := x
 generalize faultOf ⟨k, f, t, i, l, p, g, a, m⟩ = fv at *
 simp only [Msg.v, Msg.cells] at *
 by_cases f0 : fv = 0
 ·subst f0;have hm64 := h64.out rfl;have hz1 : Hid (E = F) := hide (by rw [hz.out]; simp);clear h64 hz;go_enter Tryz.func131, Tryz.ntmps131;go_wp2_with fail
  refine (hfault.out _).mono ?_;rintro e w1 ⟨rfl, hb⟩;have B1 := (Box.mk0 _ _ _).below hb;have hc := B1.cell;have hlt := B1.lt;clear hb hfault;go_wp2_with fail
  refine (hspell.out hm64 _).mono ?_;rintro e w2 ⟨rfl, hb⟩;have B2 := B1.below hb;clear hb B1 hc;go_wp2;go_ret2;exact ⟨ret_pair (by rw [hz1.out]) rfl, B2.bel⟩
 ·have hz1 : Hid (E = []) := hide (by rw [hz.out]; simp [f0]);have d0 : ((fv : Int) != 0) = true := by simp; omega
  clear h64 hz;go_enter Tryz.func131, Tryz.ntmps131;go_wp2_with fail
  refine (hfault.out _).mono ?_;rintro e w1 ⟨rfl, hb⟩;have B1 := (Box.mk0 _ _ _).below hb;clear hb hfault;go_wp2;go_ret2;exact ⟨by rw [hz1.out]; rfl, B1.bel⟩
end Go.Proofs.YtjkhbjgfoopomabGreat
namespace Go.Proofs.YtjkhbjgfoopomabGreat
open Go.RowKit
set_option maxRecDepth 100000
set_option maxHeartbeats 1000000
set_option linter.unusedVariables false
attribute [local go_sem] bs_size bs_append be_length
theorem refBytes1 (v : Nat) (hv : v < 256) (w : World) :
  Calls Tryz.prog 133 #[.int .u64 (v : Int), .int .i64 1] w fun e w' => e = .returned (.string (bs [UInt8.ofNat v])) ∧ Below w.heap.size w w' := by
 have h := refBytes_any v 1 (by omega) (by decide) w
 rw [← be1 v hv] at h
 exact h
theorem refBytes2 (v : Nat) (hv : v < 65536) (w : World) :
  Calls Tryz.prog 133 #[.int .u64 (v : Int), .int .i64 2] w fun e w' => e = .returned (.string (bs (be 2 v))) ∧ Below w.heap.size w w' :=
 refBytes_any v 2 (by omega) (by decide) w
theorem refBytes4 (v : Nat) (hv : v < 4294967296) (w : World) :
  Calls Tryz.prog 133 #[.int .u64 (v : Int), .int .i64 4] w fun e w' => e = .returned (.string (bs (be 4 v))) ∧ Below w.heap.size w w' :=
 refBytes_any v 4 (by omega) (by decide) w
theorem u64_wrap (n : Nat) (h : n < 18446744073709551616) : IntKind.u64.wrap (n : Int) = (n : Int) := by rw [IntKind.wrap_u64]; omega
theorem boxA {w u : World} {k f t i l p g a : Nat} {m : List UInt8} (h : Box w #[Value.int .u8 (k : Int), .int .u8 (f : Int), .int .u8 (t : Int), .int .u32 (i : Int), .int .u8 (l : Int), .int .u16 (p : Int), .int .u16 (g : Int), .int .u32 (a : Int), .string (bs m)] u) :
  (u.cell? ⟨w.heap.size, 0, none⟩ = some (.int .u8 (k : Int)) ∧ u.cell? ⟨w.heap.size, 1, none⟩ = some (.int .u8 (f : Int)) ∧ u.cell? ⟨w.heap.size, 2, none⟩ = some (.int .u8 (t : Int)) ∧ u.cell? ⟨w.heap.size, 3, none⟩ = some (.int .u32 (i : Int)) ∧ u.cell? ⟨w.heap.size, 4, none⟩ = some (.int .u8 (l : Int)) ∧ u.cell? ⟨w.heap.size, 5, none⟩ = some (.int .u16 (p : Int)) ∧ u.cell? ⟨w.heap.size, 6, none⟩ = some (.int .u16 (g : Int)) ∧ u.cell? ⟨w.heap.size, 7, none⟩ = some (.int .u32 (a : Int)) ∧ u.cell? ⟨w.heap.size, 8, none⟩ = some (.string (bs m))) ∧ Box w #[Value.int .u8 (k : Int), .int .u8 (f : Int), .int .u8 (t : Int), .int .u32 (i : Int), .int .u8 (l : Int), .int .u16 (p : Int), .int .u16 (g : Int), .int .u32 (a : Int), .string (bs m)] u :=
 ⟨⟨h.cell 0, h.cell 1, h.cell 2, h.cell 3, h.cell 4, h.cell 5, h.cell 6, h.cell 7, h.cell 8⟩, h⟩
theorem boxA2 {w u u' : World} {k f t i l p g a : Nat} {m : List UInt8} (h : (u.cell? ⟨w.heap.size, 0, none⟩ = some (.int .u8 (k : Int)) ∧ u.cell? ⟨w.heap.size, 1, none⟩ = some (.int .u8 (f : Int)) ∧ u.cell? ⟨w.heap.size, 2, none⟩ = some (.int .u8 (t : Int)) ∧ u.cell? ⟨w.heap.size, 3, none⟩ = some (.int .u32 (i : Int)) ∧ u.cell? ⟨w.heap.size, 4, none⟩ = some (.int .u8 (l : Int)) ∧ u.cell? ⟨w.heap.size, 5, none⟩ = some (.int .u16 (p : Int)) ∧ u.cell? ⟨w.heap.size, 6, none⟩ = some (.int .u16 (g : Int)) ∧ u.cell? ⟨w.heap.size, 7, none⟩ = some (.int .u32 (a : Int)) ∧ u.cell? ⟨w.heap.size, 8, none⟩ = some (.string (bs m))) ∧ Box w #[Value.int .u8 (k : Int), .int .u8 (f : Int), .int .u8 (t : Int), .int .u32 (i : Int), .int .u8 (l : Int), .int .u16 (p : Int), .int .u16 (g : Int), .int .u32 (a : Int), .string (bs m)] u) (hb : Below u.heap.size u u') :
  (u'.cell? ⟨w.heap.size, 0, none⟩ = some (.int .u8 (k : Int)) ∧ u'.cell? ⟨w.heap.size, 1, none⟩ = some (.int .u8 (f : Int)) ∧ u'.cell? ⟨w.heap.size, 2, none⟩ = some (.int .u8 (t : Int)) ∧ u'.cell? ⟨w.heap.size, 3, none⟩ = some (.int .u32 (i : Int)) ∧ u'.cell? ⟨w.heap.size, 4, none⟩ = some (.int .u8 (l : Int)) ∧ u'.cell? ⟨w.heap.size, 5, none⟩ = some (.int .u16 (p : Int)) ∧ u'.cell? ⟨w.heap.size, 6, none⟩ = some (.int .u16 (g : Int)) ∧ u'.cell? ⟨w.heap.size, 7, none⟩ = some (.int .u32 (a : Int)) ∧ u'.cell? ⟨w.heap.size, 8, none⟩ = some (.string (bs m))) ∧ Box w #[Value.int .u8 (k : Int), .int .u8 (f : Int), .int .u8 (t : Int), .int .u32 (i : Int), .int .u8 (l : Int), .int .u16 (p : Int), .int .u16 (g : Int), .int .u32 (a : Int), .string (bs m)] u' := boxA (h.2.below hb)
theorem bs_E (l : List UInt8) : (⟨#[69]⟩ : ByteArray) ++ bs l = bs (69 :: l) := ByteArray.mk_append_mk [69] l
attribute [local go_sem] bs_E
theorem refEncode_any (x : Msg) (hx : x.ok) (hm : x.m.length ≤ 140737488351232) (w : World) :
  Calls Tryz.prog 98 #[x.v] w fun e w' => e = .returned (.tuple #[.string (bs (encOf x)), .int .i64 ((faultOf x : Nat) : Int)]) ∧ Below w.heap.size w w' := by
 have hfault := hide (refFault_any x hx hm)
 have h64 : Hid (faultOf x = 0 → x.m.length ≤ 64) := hide fault_zero_memo
 have hz : Hid (encOf x = if faultOf x = 0 then frameOf x else []) := hide rfl
 obtain ⟨k, f, t, i, l, p, g, a, m⟩ := x
 obtain ⟨hk, hf, ht, hi, hl, hp, hg, ha⟩ := hx
 generalize faultOf ⟨k, f, t, i, l, p, g, a, m⟩ = fv at *
 simp only [Msg.v, Msg.cells] at *
 by_cases f0 : fv = 0
 ·subst f0;have hm64 := h64.out rfl;have hz1 : Hid (encOf ⟨k, f, t, i, l, p, g, a, m⟩ = frameOf ⟨k, f, t, i, l, p, g, a, m⟩) := hide (by rw [hz.out]; simp);have hz2 : Hid (frameOf ⟨k, f, t, i, l, p, g, a, m⟩ = bodyOf ⟨k, f, t, i, l, p, g, a, m⟩ ++ be 4 (sumOf (bodyOf ⟨k, f, t, i, l, p, g, a, m⟩))) := hide rfl;have hz3 : Hid (69 :: UInt8.ofNat k :: UInt8.ofNat f :: UInt8.ofNat t :: (be 4 i ++ UInt8.ofNat l :: (be 2 p ++ (be 2 g ++ (be 4 a ++ UInt8.ofNat m.length :: m)))) = bodyOf ⟨k, f, t, i, l, p, g, a, m⟩) := hide rfl;have hz4 : Hid ((bodyOf ⟨k, f, t, i, l, p, g, a, m⟩).length = 18 + m.length) := hide (bodyOf_length _);clear h64 hz;have wk := u64_wrap k (by omega);have wf := u64_wrap f (by omega);have wt := u64_wrap t (by omega);have wi := u64_wrap i (by omega);have wl := u64_wrap l (by omega);have wp := u64_wrap p (by omega);have wg := u64_wrap g (by omega);have wa := u64_wrap a (by omega);have wm := u64_wrap m.length (by omega)
  have hadd : ∀ u : World, (Op.stringOp .add (bs (be 4 a ++ [UInt8.ofNat m.length])) (bs m)).run Tryz.prog u = .ok (.string (bs (be 4 a ++ UInt8.ofNat m.length :: m))) u := fun u => by
   rw [run_string_add_sum u _ _ (by simp [bs_size, be_length]; omega), bs_append, List.append_assoc];rfl
  go_enter Tryz.func98, Tryz.ntmps98;go_wp2_with fail
  refine (hfault.out _).mono ?_;rintro e w1 ⟨rfl, hb⟩;have B1 := (Box.mk0 _ _ _).below hb;have hc := B1.cell;have hlt := B1.lt;clear hb hfault;go_wp2_with fail
  go_region_held3 (fun u => (u.cell? ⟨w.heap.size, 0, none⟩ = some (.int .u8 (k : Int)) ∧ u.cell? ⟨w.heap.size, 1, none⟩ = some (.int .u8 (f : Int)) ∧ u.cell? ⟨w.heap.size, 2, none⟩ = some (.int .u8 (t : Int)) ∧ u.cell? ⟨w.heap.size, 3, none⟩ = some (.int .u32 (i : Int)) ∧ u.cell? ⟨w.heap.size, 4, none⟩ = some (.int .u8 (l : Int)) ∧ u.cell? ⟨w.heap.size, 5, none⟩ = some (.int .u16 (p : Int)) ∧ u.cell? ⟨w.heap.size, 6, none⟩ = some (.int .u16 (g : Int)) ∧ u.cell? ⟨w.heap.size, 7, none⟩ = some (.int .u32 (a : Int)) ∧ u.cell? ⟨w.heap.size, 8, none⟩ = some (.string (bs m))) ∧ Box w #[Value.int .u8 (k : Int), .int .u8 (f : Int), .int .u8 (t : Int), .int .u32 (i : Int), .int .u8 (l : Int), .int .u16 (p : Int), .int .u16 (g : Int), .int .u32 (a : Int), .string (bs m)] u) ((first | exact boxA B1.drew | exact boxA2 (by assumption) hb))
   (first
    | (go_at_call_of 133 (Value.int .u64 (k : Int)); refine (refBytes1 k hk _).mono ?_; rintro e u2 ⟨rfl, hb⟩)
    | (go_at_call_of 133 (Value.int .u64 (f : Int)); refine (refBytes1 f hf _).mono ?_; rintro e u2 ⟨rfl, hb⟩)
    | (go_at_call_of 133 (Value.int .u64 (t : Int)); refine (refBytes1 t ht _).mono ?_; rintro e u2 ⟨rfl, hb⟩))
  have B2 : Box w #[Value.int .u8 (k : Int), .int .u8 (f : Int), .int .u8 (t : Int), .int .u32 (i : Int), .int .u8 (l : Int), .int .u16 (p : Int), .int .u16 (g : Int), .int .u32 (a : Int), .string (bs m)] u2 := And.right (by assumption);replace hc := B2.cell;replace hlt := B2.lt;clear hb B1;go_wp2_with fail
  go_region_held3 (fun u => (u.cell? ⟨w.heap.size, 0, none⟩ = some (.int .u8 (k : Int)) ∧ u.cell? ⟨w.heap.size, 1, none⟩ = some (.int .u8 (f : Int)) ∧ u.cell? ⟨w.heap.size, 2, none⟩ = some (.int .u8 (t : Int)) ∧ u.cell? ⟨w.heap.size, 3, none⟩ = some (.int .u32 (i : Int)) ∧ u.cell? ⟨w.heap.size, 4, none⟩ = some (.int .u8 (l : Int)) ∧ u.cell? ⟨w.heap.size, 5, none⟩ = some (.int .u16 (p : Int)) ∧ u.cell? ⟨w.heap.size, 6, none⟩ = some (.int .u16 (g : Int)) ∧ u.cell? ⟨w.heap.size, 7, none⟩ = some (.int .u32 (a : Int)) ∧ u.cell? ⟨w.heap.size, 8, none⟩ = some (.string (bs m))) ∧ Box w #[Value.int .u8 (k : Int), .int .u8 (f : Int), .int .u8 (t : Int), .int .u32 (i : Int), .int .u8 (l : Int), .int .u16 (p : Int), .int .u16 (g : Int), .int .u32 (a : Int), .string (bs m)] u) ((first | exact boxA B2.drew | exact boxA2 (by assumption) hb))
   (first
    | (go_at_call_of 133 (Value.int .u64 (i : Int)); refine (refBytes4 i hi _).mono ?_; rintro e u2 ⟨rfl, hb⟩)
    | (go_at_call_of 133 (Value.int .u64 (l : Int)); refine (refBytes1 l hl _).mono ?_; rintro e u2 ⟨rfl, hb⟩)
    | (go_at_call_of 133 (Value.int .u64 (p : Int)); refine (refBytes2 p hp _).mono ?_; rintro e u2 ⟨rfl, hb⟩)
    | (go_at_call_of 133 (Value.int .u64 (g : Int)); refine (refBytes2 g hg _).mono ?_; rintro e u2 ⟨rfl, hb⟩))
  have B3 : Box w #[Value.int .u8 (k : Int), .int .u8 (f : Int), .int .u8 (t : Int), .int .u32 (i : Int), .int .u8 (l : Int), .int .u16 (p : Int), .int .u16 (g : Int), .int .u32 (a : Int), .string (bs m)] u2 := And.right (by assumption);replace hc := B3.cell;replace hlt := B3.lt;clear hb B2;go_wp2_with fail
  go_region_held3 (fun u => (u.cell? ⟨w.heap.size, 0, none⟩ = some (.int .u8 (k : Int)) ∧ u.cell? ⟨w.heap.size, 1, none⟩ = some (.int .u8 (f : Int)) ∧ u.cell? ⟨w.heap.size, 2, none⟩ = some (.int .u8 (t : Int)) ∧ u.cell? ⟨w.heap.size, 3, none⟩ = some (.int .u32 (i : Int)) ∧ u.cell? ⟨w.heap.size, 4, none⟩ = some (.int .u8 (l : Int)) ∧ u.cell? ⟨w.heap.size, 5, none⟩ = some (.int .u16 (p : Int)) ∧ u.cell? ⟨w.heap.size, 6, none⟩ = some (.int .u16 (g : Int)) ∧ u.cell? ⟨w.heap.size, 7, none⟩ = some (.int .u32 (a : Int)) ∧ u.cell? ⟨w.heap.size, 8, none⟩ = some (.string (bs m))) ∧ Box w #[Value.int .u8 (k : Int), .int .u8 (f : Int), .int .u8 (t : Int), .int .u32 (i : Int), .int .u8 (l : Int), .int .u16 (p : Int), .int .u16 (g : Int), .int .u32 (a : Int), .string (bs m)] u) ((first | exact boxA B3.drew | exact boxA2 (by assumption) hb))
   (first
    | (go_at_call_of 133 (Value.int .u64 (a : Int)); refine (refBytes4 a ha _).mono ?_; rintro e u2 ⟨rfl, hb⟩)
    | (go_at_call_of 133 (Value.int .u64 (m.length : Int)); refine (refBytes1 m.length (by omega) _).mono ?_; rintro e u2 ⟨rfl, hb⟩))
  have B4 : Box w #[Value.int .u8 (k : Int), .int .u8 (f : Int), .int .u8 (t : Int), .int .u32 (i : Int), .int .u8 (l : Int), .int .u16 (p : Int), .int .u16 (g : Int), .int .u32 (a : Int), .string (bs m)] u2 := And.right (by assumption);clear hb B3 hc hlt;go_wp2_with fail
  rw [hz3.out];clear hz3;generalize bodyOf ⟨k, f, t, i, l, p, g, a, m⟩ = B at *;have hBl : B.length ≤ 82 := by have := hz4.out; omega
  clear hz4;refine (refSum_any (bs B) (by rw [bs_size]; unfold maxLen; omega) _).mono ?_;rintro e w6 ⟨rfl, rfl⟩;rw [bs_data];have hs := sumOf_lt B;go_wp2_with fail
  refine (refBytes4 _ hs _).mono ?_;rintro e w7 ⟨rfl, hb⟩;have B6 := B4.below hb;clear hb B4;go_wp2;go_ret2;exact ⟨ret_pair (by rw [hz1.out, hz2.out]) rfl, B6.bel⟩
 ·have hz1 : Hid (encOf ⟨k, f, t, i, l, p, g, a, m⟩ = []) := hide (by rw [hz.out]; simp [f0]);have d0 : ((fv : Int) != 0) = true := by simp; omega
  clear h64 hz;go_enter Tryz.func98, Tryz.ntmps98;go_wp2_with fail
  refine (hfault.out _).mono ?_;rintro e w1 ⟨rfl, hb⟩;have B1 := (Box.mk0 _ _ _).below hb;clear hb hfault;go_wp2;go_ret2;exact ⟨by rw [hz1.out]; rfl, B1.bel⟩
end Go.Proofs.YtjkhbjgfoopomabGreat
