/-
  The walk over the document's Fault, and its numbers as bytes.
-/
import Derived.Test.YtjkhbjgfoopomaaGreatFault
namespace Go.Proofs.YtjkhbjgfoopomaaGreat
open Go.RowKit
set_option linter.unusedVariables false
attribute [local go_sem] conv1 bs_size bs_append

theorem be_pow (v i : Nat) : v / 256 ^ i / 256 = v / 256 ^ (i + 1) := by rw [Nat.div_div_eq_div_mul, Nat.pow_succ]
set_option maxRecDepth 100000 in
set_option maxHeartbeats 400000 in
theorem refBytes_any (v n : Nat) (hv : v < 18446744073709551616) (hn : n ≤ 8) (w : World) :
    Calls Tryz.prog 85 #[.int .u64 (v : Int), .int .i64 (n : Int)] w fun e w' => e = .returned (.string (bs (be n v))) ∧ Below w.heap.size w w' := by
  go_enter Tryz.func85, Tryz.ntmps85
  go_wp2
  go_loopw [0, 5, 6] (fun a s i u => ∃ k : Nat, k ≤ n ∧ i = .int .i64 k ∧ a = .int .u64 ((v / 256 ^ k : Nat) : Int) ∧ s = .string (bs (be k v)) ∧ Below w.heap.size w u) (fun _ _ i _ => n - (intOf i).toNat)
  case atStart => exact ⟨0, by omega, rfl, by simp, rfl, Below.refl _ _⟩
  case round =>
    obtain ⟨k, hk, rfl, rfl, rfl, hbel⟩ := hrel
    by_cases hlt : k < n
    · have hs : Hid (be (k + 1) v = UInt8.ofNat (v / 256 ^ k % 256) :: be k v) := hide rfl
      have hp : Hid (v / 256 ^ (k + 1) = v / 256 ^ k / 256) := hide (be_pow v k).symm
      have hl := be_length k v
      have hy : v / 256 ^ k < 18446744073709551616 := Nat.lt_of_le_of_lt (Nat.div_le_self _ _) hv
      generalize v / 256 ^ k = y at *
      generalize be k v = z at *
      have hz : z.length ≤ 8 := by omega
      clear hl
      go_wp2
      exact ⟨⟨k + 1, by omega, by go_num, by rw [hp.out]; go_num, by rw [hs.out], hbel.alloc hbel.size _⟩, by simp [intOf]; omega⟩
    · obtain rfl : k = n := by omega
      go_wp2
      go_ret
      exact ⟨rfl, hbel⟩

theorem wayB_down {k f t i l p g a : Nat} {m : List UInt8} (h : k ≤ 3) : wayB ⟨k, f, t, i, l, p, g, a, m⟩ = (decide (f = 0) && (decide (1 ≤ t) && decide (t ≤ 7))) := by simp [wayB, h, bankB]
theorem wayB_up {k f t i l p g a : Nat} {m : List UInt8} (h : ¬ k ≤ 3) : wayB ⟨k, f, t, i, l, p, g, a, m⟩ = (decide (t = 0) && (decide (1 ≤ f) && decide (f ≤ 7))) := by simp [wayB, h, bankB]
set_option maxRecDepth 100000 in
set_option maxHeartbeats 1000000 in
theorem refFault_down (k f t i l p g a : Nat) (m : List UInt8) (hx : (Msg.mk k f t i l p g a m).ok) (hm : m.length ≤ 140737488351232) (k1 : 1 ≤ k) (k6 : k ≤ 6) (k3 : k ≤ 3) (w : World) :
    Calls Tryz.prog 84 #[(Msg.mk k f t i l p g a m).v] w fun e w' => e = .returned (.int .i64 ((faultOf ⟨k, f, t, i, l, p, g, a, m⟩ : Nat) : Int)) ∧ Below w.heap.size w w' := by
  obtain ⟨hk, hf, ht, hi, hl, hp, hg, ha⟩ := hx
  simp only [Msg.v, Msg.cells] at *
  have dk1 : decide ((k : Int) < 1) = false := by simp; omega
  have dk6 : decide (6 < (k : Int)) = false := by simp; omega
  have dk3 : decide (3 < (k : Int)) = false := by simp; omega
  by_cases f0 : ¬ f = 0
  · have E : True := trivial
    have df : ((f : Int) != 0) = true := by simp; omega
    have e : Hid (faultOf ⟨k, f, t, i, l, p, g, a, m⟩ = 4) := hide (by simp [faultOf, kindB, k1, k6, wayB_down k3, f0])
    clear E
    go_enter Tryz.func84, Tryz.ntmps84
    go_wp2_with fail
    go_ret
    exact ⟨ret_int (by rw [e.out]; rfl), (Below.refl _ _).alloc (Nat.le_refl _) _⟩
  replace f0 := Decidable.of_not_not f0
  have df : ((f : Int) != 0) = false := by simp; omega
  by_cases t1 : ¬ 1 ≤ t
  · have E : True := trivial
    have dt : decide ((t : Int) < 1) = true := by simp; omega
    have e : Hid (faultOf ⟨k, f, t, i, l, p, g, a, m⟩ = 4) := hide (by simp [faultOf, kindB, k1, k6, wayB_down k3, t1])
    clear E
    go_enter Tryz.func84, Tryz.ntmps84
    go_wp2_with fail
    go_ret
    exact ⟨ret_int (by rw [e.out]; rfl), (Below.refl _ _).alloc (Nat.le_refl _) _⟩
  replace t1 := Decidable.of_not_not t1
  have dt : decide ((t : Int) < 1) = false := by simp; omega
  by_cases t7 : ¬ t ≤ 7
  · have E : True := trivial
    have dt7 : decide (7 < (t : Int)) = true := by simp; omega
    have e : Hid (faultOf ⟨k, f, t, i, l, p, g, a, m⟩ = 4) := hide (by simp [faultOf, kindB, k1, k6, wayB_down k3, t7])
    clear E
    go_enter Tryz.func84, Tryz.ntmps84
    go_wp2_with fail
    go_ret
    exact ⟨ret_int (by rw [e.out]; rfl), (Below.refl _ _).alloc (Nat.le_refl _) _⟩
  replace t7 := Decidable.of_not_not t7
  have dt7 : decide (7 < (t : Int)) = false := by simp; omega
  have E : Hid (faultOf ⟨k, f, t, i, l, p, g, a, m⟩ = if 4 ≤ l then 5 else if k = 1 then termsOf ⟨k, f, t, i, l, p, g, a, m⟩ else if bareB ⟨k, f, t, i, l, p, g, a, m⟩ then 0 else 3) := hide (by simp [faultOf, kindB, k1, k6, wayB_down k3, f0, t1, t7])
  clear f0
  by_cases l4 : 4 ≤ l
  · have d1 : decide (3 < (l : Int)) = true := by simp; omega
    have e : Hid (faultOf ⟨k, f, t, i, l, p, g, a, m⟩ = 5) := hide (by rw [E.out]; simp [l4])
    clear E
    go_enter Tryz.func84, Tryz.ntmps84
    go_wp2_with fail
    go_ret
    exact ⟨ret_int (by rw [e.out]; rfl), (Below.refl _ _).alloc (Nat.le_refl _) _⟩
  · have d1 : decide (3 < (l : Int)) = false := by simp; omega
    by_cases ke : k = 1
    · have d2 : ((k : Int) != 1) = false := by simp; omega
      by_cases a0 : a = 0
      · have d3 : decide ((a : Int) < 1) = true := by simp; omega
        have e : Hid (faultOf ⟨k, f, t, i, l, p, g, a, m⟩ = 6) := hide (by rw [E.out]; simp [l4, ke, termsOf, a0])
        clear E
        go_enter Tryz.func84, Tryz.ntmps84
        go_wp2_with fail
        go_ret
        exact ⟨ret_int (by rw [e.out]; rfl), (Below.refl _ _).alloc (Nat.le_refl _) _⟩
      · have d3 : decide ((a : Int) < 1) = false := by simp; omega
        have e : Hid (faultOf ⟨k, f, t, i, l, p, g, a, m⟩ = if memoB m then 0 else 7) := hide (by rw [E.out]; simp [l4, ke, termsOf, a0])
        clear E ke a0
        have hms : (bs m).size ≤ 140737488351232 := by rw [bs_size]; exact hm
        have hmd := hide (bs_data m)
        go_enter Tryz.func84, Tryz.ntmps84
        go_wp2_with fail
        refine (refMemo_any (bs m) hms _).mono ?_
        rintro e w1 ⟨rfl, rfl⟩
        rw [hmd.out]
        cases hb : memoB m with
        | true =>
          rw [hb] at e
          clear hb
          go_wp2
          go_ret
          exact ⟨ret_int (by rw [e.out]; rfl), (Below.refl _ _).alloc (Nat.le_refl _) _⟩
        | false =>
          rw [hb] at e
          clear hb
          go_wp2
          go_ret
          exact ⟨ret_int (by rw [e.out]; rfl), (Below.refl _ _).alloc (Nat.le_refl _) _⟩
    · have d2 : ((k : Int) != 1) = true := by simp; omega
      by_cases p0 : ¬ p = 0
      · have dd : decide (0 < (p : Int)) = true := by simp; omega
        have e : Hid (faultOf ⟨k, f, t, i, l, p, g, a, m⟩ = 3) := hide (by rw [E.out]; simp [l4, ke, bareB, p0])
        clear E
        go_enter Tryz.func84, Tryz.ntmps84
        go_wp2_with fail
        go_ret
        exact ⟨ret_int (by rw [e.out]; rfl), (Below.refl _ _).alloc (Nat.le_refl _) _⟩
      replace p0 := Decidable.of_not_not p0
      have dp : decide (0 < (p : Int)) = false := by simp; omega
      by_cases g0 : ¬ g = 0
      · have dd : decide (0 < (g : Int)) = true := by simp; omega
        have e : Hid (faultOf ⟨k, f, t, i, l, p, g, a, m⟩ = 3) := hide (by rw [E.out]; simp [l4, ke, bareB, g0])
        clear E
        go_enter Tryz.func84, Tryz.ntmps84
        go_wp2_with fail
        go_ret
        exact ⟨ret_int (by rw [e.out]; rfl), (Below.refl _ _).alloc (Nat.le_refl _) _⟩
      replace g0 := Decidable.of_not_not g0
      have dg : decide (0 < (g : Int)) = false := by simp; omega
      by_cases a0 : ¬ a = 0
      · have dd : decide (0 < (a : Int)) = true := by simp; omega
        have e : Hid (faultOf ⟨k, f, t, i, l, p, g, a, m⟩ = 3) := hide (by rw [E.out]; simp [l4, ke, bareB, a0])
        clear E
        go_enter Tryz.func84, Tryz.ntmps84
        go_wp2_with fail
        go_ret
        exact ⟨ret_int (by rw [e.out]; rfl), (Below.refl _ _).alloc (Nat.le_refl _) _⟩
      replace a0 := Decidable.of_not_not a0
      have da : decide (0 < (a : Int)) = false := by simp; omega
      cases m with
      | nil =>
        have dm : (bs ([] : List UInt8)).size = 0 := by rw [bs_size]; rfl
        have e : Hid (faultOf ⟨k, f, t, i, l, p, g, a, []⟩ = 0) := hide (by rw [E.out]; simp [l4, ke, bareB, p0, g0, a0])
        clear E
        go_enter Tryz.func84, Tryz.ntmps84
        go_wp2_with fail
        go_ret
        exact ⟨ret_int (by rw [e.out]; rfl), (Below.refl _ _).alloc (Nat.le_refl _) _⟩
      | cons b r =>
        have dm : 0 < (bs (b :: r)).size := by rw [bs_size]; simp
        have e : Hid (faultOf ⟨k, f, t, i, l, p, g, a, b :: r⟩ = 3) := hide (by rw [E.out]; simp [l4, ke, bareB])
        clear E
        go_enter Tryz.func84, Tryz.ntmps84
        go_wp2_with fail
        go_ret
        exact ⟨ret_int (by rw [e.out]; rfl), (Below.refl _ _).alloc (Nat.le_refl _) _⟩
set_option maxRecDepth 100000 in
set_option maxHeartbeats 1000000 in
theorem refFault_up (k f t i l p g a : Nat) (m : List UInt8) (hx : (Msg.mk k f t i l p g a m).ok) (hm : m.length ≤ 140737488351232) (k1 : 1 ≤ k) (k6 : k ≤ 6) (k3 : ¬ k ≤ 3) (w : World) :
    Calls Tryz.prog 84 #[(Msg.mk k f t i l p g a m).v] w fun e w' => e = .returned (.int .i64 ((faultOf ⟨k, f, t, i, l, p, g, a, m⟩ : Nat) : Int)) ∧ Below w.heap.size w w' := by
  obtain ⟨hk, hf, ht, hi, hl, hp, hg, ha⟩ := hx
  simp only [Msg.v, Msg.cells] at *
  have dk1 : decide ((k : Int) < 1) = false := by simp; omega
  have dk6 : decide (6 < (k : Int)) = false := by simp; omega
  have dk3 : decide (3 < (k : Int)) = true := by simp; omega
  by_cases f0 : ¬ t = 0
  · have E : True := trivial
    have df : ((t : Int) != 0) = true := by simp; omega
    have e : Hid (faultOf ⟨k, f, t, i, l, p, g, a, m⟩ = 4) := hide (by simp [faultOf, kindB, k1, k6, wayB_up k3, f0])
    clear E
    go_enter Tryz.func84, Tryz.ntmps84
    go_wp2_with fail
    go_ret
    exact ⟨ret_int (by rw [e.out]; rfl), (Below.refl _ _).alloc (Nat.le_refl _) _⟩
  replace f0 := Decidable.of_not_not f0
  have df : ((t : Int) != 0) = false := by simp; omega
  by_cases t1 : ¬ 1 ≤ f
  · have E : True := trivial
    have dt : decide ((f : Int) < 1) = true := by simp; omega
    have e : Hid (faultOf ⟨k, f, t, i, l, p, g, a, m⟩ = 4) := hide (by simp [faultOf, kindB, k1, k6, wayB_up k3, t1])
    clear E
    go_enter Tryz.func84, Tryz.ntmps84
    go_wp2_with fail
    go_ret
    exact ⟨ret_int (by rw [e.out]; rfl), (Below.refl _ _).alloc (Nat.le_refl _) _⟩
  replace t1 := Decidable.of_not_not t1
  have dt : decide ((f : Int) < 1) = false := by simp; omega
  by_cases t7 : ¬ f ≤ 7
  · have E : True := trivial
    have dt7 : decide (7 < (f : Int)) = true := by simp; omega
    have e : Hid (faultOf ⟨k, f, t, i, l, p, g, a, m⟩ = 4) := hide (by simp [faultOf, kindB, k1, k6, wayB_up k3, t7])
    clear E
    go_enter Tryz.func84, Tryz.ntmps84
    go_wp2_with fail
    go_ret
    exact ⟨ret_int (by rw [e.out]; rfl), (Below.refl _ _).alloc (Nat.le_refl _) _⟩
  replace t7 := Decidable.of_not_not t7
  have dt7 : decide (7 < (f : Int)) = false := by simp; omega
  have E : Hid (faultOf ⟨k, f, t, i, l, p, g, a, m⟩ = if 4 ≤ l then 5 else if k = 1 then termsOf ⟨k, f, t, i, l, p, g, a, m⟩ else if bareB ⟨k, f, t, i, l, p, g, a, m⟩ then 0 else 3) := hide (by simp [faultOf, kindB, k1, k6, wayB_up k3, f0, t1, t7])
  clear f0
  by_cases l4 : 4 ≤ l
  · have d1 : decide (3 < (l : Int)) = true := by simp; omega
    have e : Hid (faultOf ⟨k, f, t, i, l, p, g, a, m⟩ = 5) := hide (by rw [E.out]; simp [l4])
    clear E
    go_enter Tryz.func84, Tryz.ntmps84
    go_wp2_with fail
    go_ret
    exact ⟨ret_int (by rw [e.out]; rfl), (Below.refl _ _).alloc (Nat.le_refl _) _⟩
  · have d1 : decide (3 < (l : Int)) = false := by simp; omega
    by_cases ke : k = 1
    · omega
    · have d2 : ((k : Int) != 1) = true := by simp; omega
      by_cases p0 : ¬ p = 0
      · have dd : decide (0 < (p : Int)) = true := by simp; omega
        have e : Hid (faultOf ⟨k, f, t, i, l, p, g, a, m⟩ = 3) := hide (by rw [E.out]; simp [l4, ke, bareB, p0])
        clear E
        go_enter Tryz.func84, Tryz.ntmps84
        go_wp2_with fail
        go_ret
        exact ⟨ret_int (by rw [e.out]; rfl), (Below.refl _ _).alloc (Nat.le_refl _) _⟩
      replace p0 := Decidable.of_not_not p0
      have dp : decide (0 < (p : Int)) = false := by simp; omega
      by_cases g0 : ¬ g = 0
      · have dd : decide (0 < (g : Int)) = true := by simp; omega
        have e : Hid (faultOf ⟨k, f, t, i, l, p, g, a, m⟩ = 3) := hide (by rw [E.out]; simp [l4, ke, bareB, g0])
        clear E
        go_enter Tryz.func84, Tryz.ntmps84
        go_wp2_with fail
        go_ret
        exact ⟨ret_int (by rw [e.out]; rfl), (Below.refl _ _).alloc (Nat.le_refl _) _⟩
      replace g0 := Decidable.of_not_not g0
      have dg : decide (0 < (g : Int)) = false := by simp; omega
      by_cases a0 : ¬ a = 0
      · have dd : decide (0 < (a : Int)) = true := by simp; omega
        have e : Hid (faultOf ⟨k, f, t, i, l, p, g, a, m⟩ = 3) := hide (by rw [E.out]; simp [l4, ke, bareB, a0])
        clear E
        go_enter Tryz.func84, Tryz.ntmps84
        go_wp2_with fail
        go_ret
        exact ⟨ret_int (by rw [e.out]; rfl), (Below.refl _ _).alloc (Nat.le_refl _) _⟩
      replace a0 := Decidable.of_not_not a0
      have da : decide (0 < (a : Int)) = false := by simp; omega
      cases m with
      | nil =>
        have dm : (bs ([] : List UInt8)).size = 0 := by rw [bs_size]; rfl
        have e : Hid (faultOf ⟨k, f, t, i, l, p, g, a, []⟩ = 0) := hide (by rw [E.out]; simp [l4, ke, bareB, p0, g0, a0])
        clear E
        go_enter Tryz.func84, Tryz.ntmps84
        go_wp2_with fail
        go_ret
        exact ⟨ret_int (by rw [e.out]; rfl), (Below.refl _ _).alloc (Nat.le_refl _) _⟩
      | cons b r =>
        have dm : 0 < (bs (b :: r)).size := by rw [bs_size]; simp
        have e : Hid (faultOf ⟨k, f, t, i, l, p, g, a, b :: r⟩ = 3) := hide (by rw [E.out]; simp [l4, ke, bareB])
        clear E
        go_enter Tryz.func84, Tryz.ntmps84
        go_wp2_with fail
        go_ret
        exact ⟨ret_int (by rw [e.out]; rfl), (Below.refl _ _).alloc (Nat.le_refl _) _⟩
set_option maxRecDepth 100000 in
set_option maxHeartbeats 1000000 in
theorem refFault_any (x : Msg) (hx : x.ok) (hm : x.m.length ≤ 140737488351232) (w : World) :
    Calls Tryz.prog 84 #[x.v] w fun e w' => e = .returned (.int .i64 ((faultOf x : Nat) : Int)) ∧ Below w.heap.size w w' := by
  obtain ⟨k, f, t, i, l, p, g, a, m⟩ := x
  by_cases k1 : 1 ≤ k
  · by_cases k6 : k ≤ 6
    · by_cases k3 : k ≤ 3
      · exact refFault_down k f t i l p g a m hx hm k1 k6 k3 w
      · exact refFault_up k f t i l p g a m hx hm k1 k6 k3 w
    · obtain ⟨hk, hf, ht, hi, hl, hp, hg, ha⟩ := hx
      simp only [Msg.v, Msg.cells] at *
      have E : True := trivial
      have dk1 : decide ((k : Int) < 1) = false := by simp; omega
      have dk6 : decide (6 < (k : Int)) = true := by simp; omega
      have e : Hid (faultOf ⟨k, f, t, i, l, p, g, a, m⟩ = 3) := hide (by simp [faultOf, kindB, k6])
      clear E
      go_enter Tryz.func84, Tryz.ntmps84
      go_wp2_with fail
      go_ret
      exact ⟨ret_int (by rw [e.out]; rfl), (Below.refl _ _).alloc (Nat.le_refl _) _⟩
  · obtain ⟨hk, hf, ht, hi, hl, hp, hg, ha⟩ := hx
    simp only [Msg.v, Msg.cells] at *
    have E : True := trivial
    have dk1 : decide ((k : Int) < 1) = true := by simp; omega
    have e : Hid (faultOf ⟨k, f, t, i, l, p, g, a, m⟩ = 3) := hide (by simp [faultOf, kindB, k1])
    clear E
    go_enter Tryz.func84, Tryz.ntmps84
    go_wp2_with fail
    go_ret
    exact ⟨ret_int (by rw [e.out]; rfl), (Below.refl _ _).alloc (Nat.le_refl _) _⟩
end Go.Proofs.YtjkhbjgfoopomaaGreat
