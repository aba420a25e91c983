import Derived.Test.YtjkhbjgfoopomaaGreatG4
import Derived.Test.YtjkhbjgfoopomaaGreatG5
/-
  The walks over what is wrong with a message: the code's.
-/
namespace Go.Proofs.YtjkhbjgfoopomaaGreat
open Go.RowKit
set_option linter.unusedVariables false

/-- what lies in a box stays there, whatever is laid behind it -/
theorem box_kept {w w1 : World} {cs : Array Value} {t : TypeId} (hb : Below (w.alloc (.cells cs t)).heap.size (w.alloc (.cells cs t)) w1) (o : Nat) : w1.cell? ⟨w.heap.size, o, none⟩ = cs[o]? := by
  rw [hb.cell (p := ⟨w.heap.size, o, none⟩) (by simp), World.cell?_alloc_new]
theorem box_below {w w1 : World} {cs : Array Value} {t : TypeId} (hb : Below (w.alloc (.cells cs t)).heap.size (w.alloc (.cells cs t)) w1) : Below w.heap.size w w1 :=
  ((Below.refl _ _).alloc (Nat.le_refl _) _).trans (hb.mono (by simp))
theorem isBank_any (n : Nat) (hn : n < 256) (w : World) :
    Calls Tryz.prog 89 #[.int .u8 (n : Int)] w fun e w' => e = .returned (.bool (bankB n)) ∧ w' = w := by
  by_cases h : n = 0
  · subst h
    go_enter Tryz.func89, Tryz.ntmps89
    go_wp2
    go_ret
    exact ⟨rfl, rfl⟩
  · have h1 : ((n : Int) != 0) = true := by simp; omega
    have e : Hid (bankB n = decide ((n : Int) ≤ 7)) := hide (by
      have : 1 ≤ n := by omega
      simp only [bankB, this, decide_true, Bool.true_and]
      exact decide_eq_decide.2 (by omega))
    go_enter Tryz.func89, Tryz.ntmps89
    go_wp2
    go_ret
    exact ⟨ret_bool (by rw [e.out]), rfl⟩

set_option maxRecDepth 100000 in
set_option maxHeartbeats 400000 in
theorem way_any (x : Msg) (hx : x.ok) (w : World) :
    Calls Tryz.prog 133 #[x.v] w fun e w' => e = .returned (.bool (wayB x)) ∧ Below w.heap.size w w' := by
  obtain ⟨k, f, t, i, l, p, g, a, m⟩ := x
  obtain ⟨hk, hf, ht, hi, hl, hp, hg, ha⟩ := hx
  simp only [Msg.v, Msg.cells] at *
  by_cases h3 : k ≤ 3
  · have d3 : decide ((k : Int) ≤ 3) = true := by simp; omega
    by_cases h0 : f = 0
    · subst h0
      have e : Hid (wayB ⟨k, 0, t, i, l, p, g, a, m⟩ = bankB t) := hide (by simp [wayB, h3])
      go_enter Tryz.func133, Tryz.ntmps133
      go_wp2_with fail
      refine (isBank_any t ht _).mono ?_
      rintro e w1 ⟨rfl, rfl⟩
      go_wp2
      go_ret
      exact ⟨ret_bool (by rw [e.out]), (Below.refl _ _).alloc (Nat.le_refl _) _⟩
    · have d0 : ((f : Int) == 0) = false := by simp; omega
      have e : Hid (wayB ⟨k, f, t, i, l, p, g, a, m⟩ = false) := hide (by simp [wayB, h3, h0])
      go_enter Tryz.func133, Tryz.ntmps133
      go_wp2_with fail
      go_ret
      exact ⟨ret_bool (by rw [e.out]), (Below.refl _ _).alloc (Nat.le_refl _) _⟩
  · have d3 : decide ((k : Int) ≤ 3) = false := by simp; omega
    by_cases h0 : t = 0
    · subst h0
      have e : Hid (wayB ⟨k, f, 0, i, l, p, g, a, m⟩ = bankB f) := hide (by simp [wayB, h3])
      go_enter Tryz.func133, Tryz.ntmps133
      go_wp2_with fail
      refine (isBank_any f hf _).mono ?_
      rintro e w1 ⟨rfl, rfl⟩
      go_wp2
      go_ret
      exact ⟨ret_bool (by rw [e.out]), (Below.refl _ _).alloc (Nat.le_refl _) _⟩
    · have d0 : ((t : Int) == 0) = false := by simp; omega
      have e : Hid (wayB ⟨k, f, t, i, l, p, g, a, m⟩ = false) := hide (by simp [wayB, h3, h0])
      go_enter Tryz.func133, Tryz.ntmps133
      go_wp2_with fail
      go_ret
      exact ⟨ret_bool (by rw [e.out]), (Below.refl _ _).alloc (Nat.le_refl _) _⟩

set_option maxRecDepth 100000 in
set_option maxHeartbeats 400000 in
theorem terms_any (x : Msg) (hx : x.ok) (hm : x.m.length ≤ 140737488351232) (w : World) :
    Calls Tryz.prog 134 #[x.v] w fun e w' => e = .returned (.int .i64 ((termsOf x : Nat) : Int)) ∧ Below w.heap.size w w' := by
  obtain ⟨k, f, t, i, l, p, g, a, m⟩ := x
  obtain ⟨hk, hf, ht, hi, hl, hp, hg, ha⟩ := hx
  simp only [Msg.v, Msg.cells] at *
  by_cases h0 : a = 0
  · subst h0
    have e : Hid (termsOf ⟨k, f, t, i, l, p, g, 0, m⟩ = 6) := hide (by simp [termsOf])
    go_enter Tryz.func134, Tryz.ntmps134
    go_wp2_with fail
    go_ret
    exact ⟨ret_int (by rw [e.out]; rfl), (Below.refl _ _).alloc (Nat.le_refl _) _⟩
  · have d0 : ((a : Int) == 0) = false := by simp; omega
    have e : Hid (termsOf ⟨k, f, t, i, l, p, g, a, m⟩ = if memoB m then 0 else 7) := hide (by simp [termsOf, h0])
    have hms : (bs m).size ≤ maxLen := by rw [bs_size]; unfold maxLen; omega
    have hmd := bs_data m
    go_enter Tryz.func134, Tryz.ntmps134
    go_wp2_with fail
    refine (isMemo_any (bs m) hms _).mono ?_
    rintro e w1 ⟨rfl, rfl⟩
    rw [hmd]
    clear hmd
    cases hb : memoB m with
    | true =>
      rw [hb] at e
      clear hb
      go_wp2
      go_ret
      exact ⟨ret_int (by rw [e.out]; rfl), (Below.refl _ _).alloc (Nat.le_refl _) _⟩
    | false =>
      rw [hb] at e
      clear hb
      go_wp2
      go_ret
      exact ⟨ret_int (by rw [e.out]; rfl), (Below.refl _ _).alloc (Nat.le_refl _) _⟩

set_option maxRecDepth 100000 in
set_option maxHeartbeats 1000000 in
theorem fault_any (x : Msg) (hx : x.ok) (hm : x.m.length ≤ 140737488351232) (w : World) :
    Calls Tryz.prog 110 #[x.v] w fun e w' => e = .returned (.int .i64 ((faultOf x : Nat) : Int)) ∧ Below w.heap.size w w' := by
  have hway := way_any x hx
  have hterm := terms_any x hx hm
  obtain ⟨k, f, t, i, l, p, g, a, m⟩ := x
  obtain ⟨hk, hf, ht, hi, hl, hp, hg, ha⟩ := hx
  generalize hwb : wayB ⟨k, f, t, i, l, p, g, a, m⟩ = wb at *
  generalize htb : termsOf ⟨k, f, t, i, l, p, g, a, m⟩ = tb at *
  simp only [Msg.v, Msg.cells] at *
  have Hway := hide hway
  have Hterm := hide hterm
  clear hway hterm
  by_cases k1 : 1 ≤ k
  · have dk1 : decide ((k : Int) < 1) = false := by simp; omega
    by_cases k6 : k ≤ 6
    · have dk6 : decide (6 < (k : Int)) = false := by simp; omega
      cases wb with
      | false =>
        have e : Hid (faultOf ⟨k, f, t, i, l, p, g, a, m⟩ = 4) := hide (by simp [faultOf, kindB, k1, k6, hwb])
        clear hwb htb
        go_enter Tryz.func110, Tryz.ntmps110
        go_wp2_with fail
        refine (Hway.out _).mono ?_
        rintro e w1 ⟨rfl, hb⟩
        go_wp2
        go_ret
        exact ⟨ret_int (by rw [e.out]; rfl), box_below hb⟩
      | true =>
        by_cases l4 : 4 ≤ l
        · have e : Hid (faultOf ⟨k, f, t, i, l, p, g, a, m⟩ = 5) := hide (by simp [faultOf, kindB, k1, k6, hwb, l4])
          clear hwb htb
          go_enter Tryz.func110, Tryz.ntmps110
          go_wp2_with fail
          refine (Hway.out _).mono ?_
          rintro e w1 ⟨rfl, hb⟩
          have hc := box_kept hb
          go_wp2
          go_ret
          exact ⟨ret_int (by rw [e.out]; rfl), box_below hb⟩
        · by_cases ke : k = 1
          · have dke : ((k : Int) == 1) = true := by simp; omega
            have e : Hid (faultOf ⟨k, f, t, i, l, p, g, a, m⟩ = tb) := hide (by subst ke; simp [faultOf, kindB, hwb, l4, htb])
            clear hwb htb ke
            go_enter Tryz.func110, Tryz.ntmps110
            go_wp2_with fail
            refine (Hway.out _).mono ?_
            rintro e w1 ⟨rfl, hb⟩
            have hc := box_kept hb
            go_wp2_with fail
            refine (Hterm.out _).mono ?_
            rintro e w2 ⟨rfl, hb2⟩
            go_wp2
            go_ret
            exact ⟨ret_int (by rw [e.out]), box_below (hb.trans (hb2.mono hb.size))⟩
          · have dke : ((k : Int) == 1) = false := by simp; omega
            have e0 : Hid (faultOf ⟨k, f, t, i, l, p, g, a, m⟩ = if bareB ⟨k, f, t, i, l, p, g, a, m⟩ then 0 else 3) := hide (by simp [faultOf, kindB, k1, k6, ke, hwb, l4])
            clear hwb htb ke Hterm
            by_cases p0 : p = 0
            · have dp : ((p : Int) != 0) = false := by simp; omega
              by_cases g0 : g = 0
              · have dg : ((g : Int) != 0) = false := by simp; omega
                by_cases a0 : a = 0
                · have da : ((a : Int) != 0) = false := by simp; omega
                  cases m with
                  | nil =>
                    have dm : (bs []).toList.isEmpty = true := empty_size (by rw [bs_size]; rfl)
                    have e : Hid (faultOf ⟨k, f, t, i, l, p, g, a, []⟩ = 0) := hide (by rw [e0.out]; simp [bareB, p0, g0, a0])
                    clear e0 p0 g0 a0
                    go_enter Tryz.func110, Tryz.ntmps110
                    go_wp2_with fail
                    refine (Hway.out _).mono ?_
                    rintro e w1 ⟨rfl, hb⟩
                    have hc := box_kept hb
                    go_wp2
                    go_ret
                    exact ⟨ret_int (by rw [e.out]; rfl), box_below hb⟩
                  | cons b r =>
                    have dm : (bs (b :: r)).toList.isEmpty = false := nonempty_size (by rw [bs_size]; simp)
                    have e : Hid (faultOf ⟨k, f, t, i, l, p, g, a, b :: r⟩ = 3) := hide (by rw [e0.out]; simp [bareB])
                    clear e0 p0 g0 a0
                    go_enter Tryz.func110, Tryz.ntmps110
                    go_wp2_with fail
                    refine (Hway.out _).mono ?_
                    rintro e w1 ⟨rfl, hb⟩
                    have hc := box_kept hb
                    go_wp2
                    go_ret
                    exact ⟨ret_int (by rw [e.out]; rfl), box_below hb⟩
                · have da : ((a : Int) != 0) = true := by simp; omega
                  have e : Hid (faultOf ⟨k, f, t, i, l, p, g, a, m⟩ = 3) := hide (by rw [e0.out]; simp [bareB, a0])
                  clear e0 p0 g0 a0
                  go_enter Tryz.func110, Tryz.ntmps110
                  go_wp2_with fail
                  refine (Hway.out _).mono ?_
                  rintro e w1 ⟨rfl, hb⟩
                  have hc := box_kept hb
                  go_wp2
                  go_ret
                  exact ⟨ret_int (by rw [e.out]; rfl), box_below hb⟩
              · have dg : ((g : Int) != 0) = true := by simp; omega
                have e : Hid (faultOf ⟨k, f, t, i, l, p, g, a, m⟩ = 3) := hide (by rw [e0.out]; simp [bareB, g0])
                clear e0 p0 g0
                go_enter Tryz.func110, Tryz.ntmps110
                go_wp2_with fail
                refine (Hway.out _).mono ?_
                rintro e w1 ⟨rfl, hb⟩
                have hc := box_kept hb
                go_wp2
                go_ret
                exact ⟨ret_int (by rw [e.out]; rfl), box_below hb⟩
            · have dp : ((p : Int) != 0) = true := by simp; omega
              have e : Hid (faultOf ⟨k, f, t, i, l, p, g, a, m⟩ = 3) := hide (by rw [e0.out]; simp [bareB, p0])
              clear e0 p0
              go_enter Tryz.func110, Tryz.ntmps110
              go_wp2_with fail
              refine (Hway.out _).mono ?_
              rintro e w1 ⟨rfl, hb⟩
              have hc := box_kept hb
              go_wp2
              go_ret
              exact ⟨ret_int (by rw [e.out]; rfl), box_below hb⟩
    · have dk6 : decide (6 < (k : Int)) = true := by simp; omega
      have e : Hid (faultOf ⟨k, f, t, i, l, p, g, a, m⟩ = 3) := hide (by simp [faultOf, kindB, k6])
      clear Hway Hterm hwb htb
      go_enter Tryz.func110, Tryz.ntmps110
      go_wp2_with fail
      go_ret
      exact ⟨ret_int (by rw [e.out]; rfl), (Below.refl _ _).alloc (Nat.le_refl _) _⟩
  · have dk1 : decide ((k : Int) < 1) = true := by simp; omega
    have e : Hid (faultOf ⟨k, f, t, i, l, p, g, a, m⟩ = 3) := hide (by simp [faultOf, kindB, k1])
    clear Hway Hterm hwb htb
    go_enter Tryz.func110, Tryz.ntmps110
    go_wp2_with fail
    go_ret
    exact ⟨ret_int (by rw [e.out]; rfl), (Below.refl _ _).alloc (Nat.le_refl _) _⟩
end Go.Proofs.YtjkhbjgfoopomaaGreat
