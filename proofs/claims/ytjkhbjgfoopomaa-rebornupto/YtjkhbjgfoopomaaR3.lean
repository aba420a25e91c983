import Derived.Test.YtjkhbjgfoopomaaR1
import Derived.Lib.Strings
import Derived.Test.YtjkhbjgfoopomaaR2
import Derived.Deep.RegionHeld3
/-
  The walks over what a memo is, the code's and the document's.
-/
namespace Go.Proofs.Ytjkhbjgfoopomaa
open Go.RowKit
set_option linter.unusedVariables false

set_option maxRecDepth 100000 in
set_option maxHeartbeats 400000 in
theorem sizeAfter_any (b : Nat) (hb : b < 256) (w : World) :
    Calls Try.prog 115 #[.int .u8 (b : Int)] w fun e w' => e = .returned (.int .i64 ((chLen b : Nat) : Int)) ∧ w' = w := by
  go_enter Try.func115, Try.ntmps115
  go_wp2
  all_goals go_ret
  all_goals refine ⟨ret_int ?_, rfl⟩
  all_goals unfold chLen
  all_goals (repeat' split) <;> omega
theorem lowest_any (b : Nat) (hb : b < 256) (w : World) :
    Calls Try.prog 116 #[.int .u8 (b : Int)] w fun e w' => e = .returned (.int .u8 ((chLo b : Nat) : Int)) ∧ w' = w := by
  go_enter Try.func116, Try.ntmps116
  go_wp2
  all_goals go_ret
  all_goals refine ⟨ret_int ?_, rfl⟩
  all_goals unfold chLo
  all_goals simp_all
  all_goals (repeat' split) <;> omega
theorem highest_any (b : Nat) (hb : b < 256) (w : World) :
    Calls Try.prog 117 #[.int .u8 (b : Int)] w fun e w' => e = .returned (.int .u8 ((chHi b : Nat) : Int)) ∧ w' = w := by
  go_enter Try.func117, Try.ntmps117
  go_wp2
  all_goals go_ret
  all_goals refine ⟨ret_int ?_, rfl⟩
  all_goals unfold chHi
  all_goals simp_all
  all_goals (repeat' split) <;> omega
theorem ret_bool {a b : Bool} (h : a = b) : Ending.returned (.bool a) = .returned (.bool b) := by rw [h]
theorem empty_size {s : ByteArray} (h : s.size = 0) : s.toList.isEmpty = true := by
  rw [ByteArray.toList_eq]
  have : s.data.toList.length = 0 := by simpa using h
  rw [List.length_eq_zero_iff.1 this]
  rfl
theorem nonempty_size {s : ByteArray} (h : ¬ s.size = 0) : s.toList.isEmpty = false := by
  rw [ByteArray.toList_eq]
  have : ¬ s.data.toList.length = 0 := by simpa using h
  cases e : s.data.toList with
  | nil => rw [e] at this; simp at this
  | cons b r => rfl
theorem get_q (s : ByteArray) (k : Nat) (h : k < s.size) : s.data.toList[k]? = some s[k] := by
  rw [List.getElem?_eq_getElem (by simpa using h)]
  rfl
theorem list_len (s : ByteArray) : s.data.toList.length = s.size := by simp

set_option maxRecDepth 100000 in
set_option maxHeartbeats 1000000 in
theorem chSize_any (s : ByteArray) (hs : s.size ≤ maxLen) (w : World) :
    Calls Try.prog 109 #[.string s] w fun e w' => e = .returned (.int .i64 ((chSize s.data.toList : Nat) : Int)) ∧ w' = w := by
  unfold maxLen at hs
  by_cases h0 : s.size = 0
  · have he := empty_size h0
    have hf : Hid (chSize s.data.toList = 0) := hide (by
      have : s.data.toList.length = 0 := by simpa using h0
      rw [List.length_eq_zero_iff.1 this]; rfl)
    go_enter Try.func109, Try.ntmps109
    go_wp2_with fail
    go_ret
    exact ⟨ret_int (by rw [hf.out]; rfl), rfl⟩
  · have he := nonempty_size h0
    have hz : 0 < s.size := by omega
    have g0 := get_q s 0 hz
    have hb := byte_lt s[0]
    have h4 := chLen_le s[0].toNat
    have f1 : Hid (chLen s[0].toNat ≤ 1 → chSize s.data.toList = chLen s[0].toNat) := hide (chSize_one g0)
    have f2 : Hid (2 ≤ chLen s[0].toNat → s.size < chLen s[0].toNat → chSize s.data.toList = 0) := hide (fun a b => chSize_not g0 a (.inl (by simpa using b)))
    have f3 : Hid (2 ≤ chLen s[0].toNat → ∀ h1 : 1 < s.size, ¬ (chLo s[0].toNat ≤ s[1].toNat ∧ s[1].toNat ≤ chHi s[0].toNat) → chSize s.data.toList = 0) := hide (fun a h1 b => chSize_not g0 a (.inr (.inl ⟨_, get_q s 1 h1, b⟩)))
    have f4 : Hid (2 ≤ chLen s[0].toNat → ∀ j, ∀ hj : j < s.size, 2 ≤ j → j < chLen s[0].toNat → ¬ (128 ≤ s[j].toNat ∧ s[j].toNat ≤ 191) → chSize s.data.toList = 0) :=
      hide (fun a j hj h2 hl b => chSize_not g0 a (.inr (.inr ⟨j, _, h2, hl, get_q s j hj, b⟩)))
    have f5 : Hid (2 ≤ chLen s[0].toNat → ∀ h1 : 1 < s.size, chLo s[0].toNat ≤ s[1].toNat → s[1].toNat ≤ chHi s[0].toNat → (∀ j, 2 ≤ j → j < chLen s[0].toNat → ∃ x, s.data.toList[j]? = some x ∧ 128 ≤ x.toNat ∧ x.toNat ≤ 191) → chSize s.data.toList = chLen s[0].toNat) :=
      hide (fun a h1 b c d => chSize_ok g0 (get_q s 1 h1) a ⟨b, c⟩ d)
    clear g0
    generalize hF : chSize s.data.toList = F at *
    clear hF
    go_enter Try.func109, Try.ntmps109
    go_wp2_with fail
    refine (sizeAfter_any s[0].toNat hb _).mono ?_
    rintro e w' ⟨rfl, rfl⟩
    generalize chLen s[0].toNat = n at *
    by_cases n1 : n ≤ 1
    · have g1 := f1.out n1
      go_wp2_with fail
      go_ret
      exact ⟨ret_int (by first | rfl | rw [g1]), rfl⟩
    · by_cases n2 : s.size < n
      · have g1 := f2.out (by omega) n2
        go_wp2_with fail
        go_ret
        exact ⟨ret_int (by first | rfl | (rw [g1]; rfl)), rfl⟩
      · have h1 : 1 < s.size := by omega
        clear f1 f2
        go_wp2_with fail
        refine (lowest_any s[0].toNat hb _).mono ?_
        rintro e w' ⟨rfl, rfl⟩
        go_wp2_with fail
        refine (highest_any s[0].toNat hb _).mono ?_
        rintro e w' ⟨rfl, rfl⟩
        have hb1 := byte_lt s[1]
        generalize chLo s[0].toNat = lo at *
        generalize chHi s[0].toNat = hi at *
        by_cases c1 : s[1].toNat < lo
        · have g1 := f3.out (by omega) h1 (by omega)
          go_wp2_with fail
          go_ret
          exact ⟨ret_int (by first | rfl | (rw [g1]; rfl)), rfl⟩
        · by_cases c2 : hi < s[1].toNat
          · have g1 := f3.out (by omega) h1 (by omega)
            go_wp2_with fail
            go_ret
            exact ⟨ret_int (by first | rfl | (rw [g1]; rfl)), rfl⟩
          · clear f3
            go_wp2_with fail
            go_loop [7] (fun i => ∃ k : Nat, 2 ≤ k ∧ k ≤ n ∧ i = .int .i64 k ∧ Hid (∀ j, 2 ≤ j → j < k → ∃ x, s.data.toList[j]? = some x ∧ 128 ≤ x.toNat ∧ x.toNat ≤ 191)) (fun i => n - (intOf i).toNat)
            case atStart => exact ⟨2, by omega, by omega, rfl, hide (fun j a b => by omega)⟩
            case round =>
              obtain ⟨k, hk2, hkn, rfl, hq⟩ := hrel
              by_cases hlt : k < n
              · have hks : k < s.size := by omega
                have hbk := byte_lt s[k]
                by_cases d1 : s[k].toNat < 128
                · have g1 := f4.out (by omega) k hks hk2 hlt (by omega)
                  clear f4 f5
                  go_wp2
                  go_ret
                  exact ⟨ret_int (by first | rfl | (rw [g1]; rfl)), rfl⟩
                · by_cases d2 : 191 < s[k].toNat
                  · have g1 := f4.out (by omega) k hks hk2 hlt (by omega)
                    clear f4 f5
                    go_wp2
                    go_ret
                    exact ⟨ret_int (by first | rfl | (rw [g1]; rfl)), rfl⟩
                  · have hq' : Hid (∀ j, 2 ≤ j → j < k + 1 → ∃ x, s.data.toList[j]? = some x ∧ 128 ≤ x.toNat ∧ x.toNat ≤ 191) := hide (fun j a b => by
                      by_cases e : j < k
                      · exact hq.out j a e
                      · have e : j = k := by omega
                        subst e
                        exact ⟨_, get_q s j hks, by omega, by omega⟩)
                    clear hq f4 f5
                    go_wp2
                    exact ⟨⟨k + 1, by omega, by omega, by go_num, hq'⟩, by simp [intOf]; omega⟩
              · have e : k = n := by omega
                subst e
                have g1 := f5.out (by omega) h1 (by omega) (by omega) hq.out
                clear hq f4 f5
                go_wp2
                go_ret
                exact ⟨ret_int (by first | rfl | rw [g1]), rfl⟩

theorem drop_extract (s : ByteArray) (n : Nat) (h : n ≤ s.size) : (s.extract n s.size).data.toList = s.data.toList.drop n := by
  rw [Lib.extract_data, List.take_of_length_le (by rw [List.length_drop, list_len]; omega)]
set_option maxRecDepth 100000 in
set_option maxHeartbeats 1000000 in
theorem isMemo_any (s : ByteArray) (hs : s.size ≤ maxLen) (w : World) :
    Calls Try.prog 99 #[.string s] w fun e w' => e = .returned (.bool (memoB s.data.toList)) ∧ w' = w := by
  go_enter Try.func99, Try.ntmps99
  go_wp2
  go_loop [0, 3] (fun t i => ∃ (k : Nat) (r : ByteArray), k ≤ 16 ∧ i = .int .i64 k ∧ t = .string r ∧ r.size ≤ maxLen ∧ Hid (memoB s.data.toList = memoK (16 - k) r.data.toList)) (fun _ i => 16 - (intOf i).toNat)
  case atStart => exact ⟨0, s, by decide, rfl, rfl, hs, hide rfl⟩
  case round =>
    obtain ⟨k, r, hk, rfl, rfl, hr, hm⟩ := hrel
    by_cases hlt : k < 16
    · have hle : chSize r.data.toList ≤ r.size := by have := chSize_le r.data.toList; simpa using this
      have hm' : Hid (memoB s.data.toList = memoK (16 - (k + 1)) (r.extract (chSize r.data.toList) r.size).data.toList) := hide (by
        rw [hm.out, show 16 - k = (16 - (k + 1)) + 1 by omega, drop_extract _ _ hle]; rfl)
      have hz : (r.extract (chSize r.data.toList) r.size).size ≤ maxLen := by
        have h1 : (r.extract (chSize r.data.toList) r.size).size = r.size - chSize r.data.toList := by simp
        unfold maxLen at hr ⊢
        omega
      clear hm
      go_wp2_with fail
      refine (chSize_any r hr _).mono ?_
      rintro e w' ⟨rfl, rfl⟩
      generalize chSize r.data.toList = n at *
      go_wp2
      exact ⟨⟨k + 1, _, by omega, by go_num, rfl, hz, hm'⟩, by simp [intOf]; omega⟩
    · have e : k = 16 := by omega
      subst e
      go_wp2
      go_ret
      exact ⟨by rw [hm.out, ByteArray.toList_eq]; rfl, rfl⟩

end Go.Proofs.Ytjkhbjgfoopomaa
/-
  The document's Wrong.
-/
namespace Go.Proofs.Ytjkhbjgfoopomaa
open Go.RowKit
set_option linter.unusedVariables false
set_option linter.unusedSimpArgs false
/-- P9: what is wrong with a leg -/
def plErr (l : Pl) : Nat := if l.b < 1 ∨ 7 < l.b then 4 else if l.a < 1 then 6 else 0
def legsErr : List Pl → Nat
  | [] => 0
  | l :: r => if plErr l = 0 then legsErr r else plErr l
theorem legsErr_append (a b : List Pl) : legsErr (a ++ b) = if legsErr a = 0 then legsErr b else legsErr a := by
  induction a with
  | nil => simp [legsErr]
  | cons l r ih =>
    simp only [List.cons_append, legsErr]
    by_cases h : plErr l = 0
    · simp [h, ih]
    · simp [h]
/-- P9: what is wrong with a payment by itself -/
def wrongOf (p : Pm) : Nat := if p.legs.length = 0 ∨ 4 < p.legs.length then 5 else if legsErr p.legs = 0 then (if memoB p.memo then 0 else 7) else legsErr p.legs
theorem legsErr_at {l : List Pl} {k : Nat} (hk : k < l.length) (h0 : legsErr (l.take k) = 0) (h1 : plErr l[k] ≠ 0) : legsErr l = plErr l[k] := by
  have e : l = l.take k ++ (l[k] :: l.drop (k + 1)) := by
    rw [List.getElem_cons_drop hk, List.take_append_drop]
  have e2 := legsErr_append (l.take k) (l[k] :: l.drop (k + 1))
  rw [← e, h0] at e2
  rw [e2]
  simp [legsErr, h1]
theorem legsErr_next {l : List Pl} {k : Nat} (hk : k < l.length) (h0 : legsErr (l.take k) = 0) (h1 : plErr l[k] = 0) : legsErr (l.take (k + 1)) = 0 := by
  rw [take_snoc_dt l k hk, legsErr_append, h0]
  simp [legsErr, h1]

end Go.Proofs.Ytjkhbjgfoopomaa
/-
  The walks over what is wrong with a message: the code's.
-/
namespace Go.Proofs.Ytjkhbjgfoopomaa
open Go.RowKit
set_option linter.unusedVariables false

/-- what lies in a box stays there, whatever is laid behind it -/
theorem box_kept {w w1 : World} {cs : Array Value} {t : TypeId} (hb : Below (w.alloc (.cells cs t)).heap.size (w.alloc (.cells cs t)) w1) (o : Nat) : w1.cell? ⟨w.heap.size, o, none⟩ = cs[o]? := by
  rw [hb.cell (p := ⟨w.heap.size, o, none⟩) (by simp), World.cell?_alloc_new]
theorem box_below {w w1 : World} {cs : Array Value} {t : TypeId} (hb : Below (w.alloc (.cells cs t)).heap.size (w.alloc (.cells cs t)) w1) : Below w.heap.size w w1 :=
  ((Below.refl _ _).alloc (Nat.le_refl _) _).trans (hb.mono (by simp))
theorem isBank_any (n : Nat) (hn : n < 256) (w : World) :
    Calls Try.prog 97 #[.int .u8 (n : Int)] w fun e w' => e = .returned (.bool (bankB n)) ∧ w' = w := by
  by_cases h : n = 0
  · subst h
    go_enter Try.func97, Try.ntmps97
    go_wp2
    go_ret
    exact ⟨rfl, rfl⟩
  · have h1 : ((n : Int) != 0) = true := by simp; omega
    have e : Hid (bankB n = decide ((n : Int) ≤ 7)) := hide (by
      have : 1 ≤ n := by omega
      simp only [bankB, this, decide_true, Bool.true_and]
      exact decide_eq_decide.2 (by omega))
    go_enter Try.func97, Try.ntmps97
    go_wp2
    go_ret
    exact ⟨ret_bool (by rw [e.out]), rfl⟩

set_option maxRecDepth 100000 in
set_option maxHeartbeats 400000 in
theorem way_any (x : Msg) (hx : x.ok) (w : World) :
    Calls Try.prog 92 #[x.v] w fun e w' => e = .returned (.bool (wayB x)) ∧ Below w.heap.size w w' := by
  obtain ⟨k, f, t, i, l, p, g, a, m⟩ := x
  obtain ⟨hk, hf, ht, hi, hl, hp, hg, ha⟩ := hx
  simp only [Msg.v, Msg.cells] at *
  by_cases h3 : k ≤ 3
  · have d3 : decide ((k : Int) ≤ 3) = true := by simp; omega
    by_cases h0 : f = 0
    · subst h0
      have e : Hid (wayB ⟨k, 0, t, i, l, p, g, a, m⟩ = bankB t) := hide (by simp [wayB, h3])
      go_enter Try.func92, Try.ntmps92
      go_wp2_with fail
      refine (isBank_any t ht _).mono ?_
      rintro e w1 ⟨rfl, rfl⟩
      go_wp2
      go_ret
      exact ⟨ret_bool (by rw [e.out]), (Below.refl _ _).alloc (Nat.le_refl _) _⟩
    · have d0 : ((f : Int) == 0) = false := by simp; omega
      have e : Hid (wayB ⟨k, f, t, i, l, p, g, a, m⟩ = false) := hide (by simp [wayB, h3, h0])
      go_enter Try.func92, Try.ntmps92
      go_wp2_with fail
      go_ret
      exact ⟨ret_bool (by rw [e.out]), (Below.refl _ _).alloc (Nat.le_refl _) _⟩
  · have d3 : decide ((k : Int) ≤ 3) = false := by simp; omega
    by_cases h0 : t = 0
    · subst h0
      have e : Hid (wayB ⟨k, f, 0, i, l, p, g, a, m⟩ = bankB f) := hide (by simp [wayB, h3])
      go_enter Try.func92, Try.ntmps92
      go_wp2_with fail
      refine (isBank_any f hf _).mono ?_
      rintro e w1 ⟨rfl, rfl⟩
      go_wp2
      go_ret
      exact ⟨ret_bool (by rw [e.out]), (Below.refl _ _).alloc (Nat.le_refl _) _⟩
    · have d0 : ((t : Int) == 0) = false := by simp; omega
      have e : Hid (wayB ⟨k, f, t, i, l, p, g, a, m⟩ = false) := hide (by simp [wayB, h3, h0])
      go_enter Try.func92, Try.ntmps92
      go_wp2_with fail
      go_ret
      exact ⟨ret_bool (by rw [e.out]), (Below.refl _ _).alloc (Nat.le_refl _) _⟩

set_option maxRecDepth 100000 in
set_option maxHeartbeats 400000 in
theorem terms_any (x : Msg) (hx : x.ok) (hm : x.m.length ≤ 140737488351232) (w : World) :
    Calls Try.prog 93 #[x.v] w fun e w' => e = .returned (.int .i64 ((termsOf x : Nat) : Int)) ∧ Below w.heap.size w w' := by
  obtain ⟨k, f, t, i, l, p, g, a, m⟩ := x
  obtain ⟨hk, hf, ht, hi, hl, hp, hg, ha⟩ := hx
  simp only [Msg.v, Msg.cells] at *
  by_cases h0 : a = 0
  · subst h0
    have e : Hid (termsOf ⟨k, f, t, i, l, p, g, 0, m⟩ = 6) := hide (by simp [termsOf])
    go_enter Try.func93, Try.ntmps93
    go_wp2_with fail
    go_ret
    exact ⟨ret_int (by rw [e.out]; rfl), (Below.refl _ _).alloc (Nat.le_refl _) _⟩
  · have d0 : ((a : Int) == 0) = false := by simp; omega
    have e : Hid (termsOf ⟨k, f, t, i, l, p, g, a, m⟩ = if memoB m then 0 else 7) := hide (by simp [termsOf, h0])
    have hms : (bs m).size ≤ maxLen := by rw [bs_size]; unfold maxLen; omega
    have hmd := bs_data m
    go_enter Try.func93, Try.ntmps93
    go_wp2_with fail
    refine (isMemo_any (bs m) hms _).mono ?_
    rintro e w1 ⟨rfl, rfl⟩
    rw [hmd]
    clear hmd
    cases hb : memoB m with
    | true =>
      rw [hb] at e
      clear hb
      go_wp2
      go_ret
      exact ⟨ret_int (by rw [e.out]; rfl), (Below.refl _ _).alloc (Nat.le_refl _) _⟩
    | false =>
      rw [hb] at e
      clear hb
      go_wp2
      go_ret
      exact ⟨ret_int (by rw [e.out]; rfl), (Below.refl _ _).alloc (Nat.le_refl _) _⟩

set_option maxRecDepth 100000 in
set_option maxHeartbeats 1000000 in
theorem fault_any (x : Msg) (hx : x.ok) (hm : x.m.length ≤ 140737488351232) (w : World) :
    Calls Try.prog 64 #[x.v] w fun e w' => e = .returned (.int .i64 ((faultOf x : Nat) : Int)) ∧ Below w.heap.size w w' := by
  have hway := way_any x hx
  have hterm := terms_any x hx hm
  obtain ⟨k, f, t, i, l, p, g, a, m⟩ := x
  obtain ⟨hk, hf, ht, hi, hl, hp, hg, ha⟩ := hx
  generalize hwb : wayB ⟨k, f, t, i, l, p, g, a, m⟩ = wb at *
  generalize htb : termsOf ⟨k, f, t, i, l, p, g, a, m⟩ = tb at *
  simp only [Msg.v, Msg.cells] at *
  have Hway := hide hway
  have Hterm := hide hterm
  clear hway hterm
  by_cases k1 : 1 ≤ k
  · have dk1 : decide ((k : Int) < 1) = false := by simp; omega
    by_cases k6 : k ≤ 6
    · have dk6 : decide (6 < (k : Int)) = false := by simp; omega
      cases wb with
      | false =>
        have e : Hid (faultOf ⟨k, f, t, i, l, p, g, a, m⟩ = 4) := hide (by simp [faultOf, kindB, k1, k6, hwb])
        clear hwb htb
        go_enter Try.func64, Try.ntmps64
        go_wp2_with fail
        refine (Hway.out _).mono ?_
        rintro e w1 ⟨rfl, hb⟩
        go_wp2
        go_ret
        exact ⟨ret_int (by rw [e.out]; rfl), box_below hb⟩
      | true =>
        by_cases l4 : 4 ≤ l
        · have e : Hid (faultOf ⟨k, f, t, i, l, p, g, a, m⟩ = 5) := hide (by simp [faultOf, kindB, k1, k6, hwb, l4])
          clear hwb htb
          go_enter Try.func64, Try.ntmps64
          go_wp2_with fail
          refine (Hway.out _).mono ?_
          rintro e w1 ⟨rfl, hb⟩
          have hc := box_kept hb
          go_wp2
          go_ret
          exact ⟨ret_int (by rw [e.out]; rfl), box_below hb⟩
        · by_cases ke : k = 1
          · have dke : ((k : Int) == 1) = true := by simp; omega
            have e : Hid (faultOf ⟨k, f, t, i, l, p, g, a, m⟩ = tb) := hide (by subst ke; simp [faultOf, kindB, hwb, l4, htb])
            clear hwb htb ke
            go_enter Try.func64, Try.ntmps64
            go_wp2_with fail
            refine (Hway.out _).mono ?_
            rintro e w1 ⟨rfl, hb⟩
            have hc := box_kept hb
            go_wp2_with fail
            refine (Hterm.out _).mono ?_
            rintro e w2 ⟨rfl, hb2⟩
            go_wp2
            go_ret
            exact ⟨ret_int (by rw [e.out]), box_below (hb.trans (hb2.mono hb.size))⟩
          · have dke : ((k : Int) == 1) = false := by simp; omega
            have e0 : Hid (faultOf ⟨k, f, t, i, l, p, g, a, m⟩ = if bareB ⟨k, f, t, i, l, p, g, a, m⟩ then 0 else 3) := hide (by simp [faultOf, kindB, k1, k6, ke, hwb, l4])
            clear hwb htb ke Hterm
            by_cases p0 : p = 0
            · have dp : ((p : Int) != 0) = false := by simp; omega
              by_cases g0 : g = 0
              · have dg : ((g : Int) != 0) = false := by simp; omega
                by_cases a0 : a = 0
                · have da : ((a : Int) != 0) = false := by simp; omega
                  cases m with
                  | nil =>
                    have dm : (bs []).toList.isEmpty = true := empty_size (by rw [bs_size]; rfl)
                    have e : Hid (faultOf ⟨k, f, t, i, l, p, g, a, []⟩ = 0) := hide (by rw [e0.out]; simp [bareB, p0, g0, a0])
                    clear e0 p0 g0 a0
                    go_enter Try.func64, Try.ntmps64
                    go_wp2_with fail
                    refine (Hway.out _).mono ?_
                    rintro e w1 ⟨rfl, hb⟩
                    have hc := box_kept hb
                    go_wp2
                    go_ret
                    exact ⟨ret_int (by rw [e.out]; rfl), box_below hb⟩
                  | cons b r =>
                    have dm : (bs (b :: r)).toList.isEmpty = false := nonempty_size (by rw [bs_size]; simp)
                    have e : Hid (faultOf ⟨k, f, t, i, l, p, g, a, b :: r⟩ = 3) := hide (by rw [e0.out]; simp [bareB])
                    clear e0 p0 g0 a0
                    go_enter Try.func64, Try.ntmps64
                    go_wp2_with fail
                    refine (Hway.out _).mono ?_
                    rintro e w1 ⟨rfl, hb⟩
                    have hc := box_kept hb
                    go_wp2
                    go_ret
                    exact ⟨ret_int (by rw [e.out]; rfl), box_below hb⟩
                · have da : ((a : Int) != 0) = true := by simp; omega
                  have e : Hid (faultOf ⟨k, f, t, i, l, p, g, a, m⟩ = 3) := hide (by rw [e0.out]; simp [bareB, a0])
                  clear e0 p0 g0 a0
                  go_enter Try.func64, Try.ntmps64
                  go_wp2_with fail
                  refine (Hway.out _).mono ?_
                  rintro e w1 ⟨rfl, hb⟩
                  have hc := box_kept hb
                  go_wp2
                  go_ret
                  exact ⟨ret_int (by rw [e.out]; rfl), box_below hb⟩
              · have dg : ((g : Int) != 0) = true := by simp; omega
                have e : Hid (faultOf ⟨k, f, t, i, l, p, g, a, m⟩ = 3) := hide (by rw [e0.out]; simp [bareB, g0])
                clear e0 p0 g0
                go_enter Try.func64, Try.ntmps64
                go_wp2_with fail
                refine (Hway.out _).mono ?_
                rintro e w1 ⟨rfl, hb⟩
                have hc := box_kept hb
                go_wp2
                go_ret
                exact ⟨ret_int (by rw [e.out]; rfl), box_below hb⟩
            · have dp : ((p : Int) != 0) = true := by simp; omega
              have e : Hid (faultOf ⟨k, f, t, i, l, p, g, a, m⟩ = 3) := hide (by rw [e0.out]; simp [bareB, p0])
              clear e0 p0
              go_enter Try.func64, Try.ntmps64
              go_wp2_with fail
              refine (Hway.out _).mono ?_
              rintro e w1 ⟨rfl, hb⟩
              have hc := box_kept hb
              go_wp2
              go_ret
              exact ⟨ret_int (by rw [e.out]; rfl), box_below hb⟩
    · have dk6 : decide (6 < (k : Int)) = true := by simp; omega
      have e : Hid (faultOf ⟨k, f, t, i, l, p, g, a, m⟩ = 3) := hide (by simp [faultOf, kindB, k6])
      clear Hway Hterm hwb htb
      go_enter Try.func64, Try.ntmps64
      go_wp2_with fail
      go_ret
      exact ⟨ret_int (by rw [e.out]; rfl), (Below.refl _ _).alloc (Nat.le_refl _) _⟩
  · have dk1 : decide ((k : Int) < 1) = true := by simp; omega
    have e : Hid (faultOf ⟨k, f, t, i, l, p, g, a, m⟩ = 3) := hide (by simp [faultOf, kindB, k1])
    clear Hway Hterm hwb htb
    go_enter Try.func64, Try.ntmps64
    go_wp2_with fail
    go_ret
    exact ⟨ret_int (by rw [e.out]; rfl), (Below.refl _ _).alloc (Nat.le_refl _) _⟩
end Go.Proofs.Ytjkhbjgfoopomaa
/-
  The walk over the document's Fault, and its numbers as bytes.
-/
namespace Go.Proofs.Ytjkhbjgfoopomaa
open Go.RowKit
set_option linter.unusedVariables false
attribute [local go_sem] conv1 bs_size bs_append

end Go.Proofs.Ytjkhbjgfoopomaa
/-
  The walk over Encode, the code's.
-/
namespace Go.Proofs.Ytjkhbjgfoopomaa
open Go.RowKit
set_option linter.unusedVariables false
attribute [local go_sem] conv1 conv2 conv4 bs_size bs_append be_length

theorem conv4' (w : World) (o : Obj) (a b c d : Int) : (convert 47 9 (.slice (some ⟨w.heap.size + 1, 0, none⟩) 4 4)).run Try.prog ((w.alloc o).alloc (.cells #[.int .u8 a, .int .u8 b, .int .u8 c, .int .u8 d] 5)) =
    .ok (.string (bs [UInt8.ofNat a.toNat, UInt8.ofNat b.toNat, UInt8.ofNat c.toNat, UInt8.ofNat d.toNat])) ((w.alloc o).alloc (.cells #[.int .u8 a, .int .u8 b, .int .u8 c, .int .u8 d] 5)) := by
  rw [show w.heap.size + 1 = (w.alloc o).heap.size from by simp]
  exact conv4 (w.alloc o) a b c d
attribute [local go_sem] conv4'

/-- a box of ours: nothing older has turned, and its cells lie there -/
structure Box (w : World) (cs : Array Value) (u : World) : Prop where
  bel : Below w.heap.size w u
  lt : w.heap.size < u.heap.size
  cell : ∀ o, u.cell? ⟨w.heap.size, o, none⟩ = cs[o]?
  fro : ∀ o, u.frozen? ⟨w.heap.size, o, none⟩ = false
theorem Box.mk0 (w : World) (cs : Array Value) (t : TypeId) : Box w cs (w.alloc (.cells cs t)) :=
  ⟨(Below.refl _ _).alloc (Nat.le_refl _) _, by simp, fun o => World.cell?_alloc_new .., fun o => by simp⟩
theorem Box.below {w u u' : World} {cs : Array Value} (h : Box w cs u) (hb : Below u.heap.size u u') : Box w cs u' :=
  ⟨h.bel.trans (hb.mono (Nat.le_of_lt h.lt)), Nat.lt_of_lt_of_le h.lt hb.size, fun o => by rw [hb.cell (p := ⟨w.heap.size, o, none⟩) h.lt]; exact h.cell o,
    fun o => by rw [hb.frozen (p := ⟨w.heap.size, o, none⟩) h.lt]; exact h.fro o⟩
theorem Box.alloc {w u : World} {cs : Array Value} (h : Box w cs u) (o : Obj) : Box w cs (u.alloc o) :=
  h.below ((Below.refl _ _).alloc (Nat.le_refl _) _)
theorem Box.drew {w u : World} {cs : Array Value} (h : Box w cs u) : Box w cs u.drew := ⟨h.bel.drew, h.lt, h.cell, h.fro⟩

theorem fault_zero_memo {x : Msg} (h : faultOf x = 0) : x.m.length ≤ 64 := by
  unfold faultOf at h
  split at h
  · omega
  · split at h
    · omega
    · split at h
      · omega
      · split at h
        · unfold termsOf at h
          split at h
          · omega
          · split at h
            · rename_i hmb
              exact memoB_len hmb
            · omega
        · split at h
          · rename_i hb
            simp [bareB] at hb
            simp [hb.2]
          · omega
set_option maxRecDepth 100000 in
set_option maxHeartbeats 1000000 in
theorem spell_any (x : Msg) (hx : x.ok) (hm64 : x.m.length ≤ 64) (w : World) :
    Calls Try.prog 65 #[x.v] w fun e w' => e = .returned (.string (bs (frameOf x))) ∧ Below w.heap.size w w' := by
  obtain ⟨k, f, t, i, l, p, g, a, m⟩ := x
  obtain ⟨hk, hf, ht, hi, hl, hp, hg, ha⟩ := hx
  simp only [Msg.v, Msg.cells] at *
  have hz2 : Hid (frameOf ⟨k, f, t, i, l, p, g, a, m⟩ = bodyOf ⟨k, f, t, i, l, p, g, a, m⟩ ++ be 4 (sumOf (bodyOf ⟨k, f, t, i, l, p, g, a, m⟩))) := hide rfl
  have hz3 : Hid (69 :: UInt8.ofNat k :: UInt8.ofNat f :: UInt8.ofNat t :: (be 4 i ++ UInt8.ofNat l :: (be 2 p ++ (be 2 g ++ (be 4 a ++ UInt8.ofNat m.length :: m)))) = bodyOf ⟨k, f, t, i, l, p, g, a, m⟩) := hide rfl
  have hz4 : Hid ((bodyOf ⟨k, f, t, i, l, p, g, a, m⟩).length = 18 + m.length) := hide (bodyOf_length _)
  go_enter Try.func65, Try.ntmps65
  go_wp2_with fail
  refine (four_any i hi _).mono ?_
  rintro e w2 ⟨rfl, hb⟩
  have B2 := ((Box.mk0 _ _ _).alloc _).below hb
  have hc := B2.cell
  have hlt := B2.lt
  clear hb
  go_wp2_with fail
  refine (two_any p hp _).mono ?_
  rintro e w3 ⟨rfl, hb⟩
  have B3 := (B2.alloc _).below hb
  replace hc := B3.cell
  replace hlt := B3.lt
  clear hb B2
  go_wp2_with fail
  refine (two_any g hg _).mono ?_
  rintro e w4 ⟨rfl, hb⟩
  have B4 := B3.below hb
  replace hc := B4.cell
  replace hlt := B4.lt
  clear hb B3
  go_wp2_with fail
  refine (four_any a ha _).mono ?_
  rintro e w5 ⟨rfl, hb⟩
  have B5 := B4.below hb
  replace hc := B5.cell
  replace hlt := B5.lt
  clear hb B4
  go_wp2_with fail
  rw [hz3.out]
  clear hz3
  generalize bodyOf ⟨k, f, t, i, l, p, g, a, m⟩ = B at *
  have hBl : B.length ≤ 82 := by have := hz4.out; omega
  clear hz4
  refine (frameSum_any (bs B) (by rw [bs_size]; unfold maxLen; omega) _).mono ?_
  rintro e w6 ⟨rfl, rfl⟩
  rw [bs_data]
  have hs := sumOf_lt B
  go_wp2_with fail
  refine (four_any _ hs _).mono ?_
  rintro e w6 ⟨rfl, hb⟩
  have B6 := (B5.alloc _).below hb
  clear hb B5 hc
  go_wp2
  go_ret
  exact ⟨by rw [hz2.out]; rfl, B6.bel⟩

end Go.Proofs.Ytjkhbjgfoopomaa
/-
  The walk over Encode, the document's.
-/
namespace Go.Proofs.Ytjkhbjgfoopomaa
open Go.RowKit
set_option linter.unusedVariables false
attribute [local go_sem] bs_size bs_append be_length

theorem bs_E (l : List UInt8) : (⟨#[69]⟩ : ByteArray) ++ bs l = bs (69 :: l) := ByteArray.mk_append_mk [69] l
attribute [local go_sem] bs_E
end Go.Proofs.Ytjkhbjgfoopomaa
