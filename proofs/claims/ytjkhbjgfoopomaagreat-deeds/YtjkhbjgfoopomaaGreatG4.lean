import Derived.Test.YtjkhbjgfoopomaaGreatG1
import Derived.Test.YtjkhbjgfoopomaaGreatG3
import Derived.BigQuiet
/-
  The statements' small functions: pick, mark, heard, logged, bare, sameList.
-/
namespace Go.Proofs.YtjkhbjgfoopomaaGreat
open Go.RowKit
set_option linter.unusedVariables false
set_option linter.unusedSimpArgs false
attribute [local go_sem] bs_size bs_append conv1

def pickN (c : Int) (n : Nat) : Nat := (if c < 0 then (-(c + 1)).toNat else c.toNat) % n
set_option maxHeartbeats 400000 in
theorem pick_any (c : Int) (hc : -9223372036854775808 ≤ c ∧ c ≤ 9223372036854775807) (n : Nat) (hn : 0 < n) (hn2 : n ≤ 9223372036854775807) (w : World) :
    Calls Tryz.prog 14 #[.int .i64 c, .int .i64 (n : Int)] w fun e w' => e = .returned (.int .i64 (pickN c n : Int)) ∧ w' = w := by
  have hz : Hid (pickN c n = (if c < 0 then (-(c + 1)).toNat else c.toNat) % n) := hide rfl
  by_cases h : c < 0
  · have d : decide (c < 0) = true := by simp [h]
    have hq : Hid ((-(c + 1)).tmod n = (pickN c n : Int)) := hide (by
      rw [hz.out, if_pos h, Int.tmod_eq_emod_of_nonneg (by omega), Int.natCast_emod, Int.toNat_of_nonneg (by omega)])
    have W1 : IntKind.i64.wrap (c + 1) = c + 1 := by rw [IntKind.wrap_i64]; omega
    have W2 : IntKind.i64.wrap (-(c + 1)) = -(c + 1) := by rw [IntKind.wrap_i64]; omega
    clear hz
    go_enter Tryz.func14, Tryz.ntmps14
    go_wp2
    go_ret
    exact ⟨ret_int (by first | exact hq.out | exact hq2.out | (have := hq.out; simp_all)), rfl⟩
  · have d : decide (c < 0) = false := by simp [h]
    have hq : Hid (c.tmod n = (pickN c n : Int)) := hide (by
      rw [hz.out, if_neg h, Int.tmod_eq_emod_of_nonneg (by omega), Int.natCast_emod, Int.toNat_of_nonneg (by omega)])
    have hq2 : Hid (c % n = (pickN c n : Int)) := hide (by
      rw [hz.out, if_neg h, Int.natCast_emod, Int.toNat_of_nonneg (by omega)])
    clear hz
    go_enter Tryz.func14, Tryz.ntmps14
    go_wp2
    go_ret
    exact ⟨ret_int (by first | exact hq.out | exact hq2.out | (have := hq.out; simp_all)), rfl⟩

/-- a number's mark: the letters ahead, and then -/
def markTo : Nat → Nat → List UInt8 → List UInt8
  | 0, n, s => s
  | k + 1, n, s => if n = 0 then s else markTo k (n / 10) (s ++ [UInt8.ofNat (65 + n % 10)])
def markB (n : Nat) : List UInt8 := markTo n n [109]
theorem markTo_zero (k : Nat) (s : List UInt8) : markTo k 0 s = s := by cases k <;> simp [markTo]
theorem markTo_more (k : Nat) : ∀ (n j : Nat) (s : List UInt8), n ≤ k → k ≤ j → markTo j n s = markTo k n s := by
  induction k with
  | zero => intro n j s h _; obtain rfl : n = 0 := by omega
            rw [markTo_zero, markTo_zero]
  | succ k ih =>
    intro n j s h hj
    cases j with
    | zero => omega
    | succ j =>
      simp only [markTo]
      split
      · rfl
      · exact ih _ _ _ (by omega) (by omega)
set_option maxHeartbeats 1000000 in
theorem mark_any (n : Nat) (hn : n ≤ 1000000000000) (w : World) :
    Calls Tryz.prog 15 #[.int .i64 (n : Int)] w fun e w' => e = .returned (.string (bs (markB n))) ∧ Below w.heap.size w w' := by
  go_enter Tryz.func15, Tryz.ntmps15
  go_wp2
  go_loopw [0, 3] (fun a s u => ∃ (y : Nat) (z : List UInt8), y ≤ n ∧ z.length + y ≤ n + 1 ∧ a = .int .i64 (y : Int) ∧ s = .string (bs z) ∧ markTo n y z = markB n ∧ Below w.heap.size w u) (fun a _ _ => (intOf a).toNat)
  case atStart => exact ⟨n, [109], Nat.le_refl _, by simp; omega, rfl, rfl, rfl, Below.refl _ _⟩
  case round =>
    obtain ⟨y, z, hy, hzl, rfl, rfl, hm, hbel⟩ := hrel
    replace hm := hide hm
    by_cases h0 : y = 0
    · have hq : Hid (z = markB n) := hide (by have := hm.out; rw [h0, markTo_zero] at this; exact this)
      clear hm
      subst h0
      go_wp2
      go_ret
      exact ⟨ret_str hq.out, hbel⟩
    · have hq : Hid (markTo n (y / 10) (z ++ [UInt8.ofNat (65 + y % 10)]) = markB n) := hide (by
        rw [← hm.out]
        obtain ⟨n', rfl⟩ : ∃ n', n = n' + 1 := ⟨n - 1, by omega⟩
        conv => rhs; rw [markTo, if_neg h0]
        exact markTo_more n' _ _ _ (by omega) (by omega))
      have d0 : 0 < y := by omega
      have W1 : IntKind.u8.wrap (65 + (y : Int) % 10) = ((65 + y % 10 : Nat) : Int) := by rw [IntKind.wrap_u8]; omega
      have hzz : z.length ≤ 1000000000001 := by omega
      clear hm
      go_wp2
      exact ⟨⟨y / 10, z ++ [UInt8.ofNat (65 + y % 10)], by omega, by simp; omega, by go_num, by first | rfl | simp, hq.out, hbel.alloc hbel.size _⟩, by simp [intOf] <;> omega⟩

/-- a text of a log, and how many things had changed the node ahead of it -/
def logCell (x : List UInt8 × Nat) : List Value := [.string (bs x.1), .int .i64 (x.2 : Int)]
theorem logCell_length (x : List UInt8 × Nat) : (logCell x).length = 2 := rfl
theorem logInfo : (Tryz.prog.info? 152).map (fun i => (i.zero, i.size, i.bytes)) = some (some (.agg #[.string ⟨#[]⟩, .int .i64 0]), 2, 24) := by kernel_rfl
theorem log_one (x : List UInt8 × Nat) : ∀ u ∈ logCell x, u.oneCell' = true := by
  intro u hu
  simp only [logCell, List.mem_cons, List.not_mem_nil, or_false] at hu
  rcases hu with h | h <;> subst h <;> rfl
/-- what is behind the log then -/
def heardOf (lg : List (List UInt8 × Nat)) (s : List UInt8) (m : Nat) : List (List UInt8 × Nat) := if s = [] then lg else lg ++ [(s, m)]
set_option maxRecDepth 100000 in
set_option maxHeartbeats 1000000 in
theorem heard_any (lg : List (List UInt8 × Nat)) (vg : Value) (s : List UInt8) (m : Nat) (w : World) (hR : RowOf w 152 2 logCell vg lg) (hlen : lg.length ≤ 1000000000000) :
    Calls Tryz.prog 22 #[vg, .string (bs s), .int .i64 (m : Int)] w fun e w' => ∃ vg', e = .returned vg' ∧ RowOf w' 152 2 logCell vg' (heardOf lg s m) ∧ Kept (fun k => vg.ownBlock = some k) w w' ∧ ∀ g, vg'.ownBlock = some g → vg.ownBlock = some g ∨ w.heap.size ≤ g := by
  obtain ⟨i0, hi, y0, y1, y2⟩ := info_parts logInfo
  obtain ⟨ad, cap, hv, hev⟩ := hR.form logCell_length
  clear hev
  subst hv
  by_cases h0 : s = []
  · have hq : Hid (heardOf lg s m = lg) := hide (by simp [heardOf, h0])
    subst h0
    have d0 : (bs []).toList.isEmpty = true := by rw [bs_toList]; rfl
    have d1 : ((bs []).toList == []) = true := by rw [bs_toList]; rfl
    go_enter Tryz.func22, Tryz.ntmps22
    go_wp2
    go_ret
    exact ⟨_, rfl, by rw [hq.out]; exact hR, Kept.of_below (Below.refl _ _), fun g h => .inl h⟩
  · have hq : Hid (heardOf lg s m = lg ++ [(s, m)]) := hide (by simp [heardOf, h0])
    have d0 : (bs s).toList.isEmpty = false := by rw [bs_toList]; simpa using h0
    have d1 : ((bs s).toList == []) = false := by rw [bs_toList]; simpa using h0
    clear h0
    go_enter Tryz.func22, Tryz.ntmps22
    go_wp2_with (first
      | (at_builtin; refine wpList_row logCell_length w (by rfl) _ _ 66 (by rfl) 152 i0 _ 24 Tryz.underlying66 hi y0 y1 y2 rfl (by decide) (.slice ad lg.length cap) lg (by rfl) hR 1 (s, m) (by rfl) (log_one _) (by unfold maxLen; omega) (by omega) ?_ _ (by rfl); intro g cap' w2 hrow2 hk2 hg2 hlt2; have X : Hid (RowOf w2 152 2 logCell (.slice (some ⟨g, 0, none⟩) (lg.length + 1) cap') (lg ++ [(s, m)]) ∧ Kept (fun k => (Value.slice ad lg.length cap).ownBlock = some k) w w2 ∧ ((Value.slice ad lg.length cap).ownBlock = some g ∨ w.heap.size ≤ g)) := hide ⟨hrow2, hk2, hg2⟩; clear hrow2 hk2 hg2))
    go_ret
    exact ⟨_, rfl, by rw [hq.out]; exact X.out.1, X.out.2.1, fun g' h' => by obtain rfl : g' = g := (by simpa [Value.ownBlock] using h'.symm); exact X.out.2.2⟩
set_option maxHeartbeats 400000 in
theorem logged_any (s : List UInt8) (m n : Nat) (w : World) (B : Nat) (lg : Bool) (x y z : Value) (hw : w.heap[B]? = some (.cells #[.bool lg, x, y, z] 30 (0, 0))) (hl : lg = true → n = m ∨ s ≠ []) :
    Calls Tryz.prog 23 #[.pointer (some ⟨B, 0, none⟩), .string (bs s), .int .i64 (m : Int), .int .i64 (n : Int)] w fun e w' => e = .returned (.bool true) ∧ Below w.heap.size w w' := by
  have hc : ∀ o, _ = _ := fun o => cell_at hw o
  cases lg with
  | false =>
    clear hl
    go_enter Tryz.func23, Tryz.ntmps23
    go_wp2
    go_ret
    exact ⟨rfl, Below.refl _ _⟩
  | true =>
    by_cases e : n = m
    · subst e
      have d : ((n : Int) == (n : Int)) = true := by simp
      clear hl
      go_enter Tryz.func23, Tryz.ntmps23
      go_wp2
      go_ret
      exact ⟨rfl, Below.refl _ _⟩
    · have hs : s ≠ [] := (hl rfl).resolve_left e
      have d : ((n : Int) == (m : Int)) = false := by simp; omega
      have d0 : (bs s).toList.isEmpty = false := by rw [bs_toList]; simpa using hs
      have d1 : ((bs s).toList == []) = false := by rw [bs_toList]; simpa using hs
      clear hl hs e
      go_enter Tryz.func23, Tryz.ntmps23
      go_wp2
      go_ret
      exact ⟨rfl, Below.refl _ _⟩
set_option maxHeartbeats 400000 in
theorem bare_any (ad : Option Addr) (n c er : Nat) (s : List UInt8) (w : World) (h : er = 0 ∨ (n = 0 ∧ s = [])) :
    Calls Tryz.prog 24 #[.slice ad n c, .string (bs s), .int .i64 (er : Int)] w fun e w' => e = .returned (.bool true) ∧ w' = w := by
  by_cases h0 : er = 0
  · have d : ((er : Int) == 0) = true := by simp; omega
    clear h0 h
    go_enter Tryz.func24, Tryz.ntmps24
    go_wp2
    go_ret
    exact ⟨rfl, rfl⟩
  · obtain ⟨rfl, rfl⟩ : n = 0 ∧ s = [] := h.resolve_left h0
    have d : ((er : Int) == 0) = false := by simp; omega
    have d0 : (bs []).toList.isEmpty = true := by rw [bs_toList]; rfl
    have d1 : ((bs []).toList == []) = true := by rw [bs_toList]; rfl
    clear h0 h
    go_enter Tryz.func24, Tryz.ntmps24
    go_wp2
    go_ret
    exact ⟨rfl, rfl⟩
end Go.Proofs.YtjkhbjgfoopomaaGreat
/-
  Plain: what a memo is.
-/
namespace Go.Proofs.YtjkhbjgfoopomaaGreat

/-- how many bytes a character has that begins with this byte -/
def chLen (b : Nat) : Nat := if b < 128 then 1 else if b < 194 then 0 else if b < 224 then 2 else if b < 240 then 3 else if b < 245 then 4 else 0
def chLo (b : Nat) : Nat := if b = 224 then 160 else if b = 240 then 144 else 128
def chHi (b : Nat) : Nat := if b = 237 then 159 else if b = 244 then 143 else 191
theorem chLen_le (b : Nat) : chLen b ≤ 4 := by unfold chLen; (repeat' split) <;> omega
/-- so many bytes that go on -/
def okTail : Nat → List UInt8 → Bool
  | 0, _ => true
  | _ + 1, [] => false
  | n + 1, b :: r => decide (128 ≤ b.toNat ∧ b.toNat ≤ 191) && okTail n r
/-- the size of the character at a text's head; 0: none -/
def chSize : List UInt8 → Nat
  | [] => 0
  | [b] => if chLen b.toNat = 1 then 1 else 0
  | b :: c :: r => if chLen b.toNat ≤ 1 then chLen b.toNat
      else if decide (chLo b.toNat ≤ c.toNat ∧ c.toNat ≤ chHi b.toNat) && okTail (chLen b.toNat - 2) r then chLen b.toNat else 0
theorem okTail_le {n : Nat} {r : List UInt8} (h : okTail n r = true) : n ≤ r.length := by
  induction n generalizing r with
  | zero => omega
  | succ n ih =>
    cases r with
    | nil => simp [okTail] at h
    | cons b r => simp [okTail] at h; have := ih h.2; simp; omega
theorem chSize_le (l : List UInt8) : chSize l ≤ l.length := by
  match l with
  | [] => simp [chSize]
  | [b] => simp only [chSize]; split <;> simp
  | b :: c :: r =>
    simp only [chSize, List.length_cons]
    split
    · omega
    · split
      · rename_i h1 h2
        simp only [Bool.and_eq_true] at h2
        have := okTail_le h2.2
        omega
      · omega
theorem chSize_le4 (l : List UInt8) : chSize l ≤ 4 := by
  match l with
  | [] => simp [chSize]
  | [b] => simp only [chSize]; split <;> omega
  | b :: c :: r => have := chLen_le b.toNat; simp only [chSize]; (repeat' split) <;> omega
/-- at most so many characters, and nothing behind -/
def memoK : Nat → List UInt8 → Bool
  | 0, l => l.isEmpty
  | k + 1, l => memoK k (l.drop (chSize l))
def memoB (l : List UInt8) : Bool := memoK 16 l
theorem memoK_nil (k : Nat) : memoK k [] = true := by
  induction k with
  | zero => rfl
  | succ k ih => simpa [memoK, chSize] using ih
theorem memoK_stuck {l : List UInt8} (hl : l ≠ []) (h : chSize l = 0) (k : Nat) : memoK k l = false := by
  induction k with
  | zero => cases l with
    | nil => exact absurd rfl hl
    | cons b r => rfl
  | succ k ih => simpa [memoK, h] using ih
theorem memoK_len {l : List UInt8} {k : Nat} (h : memoK k l = true) : l.length ≤ 4 * k := by
  induction k generalizing l with
  | zero => cases l with
    | nil => simp
    | cons b r => simp [memoK] at h
  | succ k ih =>
    simp only [memoK] at h
    have h1 := ih h
    have h2 := chSize_le4 l
    simp at h1
    omega
theorem memoB_len {l : List UInt8} (h : memoB l = true) : l.length ≤ 64 := memoK_len h
/-- where the walk over a text stands: c characters lie behind, i bytes -/
def MemoAt (l : List UInt8) (i c : Nat) : Prop := (∀ k, memoK (c + k) l = memoK k (l.drop i)) ∧ ∀ k, k < c → memoK k l = false
theorem memoAt_zero (l : List UInt8) : MemoAt l 0 0 := ⟨fun k => by simp, fun k h => by omega⟩
theorem memoAt_succ {l : List UInt8} {i c : Nat} (h : MemoAt l i c) (hi : i < l.length) : MemoAt l (i + chSize (l.drop i)) (c + 1) := by
  refine ⟨fun k => ?_, fun k hk => ?_⟩
  · have := h.1 (k + 1)
    rw [show c + 1 + k = c + (k + 1) by omega, this]
    simp only [memoK, List.drop_drop]
  · by_cases e : k < c
    · exact h.2 k e
    · have e : k = c := by omega
      subst e
      have := h.1 0
      simp only [Nat.add_zero, memoK] at this
      rw [this]
      simp
      omega
theorem memoAt_end {l : List UInt8} {i c : Nat} (h : MemoAt l i c) (hi : l.length ≤ i) : memoB l = decide (c ≤ 16) := by
  by_cases e : c ≤ 16
  · have := h.1 (16 - c)
    rw [show c + (16 - c) = 16 by omega, List.drop_eq_nil_of_le hi, memoK_nil] at this
    simp [memoB, this, e]
  · simp [memoB, h.2 16 (by omega), e]
theorem memoAt_none {l : List UInt8} {i c : Nat} (h : MemoAt l i c) (hi : i < l.length) (hz : chSize (l.drop i) = 0) : memoB l = false := by
  by_cases e : c ≤ 16
  · have := h.1 (16 - c)
    rw [show c + (16 - c) = 16 by omega, memoK_stuck (by simp; omega) hz] at this
    exact this
  · exact h.2 16 (by omega)

/-! the size of a character, by the bytes that are there -/
theorem okTail_iff (n : Nat) (r : List UInt8) : okTail n r = true ↔ ∀ j, j < n → ∃ x, r[j]? = some x ∧ 128 ≤ x.toNat ∧ x.toNat ≤ 191 := by
  induction n generalizing r with
  | zero => simp [okTail]
  | succ n ih =>
    cases r with
    | nil =>
      simp only [okTail, Bool.false_eq_true, false_iff]
      intro h
      obtain ⟨x, hx, _⟩ := h 0 (by omega)
      simp at hx
    | cons b r =>
      simp only [okTail, Bool.and_eq_true, decide_eq_true_eq, ih]
      constructor
      · intro ⟨h1, h2⟩ j hj
        cases j with
        | zero => exact ⟨b, rfl, h1⟩
        | succ j => simpa using h2 j (by omega)
      · intro h
        refine ⟨?_, fun j hj => by simpa using h (j + 1) (by omega)⟩
        obtain ⟨x, hx, h1⟩ := h 0 (by omega)
        simp at hx
        subst hx
        exact h1
theorem chSize_one {l : List UInt8} {b : UInt8} (h : l[0]? = some b) (hn : chLen b.toNat ≤ 1) : chSize l = chLen b.toNat := by
  match l, h with
  | [x], h => simp at h; subst h; simp only [chSize]; split <;> omega
  | x :: c :: r, h => simp at h; subst h; simp [chSize, hn]
theorem chSize_ok {l : List UInt8} {b c : UInt8} (h : l[0]? = some b) (h1 : l[1]? = some c) (hn : 2 ≤ chLen b.toNat) (hc : chLo b.toNat ≤ c.toNat ∧ c.toNat ≤ chHi b.toNat)
    (ht : ∀ j, 2 ≤ j → j < chLen b.toNat → ∃ x, l[j]? = some x ∧ 128 ≤ x.toNat ∧ x.toNat ≤ 191) : chSize l = chLen b.toNat := by
  match l, h, h1 with
  | x :: y :: r, h, h1 =>
    simp at h h1
    subst h; subst h1
    have ho : okTail (chLen x.toNat - 2) r = true := (okTail_iff _ _).2 fun j hj => by
      have := ht (j + 2) (by omega) (by omega)
      simpa using this
    simp [chSize, ho, hc, show ¬ chLen x.toNat ≤ 1 by omega]
theorem chSize_not {l : List UInt8} {b : UInt8} (h : l[0]? = some b) (hn : 2 ≤ chLen b.toNat)
    (hb : l.length < chLen b.toNat ∨ (∃ c, l[1]? = some c ∧ ¬ (chLo b.toNat ≤ c.toNat ∧ c.toNat ≤ chHi b.toNat)) ∨ ∃ j x, 2 ≤ j ∧ j < chLen b.toNat ∧ l[j]? = some x ∧ ¬ (128 ≤ x.toNat ∧ x.toNat ≤ 191)) : chSize l = 0 := by
  match l, h with
  | [x], h => simp at h; subst h; simp only [chSize]; split <;> omega
  | x :: c :: r, h =>
    simp at h
    subst h
    have hx : (decide (chLo x.toNat ≤ c.toNat ∧ c.toNat ≤ chHi x.toNat) && okTail (chLen x.toNat - 2) r) = false := by
      cases ho : okTail (chLen x.toNat - 2) r with
      | false => simp
      | true =>
        rcases hb with hb | ⟨c', hc, hb⟩ | ⟨j, y, h2, hj, hy, hb⟩
        · have := okTail_le ho
          simp at hb
          omega
        · simp at hc
          subst hc
          simpa using hb
        · exfalso
          obtain ⟨z, hz, hz2⟩ := (okTail_iff _ _).1 ho (j - 2) (by omega)
          obtain ⟨i, rfl⟩ : ∃ i, j = i + 2 := ⟨j - 2, by omega⟩
          simp at hy hz
          rw [hy] at hz
          cases hz
          exact hb hz2
    simp only [chSize, hx]
    rw [if_neg (by omega)]
    simp
end Go.Proofs.YtjkhbjgfoopomaaGreat
/-
  Plain: messages, what is wrong with one, its frame.
-/
namespace Go.Proofs.YtjkhbjgfoopomaaGreat

/-- what a frame says -/
structure Msg where
  k : Nat
  f : Nat
  t : Nat
  i : Nat
  l : Nat
  p : Nat
  g : Nat
  a : Nat
  m : List UInt8
def Msg.ok (x : Msg) : Prop := x.k < 256 ∧ x.f < 256 ∧ x.t < 256 ∧ x.i < 4294967296 ∧ x.l < 256 ∧ x.p < 65536 ∧ x.g < 65536 ∧ x.a < 4294967296
def Msg.cells (x : Msg) : Array Value := #[.int .u8 (x.k : Int), .int .u8 (x.f : Int), .int .u8 (x.t : Int), .int .u32 (x.i : Int), .int .u8 (x.l : Int), .int .u16 (x.p : Int), .int .u16 (x.g : Int), .int .u32 (x.a : Int), .string (bs x.m)]
def Msg.v (x : Msg) : Value := .agg x.cells
def bankB (n : Nat) : Bool := decide (1 ≤ n) && decide (n ≤ 7)
def wayB (x : Msg) : Bool := if x.k ≤ 3 then decide (x.f = 0) && bankB x.t else decide (x.t = 0) && bankB x.f
def termsOf (x : Msg) : Nat := if x.a = 0 then 6 else if memoB x.m then 0 else 7
def bareB (x : Msg) : Bool := decide (x.p = 0) && decide (x.g = 0) && decide (x.a = 0) && x.m.isEmpty
def kindB (x : Msg) : Bool := decide (1 ≤ x.k) && decide (x.k ≤ 6)
/-- P4: the error of a message -/
def faultOf (x : Msg) : Nat :=
  if !kindB x then 3 else if !wayB x then 4 else if 4 ≤ x.l then 5 else if x.k = 1 then termsOf x else if bareB x then 0 else 3
/-- all bytes of a frame ahead of its checksum -/
def bodyOf (x : Msg) : List UInt8 := 69 :: UInt8.ofNat x.k :: UInt8.ofNat x.f :: UInt8.ofNat x.t :: (be 4 x.i ++ UInt8.ofNat x.l :: (be 2 x.p ++ (be 2 x.g ++ (be 4 x.a ++ UInt8.ofNat x.m.length :: x.m))))
theorem bodyOf_length (x : Msg) : (bodyOf x).length = 18 + x.m.length := by simp [bodyOf, be_length]; omega
def frameOf (x : Msg) : List UInt8 := bodyOf x ++ be 4 (sumOf (bodyOf x))
/-- P4: Encode -/
def encOf (x : Msg) : List UInt8 := if faultOf x = 0 then frameOf x else []
end Go.Proofs.YtjkhbjgfoopomaaGreat
/-
  Plain: what has changed a bank, and what the document reckons of it.
-/
namespace Go.Proofs.YtjkhbjgfoopomaaGreat
set_option linter.unusedVariables false

/-- what has changed a bank -/
structure Ev where
  kind : Nat
  msg : Msg
  held : Bool
def Ev.ok (e : Ev) : Prop := e.kind < 4 ∧ e.msg.ok
def Ev.cells (e : Ev) : List Value := [.int .i64 (e.kind : Int), .int .u8 (e.msg.k : Int), .int .u8 (e.msg.f : Int), .int .u8 (e.msg.t : Int), .int .u32 (e.msg.i : Int), .int .u8 (e.msg.l : Int), .int .u16 (e.msg.p : Int), .int .u16 (e.msg.g : Int), .int .u32 (e.msg.a : Int), .string (bs e.msg.m), .bool e.held]
theorem Ev.cells_length (e : Ev) : e.cells.length = 11 := rfl
/-- with how much an account was opened; was it; how many were -/
def openedStep (a : Nat) (s : Nat × Bool × Nat) (e : Ev) : Nat × Bool × Nat :=
  if e.kind = 0 then (if e.msg.p = a then (e.msg.a, true, s.2.2 + 1) else (s.1, s.2.1, s.2.2 + 1)) else s
def openedOf (a : Nat) (evs : List Ev) : Nat × Bool × Nat := evs.foldl (openedStep a) (0, false, 0)
theorem openedOf_snoc (a : Nat) (evs : List Ev) (e : Ev) : openedOf a (evs ++ [e]) = openedStep a (openedOf a evs) e := by simp [openedOf, List.foldl_append]
/-- the state of a leg, its Prepare, and whether it came by one -/
def legStep (id l : Nat) (s : Nat × Msg × Bool) (e : Ev) : Nat × Msg × Bool :=
  if e.kind = 0 then s else if e.msg.i ≠ id then s else if e.msg.l ≠ l then s
  else if e.kind = 1 then (if e.held then (1, e.msg, true) else (2, e.msg, true))
  else if e.kind = 2 then (3, s.2.1, s.2.2) else (4, s.2.1, s.2.2)
def noMsg : Msg := ⟨0, 0, 0, 0, 0, 0, 0, 0, []⟩
def legOf (id l : Nat) (evs : List Ev) : Nat × Msg × Bool := evs.foldl (legStep id l) (0, noMsg, false)
theorem legOf_snoc (id l : Nat) (evs : List Ev) (e : Ev) : legOf id l (evs ++ [e]) = legStep id l (legOf id l evs) e := by simp [legOf, List.foldl_append]
/-- is this an event of that leg? -/
def ofLeg (id l : Nat) (e : Ev) : Bool := decide (e.kind ≠ 0) && (decide (e.msg.i = id) && decide (e.msg.l = l))
/-- event i is the first one of its leg -/
def firstB (evs : List Ev) (i : Nat) : Bool :=
  match evs[i]? with
  | none => false
  | some e => decide (e.kind ≠ 0) && (evs.take i).all fun x => !ofLeg e.msg.i e.msg.l x
theorem firstB_at {evs : List Ev} {i : Nat} (h : i < evs.length) : firstB evs i = (decide (evs[i].kind ≠ 0) && (evs.take i).all fun x => !ofLeg evs[i].msg.i evs[i].msg.l x) := by
  simp [firstB, h]
/-- the legs, each at its first event -/
def keysTo (evs : List Ev) : Nat → List (Nat × Nat)
  | 0 => []
  | k + 1 => match evs[k]? with
    | none => keysTo evs k
    | some e => if firstB evs k then keysTo evs k ++ [(e.msg.i, e.msg.l)] else keysTo evs k
theorem keysTo_yes {evs : List Ev} {k : Nat} (h : k < evs.length) (hf : firstB evs k = true) : keysTo evs (k + 1) = keysTo evs k ++ [(evs[k].msg.i, evs[k].msg.l)] := by
  simp [keysTo, h, hf]
def keysOf (evs : List Ev) : List (Nat × Nat) := keysTo evs evs.length
end Go.Proofs.YtjkhbjgfoopomaaGreat
/-
  The document's bank in memory: its node, and the list of what has changed it; the walks that only read it.
-/
namespace Go.Proofs.YtjkhbjgfoopomaaGreat
open Go.RowKit
set_option linter.unusedVariables false

/-- a bank of the document's lies at B -/
structure RB (w : World) (B node : Nat) (evs : List Ev) (v : Value) : Prop where
  blk : w.heap[B]? = some (.cells #[.int .u8 (node : Int), v] 78 (0, 0))
  row : RowOf w 150 11 Ev.cells v evs
theorem RB.lt {w : World} {B node : Nat} {evs : List Ev} {v : Value} (h : RB w B node evs v) : B < w.heap.size := block_lt h.blk
/-- it is the same in a world in which nothing of it has turned -/
theorem RB.below {w u : World} {B node : Nat} {evs : List Ev} {v : Value} (h : RB w B node evs v) (hb : Below w.heap.size w u) : RB u B node evs v :=
  ⟨by rw [hb.block B h.lt]; exact h.blk, h.row.below hb⟩
theorem RB.form {w : World} {B node : Nat} {evs : List Ev} {v : Value} (h : RB w B node evs v) : ∃ (ad : Option Addr) (cap : Nat), v = .slice ad evs.length cap ∧ ∀ k (hk : k < evs.length), ∃ g, ad = some ⟨g, 0, none⟩ ∧ (∀ j, j < 11 → w.cell? ⟨g, k * 11 + j, none⟩ = evs[k].cells[j]?) ∧ ∀ j, w.frozen? ⟨g, j, none⟩ = false := h.row.form Ev.cells_length

end Go.Proofs.YtjkhbjgfoopomaaGreat
