import Derived.Test.YtjkhbjgfoopomaaGreatLaw
import Derived.Test.YtjkhbjgfoopomaaGreatMem2
import Derived.Test.YtjkhbjgfoopomaaGreatBytes
import Derived.Test.YtjkhbjgfoopomaaGreatRowAppend
import Derived.BigQuiet
import Derived.Test.YtjkhbjgfoopomaaGreatGCanTold
import Derived.Test.YtjkhbjgfoopomaaGreatRowMore
/-
  The statements' num.
-/
namespace Go.Proofs.YtjkhbjgfoopomaaGreat
open Go.RowKit
set_option linter.unusedVariables false
theorem num_any (n : Int) (w : World) : Calls Tryz.prog 18 #[.int .i64 n] w fun e w' => e = .returned (.int .i64 n) ∧ w' = w := by
  go_enter Tryz.func18, Tryz.ntmps18
  go_wp2
  go_ret
  exact ⟨rfl, rfl⟩
end Go.Proofs.YtjkhbjgfoopomaaGreat
/-
  The statements' small functions: pick, mark, heard, logged, bare, sameList.
-/
namespace Go.Proofs.YtjkhbjgfoopomaaGreat
open Go.RowKit
set_option linter.unusedVariables false
set_option linter.unusedSimpArgs false
attribute [local go_sem] bs_size bs_append conv1

def pickN (c : Int) (n : Nat) : Nat := (if c < 0 then (-(c + 1)).toNat else c.toNat) % n
set_option maxHeartbeats 400000 in
theorem pick_any (c : Int) (hc : -9223372036854775808 ≤ c ∧ c ≤ 9223372036854775807) (n : Nat) (hn : 0 < n) (hn2 : n ≤ 9223372036854775807) (w : World) :
    Calls Tryz.prog 14 #[.int .i64 c, .int .i64 (n : Int)] w fun e w' => e = .returned (.int .i64 (pickN c n : Int)) ∧ w' = w := by
  have hz : Hid (pickN c n = (if c < 0 then (-(c + 1)).toNat else c.toNat) % n) := hide rfl
  by_cases h : c < 0
  · have d : decide (c < 0) = true := by simp [h]
    have hq : Hid ((-(c + 1)).tmod n = (pickN c n : Int)) := hide (by
      rw [hz.out, if_pos h, Int.tmod_eq_emod_of_nonneg (by omega), Int.natCast_emod, Int.toNat_of_nonneg (by omega)])
    have W1 : IntKind.i64.wrap (c + 1) = c + 1 := by rw [IntKind.wrap_i64]; omega
    have W2 : IntKind.i64.wrap (-(c + 1)) = -(c + 1) := by rw [IntKind.wrap_i64]; omega
    clear hz
    go_enter Tryz.func14, Tryz.ntmps14
    go_wp2
    go_ret
    exact ⟨ret_int (by first | exact hq.out | exact hq2.out | (have := hq.out; simp_all)), rfl⟩
  · have d : decide (c < 0) = false := by simp [h]
    have hq : Hid (c.tmod n = (pickN c n : Int)) := hide (by
      rw [hz.out, if_neg h, Int.tmod_eq_emod_of_nonneg (by omega), Int.natCast_emod, Int.toNat_of_nonneg (by omega)])
    have hq2 : Hid (c % n = (pickN c n : Int)) := hide (by
      rw [hz.out, if_neg h, Int.natCast_emod, Int.toNat_of_nonneg (by omega)])
    clear hz
    go_enter Tryz.func14, Tryz.ntmps14
    go_wp2
    go_ret
    exact ⟨ret_int (by first | exact hq.out | exact hq2.out | (have := hq.out; simp_all)), rfl⟩

/-- a number's mark: the letters ahead, and then -/
def markTo : Nat → Nat → List UInt8 → List UInt8
  | 0, n, s => s
  | k + 1, n, s => if n = 0 then s else markTo k (n / 10) (s ++ [UInt8.ofNat (65 + n % 10)])
def markB (n : Nat) : List UInt8 := markTo n n [109]
theorem markTo_zero (k : Nat) (s : List UInt8) : markTo k 0 s = s := by cases k <;> simp [markTo]
theorem markTo_more (k : Nat) : ∀ (n j : Nat) (s : List UInt8), n ≤ k → k ≤ j → markTo j n s = markTo k n s := by
  induction k with
  | zero => intro n j s h _; obtain rfl : n = 0 := by omega
            rw [markTo_zero, markTo_zero]
  | succ k ih =>
    intro n j s h hj
    cases j with
    | zero => omega
    | succ j =>
      simp only [markTo]
      split
      · rfl
      · exact ih _ _ _ (by omega) (by omega)
set_option maxHeartbeats 1000000 in
theorem mark_any (n : Nat) (hn : n ≤ 1000000000000) (w : World) :
    Calls Tryz.prog 15 #[.int .i64 (n : Int)] w fun e w' => e = .returned (.string (bs (markB n))) ∧ Below w.heap.size w w' := by
  go_enter Tryz.func15, Tryz.ntmps15
  go_wp2
  go_loopw [0, 3] (fun a s u => ∃ (y : Nat) (z : List UInt8), y ≤ n ∧ z.length + y ≤ n + 1 ∧ a = .int .i64 (y : Int) ∧ s = .string (bs z) ∧ markTo n y z = markB n ∧ Below w.heap.size w u) (fun a _ _ => (intOf a).toNat)
  case atStart => exact ⟨n, [109], Nat.le_refl _, by simp; omega, rfl, rfl, rfl, Below.refl _ _⟩
  case round =>
    obtain ⟨y, z, hy, hzl, rfl, rfl, hm, hbel⟩ := hrel
    replace hm := hide hm
    by_cases h0 : y = 0
    · have hq : Hid (z = markB n) := hide (by have := hm.out; rw [h0, markTo_zero] at this; exact this)
      clear hm
      subst h0
      go_wp2
      go_ret
      exact ⟨ret_str hq.out, hbel⟩
    · have hq : Hid (markTo n (y / 10) (z ++ [UInt8.ofNat (65 + y % 10)]) = markB n) := hide (by
        rw [← hm.out]
        obtain ⟨n', rfl⟩ : ∃ n', n = n' + 1 := ⟨n - 1, by omega⟩
        conv => rhs; rw [markTo, if_neg h0]
        exact markTo_more n' _ _ _ (by omega) (by omega))
      have d0 : 0 < y := by omega
      have W1 : IntKind.u8.wrap (65 + (y : Int) % 10) = ((65 + y % 10 : Nat) : Int) := by rw [IntKind.wrap_u8]; omega
      have hzz : z.length ≤ 1000000000001 := by omega
      clear hm
      go_wp2
      exact ⟨⟨y / 10, z ++ [UInt8.ofNat (65 + y % 10)], by omega, by simp; omega, by go_num, by first | rfl | simp, hq.out, hbel.alloc hbel.size _⟩, by simp [intOf] <;> omega⟩

/-- a text of a log, and how many things had changed the node ahead of it -/
def logCell (x : List UInt8 × Nat) : List Value := [.string (bs x.1), .int .i64 (x.2 : Int)]
theorem logCell_length (x : List UInt8 × Nat) : (logCell x).length = 2 := rfl
theorem logInfo : (Tryz.prog.info? 152).map (fun i => (i.zero, i.size, i.bytes)) = some (some (.agg #[.string ⟨#[]⟩, .int .i64 0]), 2, 24) := by kernel_rfl
theorem log_one (x : List UInt8 × Nat) : ∀ u ∈ logCell x, u.oneCell' = true := by
  intro u hu
  simp only [logCell, List.mem_cons, List.not_mem_nil, or_false] at hu
  rcases hu with h | h <;> subst h <;> rfl
/-- what is behind the log then -/
def heardOf (lg : List (List UInt8 × Nat)) (s : List UInt8) (m : Nat) : List (List UInt8 × Nat) := if s = [] then lg else lg ++ [(s, m)]
set_option maxRecDepth 100000 in
set_option maxHeartbeats 1000000 in
theorem heard_any (lg : List (List UInt8 × Nat)) (vg : Value) (s : List UInt8) (m : Nat) (w : World) (hR : RowOf w 152 2 logCell vg lg) (hlen : lg.length ≤ 1000000000000) :
    Calls Tryz.prog 22 #[vg, .string (bs s), .int .i64 (m : Int)] w fun e w' => ∃ vg', e = .returned vg' ∧ RowOf w' 152 2 logCell vg' (heardOf lg s m) ∧ Kept (fun k => vg.ownBlock = some k) w w' ∧ ∀ g, vg'.ownBlock = some g → vg.ownBlock = some g ∨ w.heap.size ≤ g := by
  obtain ⟨i0, hi, y0, y1, y2⟩ := info_parts logInfo
  obtain ⟨ad, cap, hv, hev⟩ := hR.form logCell_length
  clear hev
  subst hv
  by_cases h0 : s = []
  · have hq : Hid (heardOf lg s m = lg) := hide (by simp [heardOf, h0])
    subst h0
    have d0 : (bs []).toList.isEmpty = true := by rw [bs_toList]; rfl
    have d1 : ((bs []).toList == []) = true := by rw [bs_toList]; rfl
    go_enter Tryz.func22, Tryz.ntmps22
    go_wp2
    go_ret
    exact ⟨_, rfl, by rw [hq.out]; exact hR, Kept.of_below (Below.refl _ _), fun g h => .inl h⟩
  · have hq : Hid (heardOf lg s m = lg ++ [(s, m)]) := hide (by simp [heardOf, h0])
    have d0 : (bs s).toList.isEmpty = false := by rw [bs_toList]; simpa using h0
    have d1 : ((bs s).toList == []) = false := by rw [bs_toList]; simpa using h0
    clear h0
    go_enter Tryz.func22, Tryz.ntmps22
    go_wp2_with (first
      | (at_builtin; refine wpList_row logCell_length w (by rfl) _ _ 66 (by rfl) 152 i0 _ 24 Tryz.underlying66 hi y0 y1 y2 rfl (by decide) (.slice ad lg.length cap) lg (by rfl) hR 1 (s, m) (by rfl) (log_one _) (by unfold maxLen; omega) (by omega) ?_ _ (by rfl); intro g cap' w2 hrow2 hk2 hg2 hlt2; have X : Hid (RowOf w2 152 2 logCell (.slice (some ⟨g, 0, none⟩) (lg.length + 1) cap') (lg ++ [(s, m)]) ∧ Kept (fun k => (Value.slice ad lg.length cap).ownBlock = some k) w w2 ∧ ((Value.slice ad lg.length cap).ownBlock = some g ∨ w.heap.size ≤ g)) := hide ⟨hrow2, hk2, hg2⟩; clear hrow2 hk2 hg2))
    go_ret
    exact ⟨_, rfl, by rw [hq.out]; exact X.out.1, X.out.2.1, fun g' h' => by obtain rfl : g' = g := (by simpa [Value.ownBlock] using h'.symm); exact X.out.2.2⟩
set_option maxHeartbeats 400000 in
theorem logged_any (s : List UInt8) (m n : Nat) (w : World) (B : Nat) (lg : Bool) (x y z : Value) (hw : w.heap[B]? = some (.cells #[.bool lg, x, y, z] 30 (0, 0))) (hl : lg = true → n = m ∨ s ≠ []) :
    Calls Tryz.prog 23 #[.pointer (some ⟨B, 0, none⟩), .string (bs s), .int .i64 (m : Int), .int .i64 (n : Int)] w fun e w' => e = .returned (.bool true) ∧ Below w.heap.size w w' := by
  have hc : ∀ o, _ = _ := fun o => cell_at hw o
  cases lg with
  | false =>
    clear hl
    go_enter Tryz.func23, Tryz.ntmps23
    go_wp2
    go_ret
    exact ⟨rfl, Below.refl _ _⟩
  | true =>
    by_cases e : n = m
    · subst e
      have d : ((n : Int) == (n : Int)) = true := by simp
      clear hl
      go_enter Tryz.func23, Tryz.ntmps23
      go_wp2
      go_ret
      exact ⟨rfl, Below.refl _ _⟩
    · have hs : s ≠ [] := (hl rfl).resolve_left e
      have d : ((n : Int) == (m : Int)) = false := by simp; omega
      have d0 : (bs s).toList.isEmpty = false := by rw [bs_toList]; simpa using hs
      have d1 : ((bs s).toList == []) = false := by rw [bs_toList]; simpa using hs
      clear hl hs e
      go_enter Tryz.func23, Tryz.ntmps23
      go_wp2
      go_ret
      exact ⟨rfl, Below.refl _ _⟩
set_option maxHeartbeats 400000 in
theorem bare_any (ad : Option Addr) (n c er : Nat) (s : List UInt8) (w : World) (h : er = 0 ∨ (n = 0 ∧ s = [])) :
    Calls Tryz.prog 24 #[.slice ad n c, .string (bs s), .int .i64 (er : Int)] w fun e w' => e = .returned (.bool true) ∧ w' = w := by
  by_cases h0 : er = 0
  · have d : ((er : Int) == 0) = true := by simp; omega
    clear h0 h
    go_enter Tryz.func24, Tryz.ntmps24
    go_wp2
    go_ret
    exact ⟨rfl, rfl⟩
  · obtain ⟨rfl, rfl⟩ : n = 0 ∧ s = [] := h.resolve_left h0
    have d : ((er : Int) == 0) = false := by simp; omega
    have d0 : (bs []).toList.isEmpty = true := by rw [bs_toList]; rfl
    have d1 : ((bs []).toList == []) = true := by rw [bs_toList]; rfl
    clear h0 h
    go_enter Tryz.func24, Tryz.ntmps24
    go_wp2
    go_ret
    exact ⟨rfl, rfl⟩
end Go.Proofs.YtjkhbjgfoopomaaGreat
/-
  The document's Bank.Tick: plain, and the walk.
-/
namespace Go.Proofs.YtjkhbjgfoopomaaGreat
open Go.RowKit
set_option linter.unusedVariables false
set_option linter.unusedSimpArgs false

def txtCell (l : List UInt8) : List Value := [.string (bs l)]
theorem txtCell_length (l : List UInt8) : (txtCell l).length = 1 := rfl
theorem txt_one (e : List UInt8) : ∀ u ∈ txtCell e, u.oneCell' = true := by
  intro u hu
  simp only [txtCell, List.mem_cons, List.not_mem_nil, or_false] at hu
  subst hu
  rfl
theorem txtInfo : (Tryz.prog.info? 9).map (fun i => (i.zero, i.size, i.bytes)) = some (some (.string ByteArray.empty), 1, 16) := by kernel_rfl

def rankK (k : Nat × Nat) : Nat := k.1 * 4 + k.2
def keyE (e : Ev) : Nat × Nat := (e.msg.i, e.msg.l)
/-- an event whose leg is held and comes at nx or behind -/
def goodE (evs : List Ev) (nx : Nat) (e : Ev) : Prop := e.kind ≠ 0 ∧ (legOf e.msg.i e.msg.l evs).1 = 1 ∧ nx ≤ rankK (keyE e)
/-- the legs that are held, in their order -/
structure Helds (evs : List Ev) (hs : List (Nat × Nat)) : Prop where
  sort : hs.Pairwise fun a b => rankK a < rankK b
  mem : ∀ k, k ∈ hs ↔ ∃ e, e ∈ evs ∧ e.kind ≠ 0 ∧ keyE e = k ∧ (legOf k.1 k.2 evs).1 = 1
  few : ∀ e, e ∈ evs → e.kind ≠ 0 → e.msg.l < 4
def nextK (hs : List (Nat × Nat)) : Nat → Nat
  | 0 => 0
  | n + 1 => match hs[n]? with
    | none => 0
    | some k => rankK k + 1
theorem Helds.below {evs : List Ev} {hs : List (Nat × Nat)} (h : Helds evs hs) (n : Nat) (hn : n ≤ hs.length) (q : Nat) (hq : q < hs.length) : nextK hs n ≤ rankK hs[q] ↔ n ≤ q := by
  have hp := List.pairwise_iff_getElem.1 h.sort
  cases n with
  | zero => simp [nextK]
  | succ n =>
    have hn' : n < hs.length := hn
    simp only [nextK, List.getElem?_eq_getElem hn']
    constructor
    · intro h1
      rcases Nat.lt_or_ge n q with x | x
      · omega
      · rcases Nat.lt_or_ge q n with y | y
        · have := hp q n hq hn' y
          omega
        · obtain rfl : q = n := by omega
          omega
    · intro h1
      have := hp n q hn' hq h1
      omega
theorem Helds.ofEvent {evs : List Ev} {hs : List (Nat × Nat)} (h : Helds evs hs) (n : Nat) (hn : n ≤ hs.length) (e : Ev) (he : e ∈ evs) (hg : goodE evs (nextK hs n) e) : ∃ q, ∃ hq : q < hs.length, hs[q] = keyE e ∧ n ≤ q := by
  obtain ⟨q, hq, hk⟩ := List.getElem_of_mem ((h.mem (keyE e)).2 ⟨e, he, hg.1, rfl, hg.2.1⟩)
  exact ⟨q, hq, hk, (h.below n hn q hq).1 (by rw [hk]; exact hg.2.2)⟩
theorem Helds.toEvent {evs : List Ev} {hs : List (Nat × Nat)} (h : Helds evs hs) (n : Nat) (hn : n < hs.length) : ∃ j, ∃ hj : j < evs.length, goodE evs (nextK hs n) evs[j] ∧ keyE evs[j] = hs[n] := by
  obtain ⟨e, he, h0, hk, h1⟩ := (h.mem hs[n]).1 (List.getElem_mem hn)
  obtain ⟨j, hj, rfl⟩ := List.getElem_of_mem he
  refine ⟨j, hj, ⟨h0, ?_, ?_⟩, hk⟩
  · rw [← hk] at h1; exact h1
  · rw [hk]; exact (h.below n (by omega) n hn).2 (Nat.le_refl _)
theorem Helds.done {evs : List Ev} {hs : List (Nat × Nat)} (h : Helds evs hs) (n : Nat) (hn : n ≤ hs.length) (hno : ∀ j (hj : j < evs.length), ¬ goodE evs (nextK hs n) evs[j]) : n = hs.length := by
  rcases Nat.lt_or_ge n hs.length with x | x
  · obtain ⟨j, hj, hg, _⟩ := h.toEvent n x
    exact absurd hg (hno j hj)
  · omega
theorem Helds.next {evs : List Ev} {hs : List (Nat × Nat)} (h : Helds evs hs) (n : Nat) (hn : n ≤ hs.length) (j : Nat) (hj : j < evs.length) (hg : goodE evs (nextK hs n) evs[j]) (hmin : ∀ i (hi : i < evs.length), goodE evs (nextK hs n) evs[i] → rankK (keyE evs[j]) ≤ rankK (keyE evs[i])) : ∃ hn' : n < hs.length, hs[n] = keyE evs[j] := by
  obtain ⟨q, hq, hk, hnq⟩ := h.ofEvent n hn evs[j] (List.getElem_mem hj) hg
  have hn' : n < hs.length := by omega
  refine ⟨hn', ?_⟩
  obtain ⟨i, hi, hgi, hki⟩ := h.toEvent n hn'
  have h1 := hmin i hi hgi
  rw [hki, ← hk] at h1
  rcases Nat.lt_or_ge n q with x | x
  · have := List.pairwise_iff_getElem.1 h.sort n q hn' hq x
    omega
  · obtain rfl : q = n := by omega
    exact hk
/-- the least so far -/
def BestTo (evs : List Ev) (nx k : Nat) (best at_ : Int) : Prop :=
  (best = -1 ∧ at_ = -1 ∧ ∀ j (hj : j < evs.length), j < k → ¬ goodE evs nx evs[j]) ∨
  ∃ j, ∃ hj : j < evs.length, j < k ∧ at_ = (j : Int) ∧ best = (rankK (keyE evs[j]) : Int) ∧ goodE evs nx evs[j] ∧ ∀ i (hi : i < evs.length), i < k → goodE evs nx evs[i] → rankK (keyE evs[j]) ≤ rankK (keyE evs[i])
theorem BestTo.stay {evs : List Ev} {nx k : Nat} {b a : Int} (h : BestTo evs nx k b a) (hk : k < evs.length) (hn : ¬ goodE evs nx evs[k] ∨ (0 ≤ b ∧ b ≤ (rankK (keyE evs[k]) : Int))) : BestTo evs nx (k + 1) b a := by
  rcases h with ⟨h1, h2, h3⟩ | ⟨j, hj, h1, h2, h3, h4, h5⟩
  · left
    refine ⟨h1, h2, fun j hj hj2 => ?_⟩
    rcases Nat.lt_or_ge j k with x | x
    · exact h3 j hj x
    · obtain rfl : j = k := by omega
      rcases hn with hn | hn
      · exact hn
      · omega
  · right
    refine ⟨j, hj, by omega, h2, h3, h4, fun i hi hi2 hg => ?_⟩
    rcases Nat.lt_or_ge i k with x | x
    · exact h5 i hi x hg
    · obtain rfl : i = k := by omega
      rcases hn with hn | hn
      · exact absurd hg hn
      · omega
theorem BestTo.take {evs : List Ev} {nx k : Nat} {b a : Int} (h : BestTo evs nx k b a) (hk : k < evs.length) (hg : goodE evs nx evs[k]) (hb : b < 0 ∨ (rankK (keyE evs[k]) : Int) < b) : BestTo evs nx (k + 1) (rankK (keyE evs[k]) : Int) (k : Int) := by
  right
  refine ⟨k, hk, by omega, rfl, rfl, hg, fun i hi hi2 hgi => ?_⟩
  rcases Nat.lt_or_ge i k with x | x
  · rcases h with ⟨h1, h2, h3⟩ | ⟨j, hj, h1, h2, h3, h4, h5⟩
    · exact absurd hgi (h3 i hi x)
    · have := h5 i hi x hgi
      omega
  · obtain rfl : i = k := by omega
    exact Nat.le_refl _
def lenV : Value → Nat
  | .slice _ n _ => n
  | _ => 0
theorem RowOf.slice {α : Type} {f : α → List Value} {sz : Nat} {w : World} {e : TypeId} {v : Value} {xs : List α} (h : RowOf w e sz f v xs) : ∃ ad cap, v = .slice ad xs.length cap := by
  rcases h.2 with ⟨h1, h2⟩ | ⟨g, cap, cur, h1, _⟩
  · exact ⟨none, 0, by rw [h1, h2]⟩
  · exact ⟨_, cap, h1⟩
def tickT (node : Nat) (hs : List (Nat × Nat)) : List (List UInt8) := hs.map fun k => ansOf node k.1 k.2 1

set_option maxRecDepth 100000 in
set_option maxHeartbeats 2000000 in
theorem refTick_any (w : World) (B node : Nat) (hnode : node < 256) (evs : List Ev) (v : Value) (hR : RB w B node evs v) (hok : ∀ e, e ∈ evs → e.ok) (hlen : evs.length ≤ 1000000) (hs : List (Nat × Nat)) (hH : Helds evs hs) (hsl : hs.length ≤ 1000000) :
    Calls Tryz.prog 35 #[.pointer (some ⟨B, 0, none⟩)] w fun e w' => (∃ lv, e = .returned lv ∧ RowOf w' 9 1 txtCell lv (tickT node hs) ∧ ∀ g, lv.ownBlock = some g → w.heap.size ≤ g) ∧ Below w.heap.size w w' := by
  obtain ⟨i0, hi0, y0, y1, y2⟩ := info_parts txtInfo
  obtain ⟨ad, cap, hv, hev⟩ := hR.form
  subst hv
  clear hev
  go_enter Tryz.func35, Tryz.ntmps35
  go_wp2
  go_loopw [3, 4] (fun x l u => ∃ n : Nat, n ≤ hs.length ∧ l = .int .i64 ((nextK hs n : Int) - 1) ∧ RowOf u 9 1 txtCell x (tickT node (hs.take n)) ∧ (∀ g, x.ownBlock = some g → w.heap.size ≤ g) ∧ Below w.heap.size w u) (fun x _ _ => hs.length - lenV x)
  case atStart => exact ⟨0, Nat.zero_le _, rfl, RowOf.nil _ _, fun g hg => by simp [Value.ownBlock] at hg, Below.refl _ _⟩
  case round =>
    obtain ⟨n, hn, rfl, hrow, hxown, hb⟩ := hrel
    obtain ⟨adx, capx, rfl⟩ := hrow.slice
    have hRu := hR.below hb
    have hc : ∀ o, _ = _ := fun o => cell_at hRu.blk o
    have hdone := hide (hH.done n hn)
    have hnext := hide (hH.next n hn)
    go_wp2
    go_loopw [5, 6, 7] (fun b a c u => ∃ (k : Nat) (bi ai : Int), k ≤ evs.length ∧ c = .int .i64 k ∧ b = .int .i64 bi ∧ a = .int .i64 ai ∧ BestTo evs (nextK hs n) k bi ai ∧ Below wr.heap.size wr u) (fun _ _ c _ => evs.length - (intOf c).toNat)
    case atStart => exact ⟨0, -1, -1, Nat.zero_le _, rfl, rfl, rfl, .inl ⟨rfl, rfl, fun j hj h => by omega⟩, Below.refl _ _⟩
    case round =>
      obtain ⟨k, bi, ai, hk, rfl, rfl, rfl, hbest, hb1⟩ := hrel
      have hRv := hRu.below hb1
      clear hc
      have hc : ∀ o, _ = _ := fun o => cell_at hRv.blk o
      have hBl := hRv.lt
      replace hbest := hide hbest
      by_cases hlt : k < evs.length
      · obtain ⟨ad', cap', hv', hev'⟩ := hRv.form
        obtain ⟨g, hg, hcell, _⟩ := hev' k hlt
        have ead : ad = ad' := by injection hv'
        subst ead
        subst hg
        have hgl : g < wr.heap.size := hRv.row.lt rfl
        have hst := hide (fun h => hbest.out.stay hlt h)
        have htk := hide (fun h1 h2 => hbest.out.take hlt h1 h2)
        have hL := hide (fun u (hu : RB u B node evs (.slice (some ⟨g, 0, none⟩) evs.length cap)) => leg_any evs[k].msg.i evs[k].msg.l (hok evs[k] (List.getElem_mem hlt)).2.2.2.2.1 (hok evs[k] (List.getElem_mem hlt)).2.2.2.2.2.1 u B node evs _ hu hok hlen)
        have hgd : Hid (goodE evs (nextK hs n) evs[k] ↔ (evs[k].kind ≠ 0 ∧ (legOf evs[k].msg.i evs[k].msg.l evs).1 = 1 ∧ nextK hs n ≤ evs[k].msg.i * 4 + evs[k].msg.l)) := hide Iff.rfl
        have hrk : Hid ((rankK (keyE evs[k]) : Int) = ((evs[k].msg.i * 4 + evs[k].msg.l : Nat) : Int)) := hide rfl
        have hbb : bi = -1 ∨ 0 ≤ bi := by
          rcases hbest.out with h | ⟨j, hj, _, _, h, _⟩
          · exact .inl h.1
          · exact .inr (by rw [h]; omega)
        have c0 := hcell 0 (by decide)
        have c1 := hcell 1 (by decide)
        have c2 := hcell 2 (by decide)
        have c3 := hcell 3 (by decide)
        have c4 := hcell 4 (by decide)
        have c5 := hcell 5 (by decide)
        have c6 := hcell 6 (by decide)
        have c7 := hcell 7 (by decide)
        have c8 := hcell 8 (by decide)
        have c9 := hcell 9 (by decide)
        have hek := hok evs[k] (List.getElem_mem hlt)
        clear hcell hev' hv' hbest
        generalize goodE evs (nextK hs n) evs[k] = GD at *
        generalize (rankK (keyE evs[k]) : Int) = RK at *
        generalize evs[k] = E at *
        obtain ⟨kind, ⟨mk, mf, mt, mi, ml, mp, mg, ma, mm⟩, held⟩ := E
        obtain ⟨hk4, hmk, hmf, hmt, hmi, hml, hmp, hmg, hma⟩ := hek
        simp only [Ev.cells, List.getElem?_cons_zero, List.getElem?_cons_succ, Nat.add_zero] at c0 c1 c2 c3 c4 c5 c6 c7 c8 c9 hk4 hmk hmf hmt hmi hml hmp hmg hma hL hgd hrk
        generalize legOf mi ml evs = T at *
        obtain ⟨t1, ⟨nk, nf, nt, ni, nl, np, ng, na, nm⟩, t3⟩ := T
        simp only [Msg.v, Msg.cells] at hL hgd
        generalize nextK hs n = nx at *
        go_wp2_with fail
        refine (hL.out _ (hRv.below ((Below.refl _ _).alloc (Nat.le_refl _) _))).mono ?_
        rintro e w2 ⟨rfl, hb2⟩
        have B1 := (Box.mk0 _ _ _).below hb2
        have hcm := B1.cell
        have hltm := B1.lt
        have hR2 := hRv.below B1.bel
        have c0' : w2.cell? ⟨g, k * 11, none⟩ = some (.int .i64 (kind : Int)) := by rw [B1.bel.cell (p := ⟨g, k * 11, none⟩) hgl]; exact c0
        clear hc hb2 hL c0 c1 c2 c3 c4 c5 c6 c7 c8 c9
        have hc : ∀ o, _ = _ := fun o => cell_at hR2.blk o
        have hb9 := hb1.trans (B1.bel.mono hb1.size)
        have W1 : IntKind.i64.wrap ((mi : Int) * 4) = (mi : Int) * 4 := by rw [IntKind.wrap_i64]; omega
        have W2 : IntKind.i64.wrap ((mi : Int) * 4 + (ml : Int)) = (mi : Int) * 4 + (ml : Int) := by rw [IntKind.wrap_i64]; omega
        have hBl2 := hR2.lt
        have hgl2 : g < w2.heap.size := Nat.lt_of_lt_of_le hgl B1.bel.size
        clear hRv hR2 hRu hR B1
        by_cases hz : kind = 0
        · have dz : ((kind : Int) != 0) = false := by simp; omega
          have hq := hide (hst.out (.inl (fun h => (hgd.out.1 h).1 hz)))
          clear hst htk hgd
          go_wp2
          exact ⟨⟨k + 1, bi, ai, hlt, by go_num, rfl, rfl, hq.out, hb9.alloc hb9.size _⟩, by simp [intOf]; omega⟩
        · have dz : ((kind : Int) != 0) = true := by simp; omega
          by_cases h1 : t1 = 1
          · have d1 : ((t1 : Int) == 1) = true := by simp; omega
            by_cases h2 : nx ≤ mi * 4 + ml
            · have d2 : decide ((nx : Int) - 1 < (mi : Int) * 4 + (ml : Int)) = true := by simp; omega
              have hG := hgd.out.2 ⟨hz, h1, h2⟩
              by_cases h3 : bi < 0
              · have d3 : decide (bi < 0) = true := by simp [h3]
                have hq := hide (htk.out hG (.inl h3))
                clear hst htk hgd
                go_wp2
                exact ⟨⟨k + 1, RK, k, hlt, by go_num, by rw [hrk.out]; go_num, rfl, hq.out, hb9.alloc hb9.size _⟩, by simp [intOf]; omega⟩
              · have d3 : decide (bi < 0) = false := by simp [h3]
                by_cases h4 : ((mi * 4 + ml : Nat) : Int) < bi
                · have d4 : decide ((mi : Int) * 4 + (ml : Int) < bi) = true := by simp; omega
                  have hq := hide (htk.out hG (.inr (by rw [hrk.out]; exact h4)))
                  clear hst htk hgd
                  go_wp2
                  exact ⟨⟨k + 1, RK, k, hlt, by go_num, by rw [hrk.out]; go_num, rfl, hq.out, hb9.alloc hb9.size _⟩, by simp [intOf]; omega⟩
                · have d4 : decide ((mi : Int) * 4 + (ml : Int) < bi) = false := by simp; omega
                  have hq := hide (hst.out (.inr ⟨by omega, by rw [hrk.out]; omega⟩))
                  clear hst htk hgd
                  go_wp2
                  exact ⟨⟨k + 1, bi, ai, hlt, by go_num, rfl, rfl, hq.out, hb9.alloc hb9.size _⟩, by simp [intOf]; omega⟩
            · have d2 : decide ((nx : Int) - 1 < (mi : Int) * 4 + (ml : Int)) = false := by simp; omega
              have hq := hide (hst.out (.inl (fun h => h2 (hgd.out.1 h).2.2)))
              clear hst htk hgd
              go_wp2
              exact ⟨⟨k + 1, bi, ai, hlt, by go_num, rfl, rfl, hq.out, hb9.alloc hb9.size _⟩, by simp [intOf]; omega⟩
          · have d1 : ((t1 : Int) == 1) = false := by simp; omega
            have hq := hide (hst.out (.inl (fun h => h1 (hgd.out.1 h).2.1)))
            clear hst htk hgd
            go_wp2
            exact ⟨⟨k + 1, bi, ai, hlt, by go_num, rfl, rfl, hq.out, hb9.alloc hb9.size _⟩, by simp [intOf]; omega⟩
      · obtain rfl : k = evs.length := by omega
        rcases hbest.out with ⟨rfl, rfl, hno⟩ | ⟨j, hj, _, rfl, rfl, hg, hmin⟩
        · have hq : Hid (n = hs.length) := hide (hdone.out (fun j hj => hno j hj hj))
          clear hbest hno hdone hnext
          go_wp2
          have hall : Hid (hs.take n = hs) := hide (by rw [hq.out, List.take_length])
          go_ret
          refine ⟨⟨_, rfl, ?_, fun g hg => hxown g hg⟩, hb.trans (hb1.mono hb.size)⟩
          have := hrow.below hb1
          rw [hall.out] at this ⊢
          exact this
        · obtain ⟨hn', hkey⟩ := hnext.out j hj hg (fun i hi h => hmin i hi hi h)
          have hkey' := hide hkey
          have hl1 := hg.2.1
          have hsn : Hid (tickT node (hs.take (n + 1)) = tickT node (hs.take n) ++ [ansOf node evs[j].msg.i evs[j].msg.l 1]) := hide (by
            unfold tickT
            rw [List.take_succ_eq_append_getElem hn', List.map_append, hkey]
            rfl)
          have hnx : Hid (nextK hs (n + 1) = rankK (keyE evs[j]) + 1) := hide (by simp only [nextK, List.getElem?_eq_getElem hn', hkey])
          have hrk : rankK (keyE evs[j]) < 17179869440 := by
            have h1 := (hok evs[j] (List.getElem_mem hj)).2.2.2.2.1
            have h2 := (hok evs[j] (List.getElem_mem hj)).2.2.2.2.2.1
            simp only [rankK, keyE]
            omega
          have hTo := hide (fun u (hu : RB u B node evs (.slice ad evs.length cap)) => told_any evs[j].msg (hok evs[j] (List.getElem_mem hj)).2 u B node hnode evs _ hu hok hlen)
          rw [hl1] at hTo
          obtain ⟨ad', cap', hv', hev'⟩ := hRv.form
          obtain ⟨g, hgg, hcell, _⟩ := hev' j hj
          have ead : ad = ad' := by injection hv'
          subst ead
          subst hgg
          have hgl : g < wr.heap.size := hRv.row.lt rfl
          have c1 := hcell 1 (by decide)
          have c2 := hcell 2 (by decide)
          have c3 := hcell 3 (by decide)
          have c4 := hcell 4 (by decide)
          have c5 := hcell 5 (by decide)
          have c6 := hcell 6 (by decide)
          have c7 := hcell 7 (by decide)
          have c8 := hcell 8 (by decide)
          have c9 := hcell 9 (by decide)
          have hrow1 := hrow.below hb1
          have hb2 := hb.trans (hb1.mono hb.size)
          have htl : (tickT node (hs.take n)).length = n := by simp [tickT]; omega
          clear hcell hev' hv' hbest hmin hdone hnext hkey hkey' hg hrow
          generalize rankK (keyE evs[j]) = RK at *
          generalize evs[j] = E at *
          obtain ⟨kind, ⟨mk, mf, mt, mi, ml, mp, mg, ma, mm⟩, held⟩ := E
          simp only [Ev.cells, List.getElem?_cons_zero, List.getElem?_cons_succ, Nat.add_zero] at c1 c2 c3 c4 c5 c6 c7 c8 c9 hTo hsn
          simp only [Msg.v, Msg.cells] at hTo
          generalize ansOf node mi ml 1 = A at *
          generalize hL0 : tickT node (hs.take n) = L at *
          generalize nextK hs n = nx at *
          go_wp2_with fail
          refine (hTo.out _ hRv).mono ?_
          rintro e w2 ⟨rfl, hbt⟩
          have hrow2 := hrow1.below hbt
          have hb3 := hb2.trans (hbt.mono hb2.size)
          clear hTo hc c1 c2 c3 c4 c5 c6 c7 c8 c9 hrow1
          rw [htl] at hrow2 hxown
          have hlo : Hid (L.length = n) := hide htl
          clear htl
          go_wp2_with (first
            | (at_builtin; refine wpList_row txtCell_length w2 (by rfl) _ _ 59 (by rfl) 9 i0 _ 16 Tryz.underlying59 hi0 y0 y1 y2 rfl (by decide) (.slice adx n capx) L (by rfl) hrow2 1 A (by rfl) (txt_one _) (by rw [hlo.out]; unfold maxLen; omega) (by rw [hlo.out]; omega) ?_ _ (by rfl); intro g9 cap9 w9 hrow9 hk9 hg9 hlt9; rw [hlo.out] at hrow9; rw [hlo.out]; have X : Hid (RowOf w9 9 1 txtCell (.slice (some ⟨g9, 0, none⟩) (n + 1) cap9) (L ++ [A]) ∧ Kept (fun k => (Value.slice adx n capx).ownBlock = some k) w2 w9 ∧ ((Value.slice adx n capx).ownBlock = some g9 ∨ w2.heap.size ≤ g9)) := hide ⟨hrow9, hk9, hg9⟩; clear hrow9 hk9 hg9))
          have hg9 : w.heap.size ≤ g9 := X.out.2.2.elim (hxown g9) (fun h => Nat.le_trans hb3.size h)
          have hb9 := hb3.trans (X.out.2.1.below hb3.size (fun k hk => hxown k hk))
          refine ⟨⟨n + 1, hn', by rw [hnx.out]; go_num, by rw [hsn.out]; exact X.out.1, fun g' h' => ?_, hb9⟩, by have := hlo.out; have e0 := congrArg List.length hL0; simp only [lenV]; omega⟩
          have : g' = g9 := by simpa [Value.ownBlock] using h'.symm
          omega
end Go.Proofs.YtjkhbjgfoopomaaGreat
/-
  The statements' lists: sameList, keep, still.
-/
namespace Go.Proofs.YtjkhbjgfoopomaaGreat
open Go.RowKit
set_option linter.unusedVariables false
set_option linter.unusedSimpArgs false

set_option maxRecDepth 100000 in
set_option maxHeartbeats 1000000 in
theorem sameList_any (xs : List (List UInt8)) (va vb : Value) (hlen : xs.length ≤ 1000000) (w : World) (hA : RowOf w 9 1 txtCell va xs) (hB : RowOf w 9 1 txtCell vb xs) :
    Calls Tryz.prog 32 #[va, vb] w fun e w' => e = .returned (.bool true) ∧ Below w.heap.size w w' := by
  obtain ⟨ad, cap, hv, hev⟩ := hA.form txtCell_length
  obtain ⟨ad2, cap2, hv2, hev2⟩ := hB.form txtCell_length
  subst hv hv2
  go_enter Tryz.func32, Tryz.ntmps32
  go_wp2
  go_loopw [5] (fun c u => ∃ k : Nat, k ≤ xs.length ∧ c = .int .i64 k ∧ Below w.heap.size w u ∧ ∀ p, u.cell? p = w.cell? p) (fun c _ => xs.length - (intOf c).toNat)
  case atStart => exact ⟨0, Nat.zero_le _, rfl, Below.refl _ _, fun _ => rfl⟩
  case round =>
    obtain ⟨k, hk, rfl, hb, hsame⟩ := hrel
    by_cases hlt : k < xs.length
    · obtain ⟨g, hg, hcell, _⟩ := hev k hlt
      obtain ⟨g2, hg2, hcell2, _⟩ := hev2 k hlt
      subst hg hg2
      have c0 := hcell 0 (by decide)
      have c1 := hcell2 0 (by decide)
      simp only [txtCell, List.getElem?_cons_zero, Nat.add_zero, Nat.mul_one] at c0 c1
      rw [← hsame] at c0 c1
      replace hsame := hide hsame
      have hlk : (k : Int) < (xs.length : Int) := by omega
      generalize xs[k] = X at *
      clear hcell hcell2 hev hev2
      go_wp2_with fail
      go_quiet (fail)
      go_wp2
      exact ⟨⟨k + 1, hlt, by go_num, ⟨hb.os, hb.tape, hb.output, hb.size, hb.block⟩, hsame.out⟩, by simp [intOf]; omega⟩
    · obtain rfl : k = xs.length := by omega
      clear hev hev2
      go_wp2
      go_ret
      exact ⟨rfl, hb⟩

/-- one of the lists in the book: the slice, and its length -/
def lstCell (x : Value × Nat) : List Value := [x.1]
theorem lstCell_length (x : Value × Nat) : (lstCell x).length = 1 := rfl
theorem lstInfo : (Tryz.prog.info? 59).map (fun i => (i.zero, i.size, i.bytes)) = some (some (.slice none 0 0), 1, 24) := by kernel_rfl
theorem row_mark (w : World) (v : Value) (M : List UInt8) (n : Nat) (h : RowOf w 9 1 txtCell v (List.replicate n M)) (k : Nat) (hk : k < n) : ∃ g cap, v = .slice (some ⟨g, 0, none⟩) n cap ∧ w.cell? ⟨g, k, none⟩ = some (.string (bs M)) := by
  obtain ⟨ad, cap, hv, hev⟩ := h.form txtCell_length
  obtain ⟨g, rfl, hcell, _⟩ := hev k (by simpa using hk)
  have c0 := hcell 0 (by decide)
  simp only [txtCell, List.getElem_replicate, List.getElem?_cons_zero, Nat.add_zero, Nat.mul_one] at c0
  exact ⟨g, cap, by rw [hv, List.length_replicate], c0⟩

set_option maxRecDepth 100000 in
set_option maxHeartbeats 1000000 in
theorem still_any (w : World) (Wb : Nat) (lg : Bool) (vb vd vl : Value) (ll : List (Value × Nat)) (hW : w.heap[Wb]? = some (.cells #[.bool lg, vb, vd, vl] 30 (0, 0))) (hL : RowOf w 59 1 lstCell vl ll) (hlen : ll.length ≤ 3999999999000)
    (hrows : ∀ i (hi : i < ll.length), ll[i].2 ≤ 1000000 ∧ RowOf w 9 1 txtCell ll[i].1 (List.replicate ll[i].2 (markB (i / 4 + 1)))) :
    Calls Tryz.prog 8 #[.pointer (some ⟨Wb, 0, none⟩)] w fun e w' => e = .returned (.bool true) ∧ Below w.heap.size w w' := by
  obtain ⟨ad, cap, hv, hev⟩ := hL.form lstCell_length
  subst hv
  clear hev
  go_enter Tryz.func8, Tryz.ntmps8
  go_wp2
  go_loopw [3] (fun c u => ∃ k : Nat, k ≤ ll.length ∧ c = .int .i64 k ∧ Below w.heap.size w u) (fun c _ => ll.length - (intOf c).toNat)
  case atStart => exact ⟨0, Nat.zero_le _, rfl, Below.refl _ _⟩
  case round =>
    obtain ⟨k, hk, rfl, hb⟩ := hrel
    have hWu : wr.heap[Wb]? = _ := (hb.block Wb (block_lt hW)).trans hW
    have hLu := hL.below hb
    have hc : ∀ o, _ = _ := fun o => cell_at hWu o
    have hWl := block_lt hWu
    by_cases hlt : k < ll.length
    · obtain ⟨ad', cap', hv', hev'⟩ := hLu.form lstCell_length
      obtain ⟨g, hg, hcell, _⟩ := hev' k hlt
      have ead : ad = ad' := by injection hv'
      subst ead
      subst hg
      have hgl : g < wr.heap.size := hLu.lt rfl
      have c0 := hcell 0 (by decide)
      simp only [lstCell, List.getElem?_cons_zero, Nat.add_zero, Nat.mul_one] at c0
      obtain ⟨hn6, hrow⟩ := hrows k hlt
      have hM := hide (fun u => mark_any (k / 4 + 1) (by omega) u)
      rw [show ((k / 4 + 1 : Nat) : Int) = (k : Int) / 4 + 1 by omega] at hM
      have hrow1 := hrow.below hb
      obtain ⟨lad, lcap, hlv⟩ := hrow.slice
      rw [List.length_replicate] at hlv
      generalize hEl : ll[k] = E at *
      obtain ⟨lv, n⟩ := E
      simp only at hn6 hrow hrow1 hlv c0
      subst hlv
      clear hcell hev' hv' hrow
      generalize markB (k / 4 + 1) = M at *
      go_wp2_with fail
      refine (hM.out _).mono ?_
      rintro e w1 ⟨rfl, hb1⟩
      have hW1 : w1.heap[Wb]? = _ := (hb1.block Wb (block_lt hWu)).trans hWu
      have c1 : w1.cell? ⟨g, k, none⟩ = _ := (hb1.cell (p := ⟨g, k, none⟩) hgl).trans c0
      have hrow2 := hrow1.below hb1
      have hgl1 : g < w1.heap.size := Nat.lt_of_lt_of_le hgl hb1.size
      have hb2 := hb.trans (hb1.mono hb.size)
      clear hc hM hrow1 c0
      have hc : ∀ o, _ = _ := fun o => cell_at hW1 o
      go_wp2
      go_loopw [5] (fun c u => ∃ j : Nat, j ≤ n ∧ c = .int .i64 j ∧ u.heap = w1.heap ∧ Below w.heap.size w u) (fun c _ => n - (intOf c).toNat)
      case atStart => exact ⟨0, Nat.zero_le _, rfl, rfl, hb2⟩
      case round =>
        obtain ⟨j, hj, rfl, hheap, hb3⟩ := hrel
        have hW3 : wr.heap[Wb]? = _ := (congrArg (fun h => h[Wb]?) hheap).trans hW1
        have c3 : wr.cell? ⟨g, k, none⟩ = _ := (World.cell?_of_block (congrArg (fun h => h[g]?) hheap)).trans c1
        clear hc
        have hc : ∀ o, _ = _ := fun o => cell_at hW3 o
        have hheap' := hide hheap
        by_cases hjl : j < n
        · obtain ⟨g2, cap2, hvv, cj⟩ := row_mark w1 _ M n hrow2 j hjl
          injection hvv with hv1 hv2 hv3
          subst hv1
          have c4 : wr.cell? ⟨g2, j, none⟩ = _ := (World.cell?_of_block (congrArg (fun h => h[g2]?) hheap)).trans cj
          clear hheap hW3 hW1 hWu hW hrow2 hL hLu hrows c1 cj
          have hjn : (j : Int) < (n : Int) := by omega
          go_wp2
          exact ⟨⟨j + 1, hjl, by go_num, hheap'.out, hb3⟩, by simp [intOf]; omega⟩
        · obtain rfl : j = n := by omega
          clear hheap hW3 hW1 hWu hW hrow2 hL hLu hrows c1
          go_wp2
          exact ⟨⟨k + 1, hlt, by go_num, hb3⟩, by simp [intOf]; omega⟩
    · obtain rfl : k = ll.length := by omega
      go_wp2
      go_ret
      exact ⟨rfl, hb⟩

end Go.Proofs.YtjkhbjgfoopomaaGreat
/-
  The statements' keep: a list is written full of its mark, and three more stand beside it.
-/
namespace Go.Proofs.YtjkhbjgfoopomaaGreat
open Go.RowKit
set_option linter.unusedVariables false
set_option linter.unusedSimpArgs false
theorem stopAt {p : Prop} (h : Hid p) : p := h
theorem wpList_moreH {P : Program} {ops : Array Oper} {rest : List Oper} {o : Oper} {a : Act} {Q : Exit → Act → World → Prop} {α : Type} {f : α → List Value} {sz : Nat} (hf : ∀ x, (f x).length = sz) (w : World) (hgd : o.guard = none) (s x : Operand) (t : TypeId)
    (ho : o.op = .call { callee := .builtin .append, args := #[s, x], argTypes := #[t, t] }) (e : TypeId) (i : TypeInfo) (z : Value) (bytes : Nat) (ht : P.underlying t = some (.slice e)) (hi : P.info? e = some i) (hz : i.zero = some z)
    (hsize : i.size = sz) (hby : i.bytes = bytes) (hzs : z.cells.size = sz) (hsz : 0 < sz) (v : Value) (xs : List α) (hs : a.eval s = v) (hrow : RowOf w e sz f v xs) (c : Nat) (ys : List α) (hys : 0 < ys.length) (m H : Nat) (hm : m = ys.length) (hx : a.eval x = .slice (some ⟨H, 0, none⟩) m c) (hH : w.heap.size = H)
    (h1 : ∀ y, y ∈ ys → ∀ u ∈ f y, u.oneCell' = true) (h63 : xs.length + ys.length ≤ maxLen) (hbytes : (xs.length + ys.length) * bytes ≤ 140737488355328)
    (h : ∀ g cap w', RowOf w' e sz f (.slice (some ⟨g, 0, none⟩) (xs.length + m) cap) (xs ++ ys) → (∀ v2 zs, RowOf w e sz f v2 zs → ((∃ r, xs ++ ys = zs ++ r) ∨ v2.ownBlock ≠ v.ownBlock) → RowOf w' e sz f v2 zs) → Kept (fun k => v.ownBlock = some k) w w' → (v.ownBlock = some g ∨ w.heap.size ≤ g) → g < w'.heap.size → wpList P ops Q rest (a.put o.dst (.slice (some ⟨g, 0, none⟩) (xs.length + m) cap)) w') :
    ∀ W, W = w.alloc (.cells (ys.flatMap f).toArray e) → wpList P ops Q (o :: rest) a W := by
  subst hH
  exact wpList_more hf w hgd s x t ho e i z bytes ht hi hz hsize hby hzs hsz v xs hs hrow c ys hys m hm hx h1 h63 hbytes h
theorem lst_single (ad : Option Addr) (n c k : Nat) (y : Value × Nat) (hy : y ∈ [((.slice ad n c : Value), k)]) : ∀ u ∈ [y.1], u.oneCell' = true := by
  rw [List.mem_singleton] at hy
  subst hy
  intro u hu
  rw [List.mem_singleton] at hu
  subst hu
  rfl
theorem lst_one (x : Value × Nat) (ad : Option Addr) (n c : Nat) (hx : x.1 = .slice ad n c) : ∀ u ∈ lstCell x, u.oneCell' = true := by
  intro u hu
  simp only [lstCell, List.mem_cons, List.not_mem_nil, or_false] at hu
  subst hu
  rw [hx]
  rfl
theorem rep_pre (M : List UInt8) (k n m : Nat) (h : k ≤ n + m) : ∃ r, List.replicate n M ++ List.replicate m M = List.replicate k M ++ r :=
  ⟨List.replicate (n + m - k) M, by rw [List.replicate_append_replicate, List.replicate_append_replicate]; congr 1; omega⟩
theorem set_take_rep (M : List UInt8) (xs : List (List UInt8)) (k : Nat) (hk : k < xs.length) : (List.replicate k M ++ xs.drop k).set k M = List.replicate (k + 1) M ++ xs.drop (k + 1) := by
  rw [List.set_append_right _ _ (by simp), List.length_replicate, Nat.sub_self, List.drop_eq_getElem_cons hk, List.set_cons_zero, List.replicate_succ']
  simp
/-- under way: the book, and the lists that are full of their mark -/
structure Bk (w u : World) (Wb : Nat) (lg : Bool) (vb vd vl lv vlc : Value) (llc rows : List (Value × Nat)) (M : List UInt8) : Prop where
  blk : u.heap[Wb]? = some (.cells #[.bool lg, vb, vd, vlc] 30 (0, 0))
  lst : RowOf u 59 1 lstCell vlc llc
  full : ∀ r, r ∈ rows → RowOf u 9 1 txtCell r.1 (List.replicate r.2 M)
  rown : ∀ r, r ∈ rows → ∀ g, r.1.ownBlock = some g → lv.ownBlock = some g ∨ w.heap.size ≤ g
  lown : ∀ g, vlc.ownBlock = some g → vl.ownBlock = some g ∨ w.heap.size ≤ g
  apart : ∀ r, r ∈ rows → ∀ g, r.1.ownBlock = some g → vlc.ownBlock ≠ some g ∧ g ≠ Wb
  lap : vlc.ownBlock ≠ some Wb
  kept : Kept (fun k => k = Wb ∨ vl.ownBlock = some k ∨ lv.ownBlock = some k) w u
theorem Bk.lt {w u : World} {Wb : Nat} {lg : Bool} {vb vd vl lv vlc : Value} {llc rows : List (Value × Nat)} {M : List UInt8} (h : Bk w u Wb lg vb vd vl lv vlc llc rows M) : Wb < u.heap.size := block_lt h.blk
/-- a list more, out of lv by append -/
theorem Bk.grow {w u u2 : World} {Wb : Nat} {lg : Bool} {vb vd vl lv vlc : Value} {llc rows : List (Value × Nat)} {M : List UInt8} (h : Bk w u Wb lg vb vd vl lv vlc llc rows M) {n m g cap k : Nat} (hk : k = n + m) (hrow : RowOf u2 9 1 txtCell (.slice (some ⟨g, 0, none⟩) k cap) (List.replicate n M ++ List.replicate m M))
    (hoth : ∀ v2 zs, RowOf u 9 1 txtCell v2 zs → ((∃ r, List.replicate n M ++ List.replicate m M = zs ++ r) ∨ v2.ownBlock ≠ lv.ownBlock) → RowOf u2 9 1 txtCell v2 zs) (hle : ∀ r, r ∈ rows → r.2 ≤ n + m)
    (hkp : Kept (fun k => lv.ownBlock = some k) u u2) (hg : lv.ownBlock = some g ∨ u.heap.size ≤ g) (hin : ∃ i, (lv, i) ∈ rows) : Bk w u2 Wb lg vb vd vl lv vlc llc (rows ++ [(.slice (some ⟨g, 0, none⟩) k cap, k)]) M := by
  obtain ⟨i, hin⟩ := hin
  have hWlv : lv.ownBlock ≠ some Wb := fun e => (h.apart _ hin Wb e).2 rfl
  have one : ∀ g', (Value.slice (some ⟨g, 0, none⟩) k cap).ownBlock = some g' → g' = g := fun g' h' => by simpa [Value.ownBlock] using h'.symm
  have hWg : Wb < u.heap.size := h.lt
  subst hk
  refine ⟨by rw [hkp.block Wb hWg hWlv]; exact h.blk, h.lst.kept hkp (fun g' h' e => (h.apart _ hin g' e).1 h'), ?_, ?_, h.lown, ?_, h.lap, h.kept.trans hkp (fun j hj => .inl (.inr (.inr hj)))⟩
  · intro r hr
    rcases List.mem_append.1 hr with hr | hr
    · exact hoth _ _ (h.full r hr) (.inl (rep_pre M _ _ _ (hle r hr)))
    · rw [List.mem_singleton] at hr
      subst hr
      rw [List.replicate_append_replicate] at hrow
      exact hrow
  · intro r hr g' hg'
    rcases List.mem_append.1 hr with hr | hr
    · exact h.rown r hr g' hg'
    · rw [List.mem_singleton] at hr
      subst hr
      rw [one g' hg']
      exact hg.imp_right (fun x => Nat.le_trans h.kept.size x)
  · intro r hr g' hg'
    rcases List.mem_append.1 hr with hr | hr
    · exact h.apart r hr g' hg'
    · rw [List.mem_singleton] at hr
      subst hr
      rw [one g' hg']
      rcases hg with hg | hg
      · exact h.apart _ hin g hg
      · refine ⟨fun e => ?_, fun e => ?_⟩
        · have := h.lst.lt e; omega
        · omega
/-- one more in the book -/
theorem Bk.step {w u u2 : World} {Wb : Nat} {lg : Bool} {vb vd vl lv vlc : Value} {llc rows : List (Value × Nat)} {M : List UInt8} (h : Bk w u Wb lg vb vd vl lv vlc llc rows M) {g n cap : Nat} {x : Value × Nat} (hrow : RowOf u2 59 1 lstCell (.slice (some ⟨g, 0, none⟩) n cap) (llc ++ [x]))
    (hkp : Kept (fun k => vlc.ownBlock = some k) u u2) (hg : vlc.ownBlock = some g ∨ u.heap.size ≤ g) : Bk w (u2.setCell ⟨Wb, 3, none⟩ (.slice (some ⟨g, 0, none⟩) n cap)) Wb lg vb vd vl lv (.slice (some ⟨g, 0, none⟩) n cap) (llc ++ [x]) rows M := by
  have one : ∀ g', (Value.slice (some ⟨g, 0, none⟩) n cap).ownBlock = some g' → g' = g := fun g' h' => by simpa [Value.ownBlock] using h'.symm
  have hB : u2.heap[Wb]? = some (.cells #[.bool lg, vb, vd, vlc] 30 (0, 0)) := by rw [hkp.block Wb h.lt h.lap]; exact h.blk
  have hgW : g ≠ Wb := by
    rcases hg with hg | hg
    · intro e; subst e; exact h.lap hg
    · have := h.lt; omega
  refine ⟨heap_set_self hB 3 _, hrow.kept (Kept.of_setCell _ _ _) (fun g' h' => by rw [one g' h']; exact hgW), ?_, h.rown, ?_, ?_, fun e => hgW (one _ e).symm, ?_⟩
  · intro r hr
    have h1 := (h.full r hr).kept hkp (fun g' h' e => (h.apart r hr g' h').1 e)
    exact h1.kept (Kept.of_setCell _ _ _) (fun g' h' e => (h.apart r hr g' h').2 e)
  · intro g' h'
    rw [one g' h']
    rcases hg with hg | hg
    · exact h.lown g hg
    · exact .inr (Nat.le_trans h.kept.size hg)
  · intro r hr g' h'
    refine ⟨fun e => ?_, (h.apart r hr g' h').2⟩
    have e2 := one g' e
    subst e2
    rcases hg with hg | hg
    · exact (h.apart r hr g' h').1 hg
    · have := (h.full r hr).lt h'
      omega
  · refine (h.kept.trans hkp (fun j hj => ?_)).trans (Kept.of_setCell _ _ _) (fun j hj => .inl (.inl hj))
    rcases h.lown j hj with x | x
    · exact .inl (.inr (.inl x))
    · exact .inr x
/-- what keep leaves: the list and three more, all full of their mark -/
def Booked (w w' : World) (Wb : Nat) (lg : Bool) (vb vd vl : Value) (ll : List (Value × Nat)) (lv : Value) (n : Nat) : Prop :=
  ∃ vl' vf vg vh, Bk w w' Wb lg vb vd vl lv vl' (ll ++ [(lv, n)] ++ [(vf, n + 1)] ++ [(vg, n + 2)] ++ [(vh, n + 3)]) [(lv, n), (vf, n + 1), (vg, n + 2), (vh, n + 3)] (markB (ll.length / 4 + 1))

set_option maxRecDepth 100000 in
set_option maxHeartbeats 2000000 in
theorem keep4_any (w : World) (Wb : Nat) (lg : Bool) (vb vd vl : Value) (ll : List (Value × Nat)) (hW : w.heap[Wb]? = some (.cells #[.bool lg, vb, vd, vl] 30 (0, 0))) (hL : RowOf w 59 1 lstCell vl ll) (hlen : ll.length ≤ 3999999999000)
    (lv : Value) (xs : List (List UInt8)) (hx6 : xs.length ≤ 1000000) (hX : RowOf w 9 1 txtCell lv xs) (h1 : vl.ownBlock ≠ some Wb) (h2 : lv.ownBlock ≠ some Wb) (h3 : ∀ g, lv.ownBlock = some g → vl.ownBlock ≠ some g) :
    Calls Tryz.prog 33 #[.pointer (some ⟨Wb, 0, none⟩), lv] w fun e w' => e = .returned (.tuple #[]) ∧ Booked w w' Wb lg vb vd vl ll lv xs.length := by
  obtain ⟨i0, hi0, y0, y1, y2⟩ := info_parts txtInfo
  obtain ⟨i1, hi1, z0, z1, z2⟩ := info_parts lstInfo
  obtain ⟨ad, cap, hv, hev⟩ := hL.form lstCell_length
  obtain ⟨ad2, cap2, hv2, hev2⟩ := hX.form txtCell_length
  subst hv hv2
  clear hev hev2
  have hc : ∀ o, _ = _ := fun o => cell_at hW o
  have hWl := block_lt hW
  have hM := hide (fun u => mark_any (ll.length / 4 + 1) (by omega) u)
  rw [show ((ll.length / 4 + 1 : Nat) : Int) = (ll.length : Int) / 4 + 1 by omega] at hM
  obtain ⟨M, hmk⟩ : ∃ M, M = markB (ll.length / 4 + 1) := ⟨_, rfl⟩
  rw [← hmk] at hM
  replace hmk := hide hmk
  go_enter Tryz.func33, Tryz.ntmps33
  go_wp2_with fail
  refine (hM.out _).mono ?_
  rintro e w1 ⟨rfl, hb1⟩
  have hW1 : w1.heap[Wb]? = _ := (hb1.block Wb (block_lt hW)).trans hW
  have hL1 := hL.below hb1
  have hX1 := hX.below hb1
  clear hM hc
  have hc : ∀ o, _ = _ := fun o => cell_at hW1 o
  go_wp2
  go_loopw [5] (fun c u => ∃ k : Nat, k ≤ xs.length ∧ c = .int .i64 k ∧ RowOf u 9 1 txtCell (.slice ad2 xs.length cap2) (List.replicate k M ++ xs.drop k) ∧ Kept (fun b => (Value.slice ad2 xs.length cap2).ownBlock = some b) w1 u) (fun c _ => xs.length - (intOf c).toNat)
  case atStart => exact ⟨0, Nat.zero_le _, rfl, hX1, Kept.refl _ _⟩
  case round =>
    obtain ⟨k, hk, rfl, hrow, hkp⟩ := hrel
    by_cases hlt : k < xs.length
    · obtain ⟨ad', cap', hv', hev'⟩ := hrow.form txtCell_length
      have hl' : (List.replicate k M ++ xs.drop k).length = xs.length := by simp; omega
      obtain ⟨g, hg, hcell, hfz⟩ := hev' k (by omega)
      have ead : ad2 = ad' := by injection hv'
      subst ead
      subst hg
      have hst := hide (hrow.set txtCell_length rfl k 0 (by omega) (by decide) (.string (bs M)) M (by simp [txtCell]))
      rw [set_take_rep M xs k hlt] at hst
      have hlk : (k : Int) < (xs.length : Int) := by omega
      have hf0 := hfz k
      have hlg : g < wr.heap.size := hrow.lt rfl
      have c0 := hcell 0 (by decide)
      have hkp' := hide hkp
      simp only [txtCell, List.getElem?_cons_zero, Nat.add_zero, Nat.mul_one] at c0 hst
      clear hcell hev' hv' hrow hkp
      generalize (List.replicate k M ++ xs.drop k)[k] = X0 at *
      go_wp2
      exact ⟨⟨k + 1, hlt, by go_num, hst.out, hkp'.out.trans (Kept.of_setCell _ _ _) (fun i hi => .inl (by rw [hi]; rfl))⟩, by simp [intOf]; omega⟩
    · obtain rfl : k = xs.length := by omega
      rw [List.drop_length, List.append_nil] at hrow
      have K0 : Bk w wr Wb lg vb vd (.slice ad ll.length cap) (.slice ad2 xs.length cap2) (.slice ad ll.length cap) ll [(.slice ad2 xs.length cap2, xs.length)] M := by
        have hkw : Kept (fun b => (Value.slice ad2 xs.length cap2).ownBlock = some b) w wr := (Kept.of_below hb1).trans hkp (fun i hi => .inl hi)
        refine ⟨by rw [hkw.block Wb (block_lt hW) h2]; exact hW, hL.kept hkw (fun g h' e => h3 g e h'), ?_, ?_, fun g h' => .inl h', ?_, h1, hkw.mono (fun i _ hi => .inr (.inr hi))⟩
        · intro r hr
          rw [List.mem_singleton] at hr
          subst hr
          exact hrow
        · intro r hr g hg
          rw [List.mem_singleton] at hr
          subst hr
          exact .inl hg
        · intro r hr g hg
          rw [List.mem_singleton] at hr
          subst hr
          exact ⟨h3 g hg, fun e => h2 (by rw [← e]; exact hg)⟩
      clear hrow hkp hW1 hL1 hX1 hb1 hc hW hL hX h1 h2 h3
      generalize hn : xs.length = n at *
      have R0 : RowOf wr 9 1 txtCell (.slice ad2 n cap2) (List.replicate n M) := K0.full _ (List.mem_singleton.2 rfl)
      have stx : ∀ y, y ∈ List.replicate 1 M ∨ y ∈ List.replicate 2 M ∨ y ∈ List.replicate 3 M → ∀ u ∈ txtCell y, u.oneCell' = true := fun y _ => txt_one y
      have lr : ∀ k, (List.replicate k M).length = k := fun k => List.length_replicate
      replace stx := hide stx
      replace lr := hide lr
      go_wp2_with (first | (at_builtin; refine stopAt ?_))
      refine hide ?_
      refine wpList_more txtCell_length wr (by rfl) _ _ 59 (by rfl) 9 i0 _ 16 Tryz.underlying59 hi0 y0 y1 y2 rfl (by decide) (.slice ad2 n cap2) (List.replicate n M) (by rfl) R0 1 (List.replicate 1 M) (by rw [lr.out]; decide) 1 (by rw [lr.out]) (by rfl) (fun y hy => stx.out y (.inl hy)) (by rw [lr.out, lr.out]; unfold maxLen; omega) (by rw [lr.out, lr.out]; omega) ?_ _ (by rfl)
      intro g1 c1 u1 ro1 ot1 kp1 at1 lt1
      rw [lr.out] at ro1
      rw [lr.out]
      have K1 := K0.grow (n := n) (m := 1) rfl ro1 ot1 (by intro r hr; rw [List.mem_singleton] at hr; subst hr; exact Nat.le_add_right _ _) kp1 at1 ⟨n, by simp⟩
      have R1 : RowOf u1 9 1 txtCell (.slice ad2 n cap2) (List.replicate n M) := K1.full (.slice ad2 n cap2, n) (by simp)
      clear R0 ro1 ot1 kp1 at1 lt1
      replace K1 := hide K1
      go_wp2_with (first | (at_builtin; refine stopAt ?_))
      refine hide ?_
      refine wpList_more txtCell_length u1 (by rfl) _ _ 59 (by rfl) 9 i0 _ 16 Tryz.underlying59 hi0 y0 y1 y2 rfl (by decide) (.slice ad2 n cap2) (List.replicate n M) (by rfl) R1 2 (List.replicate 2 M) (by rw [lr.out]; decide) 2 (by rw [lr.out]) (by rfl) (fun y hy => stx.out y (.inr (.inl hy))) (by rw [lr.out, lr.out]; unfold maxLen; omega) (by rw [lr.out, lr.out]; omega) ?_ _ (by rfl)
      intro g2 c2 u2 ro2 ot2 kp2 at2 lt2
      rw [lr.out] at ro2
      rw [lr.out]
      have K2 := K1.out.grow (n := n) (m := 2) rfl ro2 ot2 (by intro r hr; simp at hr; rcases hr with hr | hr <;> subst hr <;> simp <;> omega) kp2 at2 ⟨n, by simp⟩
      have R2 : RowOf u2 9 1 txtCell (.slice ad2 n cap2) (List.replicate n M) := K2.full (.slice ad2 n cap2, n) (by simp)
      clear R1 ro2 ot2 kp2 at2 lt2 K1
      replace K2 := hide K2
      go_wp2_with (first | (at_builtin; refine stopAt ?_))
      refine hide ?_
      refine wpList_more txtCell_length u2 (by rfl) _ _ 59 (by rfl) 9 i0 _ 16 Tryz.underlying59 hi0 y0 y1 y2 rfl (by decide) (.slice ad2 n cap2) (List.replicate n M) (by rfl) R2 3 (List.replicate 3 M) (by rw [lr.out]; decide) 3 (by rw [lr.out]) (by rfl) (fun y hy => stx.out y (.inr (.inr hy))) (by rw [lr.out, lr.out]; unfold maxLen; omega) (by rw [lr.out, lr.out]; omega) ?_ _ (by rfl)
      intro g3 c3 u3 ro3 ot3 kp3 at3 lt3
      rw [lr.out] at ro3
      rw [lr.out]
      have K3 := K2.out.grow (n := n) (m := 3) rfl ro3 ot3 (by intro r hr; simp at hr; rcases hr with hr | hr | hr <;> subst hr <;> simp <;> omega) kp3 at3 ⟨n, by simp⟩
      clear R2 ro3 ot3 kp3 at3 lt3 K2 K0
      have hc3 := fun o => cell_at K3.blk o
      have hl3 := K3.lt
      replace K3 := hide K3
      go_wp2_with (first | (at_builtin; refine stopAt ?_))
      refine hide ?_
      refine wpList_more lstCell_length u3 (by rfl) _ _ 28 (by rfl) 59 i1 _ 24 Tryz.underlying28 hi1 z0 z1 z2 rfl (by decide) (.slice ad ll.length cap) ll (by rfl) K3.out.lst 1 [(.slice ad2 n cap2, n)] (by simp) 1 (by rfl) (by rfl) (fun y hy => lst_one y ad2 n cap2 (by rw [List.mem_singleton] at hy; rw [hy])) (by unfold maxLen; simp only [List.length_singleton]; omega) (by simp only [List.length_singleton]; omega) ?_ _ (by rfl)
      intro g4 c4 u4 ro4 _ kp4 at4 lt4
      have hb4 : u4.heap[Wb]? = _ := (kp4.block Wb K3.out.lt K3.out.lap).trans K3.out.blk
      have K4 := hide (K3.out.step ro4 kp4 at4)
      have hc4 := fun o => cell_at hb4 o
      have hf4 := fun o => frozen_at hb4 o
      clear hc3 hl3 K3 ro4 kp4 at4 lt4 hb4
      go_wp2_with (first | (at_builtin; refine stopAt ?_))
      refine hide ?_
      refine wpList_moreH lstCell_length _ (by rfl) _ _ 28 (by rfl) 59 i1 _ 24 Tryz.underlying28 hi1 z0 z1 z2 rfl (by decide) _ _ (by rfl) K4.out.lst 1 [(.slice (some ⟨g1, 0, none⟩) (n + 1) c1, n + 1)] (by simp) 1 _ (by rfl) (by rfl) (by first | rfl | simp) (fun y hy => lst_single _ _ _ _ y hy) (by unfold maxLen; simp only [List.length_append, List.length_singleton]; omega) (by simp only [List.length_append, List.length_singleton]; omega) ?_ _ (by rfl)
      intro g5 c5 u5 ro5 _ kp5 at5 lt5
      simp only [List.length_append, List.length_singleton] at ro5 ⊢
      have hb5 : u5.heap[Wb]? = _ := (kp5.block Wb K4.out.lt K4.out.lap).trans K4.out.blk
      have K5 := hide (K4.out.step ro5 kp5 at5)
      have hc5 := fun o => cell_at hb5 o
      have hf5 := fun o => frozen_at hb5 o
      clear hc4 hf4 K4 ro5 kp5 at5 lt5 hb5
      go_wp2_with (first | (at_builtin; refine stopAt ?_))
      refine hide ?_
      refine wpList_moreH lstCell_length _ (by rfl) _ _ 28 (by rfl) 59 i1 _ 24 Tryz.underlying28 hi1 z0 z1 z2 rfl (by decide) _ _ (by rfl) K5.out.lst 1 [(.slice (some ⟨g2, 0, none⟩) (n + 2) c2, n + 2)] (by simp) 1 _ (by rfl) (by rfl) (by first | rfl | simp) (fun y hy => lst_single _ _ _ _ y hy) (by unfold maxLen; simp only [List.length_append, List.length_singleton]; omega) (by simp only [List.length_append, List.length_singleton]; omega) ?_ _ (by rfl)
      intro g6 c6 u6 ro6 _ kp6 at6 lt6
      simp only [List.length_append, List.length_singleton] at ro6 ⊢
      have hb6 : u6.heap[Wb]? = _ := (kp6.block Wb K5.out.lt K5.out.lap).trans K5.out.blk
      have K6 := hide (K5.out.step ro6 kp6 at6)
      have hc6 := fun o => cell_at hb6 o
      have hf6 := fun o => frozen_at hb6 o
      clear hc5 hf5 K5 ro6 kp6 at6 lt6 hb6
      go_wp2_with (first | (at_builtin; refine stopAt ?_))
      refine hide ?_
      refine wpList_moreH lstCell_length _ (by rfl) _ _ 28 (by rfl) 59 i1 _ 24 Tryz.underlying28 hi1 z0 z1 z2 rfl (by decide) _ _ (by rfl) K6.out.lst 1 [(.slice (some ⟨g3, 0, none⟩) (n + 3) c3, n + 3)] (by simp) 1 _ (by rfl) (by rfl) (by first | rfl | simp) (fun y hy => lst_single _ _ _ _ y hy) (by unfold maxLen; simp only [List.length_append, List.length_singleton]; omega) (by simp only [List.length_append, List.length_singleton]; omega) ?_ _ (by rfl)
      intro g7 c7 u7 ro7 _ kp7 at7 lt7
      simp only [List.length_append, List.length_singleton] at ro7 ⊢
      have hb7 : u7.heap[Wb]? = _ := (kp7.block Wb K6.out.lt K6.out.lap).trans K6.out.blk
      have K7 := hide (K6.out.step ro7 kp7 at7)
      have hc7 := fun o => cell_at hb7 o
      have hf7 := fun o => frozen_at hb7 o
      clear hc6 hf6 K6 ro7 kp7 at7 lt7 hb7
      go_wp2
      refine bodyPost_end (results_none rfl _ _ _) rfl ?_
      have hK := K7.out
      rw [← hn, hmk.out] at hK
      exact ⟨rfl, .slice (some ⟨g7, 0, none⟩) (ll.length + 1 + 1 + 1 + 1) c7, .slice (some ⟨g1, 0, none⟩) (xs.length + 1) c1, .slice (some ⟨g2, 0, none⟩) (xs.length + 2) c2, .slice (some ⟨g3, 0, none⟩) (xs.length + 3) c3, hK⟩
end Go.Proofs.YtjkhbjgfoopomaaGreat
