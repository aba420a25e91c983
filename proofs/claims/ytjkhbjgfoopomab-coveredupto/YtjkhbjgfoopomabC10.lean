import Derived.Test.YtjkhbjgfoopomabC1
import Derived.Test.YtjkhbjgfoopomabC2
import Derived.Test.YtjkhbjgfoopomabC4
import Derived.BigQuiet
import Derived.Test.YtjkhbjgfoopomabC3
import Derived.Lib.ConvBytes
/-
  The program's bank in memory: its node, its accounts, its legs; the walks that only read it.
-/
namespace Go.Proofs.Ytjkhbjgfoopomab
open Go.RowKit
set_option linter.unusedVariables false
set_option linter.unusedSimpArgs false

structure Ac where
  n : Nat
  b : Nat
def Ac.ok (x : Ac) : Prop := x.n < 65536 ∧ x.b < 4294967296
def Ac.cells (x : Ac) : List Value := [.int .u16 (x.n : Int), .int .u32 (x.b : Int)]
theorem Ac.cells_length (x : Ac) : x.cells.length = 2 := rfl
structure Lg where
  id : Nat
  l : Nat
  st : Nat
  p : Nat
  g : Nat
  a : Nat
  m : List UInt8
def Lg.ok (x : Lg) : Prop := x.id < 4294967296 ∧ x.l < 256 ∧ x.st < 256 ∧ x.p < 65536 ∧ x.g < 65536 ∧ x.a < 4294967296
def Lg.cells (x : Lg) : List Value := [.int .u32 (x.id : Int), .int .u8 (x.l : Int), .int .u8 (x.st : Int), .int .u16 (x.p : Int), .int .u16 (x.g : Int), .int .u32 (x.a : Int), .string (bs x.m)]
theorem Lg.cells_length (x : Lg) : x.cells.length = 7 := rfl
/-- a bank of the program's lies at B -/
structure XB (w : World) (B node : Nat) (ac : List Ac) (ls : List Lg) (va vl : Value) : Prop where
  blk : w.heap[B]? = some (.cells #[.int .u8 (node : Int), va, vl] (tyAt w B) (0, 0))
  arow : RowOf w 102 2 Ac.cells va ac
  lrow : RowOf w 135 7 Lg.cells vl ls
theorem XB.lt {w : World} {B node : Nat} {ac : List Ac} {ls : List Lg} {va vl : Value} (h : XB w B node ac ls va vl) : B < w.heap.size := block_lt h.blk
theorem XB.below {w u : World} {B node : Nat} {ac : List Ac} {ls : List Lg} {va vl : Value} (h : XB w B node ac ls va vl) (hb : Below w.heap.size w u) : XB u B node ac ls va vl :=
  ⟨ty_of (by rw [hb.block B h.lt]; exact h.blk), h.arow.below hb, h.lrow.below hb⟩

def hasB (a : Nat) (ac : List Ac) : Bool := ac.any fun x => decide (x.n = a)
set_option maxRecDepth 100000 in
set_option maxHeartbeats 1000000 in
theorem has_any (a : Nat) (ha : a < 65536) (w : World) (B node : Nat) (ac : List Ac) (ls : List Lg) (va vl : Value) (hX : XB w B node ac ls va vl) (hok : ∀ x, x ∈ ac → x.ok) (hlen : ac.length ≤ 1000000) :
    Calls Try.prog 37 #[.pointer (some ⟨B, 0, none⟩), .int .u16 (a : Int)] w fun e w' => e = .returned (.bool (hasB a ac)) ∧ w' = w := by
  obtain ⟨ad, cap, hv, hev⟩ := hX.arow.form Ac.cells_length
  subst hv
  have hc : ∀ o, _ = _ := fun o => cell_at hX.blk o
  go_enter Try.func37, Try.ntmps37
  go_wp2
  go_loopw [11] (fun c u => ∃ k : Nat, k ≤ ac.length ∧ c = .int .i64 k ∧ hasB a (ac.take k) = false ∧ u = w) (fun c _ => ac.length - (intOf c).toNat)
  case atStart => exact ⟨0, Nat.zero_le _, rfl, rfl, rfl⟩
  case round =>
    obtain ⟨k, hk, rfl, hno, rfl⟩ := hrel
    replace hno := hide hno
    by_cases hlt : k < ac.length
    · obtain ⟨g, hg, hcell, _⟩ := hev k hlt
      subst hg
      have hs : Hid (hasB a (ac.take (k + 1)) = (hasB a (ac.take k) || decide (ac[k].n = a))) := hide (by unfold hasB; rw [List.take_succ_eq_append_getElem hlt, List.any_append]; simp only [List.any_cons, List.any_nil, Bool.or_false])
      have ht : Hid (ac[k].n = a → hasB a ac = true) := hide (fun h => by unfold hasB; rw [List.any_eq_true]; exact ⟨ac[k], List.getElem_mem hlt, by simp [h]⟩)
      have c0 := hcell 0 (by decide)
      have hek := hok ac[k] (List.getElem_mem hlt)
      clear hcell hev
      generalize ac[k] = E at *
      obtain ⟨en, eb⟩ := E
      obtain ⟨h1, h2⟩ := hek
      simp only [Ac.cells, List.getElem?_cons_zero, List.getElem?_cons_succ, Nat.add_zero] at c0 h1 h2
      by_cases hz : en = a
      · have dz : ((en : Int) == (a : Int)) = true := by simp; omega
        have hq : Hid (hasB a ac = true) := hide (ht.out hz)
        clear hs ht hz
        go_wp2
        go_ret
        exact ⟨by rw [hq.out]; rfl, rfl⟩
      · have dz : ((en : Int) == (a : Int)) = false := by simp; omega
        have hq : Hid (hasB a (ac.take (k + 1)) = false) := hide (by rw [hs.out, hno.out]; simp [hz])
        clear hs ht hz
        go_wp2
        exact ⟨⟨k + 1, hlt, by go_num, hq.out, trivial⟩, by simp [intOf]; omega⟩
    · obtain rfl : k = ac.length := by omega
      have hq : Hid (hasB a ac = false) := hide (by have := hno.out; rwa [List.take_length] at this)
      go_wp2
      go_ret
      exact ⟨by rw [hq.out]; rfl, rfl⟩
/-- no leg ahead of k is this one -/
def noneB (id l : Nat) (ls : List Lg) : Bool := ls.all fun x => !(decide (x.id = id) && decide (x.l = l))
def findB (id l : Nat) (ls : List Lg) : Nat := (ls.takeWhile fun x => !(decide (x.id = id) && decide (x.l = l))).length
theorem findB_at (id l : Nat) (ls : List Lg) (k : Nat) (hn : noneB id l (ls.take k) = true) (hk : k ≤ ls.length) (hy : ∀ h : k < ls.length, ls[k].id = id ∧ ls[k].l = l) : findB id l ls = k := by
  induction ls generalizing k with
  | nil => simp at hk; simp [findB, hk]
  | cons x r ih =>
    cases k with
    | zero =>
      have := hy (by simp)
      simp at this
      simp [findB, this]
    | succ k =>
      simp only [noneB, List.take_succ_cons, List.all_cons, Bool.and_eq_true] at hn
      have h2 := ih k (by simpa [noneB] using hn.2) (by simpa using hk) (fun h => by have := hy (by simpa using h); simp only [List.getElem_cons_succ] at this; exact this)
      unfold findB at *
      rw [List.takeWhile_cons, if_pos hn.1, List.length_cons, h2]
set_option maxRecDepth 100000 in
set_option maxHeartbeats 1000000 in
theorem find_any (id l : Nat) (hid : id < 4294967296) (hl : l < 256) (w : World) (B node : Nat) (ac : List Ac) (ls : List Lg) (va vl : Value) (hX : XB w B node ac ls va vl) (hok : ∀ x, x ∈ ls → x.ok) (hlen : ls.length ≤ 1000000) :
    Calls Try.prog 93 #[.pointer (some ⟨B, 0, none⟩), .int .u32 (id : Int), .int .u8 (l : Int)] w fun e w' => e = .returned (.int .i64 (findB id l ls : Int)) ∧ w' = w := by
  obtain ⟨ad, cap, hv, hev⟩ := hX.lrow.form Lg.cells_length
  subst hv
  have hc : ∀ o, _ = _ := fun o => cell_at hX.blk o
  go_enter Try.func93, Try.ntmps93
  go_wp2
  go_loopw [7] (fun c u => ∃ k : Nat, k ≤ ls.length ∧ c = .int .i64 k ∧ noneB id l (ls.take k) = true ∧ u = w) (fun c _ => ls.length - (intOf c).toNat)
  case atStart => exact ⟨0, Nat.zero_le _, rfl, rfl, rfl⟩
  case round =>
    obtain ⟨k, hk, rfl, hno, rfl⟩ := hrel
    replace hno := hide hno
    have hlk : (k : Int) ≤ (ls.length : Int) := by omega
    by_cases hlt : k < ls.length
    · obtain ⟨g, hg, hcell, _⟩ := hev k hlt
      subst hg
      have hlk2 : (k : Int) < (ls.length : Int) := by omega
      have dlt : decide ((k : Int) < (ls.length : Int)) = true := by simp; omega
      have hs : Hid (noneB id l (ls.take (k + 1)) = (noneB id l (ls.take k) && !(decide (ls[k].id = id) && decide (ls[k].l = l)))) := hide (by unfold noneB; rw [List.take_succ_eq_append_getElem hlt, List.all_append]; simp only [List.all_cons, List.all_nil, Bool.and_true])
      have ht : Hid (ls[k].id = id → ls[k].l = l → findB id l ls = k) := hide (fun h1 h2 => findB_at id l ls k hno.out hk (fun _ => ⟨h1, h2⟩))
      have c0 := hcell 0 (by decide)
      have c1 := hcell 1 (by decide)
      have hek := hok ls[k] (List.getElem_mem hlt)
      clear hcell hev
      generalize ls[k] = E at *
      obtain ⟨ei, el, es, ep, eg, ea, em⟩ := E
      obtain ⟨h1, h2, _, _, _, _⟩ := hek
      simp only [Lg.cells, List.getElem?_cons_zero, List.getElem?_cons_succ, Nat.add_zero] at c0 c1 h1 h2
      by_cases hz : ei = id
      · have dz : ((ei : Int) != (id : Int)) = false := by simp; omega
        by_cases hy : el = l
        · have dy : ((el : Int) != (l : Int)) = false := by simp; omega
          have hq : Hid (findB id l ls = k) := hide (ht.out hz hy)
          clear hs ht hz hy
          go_wp2
          go_ret
          exact ⟨by rw [hq.out]; rfl, rfl⟩
        · have dy : ((el : Int) != (l : Int)) = true := by simp; omega
          have hq : Hid (noneB id l (ls.take (k + 1)) = true) := hide (by rw [hs.out, hno.out]; simp [hy])
          clear hs ht hz hy
          go_wp2
          exact ⟨⟨k + 1, hlt, by go_num, hq.out, trivial⟩, by simp [intOf]; omega⟩
      · have dz : ((ei : Int) != (id : Int)) = true := by simp; omega
        have hq : Hid (noneB id l (ls.take (k + 1)) = true) := hide (by rw [hs.out, hno.out]; simp [hz])
        clear hs ht hz
        go_wp2
        exact ⟨⟨k + 1, hlt, by go_num, hq.out, trivial⟩, by simp [intOf]; omega⟩
    · obtain rfl : k = ls.length := by omega
      have hq : Hid (findB id l ls = ls.length) := hide (findB_at id l ls ls.length hno.out (Nat.le_refl _) (fun h => by omega))
      have dlt : decide ((ls.length : Int) < (ls.length : Int)) = false := by simp
      clear hev
      go_wp2
      go_ret
      exact ⟨by rw [hq.out]; rfl, rfl⟩
end Go.Proofs.Ytjkhbjgfoopomab
/-
  The program's termsOf, New.
-/
namespace Go.Proofs.Ytjkhbjgfoopomab
open Go.RowKit
set_option linter.unusedVariables false
set_option linter.unusedSimpArgs false

/-- the bytes of a text, laid anew -/
theorem bytes_laid2 (w : World) (F : List UInt8) : ∃ (W : World) (cap : Nat),
    (∀ ty : World, ty = w → (convert 9 125 (.string (bs F))).run Try.prog ty = .ok (.slice (some ⟨w.heap.size, 0, none⟩) F.length cap) W) ∧
    Below w.heap.size w W ∧ W.heap.size = w.heap.size + 1 ∧ (∀ j, j < F.length → W.cell? ⟨w.heap.size, j, none⟩ = some (.int .u8 ((F.getD j 0).toNat : Int))) ∧ (∀ j, j < F.length → W.frozen? ⟨w.heap.size, j, none⟩ = false) := by
  have hsz := bs_size F
  have hcs : F.length ≤ (Lib.bytesCells w 5 (bs F)).size := by
    have e : (bs F).data.size = F.length := by simp [bs]
    simp [Lib.bytesCells, e]
  refine ⟨Lib.bytesWorld w 5 (bs F), grownCap w F.length 0 5, fun ty h => ?_, ?_, Lib.bytesWorld_size _ _ _, fun j hj => ?_, fun j hj => ?_⟩
  · subst h
    have h := Lib.run_convert_string_bytes (P := Try.prog) ty 9 125 5 (bs F) Try.underlying9 Try.underlying125 Try.underlying5
    rw [hsz] at h
    exact h
  · exact ⟨rfl, rfl, rfl, by rw [Lib.bytesWorld_size]; omega, fun k hk => Lib.bytesWorld_at_old _ _ _ k hk⟩
  · have h := Lib.bytesWorld_cell w 5 (bs F) j (by rw [hsz]; exact hj)
    rw [bs_data] at h
    exact h
  · unfold World.frozen?
    rw [Lib.bytesWorld_at_new]
    simp
    omega
theorem bytes_read (W : World) (N cap : Nat) (F : List UInt8) (hc : ∀ j, j < F.length → W.cell? ⟨N, j, none⟩ = some (.int .u8 ((F.getD j 0).toNat : Int))) :
    (convert 125 9 (.slice (some ⟨N, 0, none⟩) F.length cap)).run Try.prog W = .ok (.string (bs F)) W := by
  have h := run_convert_bytes_arg (P := Try.prog) W 125 5 Try.underlying125 Try.underlying5 N 0 F.length cap (F.map fun b => (b.toNat : Int)) (by simp) (fun j hj => by
    rw [Nat.zero_add, hc j hj]
    simp [List.getD_eq_getElem?_getD, List.getElem?_eq_getElem hj]) 9 Try.underlying9
  have hid : ((fun n : Int => UInt8.ofNat n.toNat) ∘ fun b : UInt8 => (b.toNat : Int)) = id := by
    funext b
    simp
  have e : strOfNums (F.map fun b => (b.toNat : Int)) = bs F := by rw [strOfNums_bs, List.map_map, hid, List.map_id]
  rw [h, e]
set_option maxRecDepth 100000 in
set_option maxHeartbeats 1000000 in
theorem termsOf_any (k f t i l p g a : Nat) (m : List UInt8) (hm : m.length ≤ 64) (kk : Int) (w : World) :
    Calls Try.prog 98 #[.agg #[.int .u8 kk, .int .u8 (f : Int), .int .u8 (t : Int), .int .u32 (i : Int), .int .u8 (l : Int), .int .u16 (p : Int), .int .u16 (g : Int), .int .u32 (a : Int), .string (bs m)]] w fun e w' => e = .returned (.agg #[.int .u16 (p : Int), .int .u16 (g : Int), .int .u32 (a : Int), .string (bs m)]) ∧ Below w.heap.size w w' := by
  obtain ⟨W, cap, h1, h2, h3, h4, h5⟩ := bytes_laid2 ((w.alloc (.cells #[.int .u8 kk, .int .u8 (f : Int), .int .u8 (t : Int), .int .u32 (i : Int), .int .u8 (l : Int), .int .u16 (p : Int), .int .u16 (g : Int), .int .u32 (a : Int), .string (bs m)] 121)).alloc (.cells #[.int .u16 0, .int .u16 0, .int .u32 0, .string ⟨#[]⟩] 133)) m
  have h6 := bytes_read W _ cap m h4
  have h1' := h1 _ rfl
  have hN : ((w.alloc (.cells #[.int .u8 kk, .int .u8 (f : Int), .int .u8 (t : Int), .int .u32 (i : Int), .int .u8 (l : Int), .int .u16 (p : Int), .int .u16 (g : Int), .int .u32 (a : Int), .string (bs m)] 121)).alloc (.cells #[.int .u16 0, .int .u16 0, .int .u32 0, .string ⟨#[]⟩] 133)).heap.size = w.heap.size + 1 + 1 := by simp
  rw [hN] at h1' h6 h3
  have B2 : W.heap[w.heap.size]? = some (.cells #[.int .u8 kk, .int .u8 (f : Int), .int .u8 (t : Int), .int .u32 (i : Int), .int .u8 (l : Int), .int .u16 (p : Int), .int .u16 (g : Int), .int .u32 (a : Int), .string (bs m)] 121 (0, 0)) := by
    rw [h2.block _ (by rw [hN]; omega), Below.heap_alloc _ _ _ (by simp)]
    exact heap_alloc_self _ _
  have B3 : W.heap[w.heap.size + 1]? = some (.cells #[.int .u16 0, .int .u16 0, .int .u32 0, .string ⟨#[]⟩] 133 (0, 0)) := by
    rw [h2.block _ (by rw [hN]; omega)]
    have e : w.heap.size + 1 = (w.alloc (.cells #[.int .u8 kk, .int .u8 (f : Int), .int .u8 (t : Int), .int .u32 (i : Int), .int .u8 (l : Int), .int .u16 (p : Int), .int .u16 (g : Int), .int .u32 (a : Int), .string (bs m)] 121)).heap.size := by simp
    rw [e]
    exact heap_alloc_self _ _
  have hbel : Below w.heap.size w W := (((Below.refl _ _).alloc (Nat.le_refl _) _).alloc (by simp) _).trans (h2.mono (by rw [hN]; omega))
  have hc2 : ∀ o, _ = _ := fun o => cell_at B2 o
  have hc3 : ∀ o, _ = _ := fun o => cell_at B3 o
  have hf3 : ∀ o, _ = _ := fun o => frozen_at B3 o
  have hl3 := block_lt B3
  have hP := putL_whole [.int .u16 (p : Int), .int .u16 (g : Int), .int .u32 (a : Int), .string (bs m)] B3 rfl
  have hB := hbel.trans ((putL_kept [.int .u16 (p : Int), .int .u16 (g : Int), .int .u32 (a : Int), .string (bs m)] W (w.heap.size + 1) 0).below hbel.size (fun k e => by omega))
  clear h1 h2 h4 h5 hN B2 B3 hbel
  go_enter Try.func98, Try.ntmps98
  go_wp2
  have hq := fun o => cell_at hP o
  simp only [putL] at hq hB
  generalize World.setCell _ _ _ = u at *
  exact bodyPost_ret (v := .agg #[.int .u16 (p : Int), .int .u16 (g : Int), .int .u32 (a : Int), .string (bs m)]) (by simp [results, Try.results98, go_sem, hq]) rfl ⟨rfl, hB⟩
set_option maxRecDepth 100000 in
set_option maxHeartbeats 1000000 in
theorem new_any (n : Nat) (hn : n < 256) (w : World) :
    Calls Try.prog 24 #[.int .u8 (n : Int)] w fun e w' => (e = if bankB n then .returned (.tuple #[.agg #[.int .u8 (n : Int), .slice none 0 0, .slice none 0 0], .int .i64 0]) else .returned (.tuple #[.agg #[.int .u8 0, .slice none 0 0, .slice none 0 0], .int .i64 4])) ∧ Below w.heap.size w w' := by
  have hI := hide (fun u => isBank_any n hn u)
  generalize bankB n = bb at *
  cases bb with
  | true =>
    simp only [if_true]
    go_enter Try.func24, Try.ntmps24
    go_wp2_with fail
    refine (hI.out _).mono ?_
    rintro e w1 ⟨rfl, rfl⟩
    clear hI
    go_wp2
    exact bodyPost_ret (v := .tuple #[.agg #[.int .u8 (n : Int), .slice none 0 0, .slice none 0 0], .int .i64 0]) (by simp [results, Try.results24, go_sem]) rfl ⟨rfl, (Below.refl _ _).alloc (Nat.le_refl _) _⟩
  | false =>
    simp only [Bool.false_eq_true, if_false]
    go_enter Try.func24, Try.ntmps24
    go_wp2_with fail
    refine (hI.out _).mono ?_
    rintro e w1 ⟨rfl, rfl⟩
    clear hI
    go_wp2
    exact bodyPost_ret (v := .tuple #[.agg #[.int .u8 0, .slice none 0 0, .slice none 0 0], .int .i64 4]) (by simp [results, Try.results24, go_sem]) rfl ⟨rfl, (Below.refl _ _).alloc (Nat.le_refl _) _⟩
end Go.Proofs.Ytjkhbjgfoopomab
