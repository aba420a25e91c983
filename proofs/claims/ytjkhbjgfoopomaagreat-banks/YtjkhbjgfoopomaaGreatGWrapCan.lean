import Derived.Test.YtjkhbjgfoopomaaGreatXOpen
import Derived.Test.YtjkhbjgfoopomaaGreatXSmall
import Derived.Test.YtjkhbjgfoopomaaGreatXTerms
import Derived.Test.YtjkhbjgfoopomaaGreatXFunds
import Derived.Test.YtjkhbjgfoopomaaGreatEncode
/-
  The program's calls in package escrow: NewBank, Open, Funds, Leg.
-/
namespace Go.Proofs.YtjkhbjgfoopomaaGreat
open Go.RowKit
set_option linter.unusedVariables false
set_option linter.unusedSimpArgs false

def openX (a : Nat) (ac : List Ac) : Nat := if hasB a ac then 9 else if 16 ≤ ac.length then 10 else 0
def openLog (a b : Nat) (ac : List Ac) : List UInt8 := if openX a ac = 0 then openTextOf a b else []
def openAc (a b : Nat) (ac : List Ac) : List Ac := if openX a ac = 0 then ac ++ [⟨a, b⟩] else ac
set_option maxRecDepth 100000 in
set_option maxHeartbeats 1000000 in
theorem eOpen_any (a b : Nat) (ha : a < 65536) (hb32 : b < 4294967296) (w : World) (B node : Nat) (ac : List Ac) (ls : List Lg) (va vl : Value) (hX : XB w B node ac ls va vl) (hap : Apart B va vl) (hok : ∀ x, x ∈ ac → x.ok) (hlen : ac.length ≤ 1000000) :
    Calls Tryz.prog 20 #[.pointer (some ⟨B, 0, none⟩), .int .u16 (a : Int), .int .u32 (b : Int)] w fun e w' =>
      ∃ va', e = .returned (.tuple #[.string (bs (openLog a b ac)), .int .i64 (openX a ac : Int)]) ∧ XBTo w w' B node (openAc a b ac) ls va vl va' vl := by
  have hO := hide (xOpen_any a b ha hb32 w B node ac ls va vl hX hap hok hlen)
  have hc : ∀ o, _ = _ := fun o => cell_at hX.blk o
  go_enter Tryz.func20, Tryz.ntmps20
  go_wp2_with fail
  refine hO.out.mono ?_
  rintro e w1 ⟨va', h⟩
  clear hO
  by_cases h1 : hasB a ac = true
  · rw [if_pos h1] at h
    obtain ⟨rfl, h⟩ := h
    have e1 : openX a ac = 9 := by simp [openX, h1]
    have e2 : openAc a b ac = ac := by simp [openAc, e1]
    replace e1 := hide e1
    replace e2 := hide e2
    clear h1
    go_wp2
    go_ret2
    exact ⟨va', by unfold openLog; rw [e1.out]; rfl, by rw [e2.out]; exact h⟩
  · rw [if_neg h1] at h
    by_cases h2 : 16 ≤ ac.length
    · rw [if_pos h2] at h
      obtain ⟨rfl, h⟩ := h
      have e1 : openX a ac = 10 := by simp [openX, h1, h2]
      have e2 : openAc a b ac = ac := by simp [openAc, e1]
      replace e1 := hide e1
      replace e2 := hide e2
      clear h1 h2
      go_wp2
      go_ret2
      exact ⟨va', by unfold openLog; rw [e1.out]; rfl, by rw [e2.out]; exact h⟩
    · rw [if_neg h2] at h
      obtain ⟨rfl, h⟩ := h
      have e1 : openX a ac = 0 := by simp [openX, h1, h2]
      have e2 : openAc a b ac = ac ++ [⟨a, b⟩] := by simp [openAc, e1]
      replace e1 := hide e1
      replace e2 := hide e2
      clear h1 h2
      go_wp2
      go_ret2
      exact ⟨va', by unfold openLog; rw [e1.out]; rfl, by rw [e2.out]; exact h⟩

set_option maxRecDepth 100000 in
set_option maxHeartbeats 1000000 in
theorem eLeg_any (id l : Nat) (hid : id < 4294967296) (hl : l < 256) (w : World) (B node : Nat) (ac : List Ac) (ls : List Lg) (va vl : Value) (hX : XB w B node ac ls va vl) (hok : ∀ x, x ∈ ls → x.ok) (hst : ∀ x, x ∈ ls → 1 ≤ x.st) (hlen : ls.length ≤ 1000000) :
    Calls Tryz.prog 27 #[.pointer (some ⟨B, 0, none⟩), .int .u32 (id : Int), .int .u8 (l : Int)] w fun e w' => (e = match ls[findB id l ls]? with | none => .returned (.tuple #[.int .u8 0, .int .i64 13]) | some x => .returned (.tuple #[.int .u8 (x.st : Int), .int .i64 0])) ∧ Below w.heap.size w w' := by
  have hO := hide (xLeg_any id l hid hl w B node ac ls va vl hX hok hst hlen)
  have hc : ∀ o, _ = _ := fun o => cell_at hX.blk o
  generalize ls[findB id l ls]? = R at *
  cases R with
  | none =>
    simp only at *
    go_enter Tryz.func27, Tryz.ntmps27
    go_wp2_with fail
    refine hO.out.mono ?_
    rintro e w1 ⟨rfl, hb⟩
    clear hO
    go_wp2
    go_ret2
    exact ⟨rfl, hb⟩
  | some x =>
    obtain ⟨ei, el, es, ep, eg, ea, em⟩ := x
    simp only at *
    go_enter Tryz.func27, Tryz.ntmps27
    go_wp2_with fail
    refine hO.out.mono ?_
    rintro e w1 ⟨rfl, hb⟩
    clear hO
    go_wp2
    go_ret2
    exact ⟨rfl, hb⟩

set_option maxRecDepth 100000 in
set_option maxHeartbeats 1000000 in
theorem eFunds_any (a : Nat) (ha : a < 65536) (w : World) (B node : Nat) (ac : List Ac) (ls : List Lg) (va vl : Value) (hX : XB w B node ac ls va vl) (hoka : ∀ x, x ∈ ac → x.ok) (hokl : ∀ x, x ∈ ls → x.ok) (hlena : ac.length ≤ 1000000) (hlenl : ls.length ≤ 1000000)
    (hh : heldL a ls < 4294967296) (hd : dueL a ls < 4294967296) :
    Calls Tryz.prog 25 #[.pointer (some ⟨B, 0, none⟩), .int .u16 (a : Int)] w fun e w' => (e = if hasB a ac then .returned (.tuple #[.agg #[.int .u32 (balL a ac : Int), .int .u32 (heldL a ls : Int), .int .u32 (dueL a ls : Int)], .int .i64 0]) else .returned (.tuple #[.agg #[.int .u32 0, .int .u32 0, .int .u32 0], .int .i64 8])) ∧ Below w.heap.size w w' := by
  have hO := hide (fun u (hu : XB u B node ac ls va vl) => xFunds_any a ha u B node ac ls va vl hu hoka hokl hlena hlenl hh hd)
  generalize hasB a ac = hb at *
  generalize balL a ac = bl at *
  generalize heldL a ls = hl at *
  generalize dueL a ls = dl at *
  have main : ∀ (x y z er : Nat) (R : Ending), (∀ u, XB u B node ac ls va vl → Calls Tryz.prog 59 #[.pointer (some ⟨B, 0, none⟩), .int .u16 (a : Int)] u fun e w' => e = .returned (.tuple #[.agg #[.int .u32 (x : Int), .int .u32 (y : Int), .int .u32 (z : Int)], .int .i64 (er : Int)]) ∧ Below u.heap.size u w') → R = .returned (.tuple #[.agg #[.int .u32 (x : Int), .int .u32 (y : Int), .int .u32 (z : Int)], .int .i64 (er : Int)]) → Calls Tryz.prog 25 #[.pointer (some ⟨B, 0, none⟩), .int .u16 (a : Int)] w fun e w' => e = R ∧ Below w.heap.size w w' := by
    intro x y z er R hC hRR
    subst hRR
    replace hC := hide hC
    clear hO
    have hc : ∀ o, _ = _ := fun o => cell_at hX.blk o
    have hBl := hX.lt
    go_enter Tryz.func25, Tryz.ntmps25
    go_wp2_with fail
    refine (hC.out _ (hX.below ((Below.refl _ _).alloc (Nat.le_refl _) _))).mono ?_
    rintro e w2 ⟨rfl, hb2⟩
    have hc2 := fun o => cel_kept hb2 o
    have hf2 := fun o => fro_kept hb2 o
    have hlt := lt_kept hb2
    have hP := putL_whole [.int .u32 (x : Int), .int .u32 (y : Int), .int .u32 (z : Int)] (blk_kept hb2) rfl
    have hB := (all_kept hb2).trans ((putL_kept [.int .u32 (x : Int), .int .u32 (y : Int), .int .u32 (z : Int)] w2 w.heap.size 0).below (all_kept hb2).size (fun k e => by omega))
    clear hC hb2 hc
    go_wp2
    have hc3 := fun o => cell_at hP o
    simp only [putL] at hc3 hB
    generalize World.setCell _ _ _ = u at *
    exact bodyPost_ret (v := .tuple #[.agg #[.int .u32 (x : Int), .int .u32 (y : Int), .int .u32 (z : Int)], .int .i64 (er : Int)]) (by simp [results, Tryz.results25, go_sem, hc3]) rfl ⟨rfl, hB⟩
  cases hb with
  | true => exact main bl hl dl 0 _ hO.out rfl
  | false => exact main 0 0 0 8 _ hO.out rfl

/-- a bank without accounts -/
def NewOf (n : Nat) (w : World) (e : Ending) (w' : World) : Prop := ∃ B, w.heap.size ≤ B ∧ e = .returned (.tuple #[.pointer (some ⟨B, 0, none⟩), .int .i64 0]) ∧ XB w' B n [] [] (.slice none 0 0) (.slice none 0 0)
set_option maxRecDepth 100000 in
set_option maxHeartbeats 1000000 in
theorem newBank_any (n : Nat) (hn : n < 256) (w : World) :
    Calls Tryz.prog 17 #[.int .u8 (n : Int)] w fun e w' => (if bankB n then NewOf n w e w' else e = .returned (.tuple #[.pointer none, .int .i64 4])) ∧ Below w.heap.size w w' := by
  have hI := hide (fun u => new_any n hn u)
  generalize bankB n = bb at *
  cases bb with
  | true =>
    simp only [if_true] at *
    go_enter Tryz.func17, Tryz.ntmps17
    go_wp2_with fail
    refine (hI.out _).mono ?_
    rintro e w1 ⟨rfl, hb⟩
    clear hI
    go_wp2
    go_ret2
    refine ⟨⟨w1.heap.size + 1, by have := hb.size; omega, rfl, ⟨?_, RowOf.nil _ _, RowOf.nil _ _⟩⟩, (hb.alloc hb.size _).alloc (by simp; have := hb.size; omega) _⟩
    rw [show w1.heap.size + 1 = (w1.alloc (.cells #[.int .u8 (n : Int), .slice none 0 0, .slice none 0 0] 141)).heap.size from by simp]
    exact heap_alloc_self _ _
  | false =>
    simp only [Bool.false_eq_true, if_false] at *
    go_enter Tryz.func17, Tryz.ntmps17
    go_wp2_with fail
    refine (hI.out _).mono ?_
    rintro e w1 ⟨rfl, hb⟩
    clear hI
    go_wp2
    go_ret2
    exact ⟨rfl, hb.alloc hb.size _⟩
end Go.Proofs.YtjkhbjgfoopomaaGreat
/-
  The program's Bank.canHold.
-/
namespace Go.Proofs.YtjkhbjgfoopomaaGreat
open Go.RowKit
set_option linter.unusedVariables false
set_option linter.unusedSimpArgs false

def canX (p g a : Nat) (ac : List Ac) (ls : List Lg) : Bool := hasB p ac && (hasB g ac && (decide (heldL p ls + a ≤ balL p ac) && decide (balL g ac + dueL g ls + a ≤ 4294967295)))
theorem balFold_lt (a : Nat) (ac : List Ac) (hok : ∀ x, x ∈ ac → x.ok) : ∀ s, s < 4294967296 → ac.foldl (balStep a) s < 4294967296 := by
  induction ac with
  | nil => intro s h; exact h
  | cons x r ih =>
    intro s h
    refine ih (fun y hy => hok y (by simp [hy])) _ ?_
    unfold balStep
    split
    · exact (hok x (by simp)).2
    · exact h
theorem balL_lt (a : Nat) (ac : List Ac) (hok : ∀ x, x ∈ ac → x.ok) : balL a ac < 4294967296 := balFold_lt a ac hok 0 (by decide)

set_option maxRecDepth 100000 in
set_option maxHeartbeats 1000000 in
theorem canHold_any (p g a : Nat) (m : List UInt8) (hp : p < 65536) (hg : g < 65536) (ha : a < 4294967296) (w : World) (B node : Nat) (ac : List Ac) (ls : List Lg) (va vl : Value) (hX : XB w B node ac ls va vl) (hoka : ∀ x, x ∈ ac → x.ok) (hokl : ∀ x, x ∈ ls → x.ok) (hlena : ac.length ≤ 1000000) (hlenl : ls.length ≤ 1000000)
    (hh : ∀ a, heldL a ls ≤ balL a ac) (hd : ∀ a, dueL a ls < 4294967296) :
    Calls Tryz.prog 138 #[.pointer (some ⟨B, 0, none⟩), .agg #[.int .u16 (p : Int), .int .u16 (g : Int), .int .u32 (a : Int), .string (bs m)]] w fun e w' => e = .returned (.bool (canX p g a ac ls)) ∧ Below w.heap.size w w' := by
  have hbp := balL_lt p ac hoka
  have hbg := balL_lt g ac hoka
  have hhp := hh p
  have hdg := hd g
  have hH1 := hide (fun u (hu : XB u B node ac ls va vl) => has_any p hp u B node ac ls va vl hu hoka hlena)
  have hH2 := hide (fun u (hu : XB u B node ac ls va vl) => has_any g hg u B node ac ls va vl hu hoka hlena)
  have hF1 := hide (fun u (hu : XB u B node ac ls va vl) => xfunds_any p hp u B node ac ls va vl hu hoka hokl hlena hlenl (Nat.lt_of_le_of_lt (hh p) (balL_lt p ac hoka)) (hd p))
  have hF2 := hide (fun u (hu : XB u B node ac ls va vl) => xfunds_any g hg u B node ac ls va vl hu hoka hokl hlena hlenl (Nat.lt_of_le_of_lt (hh g) (balL_lt g ac hoka)) (hd g))
  have hz : Hid (canX p g a ac ls = (hasB p ac && (hasB g ac && (decide (heldL p ls + a ≤ balL p ac) && decide (balL g ac + dueL g ls + a ≤ 4294967295))))) := hide rfl
  clear hh hd
  generalize canX p g a ac ls = R at *
  generalize hasB p ac = o1 at *
  generalize hasB g ac = o2 at *
  generalize balL p ac = bp at *
  generalize heldL p ls = sp at *
  generalize dueL p ls = dp at *
  generalize balL g ac = bg at *
  generalize heldL g ls = sg at *
  generalize dueL g ls = dg at *
  go_enter Tryz.func138, Tryz.ntmps138
  go_wp2_with fail
  refine (hH1.out _ (hX.below ((Below.refl _ _).alloc (Nat.le_refl _) _))).mono ?_
  rintro e w1 ⟨rfl, rfl⟩
  clear hH1
  cases o1 with
  | false =>
    have hq : Hid (R = false) := hide (by rw [hz.out]; simp)
    go_wp2
    go_ret
    exact ⟨by rw [hq.out]; rfl, (Below.refl _ _).alloc (Nat.le_refl _) _⟩
  | true =>
    go_wp2_with fail
    refine (hH2.out _ (hX.below ((Below.refl _ _).alloc (Nat.le_refl _) _))).mono ?_
    rintro e w1 ⟨rfl, rfl⟩
    clear hH2
    cases o2 with
    | false =>
      have hq : Hid (R = false) := hide (by rw [hz.out]; simp)
      go_wp2
      go_ret
      exact ⟨by rw [hq.out]; rfl, (Below.refl _ _).alloc (Nat.le_refl _) _⟩
    | true =>
      go_wp2_with fail
      refine (hF1.out _ (hX.below ((Below.refl _ _).alloc (Nat.le_refl _) _))).mono ?_
      rintro e w2 ⟨rfl, hb2⟩
      have B2 := (Box.mk0 _ _ _).below hb2
      have hcb := B2.cell
      have hlt2 := B2.lt
      clear hF1 hb2
      have W1 : IntKind.u32.wrap ((bp : Int) - (sp : Int)) = ((bp - sp : Nat) : Int) := by rw [IntKind.wrap_u32]; omega
      by_cases h1 : sp + a ≤ bp
      · have d1 : decide ((bp : Int) - (sp : Int) < (a : Int)) = false := by simp; omega
        have d1' : decide (bp - sp < a) = false := by simp; omega
        have hq : Hid (R = decide (bg + dg + a ≤ 4294967295)) := hide (by rw [hz.out]; simp [h1])
        have hq2 : Hid (decide ((bg : Int) + (dg : Int) + (a : Int) ≤ 4294967295) = decide (bg + dg + a ≤ 4294967295)) := hide (decide_eq_decide.2 (by omega))
        clear hz h1
        go_wp2_with fail
        refine (hF2.out _ (hX.below (B2.alloc _).bel)).mono ?_
        rintro e w3 ⟨rfl, hb3⟩
        have B3 := (B2.alloc _).below hb3
        clear hcb
        have hcb := B3.cell
        clear hF2 hb3
        have hlt3 := B3.lt
        go_wp2
        go_ret
        exact ⟨by rw [hq.out, ← hq2.out]; rfl, (B3.alloc _).bel⟩
      · have d1 : decide ((bp : Int) - (sp : Int) < (a : Int)) = true := by simp; omega
        have d1' : decide (bp - sp < a) = true := by simp; omega
        have hq : Hid (R = false) := hide (by rw [hz.out]; simp [h1])
        clear hz h1
        go_wp2
        go_ret
        exact ⟨by rw [hq.out]; rfl, (B2.alloc _).bel⟩
end Go.Proofs.YtjkhbjgfoopomaaGreat
