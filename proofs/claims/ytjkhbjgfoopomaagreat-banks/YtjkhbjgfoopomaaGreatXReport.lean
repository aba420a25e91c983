import Derived.Test.YtjkhbjgfoopomaaGreatXBank
import Derived.Test.YtjkhbjgfoopomaaGreatGCanTold
/-
  The program's Bank.report.
-/
namespace Go.Proofs.YtjkhbjgfoopomaaGreat
open Go.RowKit
set_option linter.unusedVariables false
set_option linter.unusedSimpArgs false

theorem ans_frame (node id l st : Nat) (hn : 1 ≤ node ∧ node ≤ 7) (hl : l < 4) : ansOf node id l st = frameOf (ansMsg node id l st) := by
  have hk : kindFor st = 4 ∨ kindFor st = 5 ∨ kindFor st = 6 := by unfold kindFor; (repeat' split) <;> simp
  have h0 : faultOf (ansMsg node id l st) = 0 := by
    unfold faultOf ansMsg
    rcases hk with h | h | h <;> simp [kindB, wayB, bankB, bareB, h, hn.1, hn.2, hl]
  unfold ansOf encOf
  rw [if_pos h0]
theorem spell_at (k node id l : Nat) (hk : k < 256) (hnode : node < 256) (hid : id < 4294967296) (hl : l < 256) (kk : Int) (hkk : (k : Int) = kk) :
    Hid (∀ u, Calls Tryz.prog 98 #[.agg #[.int .u8 kk, .int .u8 (node : Int), .int .u8 0, .int .u32 (id : Int), .int .u8 (l : Int), .int .u16 0, .int .u16 0, .int .u32 0, .string ⟨#[]⟩]] u fun e w' => e = .returned (.string (bs (frameOf ⟨k, node, 0, id, l, 0, 0, 0, []⟩))) ∧ Below u.heap.size u w') := by
  subst hkk
  exact hide (fun u => spell_any ⟨k, node, 0, id, l, 0, 0, 0, []⟩ ⟨hk, hnode, by show (0 : Nat) < 256; omega, hid, hl, by show (0 : Nat) < 65536; omega, by show (0 : Nat) < 65536; omega, by show (0 : Nat) < 4294967296; omega⟩ (by show (0 : Nat) ≤ 64; omega) u)

set_option maxRecDepth 100000 in
set_option maxHeartbeats 1000000 in
theorem report_any (id l st : Nat) (hid : id < 4294967296) (hl : l < 4) (hst : 1 ≤ st ∧ st ≤ 4) (w : World) (B node : Nat) (hnode : 1 ≤ node ∧ node ≤ 7) (ac : List Ac) (ls : List Lg) (va vl : Value) (hX : XB w B node ac ls va vl) :
    Calls Tryz.prog 97 #[.pointer (some ⟨B, 0, none⟩), .int .u32 (id : Int), .int .u8 (l : Int), .int .u8 (st : Int)] w fun e w' => e = .returned (.string (bs (ansOf node id l st))) ∧ Below w.heap.size w w' := by
  rw [ans_frame node id l st hnode hl]
  unfold ansMsg
  have hc : ∀ o, _ = _ := fun o => cell_at hX.blk o
  have hS := spell_at (kindFor st) node id l (kindFor_lt st) (by omega) hid (by omega)
  have e1 : Hid (st = 1 → kindFor st = 4) := hide (by intro h; simp [kindFor, h])
  have e2 : Hid (st = 2 → kindFor st = 5) := hide (by intro h; simp [kindFor, h])
  have e3 : Hid (st ≠ 1 → st ≠ 2 → kindFor st = 6) := hide (by intro h1 h2; simp [kindFor, h1, h2])
  generalize frameOf ⟨kindFor st, node, 0, id, l, 0, 0, 0, []⟩ = F at *
  by_cases h1 : st = 1
  · have d1 : ((st : Int) == 1) = true := by simp; omega
    have d2 : ((st : Int) == 2) = false := by simp; omega
    have hW := hS 4 (by rw [e1.out h1]; rfl)
    clear e1 e2 e3 h1 hS
    go_enter Tryz.func97, Tryz.ntmps97
    go_wp2_with fail
    refine (hW.out _).mono ?_
    rintro e w1 ⟨rfl, hb⟩
    go_wp2
    go_ret
    exact ⟨rfl, hb⟩
  · have d1 : ((st : Int) == 1) = false := by simp; omega
    by_cases h2 : st = 2
    · have d2 : ((st : Int) == 2) = true := by simp; omega
      have hW := hS 5 (by rw [e2.out h2]; rfl)
      clear e1 e2 e3 h1 h2 hS
      go_enter Tryz.func97, Tryz.ntmps97
      go_wp2_with fail
      refine (hW.out _).mono ?_
      rintro e w1 ⟨rfl, hb⟩
      go_wp2
      go_ret
      exact ⟨rfl, hb⟩
    · have d2 : ((st : Int) == 2) = false := by simp; omega
      have hW := hS 6 (by rw [e3.out h1 h2]; rfl)
      clear e1 e2 e3 h1 h2 hS
      go_enter Tryz.func97, Tryz.ntmps97
      go_wp2_with fail
      refine (hW.out _).mono ?_
      rintro e w1 ⟨rfl, hb⟩
      go_wp2
      go_ret
      exact ⟨rfl, hb⟩
end Go.Proofs.YtjkhbjgfoopomaaGreat
