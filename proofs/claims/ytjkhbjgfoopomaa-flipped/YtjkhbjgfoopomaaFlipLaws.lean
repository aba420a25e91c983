/-
  What Flipped wants: a number picked; the bytes of a text, one turned, and back.
-/
import Derived.Test.YtjkhbjgfoopomaaCoded
import Derived.Lib.ConvBytes
namespace Go.Proofs.Ytjkhbjgfoopomaa
open Go.ChangeShapes Go.WideShapes Go.ChangeAt Go.RowKit
open Go.ChangeMaps (open_string shut_string)
set_option linter.unusedVariables false

theorem ret_pick {a : Int} {n : Nat} {w : World} (h0 : 0 ≤ a) (h1 : a < n) : (∃ r : Nat, r < n ∧ Ending.returned (.int .i64 a) = .returned (.int .i64 (r : Int))) ∧ w = w :=
  ⟨⟨a.toNat, by omega, by rw [show ((a.toNat : Nat) : Int) = a by omega]⟩, rfl⟩
theorem neg_tmod_bd (x : Int) (n : Nat) (hx : x ≤ 0) (hn : 0 < n) : 0 ≤ -(x.tmod n) ∧ -(x.tmod n) < n := by
  obtain ⟨d, rfl⟩ : ∃ d : Int, x = -d := ⟨-x, by omega⟩
  rw [Int.neg_tmod, Int.neg_neg, Int.tmod_eq_emod_of_nonneg (by omega)]
  exact ⟨Int.emod_nonneg _ (by omega), Int.emod_lt_of_pos _ (by omega)⟩
set_option maxRecDepth 100000 in
set_option maxHeartbeats 400000 in
theorem pick_any (c : Int) (hc0 : -9223372036854775808 ≤ c) (hc1 : c ≤ 9223372036854775807) (n : Nat) (hn : 0 < n) (hn1 : n ≤ 1000) (w : World) :
    Calls Try.prog 21 #[.int .i64 c, .int .i64 (n : Int)] w fun e w' => (∃ r : Nat, r < n ∧ e = .returned (.int .i64 (r : Int))) ∧ w' = w := by
  by_cases h : c < 0
  · go_enter Try.func21, Try.ntmps21
    go_wp2
    go_ret
    have hb := neg_tmod_bd (c + 1) n (by omega) hn
    exact ret_pick hb.1 hb.2
  · have h' : 0 ≤ c := by omega
    go_enter Try.func21, Try.ntmps21
    go_wp2
    go_ret
    exact ret_pick (Int.emod_nonneg _ (by omega)) (Int.emod_lt_of_pos _ (by omega))

/-- the bytes of a text, laid anew -/
theorem bytes_laid (w : World) (F : List UInt8) : ∃ (W : World) (cap : Nat),
    (∀ ty : World, ty = w → (convert 9 47 (.string (bs F))).run Try.prog ty = .ok (.slice (some ⟨w.heap.size, 0, none⟩) F.length cap) W) ∧
    Below w.heap.size w W ∧ W.heap.size = w.heap.size + 1 ∧ (∀ j, j < F.length → W.cell? ⟨w.heap.size, j, none⟩ = some (.int .u8 ((F.getD j 0).toNat : Int))) ∧ (∀ j, j < F.length → W.frozen? ⟨w.heap.size, j, none⟩ = false) := by
  have hsz := bs_size F
  have hcs : F.length ≤ (Lib.bytesCells w 5 (bs F)).size := by
    have e : (bs F).data.size = F.length := by simp [bs]
    simp [Lib.bytesCells, e]
  refine ⟨Lib.bytesWorld w 5 (bs F), grownCap w F.length 0 5, fun ty h => ?_, ?_, Lib.bytesWorld_size _ _ _, fun j hj => ?_, fun j hj => ?_⟩
  · subst h
    have h := Lib.run_convert_string_bytes (P := Try.prog) ty 9 47 5 (bs F) Try.underlying9 Try.underlying47 Try.underlying5
    rw [hsz] at h
    exact h
  · exact ⟨rfl, rfl, rfl, by rw [Lib.bytesWorld_size]; omega, fun k hk => Lib.bytesWorld_at_old _ _ _ k hk⟩
  · have h := Lib.bytesWorld_cell w 5 (bs F) j (by rw [hsz]; exact hj)
    rw [bs_data] at h
    exact h
  · unfold World.frozen?
    rw [Lib.bytesWorld_at_new]
    simp
    omega
set_option maxRecDepth 100000 in
theorem bytes_back (W : World) (N cap : Nat) (F : List UInt8) (r : Nat) (v : UInt8) (hr : r < F.length) (hc : ∀ j, j < F.length → W.cell? ⟨N, j, none⟩ = some (.int .u8 ((F.getD j 0).toNat : Int))) :
    (convert 47 9 (.slice (some ⟨N, 0, none⟩) F.length cap)).run Try.prog (W.setCell ⟨N, r, none⟩ (.int .u8 (v.toNat : Int))) = .ok (.string (bs (F.set r v))) (W.setCell ⟨N, r, none⟩ (.int .u8 (v.toNat : Int))) := by
  have h := run_convert_bytes_arg (P := Try.prog) (W.setCell ⟨N, r, none⟩ (.int .u8 (v.toNat : Int))) 47 5 Try.underlying47 Try.underlying5 N 0 F.length cap ((F.set r v).map fun b => (b.toNat : Int)) (by simp) (fun j hj => by
    rw [Nat.zero_add]
    by_cases e : j = r
    · subst e
      rw [World.cell?_setCell_same _ _ _ (hc j hj)]
      simp [List.getD_eq_getElem?_getD, hj]
    · rw [World.cell?_setCell_other _ _ _ _ (by intro x; injection x with _ x2; exact e x2.symm), hc j hj]
      simp [List.getD_eq_getElem?_getD, List.getElem?_set_ne (Ne.symm e), List.getElem?_eq_getElem hj]) 9 Try.underlying9
  rw [h]
  congr 2
  rw [strOfNums_bs, List.map_map]
  congr 1
  have : ((fun n : Int => UInt8.ofNat n.toNat) ∘ fun b : UInt8 => (b.toNat : Int)) = id := by
    funext b
    simp
  rw [this, List.map_id]
theorem index_list (F : List UInt8) (r : Nat) (hr : r < F.length) (u : World) : (Instr.index 9 (.string (bs F)) (.int .i64 (r : Int))).run Try.prog u = .ok (.int .u8 ((F.getD r 0).toNat : Int)) u := by
  have q : r < (bs F).size := by rw [bs_size]; exact hr
  have h := index_at (bs F) r q u
  rw [← at8_of (bs F) r q, bs_data] at h
  exact h
end Go.Proofs.Ytjkhbjgfoopomaa
