/-
  The program's termsOf, New.
-/
import Derived.Test.YtjkhbjgfoopomaaGreatXBank
import Derived.Test.YtjkhbjgfoopomaaGreatFault
import Derived.Lib.ConvBytes
namespace Go.Proofs.YtjkhbjgfoopomaaGreat
open Go.RowKit
set_option linter.unusedVariables false
set_option linter.unusedSimpArgs false

/-- the bytes of a text, laid anew -/
theorem bytes_laid2 (w : World) (F : List UInt8) : ∃ (W : World) (cap : Nat),
    (∀ ty : World, ty = w → (convert 9 131 (.string (bs F))).run Tryz.prog ty = .ok (.slice (some ⟨w.heap.size, 0, none⟩) F.length cap) W) ∧
    Below w.heap.size w W ∧ W.heap.size = w.heap.size + 1 ∧ (∀ j, j < F.length → W.cell? ⟨w.heap.size, j, none⟩ = some (.int .u8 ((F.getD j 0).toNat : Int))) ∧ (∀ j, j < F.length → W.frozen? ⟨w.heap.size, j, none⟩ = false) := by
  have hsz := bs_size F
  have hcs : F.length ≤ (Lib.bytesCells w 5 (bs F)).size := by
    have e : (bs F).data.size = F.length := by simp [bs]
    simp [Lib.bytesCells, e]
  refine ⟨Lib.bytesWorld w 5 (bs F), grownCap w F.length 0 5, fun ty h => ?_, ?_, Lib.bytesWorld_size _ _ _, fun j hj => ?_, fun j hj => ?_⟩
  · subst h
    have h := Lib.run_convert_string_bytes (P := Tryz.prog) ty 9 131 5 (bs F) Tryz.underlying9 Tryz.underlying131 Tryz.underlying5
    rw [hsz] at h
    exact h
  · exact ⟨rfl, rfl, rfl, by rw [Lib.bytesWorld_size]; omega, fun k hk => Lib.bytesWorld_at_old _ _ _ k hk⟩
  · have h := Lib.bytesWorld_cell w 5 (bs F) j (by rw [hsz]; exact hj)
    rw [bs_data] at h
    exact h
  · unfold World.frozen?
    rw [Lib.bytesWorld_at_new]
    simp
    omega
theorem bytes_read (W : World) (N cap : Nat) (F : List UInt8) (hc : ∀ j, j < F.length → W.cell? ⟨N, j, none⟩ = some (.int .u8 ((F.getD j 0).toNat : Int))) :
    (convert 131 9 (.slice (some ⟨N, 0, none⟩) F.length cap)).run Tryz.prog W = .ok (.string (bs F)) W := by
  have h := run_convert_bytes_arg (P := Tryz.prog) W 131 5 Tryz.underlying131 Tryz.underlying5 N 0 F.length cap (F.map fun b => (b.toNat : Int)) (by simp) (fun j hj => by
    rw [Nat.zero_add, hc j hj]
    simp [List.getD_eq_getElem?_getD, List.getElem?_eq_getElem hj]) 9 Tryz.underlying9
  have hid : ((fun n : Int => UInt8.ofNat n.toNat) ∘ fun b : UInt8 => (b.toNat : Int)) = id := by
    funext b
    simp
  have e : strOfNums (F.map fun b => (b.toNat : Int)) = bs F := by rw [strOfNums_bs, List.map_map, hid, List.map_id]
  rw [h, e]
set_option maxRecDepth 100000 in
set_option maxHeartbeats 1000000 in
theorem termsOf_any (k f t i l p g a : Nat) (m : List UInt8) (hm : m.length ≤ 64) (kk : Int) (w : World) :
    Calls Tryz.prog 137 #[.agg #[.int .u8 kk, .int .u8 (f : Int), .int .u8 (t : Int), .int .u32 (i : Int), .int .u8 (l : Int), .int .u16 (p : Int), .int .u16 (g : Int), .int .u32 (a : Int), .string (bs m)]] w fun e w' => e = .returned (.agg #[.int .u16 (p : Int), .int .u16 (g : Int), .int .u32 (a : Int), .string (bs m)]) ∧ Below w.heap.size w w' := by
  obtain ⟨W, cap, h1, h2, h3, h4, h5⟩ := bytes_laid2 ((w.alloc (.cells #[.int .u8 kk, .int .u8 (f : Int), .int .u8 (t : Int), .int .u32 (i : Int), .int .u8 (l : Int), .int .u16 (p : Int), .int .u16 (g : Int), .int .u32 (a : Int), .string (bs m)] 40)).alloc (.cells #[.int .u16 0, .int .u16 0, .int .u32 0, .string ⟨#[]⟩] 186)) m
  have h6 := bytes_read W _ cap m h4
  have h1' := h1 _ rfl
  have hN : ((w.alloc (.cells #[.int .u8 kk, .int .u8 (f : Int), .int .u8 (t : Int), .int .u32 (i : Int), .int .u8 (l : Int), .int .u16 (p : Int), .int .u16 (g : Int), .int .u32 (a : Int), .string (bs m)] 40)).alloc (.cells #[.int .u16 0, .int .u16 0, .int .u32 0, .string ⟨#[]⟩] 186)).heap.size = w.heap.size + 1 + 1 := by simp
  rw [hN] at h1' h6 h3
  have B2 : W.heap[w.heap.size]? = some (.cells #[.int .u8 kk, .int .u8 (f : Int), .int .u8 (t : Int), .int .u32 (i : Int), .int .u8 (l : Int), .int .u16 (p : Int), .int .u16 (g : Int), .int .u32 (a : Int), .string (bs m)] 40 (0, 0)) := by
    rw [h2.block _ (by rw [hN]; omega), Below.heap_alloc _ _ _ (by simp)]
    exact heap_alloc_self _ _
  have B3 : W.heap[w.heap.size + 1]? = some (.cells #[.int .u16 0, .int .u16 0, .int .u32 0, .string ⟨#[]⟩] 186 (0, 0)) := by
    rw [h2.block _ (by rw [hN]; omega)]
    have e : w.heap.size + 1 = (w.alloc (.cells #[.int .u8 kk, .int .u8 (f : Int), .int .u8 (t : Int), .int .u32 (i : Int), .int .u8 (l : Int), .int .u16 (p : Int), .int .u16 (g : Int), .int .u32 (a : Int), .string (bs m)] 40)).heap.size := by simp
    rw [e]
    exact heap_alloc_self _ _
  have hbel : Below w.heap.size w W := (((Below.refl _ _).alloc (Nat.le_refl _) _).alloc (by simp) _).trans (h2.mono (by rw [hN]; omega))
  have hc2 : ∀ o, _ = _ := fun o => cell_at B2 o
  have hc3 : ∀ o, _ = _ := fun o => cell_at B3 o
  have hf3 : ∀ o, _ = _ := fun o => frozen_at B3 o
  have hl3 := block_lt B3
  have hP := putL_whole [.int .u16 (p : Int), .int .u16 (g : Int), .int .u32 (a : Int), .string (bs m)] B3 rfl
  have hB := hbel.trans ((putL_kept [.int .u16 (p : Int), .int .u16 (g : Int), .int .u32 (a : Int), .string (bs m)] W (w.heap.size + 1) 0).below hbel.size (fun k e => by omega))
  clear h1 h2 h4 h5 hN B2 B3 hbel
  go_enter Tryz.func137, Tryz.ntmps137
  go_wp2
  have hq := fun o => cell_at hP o
  simp only [putL] at hq hB
  generalize World.setCell _ _ _ = u at *
  exact bodyPost_ret (v := .agg #[.int .u16 (p : Int), .int .u16 (g : Int), .int .u32 (a : Int), .string (bs m)]) (by simp [results, Tryz.results137, go_sem, hq]) rfl ⟨rfl, hB⟩
set_option maxRecDepth 100000 in
set_option maxHeartbeats 1000000 in
theorem new_any (n : Nat) (hn : n < 256) (w : World) :
    Calls Tryz.prog 55 #[.int .u8 (n : Int)] w fun e w' => (e = if bankB n then .returned (.tuple #[.agg #[.int .u8 (n : Int), .slice none 0 0, .slice none 0 0], .int .i64 0]) else .returned (.tuple #[.agg #[.int .u8 0, .slice none 0 0, .slice none 0 0], .int .i64 4])) ∧ Below w.heap.size w w' := by
  have hI := hide (fun u => isBank_any n hn u)
  generalize bankB n = bb at *
  cases bb with
  | true =>
    simp only [if_true]
    go_enter Tryz.func55, Tryz.ntmps55
    go_wp2_with fail
    refine (hI.out _).mono ?_
    rintro e w1 ⟨rfl, rfl⟩
    clear hI
    go_wp2
    exact bodyPost_ret (v := .tuple #[.agg #[.int .u8 (n : Int), .slice none 0 0, .slice none 0 0], .int .i64 0]) (by simp [results, Tryz.results55, go_sem]) rfl ⟨rfl, (Below.refl _ _).alloc (Nat.le_refl _) _⟩
  | false =>
    simp only [Bool.false_eq_true, if_false]
    go_enter Tryz.func55, Tryz.ntmps55
    go_wp2_with fail
    refine (hI.out _).mono ?_
    rintro e w1 ⟨rfl, rfl⟩
    clear hI
    go_wp2
    exact bodyPost_ret (v := .tuple #[.agg #[.int .u8 0, .slice none 0 0, .slice none 0 0], .int .i64 4]) (by simp [results, Tryz.results55, go_sem]) rfl ⟨rfl, (Below.refl _ _).alloc (Nat.le_refl _) _⟩
end Go.Proofs.YtjkhbjgfoopomaaGreat
