/-
  The walk over a decent message.
-/
import Derived.Test.YtjkhbjgfoopomaaRunes
import Derived.Test.YtjkhbjgfoopomaaEncode
import Derived.Lib.OthersKept
namespace Go.Proofs.Ytjkhbjgfoopomaa
open Go.RowKit
set_option linter.unusedVariables false

theorem down_ok {k b i l : Nat} (k1 : 1 ≤ k) (k3 : k ≤ 3) (kn : k ≠ 1) (b1 : 1 ≤ b) (b7 : b ≤ 7) (l4 : l < 4) : faultOf ⟨k, 0, b, i, l, 0, 0, 0, []⟩ = 0 := by
  have k6 : k ≤ 6 := by omega
  have hl : ¬ 4 ≤ l := by omega
  simp [faultOf, kindB, wayB, bankB, bareB, k1, k6, k3, b1, b7, hl, kn]
theorem up_ok {k b i l : Nat} (k3 : 3 < k) (k6 : k ≤ 6) (b1 : 1 ≤ b) (b7 : b ≤ 7) (l4 : l < 4) : faultOf ⟨k, b, 0, i, l, 0, 0, 0, []⟩ = 0 := by
  have k1 : 1 ≤ k := by omega
  have hl : ¬ 4 ≤ l := by omega
  have hk : ¬ k ≤ 3 := by omega
  have kn : k ≠ 1 := by omega
  simp [faultOf, kindB, wayB, bankB, bareB, k1, k6, hk, b1, b7, hl, kn]
theorem prep_ok {b i l p g a : Nat} {m : List UInt8} (b1 : 1 ≤ b) (b7 : b ≤ 7) (l4 : l < 4) (a1 : 1 ≤ a) (hm : memoB m = true) : faultOf ⟨1, 0, b, i, l, p, g, a, m⟩ = 0 := by
  have hl : ¬ 4 ≤ l := by omega
  have ha : a ≠ 0 := by omega
  simp [faultOf, kindB, wayB, bankB, b1, b7, hl, termsOf, ha, hm]

set_option maxRecDepth 100000 in
set_option maxHeartbeats 1000000 in
theorem decent_up (k f t i l p g a : Nat) (m : List UInt8) (hx : (Msg.mk k f t i l p g a m).ok) (k3 : 3 < 1 + k % 6) (w : World) :
    Calls Try.prog 20 #[(Msg.mk k f t i l p g a m).v] w fun e w' => (∃ y : Msg, e = .returned y.v ∧ y.ok ∧ faultOf y = 0) ∧ Below w.heap.size w w' := by
  obtain ⟨hk, hf, ht, hi, hl, hp, hg, ha⟩ := hx
  simp only [Msg.v, Msg.cells] at *
  have d3 : decide (3 < 1 + (k : Int) % 6) = true := by simp; omega
  have F0 := hide (up_ok (i := i) k3 (by omega : 1 + k % 6 ≤ 6) (by omega : 1 ≤ 1 + t % 7) (by omega) (by omega : l % 4 < 4))
  go_enter Try.func20, Try.ntmps20
  go_wp2
  refine bodyPost_ret (v := .agg #[.int .u8 (1 + (k : Int) % 6), .int .u8 (1 + (t : Int) % 7), .int .u8 0, .int .u32 (i : Int), .int .u8 ((l : Int) % 4), .int .u16 0, .int .u16 0, .int .u32 0, .string ⟨#[]⟩]) (by simp [results, Try.results20, go_sem]) rfl ⟨⟨⟨1 + k % 6, 1 + t % 7, 0, i, l % 4, 0, 0, 0, []⟩, by simp [bs], ⟨by show 1 + k % 6 < 256; omega, by show 1 + t % 7 < 256; omega, by show 0 < 256; omega, hi, by show l % 4 < 256; omega, by show 0 < 65536; omega, by show 0 < 65536; omega, by show 0 < 4294967296; omega⟩, F0.out⟩, ?_⟩
  exact (((Below.refl _ _).alloc (Nat.le_refl _) _).alloc (by simp) _).alloc (by simp; omega) _
set_option maxRecDepth 100000 in
set_option maxHeartbeats 1000000 in
theorem decent_down (k f t i l p g a : Nat) (m : List UInt8) (hx : (Msg.mk k f t i l p g a m).ok) (k3 : 1 + k % 6 ≤ 3) (kn : 1 + k % 6 ≠ 1) (w : World) :
    Calls Try.prog 20 #[(Msg.mk k f t i l p g a m).v] w fun e w' => (∃ y : Msg, e = .returned y.v ∧ y.ok ∧ faultOf y = 0) ∧ Below w.heap.size w w' := by
  obtain ⟨hk, hf, ht, hi, hl, hp, hg, ha⟩ := hx
  simp only [Msg.v, Msg.cells] at *
  have d3 : decide (3 < 1 + (k : Int) % 6) = false := by simp; omega
  have d1 : (1 + (k : Int) % 6 != 1) = true := by simp; omega
  have F0 := hide (down_ok (i := i) (by omega : 1 ≤ 1 + k % 6) k3 kn (by omega : 1 ≤ 1 + t % 7) (by omega) (by omega : l % 4 < 4))
  clear kn
  go_enter Try.func20, Try.ntmps20
  go_wp2
  refine bodyPost_ret (v := .agg #[.int .u8 (1 + (k : Int) % 6), .int .u8 0, .int .u8 (1 + (t : Int) % 7), .int .u32 (i : Int), .int .u8 ((l : Int) % 4), .int .u16 0, .int .u16 0, .int .u32 0, .string ⟨#[]⟩]) (by simp [results, Try.results20, go_sem]) rfl ⟨⟨⟨1 + k % 6, 0, 1 + t % 7, i, l % 4, 0, 0, 0, []⟩, by simp [bs], ⟨by show 1 + k % 6 < 256; omega, by show 0 < 256; omega, by show 1 + t % 7 < 256; omega, hi, by show l % 4 < 256; omega, by show 0 < 65536; omega, by show 0 < 65536; omega, by show 0 < 4294967296; omega⟩, F0.out⟩, ?_⟩
  exact (((Below.refl _ _).alloc (Nat.le_refl _) _).alloc (by simp) _).alloc (by simp; omega) _
end Go.Proofs.Ytjkhbjgfoopomaa
