import Derived.Test.YtjkhbjgfoopomaaG45
import Derived.Test.YtjkhbjgfoopomaaRows
import Derived.Deep.Slices
/-
  Arguments that came in, opened: legs, numbers; what the bound gives.
-/
namespace Go.Proofs.Ytjkhbjgfoopomaa
open Go.ChangeShapes Go.WideShapes Go.ChangeAt Go.RowKit
set_option linter.unusedVariables false
set_option linter.unusedSimpArgs false
theorem kcellsLeg : Try.prog.cellsOf 57 = 4 := by kernel_rfl
theorem kcellsNode : Try.prog.cellsOf 26 = 1 := by kernel_rfl
theorem kcellsAccount : Try.prog.cellsOf 29 = 1 := by kernel_rfl
theorem kcellsAmount : Try.prog.cellsOf 30 = 1 := by kernel_rfl
theorem ku8_of {x : Int} (h : (Lit.int .u8 x).wf = true) : ∃ n : Nat, x = n ∧ n < 256 := by
  simp [Lit.wf, IntKind.min, IntKind.max, IntKind.signed, IntKind.bits] at h
  exact ⟨x.toNat, by omega, by omega⟩
theorem ku16_of {x : Int} (h : (Lit.int .u16 x).wf = true) : ∃ n : Nat, x = n ∧ n < 65536 := by
  simp [Lit.wf, IntKind.min, IntKind.max, IntKind.signed, IntKind.bits] at h
  exact ⟨x.toNat, by omega, by omega⟩
theorem ku32_of {x : Int} (h : (Lit.int .u32 x).wf = true) : ∃ n : Nat, x = n ∧ n < 4294967296 := by
  simp [Lit.wf, IntKind.min, IntKind.max, IntKind.signed, IntKind.bits] at h
  exact ⟨x.toNat, by omega, by omega⟩
theorem ki64_of {x : Int} (h : (Lit.int .i64 x).wf = true) : i64ok x := by
  simp [Lit.wf, IntKind.min, IntKind.max, IntKind.signed, IntKind.bits] at h
  exact ⟨by omega, by omega⟩
theorem krow_first (a : Addr) (n : Nat) (h : 0 < n) : MemPlace.cell a.block a.off ∈ MemPlace.row a n := List.mem_map.2 ⟨0, List.mem_range.2 h, by simp⟩
section
variable {H : Type} {enc : TypeId × Value → H} {w : World} {base : Nat} {spare : Nat → Bool} {held : Bool}
set_option maxRecDepth 100000 in
theorem kopen_leg {n : Nat} {cs : List Value} {x : DataW H × List MemPlace} (h : DataW.trod enc Try.prog w base spare held n 57 cs = some x) : ∃ l : Pl, cs = l.cells ∧ l.ok := by
  obtain ⟨xs, n', _, hx, hcl, hlen, hg⟩ := DataW.trod_struct Try.underlying57 h
  rw [kcellsLeg] at hcl
  match cs, hcl with
  | [c0, c1, c2, c3], _ =>
  have g0 := hg 0 _ rfl
  have g1 := hg 1 _ rfl
  have g2 := hg 2 _ rfl
  have g3 := hg 3 _ rfl
  clear hg
  have hlen' : xs.length = 4 := hlen
  match xs, hlen' with
  | [y0, y1, y2, y3], _ =>
    simp [kcellsNode, kcellsAccount, kcellsAmount] at g0 g1 g2 g3
    obtain ⟨n0, e0, rfl, w0⟩ := DataW.trod_int Try.underlying26 g0
    obtain ⟨n1, e1, rfl, w1⟩ := DataW.trod_int Try.underlying29 g1
    obtain ⟨n2, e2, rfl, w2⟩ := DataW.trod_int Try.underlying29 g2
    obtain ⟨n3, e3, rfl, w3⟩ := DataW.trod_int Try.underlying30 g3
    simp only [List.cons.injEq, and_true] at e0 e1 e2 e3
    subst e0 e1 e2 e3
    obtain ⟨b, rfl, hb⟩ := ku8_of w0
    obtain ⟨p, rfl, hp⟩ := ku16_of w1
    obtain ⟨g, rfl, hg⟩ := ku16_of w2
    obtain ⟨a, rfl, ha⟩ := ku32_of w3
    exact ⟨⟨b, p, g, a⟩, rfl, hb, hp, hg, ha⟩
end
end Go.Proofs.Ytjkhbjgfoopomaa
