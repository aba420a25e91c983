/-
  A message that came in, opened.
-/
import Derived.Test.YtjkhbjgfoopomaaMsg
import Derived.Test.YtjkhbjgfoopomaaLaw
namespace Go.Proofs.Ytjkhbjgfoopomaa
open Go.ChangeShapes Go.WideShapes Go.ChangeAt Go.RowKit
set_option linter.unusedVariables false

theorem cellsMsg : Try.prog.cellsOf 32 = 9 := by kernel_rfl
theorem cellsKind : Try.prog.cellsOf 25 = 1 := by kernel_rfl
theorem cellsNode : Try.prog.cellsOf 26 = 1 := by kernel_rfl
theorem cellsID : Try.prog.cellsOf 27 = 1 := by kernel_rfl
theorem cellsU8 : Try.prog.cellsOf 5 = 1 := by kernel_rfl
theorem cellsAccount : Try.prog.cellsOf 29 = 1 := by kernel_rfl
theorem cellsAmount : Try.prog.cellsOf 30 = 1 := by kernel_rfl
theorem cellsString : Try.prog.cellsOf 9 = 1 := by kernel_rfl
theorem array9 {cs : Array Value} (h : cs.size = 9) : ∃ c0 c1 c2 c3 c4 c5 c6 c7 c8, cs = #[c0, c1, c2, c3, c4, c5, c6, c7, c8] := by
  obtain ⟨l⟩ := cs
  match l, h with
  | [c0, c1, c2, c3, c4, c5, c6, c7, c8], _ => exact ⟨_, _, _, _, _, _, _, _, _, rfl⟩
theorem u8_of {x : Int} (h : (Lit.int .u8 x).wf = true) : ∃ n : Nat, x = n ∧ n < 256 := by
  simp [Lit.wf, IntKind.min, IntKind.max, IntKind.signed, IntKind.bits] at h
  exact ⟨x.toNat, by omega, by omega⟩
theorem u16_of {x : Int} (h : (Lit.int .u16 x).wf = true) : ∃ n : Nat, x = n ∧ n < 65536 := by
  simp [Lit.wf, IntKind.min, IntKind.max, IntKind.signed, IntKind.bits] at h
  exact ⟨x.toNat, by omega, by omega⟩
theorem u32_of {x : Int} (h : (Lit.int .u32 x).wf = true) : ∃ n : Nat, x = n ∧ n < 4294967296 := by
  simp [Lit.wf, IntKind.min, IntKind.max, IntKind.signed, IntKind.bits] at h
  exact ⟨x.toNat, by omega, by omega⟩

/-- the datum of a message -/
def Msg.d {H : Type} (x : Msg) : DataW H := .agg [.lit (.int .u8 (x.k : Int)), .lit (.int .u8 (x.f : Int)), .lit (.int .u8 (x.t : Int)), .lit (.int .u32 (x.i : Int)), .lit (.int .u8 (x.l : Int)), .lit (.int .u16 (x.p : Int)), .lit (.int .u16 (x.g : Int)), .lit (.int .u32 (x.a : Int)), .lit (.string x.m)]

set_option maxRecDepth 100000 in
theorem open_msg {H : Type} {enc : TypeId × Value → H} {w : World} {base : Nat} {spare : Nat → Bool} {held : Bool} {r : Reach} {b0 : Nat} {v : Value} {d : DataW H} {p : List MemPlace}
    (hv : Value.okWide Try.prog w r b0 32 v) (h : DataW.Trod enc Try.prog w base spare held 32 v d p) : ∃ x : Msg, v = x.v ∧ d = x.d ∧ x.ok := by
  obtain ⟨cs, rfl, hsz⟩ := okWide_struct Try.underlying32 hv
  obtain ⟨c0, c1, c2, c3, c4, c5, c6, c7, c8, rfl⟩ := array9 (hsz.trans cellsMsg)
  obtain ⟨fuel, hfu⟩ := h
  obtain ⟨xs, n, _, hx, _, hlen, hg⟩ := DataW.trod_struct Try.underlying32 hfu
  simp only [Value.cells] at hg
  have g0 := hg 0 _ rfl
  have g1 := hg 1 _ rfl
  have g2 := hg 2 _ rfl
  have g3 := hg 3 _ rfl
  have g4 := hg 4 _ rfl
  have g5 := hg 5 _ rfl
  have g6 := hg 6 _ rfl
  have g7 := hg 7 _ rfl
  have g8 := hg 8 _ rfl
  clear hg
  have hlen' : xs.length = 9 := hlen
  match xs, hlen' with
  | [y0, y1, y2, y3, y4, y5, y6, y7, y8], _ =>
    simp [cellsKind, cellsNode, cellsID, cellsU8, cellsAccount, cellsAmount, cellsString] at g0 g1 g2 g3 g4 g5 g6 g7 g8
    obtain ⟨n0, e0, rfl, w0⟩ := DataW.trod_int Try.underlying25 g0
    obtain ⟨n1, e1, rfl, w1⟩ := DataW.trod_int Try.underlying26 g1
    obtain ⟨n2, e2, rfl, w2⟩ := DataW.trod_int Try.underlying26 g2
    obtain ⟨n3, e3, rfl, w3⟩ := DataW.trod_int Try.underlying27 g3
    obtain ⟨n4, e4, rfl, w4⟩ := DataW.trod_int Try.underlying5 g4
    obtain ⟨n5, e5, rfl, w5⟩ := DataW.trod_int Try.underlying29 g5
    obtain ⟨n6, e6, rfl, w6⟩ := DataW.trod_int Try.underlying29 g6
    obtain ⟨n7, e7, rfl, w7⟩ := DataW.trod_int Try.underlying30 g7
    obtain ⟨s, e8, rfl, w8⟩ := DataW.trod_string Try.underlying9 g8
    simp only [List.cons.injEq, and_true] at e0 e1 e2 e3 e4 e5 e6 e7 e8
    subst e0 e1 e2 e3 e4 e5 e6 e7 e8
    obtain ⟨k, rfl, hk⟩ := u8_of w0
    obtain ⟨f, rfl, hf⟩ := u8_of w1
    obtain ⟨t, rfl, ht⟩ := u8_of w2
    obtain ⟨i, rfl, hi⟩ := u32_of w3
    obtain ⟨l, rfl, hl⟩ := u8_of w4
    obtain ⟨p, rfl, hp⟩ := u16_of w5
    obtain ⟨g, rfl, hg⟩ := u16_of w6
    obtain ⟨a, rfl, ha⟩ := u32_of w7
    simp only [Prod.mk.injEq] at hx
    refine ⟨⟨k, f, t, i, l, p, g, a, s.data.toList⟩, ?_, ?_, ⟨hk, hf, ht, hi, hl, hp, hg, ha⟩⟩
    · simp only [Msg.v, Msg.cells, bs_of]
    · rw [hx.1]; rfl
/-- its memo is within the reach -/
theorem msg_sized {H : Type} {ts : List TypeId} {ds : List (DataW H)} (h : (DataW.weightsEach Try.prog ts ds).all (· ≤ reachBytes) = true) {j : Nat} {x : Msg} (ht : ts[j]? = some 32) (hd : ds[j]? = some x.d) : x.m.length ≤ 140737488351232 := by
  have hw := List.all_eq_true.1 h _ (DataW.weights_mem_each ht hd x.m.length (by
    simp only [Msg.d, DataW.weights, Try.underlying32]
    simp [DataW.weightsEach, DataW.weights]))
  have hr : x.m.length ≤ reachBytes := by simpa using hw
  exact hr
end Go.Proofs.Ytjkhbjgfoopomaa
