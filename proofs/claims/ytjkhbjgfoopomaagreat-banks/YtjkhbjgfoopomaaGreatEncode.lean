/-
  The walk over Encode, the code's.
-/
import Derived.Test.YtjkhbjgfoopomaaGreatRefFault
namespace Go.Proofs.YtjkhbjgfoopomaaGreat
open Go.RowKit
set_option linter.unusedVariables false
attribute [local go_sem] conv1 conv2 conv4 bs_size bs_append be_length

theorem conv4' (w : World) (o : Obj) (a b c d : Int) : (convert 131 9 (.slice (some ⟨w.heap.size + 1, 0, none⟩) 4 4)).run Tryz.prog ((w.alloc o).alloc (.cells #[.int .u8 a, .int .u8 b, .int .u8 c, .int .u8 d] 5)) =
    .ok (.string (bs [UInt8.ofNat a.toNat, UInt8.ofNat b.toNat, UInt8.ofNat c.toNat, UInt8.ofNat d.toNat])) ((w.alloc o).alloc (.cells #[.int .u8 a, .int .u8 b, .int .u8 c, .int .u8 d] 5)) := by
  rw [show w.heap.size + 1 = (w.alloc o).heap.size from by simp]
  exact conv4 (w.alloc o) a b c d
attribute [local go_sem] conv4'

/-- a box of ours: nothing older has turned, and its cells lie there -/
structure Box (w : World) (cs : Array Value) (u : World) : Prop where
  bel : Below w.heap.size w u
  lt : w.heap.size < u.heap.size
  cell : ∀ o, u.cell? ⟨w.heap.size, o, none⟩ = cs[o]?
  fro : ∀ o, u.frozen? ⟨w.heap.size, o, none⟩ = false
theorem Box.mk0 (w : World) (cs : Array Value) (t : TypeId) : Box w cs (w.alloc (.cells cs t)) :=
  ⟨(Below.refl _ _).alloc (Nat.le_refl _) _, by simp, fun o => World.cell?_alloc_new .., fun o => by simp⟩
theorem Box.below {w u u' : World} {cs : Array Value} (h : Box w cs u) (hb : Below u.heap.size u u') : Box w cs u' :=
  ⟨h.bel.trans (hb.mono (Nat.le_of_lt h.lt)), Nat.lt_of_lt_of_le h.lt hb.size, fun o => by rw [hb.cell (p := ⟨w.heap.size, o, none⟩) h.lt]; exact h.cell o,
    fun o => by rw [hb.frozen (p := ⟨w.heap.size, o, none⟩) h.lt]; exact h.fro o⟩
theorem Box.alloc {w u : World} {cs : Array Value} (h : Box w cs u) (o : Obj) : Box w cs (u.alloc o) :=
  h.below ((Below.refl _ _).alloc (Nat.le_refl _) _)
theorem Box.drew {w u : World} {cs : Array Value} (h : Box w cs u) : Box w cs u.drew := ⟨h.bel.drew, h.lt, h.cell, h.fro⟩

theorem fault_zero_memo {x : Msg} (h : faultOf x = 0) : x.m.length ≤ 64 := by
  unfold faultOf at h
  split at h
  · omega
  · split at h
    · omega
    · split at h
      · omega
      · split at h
        · unfold termsOf at h
          split at h
          · omega
          · split at h
            · rename_i hmb
              exact memoB_len hmb
            · omega
        · split at h
          · rename_i hb
            simp [bareB] at hb
            simp [hb.2]
          · omega
theorem ret_pair {s t : List UInt8} {a b : Int} (h : s = t) (h2 : a = b) : Ending.returned (.tuple #[.string (bs s), .int .i64 a]) = .returned (.tuple #[.string (bs t), .int .i64 b]) := by rw [h, h2]

set_option maxRecDepth 100000 in
set_option maxHeartbeats 1000000 in
theorem spell_any (x : Msg) (hx : x.ok) (hm64 : x.m.length ≤ 64) (w : World) :
    Calls Tryz.prog 98 #[x.v] w fun e w' => e = .returned (.string (bs (frameOf x))) ∧ Below w.heap.size w w' := by
  obtain ⟨k, f, t, i, l, p, g, a, m⟩ := x
  obtain ⟨hk, hf, ht, hi, hl, hp, hg, ha⟩ := hx
  simp only [Msg.v, Msg.cells] at *
  have hz2 : Hid (frameOf ⟨k, f, t, i, l, p, g, a, m⟩ = bodyOf ⟨k, f, t, i, l, p, g, a, m⟩ ++ be 4 (sumOf (bodyOf ⟨k, f, t, i, l, p, g, a, m⟩))) := hide rfl
  have hz3 : Hid (69 :: UInt8.ofNat k :: UInt8.ofNat f :: UInt8.ofNat t :: (be 4 i ++ UInt8.ofNat l :: (be 2 p ++ (be 2 g ++ (be 4 a ++ UInt8.ofNat m.length :: m)))) = bodyOf ⟨k, f, t, i, l, p, g, a, m⟩) := hide rfl
  have hz4 : Hid ((bodyOf ⟨k, f, t, i, l, p, g, a, m⟩).length = 18 + m.length) := hide (bodyOf_length _)
  go_enter Tryz.func98, Tryz.ntmps98
  go_wp2_with fail
  refine (four_any i hi _).mono ?_
  rintro e w2 ⟨rfl, hb⟩
  have B2 := ((Box.mk0 _ _ _).alloc _).below hb
  have hc := B2.cell
  have hlt := B2.lt
  clear hb
  go_wp2_with fail
  refine (two_any p hp _).mono ?_
  rintro e w3 ⟨rfl, hb⟩
  have B3 := (B2.alloc _).below hb
  replace hc := B3.cell
  replace hlt := B3.lt
  clear hb B2
  go_wp2_with fail
  refine (two_any g hg _).mono ?_
  rintro e w4 ⟨rfl, hb⟩
  have B4 := B3.below hb
  replace hc := B4.cell
  replace hlt := B4.lt
  clear hb B3
  go_wp2_with fail
  refine (four_any a ha _).mono ?_
  rintro e w5 ⟨rfl, hb⟩
  have B5 := B4.below hb
  replace hc := B5.cell
  replace hlt := B5.lt
  clear hb B4
  go_wp2_with fail
  rw [hz3.out]
  clear hz3
  generalize bodyOf ⟨k, f, t, i, l, p, g, a, m⟩ = B at *
  have hBl : B.length ≤ 82 := by have := hz4.out; omega
  clear hz4
  refine (frameSum_any (bs B) (by rw [bs_size]; unfold maxLen; omega) _).mono ?_
  rintro e w6 ⟨rfl, rfl⟩
  rw [bs_data]
  have hs := sumOf_lt B
  go_wp2_with fail
  refine (four_any _ hs _).mono ?_
  rintro e w6 ⟨rfl, hb⟩
  have B6 := (B5.alloc _).below hb
  clear hb B5 hc
  go_wp2
  go_ret
  exact ⟨by rw [hz2.out]; rfl, B6.bel⟩

set_option maxRecDepth 100000 in
set_option maxHeartbeats 1000000 in
theorem encode_any (x : Msg) (hx : x.ok) (hm : x.m.length ≤ 140737488351232) (w : World) :
    Calls Tryz.prog 83 #[x.v] w fun e w' => e = .returned (.tuple #[.string (bs (encOf x)), .int .i64 ((faultOf x : Nat) : Int)]) ∧ Below w.heap.size w w' := by
  have hfault := hide (fault_any x hx hm)
  have hspell := hide (spell_any x hx)
  have h64 : Hid (faultOf x = 0 → x.m.length ≤ 64) := hide fault_zero_memo
  have hz : Hid (encOf x = if faultOf x = 0 then frameOf x else []) := hide rfl
  generalize encOf x = E at *
  generalize frameOf x = F at *
  obtain ⟨k, f, t, i, l, p, g, a, m⟩ := x
  generalize faultOf ⟨k, f, t, i, l, p, g, a, m⟩ = fv at *
  simp only [Msg.v, Msg.cells] at *
  by_cases f0 : fv = 0
  · subst f0
    have hm64 := h64.out rfl
    have hz1 : Hid (E = F) := hide (by rw [hz.out]; simp)
    clear h64 hz
    go_enter Tryz.func83, Tryz.ntmps83
    go_wp2_with fail
    refine (hfault.out _).mono ?_
    rintro e w1 ⟨rfl, hb⟩
    have B1 := (Box.mk0 _ _ _).below hb
    have hc := B1.cell
    have hlt := B1.lt
    clear hb hfault
    go_wp2_with fail
    refine (hspell.out hm64 _).mono ?_
    rintro e w2 ⟨rfl, hb⟩
    have B2 := B1.below hb
    clear hb B1 hc
    go_wp2
    go_ret2
    exact ⟨ret_pair (by rw [hz1.out]) rfl, B2.bel⟩
  · have hz1 : Hid (E = []) := hide (by rw [hz.out]; simp [f0])
    have d0 : ((fv : Int) != 0) = true := by simp; omega
    clear h64 hz
    go_enter Tryz.func83, Tryz.ntmps83
    go_wp2_with fail
    refine (hfault.out _).mono ?_
    rintro e w1 ⟨rfl, hb⟩
    have B1 := (Box.mk0 _ _ _).below hb
    clear hb hfault
    go_wp2
    go_ret2
    exact ⟨by rw [hz1.out]; rfl, B1.bel⟩
end Go.Proofs.YtjkhbjgfoopomaaGreat
