/-
  The walk over a decent Prepare.
-/
import Derived.Test.YtjkhbjgfoopomaaDecW
namespace Go.Proofs.Ytjkhbjgfoopomaa
open Go.RowKit
set_option linter.unusedVariables false

set_option maxRecDepth 100000 in
set_option maxHeartbeats 2000000 in
theorem decent_prep0 (k f t i l p g a : Nat) (m : List UInt8) (hx : (Msg.mk k f t i l p g a m).ok) (hm : m.length ≤ 140737488351232) (k0 : k % 6 = 0) (a0 : ¬ a = 0) (w : World) :
    Calls Try.prog 20 #[(Msg.mk k f t i l p g a m).v] w fun e w' => (∃ y : Msg, e = .returned y.v ∧ y.ok ∧ faultOf y = 0) ∧ Below w.heap.size w w' := by
  obtain ⟨hk, hf, ht, hi, hl, hp, hg, ha⟩ := hx
  simp only [Msg.v, Msg.cells] at *
  have hms : (bs m).size ≤ 140737488351232 := by rw [bs_size]; exact hm
  have e6 : (k : Int) % 6 = 0 := by omega
  have d0 : ((a : Int) == 0) = false := by simp; omega
  clear k0
  go_enter Try.func20, Try.ntmps20
  go_wp2_with fail
  go_loopw [5] (fun c u => ∃ (pos cnt : Nat) (M : List UInt8), cnt ≤ pos ∧ c = .int .i64 cnt ∧ DecW w u (bs m) pos #[Value.int .u8 1, .int .u8 0, .int .u8 (1 + (t : Int) % 7), .int .u32 (i : Int), .int .u8 ((l : Int) % 4), .int .u16 (p : Int), .int .u16 (g : Int), .int .u32 (a : Int), .string (bs M)] ∧ Hid (Chs (min cnt 16) M)) (fun c u => (bs m).size - u.iterPos (w.heap.size + 1 + 1 + 1))
  case atStart => exact ⟨0, 0, [], Nat.le_refl _, rfl, DecW.init _ _ _ _ _, hide chs_nil⟩
  case round =>
    obtain ⟨pos, cnt, M, hcp, rfl, D, hch⟩ := hrel
    have hpos := hide D.pos
    have hM : M.length ≤ 64 := chs_len hch.out (by omega)
    by_cases hlt : pos < (bs m).size
    · have hstep := dec_step (bs m) pos
      have hnext := fun ty => Lib.run_next_any_at (P := Try.prog) _ _ (bs m) pos ty D.it hlt
      have D2 := D.next (pos + (Utf8.decode (bs m) pos).2)
      have hpos2 := hide D2.pos
      have henc := enc_ch ((Utf8.decode (bs m) pos).1 : Int)
      have hE : ∃ E : List UInt8, Utf8.encode ((Utf8.decode (bs m) pos).1 : Int) = bs E ∧ IsCh E := ⟨_, (bs_of _).symm, henc⟩
      obtain ⟨E, hE1, hE2⟩ := hE
      have hE4 : E.length ≤ 4 := by have := chSize_le4 E; rw [hE2.1] at this; exact this
      have HE := hide hE2
      have hconv : ∀ u : World, (convert 21 9 (.int .i32 ((Utf8.decode (bs m) pos).1 : Int))).run Try.prog u = .ok (.string (bs E)) u := fun u => by
        rw [run_convert_int_string u _ _ _ _ (by rw [Try.underlying21]; rfl) Try.underlying9, hE1]
      clear hE1
      clear D henc hE2
      generalize (Utf8.decode (bs m) pos).1 = r at *
      generalize (Utf8.decode (bs m) pos).2 = n at *
      generalize World.iterAt _ _ _ _ = u2 at hnext D2 hpos2
      have hc : u2.cell? ⟨w.heap.size + 1 + 1, 8, none⟩ = some (.string (bs M)) := D2.out 8
      have hfz := D2.outf 8
      by_cases h16 : cnt < 16
      · have hch2 : Hid (Chs (min (cnt + 1) 16) (M ++ E)) := hide (by
          have := chs_snoc hch.out HE.out
          rwa [show min cnt 16 + 1 = min (cnt + 1) 16 by omega] at this)
        have D3 := D2.store (.string (bs (M ++ E)))
        have hpos3 := hide D3.pos
        have hadd : ∀ u : World, (Op.stringOp .add (bs M) (bs E)).run Try.prog u = .ok (.string (bs (M ++ E))) u := fun u => by
          rw [run_string_add_sum u _ _ (by rw [bs_size, bs_size]; omega), bs_append]
        clear hch HE
        go_wp2_with fail
        exact ⟨⟨pos + n, cnt + 1, M ++ E, by omega, by go_num, D3, hch2⟩, by rw [hpos3.out, hpos.out]; omega⟩
      · have hch2 : Hid (Chs (min (cnt + 1) 16) M) := hide (by
          have := hch.out
          rwa [show min cnt 16 = min (cnt + 1) 16 by omega] at this)
        clear hch HE hc hfz
        have d16 : decide ((cnt : Int) < 16) = false := by simp; omega
        have hcs : cnt < 140737488351232 := by omega
        have HC := hide (And.intro hcp hlt)
        clear hconv hlt hms hcp
        go_wp2_with fail
        exact ⟨⟨pos + n, cnt + 1, M, by have := HC.out.1; omega, by go_num, D2, hch2⟩, by rw [hpos2.out, hpos.out]; have := HC.out.2; omega⟩
    · have hnext := fun ty => Lib.run_next_end_at (P := Try.prog) _ _ (bs m) pos ty D.it hlt
      have hmemo : memoB M = true := chs_memo hch.out (by omega)
      have F0 := hide (prep_ok (i := i) (p := p) (g := g) (by omega : 1 ≤ 1 + t % 7) (by omega) (by omega : l % 4 < 4) (by omega : 1 ≤ a) hmemo)
      have hc := D.out
      have hr := D.res
      have hrf := D.resf
      clear hmemo hch
      go_wp2_with fail
      exact bodyPost_ret (v := .agg #[Value.int .u8 1, .int .u8 0, .int .u8 (1 + (t : Int) % 7), .int .u32 (i : Int), .int .u8 ((l : Int) % 4), .int .u16 (p : Int), .int .u16 (g : Int), .int .u32 (a : Int), .string (bs M)]) (by simp [results, Try.results20, go_sem, hr]) rfl ⟨⟨⟨1, 0, 1 + t % 7, i, l % 4, p, g, a, M⟩, by simp, ⟨by show 1 < 256; omega, by show 0 < 256; omega, by show 1 + t % 7 < 256; omega, hi, by show l % 4 < 256; omega, hp, hg, ha⟩, F0.out⟩, (((((((((D.bel.setCell (by show w.heap.size ≤ w.heap.size + 1; omega) _).setCell (by show w.heap.size ≤ w.heap.size + 1; omega) _).setCell (by show w.heap.size ≤ w.heap.size + 1; omega) _).setCell (by show w.heap.size ≤ w.heap.size + 1; omega) _).setCell (by show w.heap.size ≤ w.heap.size + 1; omega) _).setCell (by show w.heap.size ≤ w.heap.size + 1; omega) _).setCell (by show w.heap.size ≤ w.heap.size + 1; omega) _).setCell (by show w.heap.size ≤ w.heap.size + 1; omega) _).setCell (by show w.heap.size ≤ w.heap.size + 1; omega) _)⟩
set_option maxRecDepth 100000 in
set_option maxHeartbeats 2000000 in
theorem decent_prep1 (k f t i l p g a : Nat) (m : List UInt8) (hx : (Msg.mk k f t i l p g a m).ok) (hm : m.length ≤ 140737488351232) (k0 : k % 6 = 0) (a0 : a = 0) (w : World) :
    Calls Try.prog 20 #[(Msg.mk k f t i l p g a m).v] w fun e w' => (∃ y : Msg, e = .returned y.v ∧ y.ok ∧ faultOf y = 0) ∧ Below w.heap.size w w' := by
  obtain ⟨hk, hf, ht, hi, hl, hp, hg, ha⟩ := hx
  simp only [Msg.v, Msg.cells] at *
  have hms : (bs m).size ≤ 140737488351232 := by rw [bs_size]; exact hm
  have e6 : (k : Int) % 6 = 0 := by omega
  have d0 : ((a : Int) == 0) = true := by simp; omega
  clear k0
  go_enter Try.func20, Try.ntmps20
  go_wp2_with fail
  go_loopw [5] (fun c u => ∃ (pos cnt : Nat) (M : List UInt8), cnt ≤ pos ∧ c = .int .i64 cnt ∧ DecW w u (bs m) pos #[Value.int .u8 1, .int .u8 0, .int .u8 (1 + (t : Int) % 7), .int .u32 (i : Int), .int .u8 ((l : Int) % 4), .int .u16 (p : Int), .int .u16 (g : Int), .int .u32 1, .string (bs M)] ∧ Hid (Chs (min cnt 16) M)) (fun c u => (bs m).size - u.iterPos (w.heap.size + 1 + 1 + 1))
  case atStart => exact ⟨0, 0, [], Nat.le_refl _, rfl, DecW.init _ _ _ _ _, hide chs_nil⟩
  case round =>
    obtain ⟨pos, cnt, M, hcp, rfl, D, hch⟩ := hrel
    have hpos := hide D.pos
    have hM : M.length ≤ 64 := chs_len hch.out (by omega)
    by_cases hlt : pos < (bs m).size
    · have hstep := dec_step (bs m) pos
      have hnext := fun ty => Lib.run_next_any_at (P := Try.prog) _ _ (bs m) pos ty D.it hlt
      have D2 := D.next (pos + (Utf8.decode (bs m) pos).2)
      have hpos2 := hide D2.pos
      have henc := enc_ch ((Utf8.decode (bs m) pos).1 : Int)
      have hE : ∃ E : List UInt8, Utf8.encode ((Utf8.decode (bs m) pos).1 : Int) = bs E ∧ IsCh E := ⟨_, (bs_of _).symm, henc⟩
      obtain ⟨E, hE1, hE2⟩ := hE
      have hE4 : E.length ≤ 4 := by have := chSize_le4 E; rw [hE2.1] at this; exact this
      have HE := hide hE2
      have hconv : ∀ u : World, (convert 21 9 (.int .i32 ((Utf8.decode (bs m) pos).1 : Int))).run Try.prog u = .ok (.string (bs E)) u := fun u => by
        rw [run_convert_int_string u _ _ _ _ (by rw [Try.underlying21]; rfl) Try.underlying9, hE1]
      clear hE1
      clear D henc hE2
      generalize (Utf8.decode (bs m) pos).1 = r at *
      generalize (Utf8.decode (bs m) pos).2 = n at *
      generalize World.iterAt _ _ _ _ = u2 at hnext D2 hpos2
      have hc : u2.cell? ⟨w.heap.size + 1 + 1, 8, none⟩ = some (.string (bs M)) := D2.out 8
      have hfz := D2.outf 8
      by_cases h16 : cnt < 16
      · have hch2 : Hid (Chs (min (cnt + 1) 16) (M ++ E)) := hide (by
          have := chs_snoc hch.out HE.out
          rwa [show min cnt 16 + 1 = min (cnt + 1) 16 by omega] at this)
        have D3 := D2.store (.string (bs (M ++ E)))
        have hpos3 := hide D3.pos
        have hadd : ∀ u : World, (Op.stringOp .add (bs M) (bs E)).run Try.prog u = .ok (.string (bs (M ++ E))) u := fun u => by
          rw [run_string_add_sum u _ _ (by rw [bs_size, bs_size]; omega), bs_append]
        clear hch HE
        go_wp2_with fail
        exact ⟨⟨pos + n, cnt + 1, M ++ E, by omega, by go_num, D3, hch2⟩, by rw [hpos3.out, hpos.out]; omega⟩
      · have hch2 : Hid (Chs (min (cnt + 1) 16) M) := hide (by
          have := hch.out
          rwa [show min cnt 16 = min (cnt + 1) 16 by omega] at this)
        clear hch HE hc hfz
        have d16 : decide ((cnt : Int) < 16) = false := by simp; omega
        have hcs : cnt < 140737488351232 := by omega
        have HC := hide (And.intro hcp hlt)
        clear hconv hlt hms hcp
        go_wp2_with fail
        exact ⟨⟨pos + n, cnt + 1, M, by have := HC.out.1; omega, by go_num, D2, hch2⟩, by rw [hpos2.out, hpos.out]; have := HC.out.2; omega⟩
    · have hnext := fun ty => Lib.run_next_end_at (P := Try.prog) _ _ (bs m) pos ty D.it hlt
      have hmemo : memoB M = true := chs_memo hch.out (by omega)
      have F0 := hide (prep_ok (i := i) (p := p) (g := g) (by omega : 1 ≤ 1 + t % 7) (by omega) (by omega : l % 4 < 4) (by omega : 1 ≤ 1) hmemo)
      have hc := D.out
      have hr := D.res
      have hrf := D.resf
      clear hmemo hch
      go_wp2_with fail
      exact bodyPost_ret (v := .agg #[Value.int .u8 1, .int .u8 0, .int .u8 (1 + (t : Int) % 7), .int .u32 (i : Int), .int .u8 ((l : Int) % 4), .int .u16 (p : Int), .int .u16 (g : Int), .int .u32 1, .string (bs M)]) (by simp [results, Try.results20, go_sem, hr]) rfl ⟨⟨⟨1, 0, 1 + t % 7, i, l % 4, p, g, 1, M⟩, by simp, ⟨by show 1 < 256; omega, by show 0 < 256; omega, by show 1 + t % 7 < 256; omega, hi, by show l % 4 < 256; omega, hp, hg, by show 1 < 4294967296; omega⟩, F0.out⟩, (((((((((D.bel.setCell (by show w.heap.size ≤ w.heap.size + 1; omega) _).setCell (by show w.heap.size ≤ w.heap.size + 1; omega) _).setCell (by show w.heap.size ≤ w.heap.size + 1; omega) _).setCell (by show w.heap.size ≤ w.heap.size + 1; omega) _).setCell (by show w.heap.size ≤ w.heap.size + 1; omega) _).setCell (by show w.heap.size ≤ w.heap.size + 1; omega) _).setCell (by show w.heap.size ≤ w.heap.size + 1; omega) _).setCell (by show w.heap.size ≤ w.heap.size + 1; omega) _).setCell (by show w.heap.size ≤ w.heap.size + 1; omega) _)⟩
theorem decent_any (x : Msg) (hx : x.ok) (hm : x.m.length ≤ 140737488351232) (w : World) :
    Calls Try.prog 20 #[x.v] w fun e w' => (∃ y : Msg, e = .returned y.v ∧ y.ok ∧ faultOf y = 0) ∧ Below w.heap.size w w' := by
  obtain ⟨k, f, t, i, l, p, g, a, m⟩ := x
  by_cases k3 : 3 < 1 + k % 6
  · exact decent_up k f t i l p g a m hx k3 w
  · by_cases k1 : 1 + k % 6 = 1
    · by_cases a0 : a = 0
      · exact decent_prep1 k f t i l p g a m hx hm (by omega) a0 w
      · exact decent_prep0 k f t i l p g a m hx hm (by omega) a0 w
    · exact decent_down k f t i l p g a m hx (by omega) k1 w
end Go.Proofs.Ytjkhbjgfoopomaa
