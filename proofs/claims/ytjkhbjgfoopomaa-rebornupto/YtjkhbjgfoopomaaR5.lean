import Derived.Test.YtjkhbjgfoopomaaR4
import Derived.Test.YtjkhbjgfoopomaaR3
/-
  The program's notary: frameFor, say, remind.
-/
namespace Go.Proofs.Ytjkhbjgfoopomaa
open Go.RowKit
set_option linter.unusedVariables false
set_option linter.unusedSimpArgs false
/-- the frame to a leg's bank -/
def sayFr (p : Pm) (x : Pl) (n st : Nat) : List UInt8 := frameOf (askMsg p x n (askKind st))
set_option maxRecDepth 100000 in
set_option maxHeartbeats 2000000 in
theorem frameFor_any (x : Xp) (hx : x.ok) (hst : 1 ≤ x.st ∧ x.st ≤ 3) (hm64 : x.pm.memo.length ≤ 64) (y : Pl) (hy : y.ok) (n : Nat) (hn : n < 256) (w : World) (b : Nat) (hP : PBox w b x) :
    Calls Try.prog 100 #[.pointer (some ⟨b, 0, none⟩), .int .u8 (n : Int), .agg y.cells.toArray] w fun e w' => e = .returned (.string (bs (sayFr x.pm y n x.st))) ∧ Below w.heap.size w w' := by
  have hc := fun o => cell_at hP.blk o
  have hbl := hP.lt
  have hz : Hid (bs (sayFr x.pm y n x.st) = bs (frameOf (askMsg x.pm y n (askKind x.st)))) := hide rfl
  have hSp := hide (fun u => spell_any (askMsg x.pm y n (askKind x.st)) (askMsg_ok hx.1 hy hn (by unfold askKind; split; omega; split <;> omega)) (by unfold askMsg; split; exact hm64; exact Nat.zero_le _) u)
  have hsplit : x.st = 1 ∨ x.st = 2 ∨ x.st = 3 := by omega
  generalize sayFr x.pm y n x.st = SF at *
  obtain ⟨⟨pi, pd, pm, pl, pa, pc⟩, st, he, dn⟩ := x
  obtain ⟨yb, yp, yg, ya⟩ := y
  obtain ⟨h1, h2, h3, h4⟩ := hy
  obtain ⟨⟨hpi, hpd, hpl⟩, _, _, _⟩ := hx
  simp only [Xp.cells, Pl.cells] at *
  rcases hsplit with rfl | rfl | rfl
  · simp only [askMsg, askKind, if_true, Msg.v, Msg.cells] at hSp hz
    go_enter Try.func100, Try.ntmps100
    go_wp2_with fail
    go_region
    go_wp2_with fail
    refine (hSp.out _).mono ?_
    rintro e w1 ⟨rfl, hb1⟩
    replace hb1 := hide hb1
    clear hSp
    go_wp2
    go_ret
    refine ⟨by rw [hz.out]; rfl, Below.trans ?_ (hb1.out.mono (by simp [World.setCell] <;> omega))⟩
    repeat' (first | exact Below.refl _ _ | refine Below.drew ?_ | refine Below.setCell ?_ (by simp) _ | refine Below.alloc ?_ (by simp <;> omega) _)
  · simp only [askMsg, askKind, show ¬ (2 : Nat) = 1 from by decide, if_true, if_false, Msg.v, Msg.cells] at hSp hz
    go_enter Try.func100, Try.ntmps100
    go_wp2_with fail
    go_region
    go_wp2_with fail
    refine (hSp.out _).mono ?_
    rintro e w1 ⟨rfl, hb1⟩
    replace hb1 := hide hb1
    clear hSp
    go_wp2
    go_ret
    refine ⟨by rw [hz.out]; rfl, Below.trans ?_ (hb1.out.mono (by simp [World.setCell] <;> omega))⟩
    repeat' (first | exact Below.refl _ _ | refine Below.drew ?_ | refine Below.setCell ?_ (by simp) _ | refine Below.alloc ?_ (by simp <;> omega) _)
  · simp only [askMsg, askKind, show ¬ (3 : Nat) = 1 from by decide, show ¬ (3 : Nat) = 2 from by decide, if_false, Msg.v, Msg.cells] at hSp hz
    go_enter Try.func100, Try.ntmps100
    go_wp2_with fail
    go_region
    go_wp2_with fail
    refine (hSp.out _).mono ?_
    rintro e w1 ⟨rfl, hb1⟩
    replace hb1 := hide hb1
    clear hSp
    go_wp2
    go_ret
    refine ⟨by rw [hz.out]; rfl, Below.trans ?_ (hb1.out.mono (by simp [World.setCell] <;> omega))⟩
    repeat' (first | exact Below.refl _ _ | refine Below.drew ?_ | refine Below.setCell ?_ (by simp) _ | refine Below.alloc ?_ (by simp <;> omega) _)
/-- a list without elements that is not nil -/
theorem RowOf.void {α : Type} {f : α → List Value} {sz : Nat} (w : World) (e : TypeId) : RowOf (α := α) (w.alloc (.cells #[] e)) e sz f (.slice (some ⟨w.heap.size, 0, none⟩) 0 0) [] :=
  ⟨by simp, .inr ⟨w.heap.size, 0, #[], rfl, Nat.zero_le _, heap_alloc_self _ _, Nat.le_refl _, by unfold maxLen; omega, by simp, by simp⟩⟩
/-- is the bit there? -/
def bitB (m i : Nat) : Bool := decide (m / 2 ^ i % 2 = 1)
def sayTo (p : Pm) (st mask : Nat) : Nat → List (List UInt8)
  | 0 => []
  | n + 1 => sayTo p st mask n ++ (if bitB mask n then (match p.legs[n]? with
    | none => []
    | some x => [sayFr p x n st]) else [])
/-- the frames to the legs whose bits are among these -/
def sayL (p : Pm) (st mask : Nat) : List (List UInt8) := sayTo p st mask p.legs.length
theorem sayTo_le (p : Pm) (st mask : Nat) : ∀ n, (sayTo p st mask n).length ≤ n
  | 0 => Nat.le_refl _
  | n + 1 => by
    have := sayTo_le p st mask n
    simp only [sayTo, List.length_append]
    split
    · split <;> simp <;> omega
    · simp; omega
set_option maxRecDepth 100000 in
theorem u8_bit (m n : Nat) (hm : m < 256) (hn : n < 4) : bits .and .u8 (m : Int) ((2 ^ n : Nat) : Int) = (if bitB m n then ((2 ^ n : Nat) : Int) else 0) := by
  have h2 : 2 ^ n < 256 := Nat.lt_of_lt_of_le (Nat.pow_lt_pow_right (by decide) hn) (by decide)
  rw [u8_and_nat m (2 ^ n) hm h2]
  have key : ∀ m : Fin 256, ∀ n : Fin 4, (m.1 &&& 2 ^ n.1) = if bitB m.1 n.1 then 2 ^ n.1 else 0 := by decide
  rw [key ⟨m, hm⟩ ⟨n, hn⟩]
  simp only
  split <;> rfl
set_option maxRecDepth 100000 in
set_option maxHeartbeats 2000000 in
theorem say_any (x : Xp) (hx : x.ok) (hst : 1 ≤ x.st ∧ x.st ≤ 3) (hm64 : x.pm.memo.length ≤ 64) (h4 : x.pm.legs.length ≤ 4) (mask : Nat) (hmk : mask < 256) (w : World) (b : Nat) (hP : PBox w b x) :
    Calls Try.prog 78 #[.pointer (some ⟨b, 0, none⟩), .int .u8 (mask : Int)] w fun e w' => (∃ lv, e = .returned lv ∧ RowOf w' 9 1 txtCell lv (sayL x.pm x.st mask) ∧ ∀ g, lv.ownBlock = some g → w.heap.size ≤ g) ∧ Below w.heap.size w w' := by
  obtain ⟨i0, hi0, y0, y1, y2⟩ := info_parts txtInfo
  have hc := fun o => cell_at hP.blk o
  have hbl := hP.lt
  have hFr := hide (fun (y : Pl) (hy : y.ok) (n : Nat) (hn : n < 256) (u : World) (hu : PBox u b x) => frameFor_any x hx hst hm64 y hy n hn u b hu)
  have hle := hide (sayTo_le x.pm x.st mask)
  have hyes : Hid (∀ n (hn : n < x.pm.legs.length), bitB mask n = true → sayTo x.pm x.st mask (n + 1) = sayTo x.pm x.st mask n ++ [sayFr x.pm x.pm.legs[n] n x.st]) := hide (fun n hn h => by simp [sayTo, h, hn])
  have hno : Hid (∀ n, bitB mask n = false → sayTo x.pm x.st mask (n + 1) = sayTo x.pm x.st mask n) := hide (fun n h => by simp [sayTo, h])
  have hz : Hid (sayL x.pm x.st mask = sayTo x.pm x.st mask x.pm.legs.length) := hide rfl
  generalize sayL x.pm x.st mask = Z at *
  generalize sayTo x.pm x.st mask = F at *
  generalize sayFr x.pm = SF at *
  obtain ⟨⟨pi, pd, pm, pl, pa, pc⟩, st, he, dn⟩ := x
  simp only [Xp.cells] at *
  go_enter Try.func78, Try.ntmps78
  go_wp2
  go_loopw [5, 16] (fun fr c u => ∃ n : Nat, n ≤ pl.length ∧ c = .int .i64 n ∧ RowOf u 9 1 txtCell fr (F n) ∧ (∀ g, fr.ownBlock = some g → w.heap.size ≤ g) ∧ Below w.heap.size w u) (fun _ c _ => pl.length - (intOf c).toNat)
  case atStart =>
    have h0 : F 0 = [] := List.length_eq_zero_iff.1 (by have := hle.out 0; omega)
    refine ⟨0, Nat.zero_le _, rfl, by rw [h0]; exact RowOf.void _ _, fun g hg => ?_, (Below.refl _ _).alloc (Nat.le_refl _) _⟩
    have : w.heap.size = g := by simpa [Value.ownBlock] using hg
    omega
  case round =>
    obtain ⟨n, hn, rfl, hrow, hxown, hb⟩ := hrel
    have hFn := hle.out n
    obtain ⟨adx, capx, rfl⟩ := hrow.slice
    have hPu := hP.below hb
    have hcu := fun o => cell_at hPu.blk o
    have hblu := hPu.lt
    simp only [Xp.cells] at hcu
    by_cases hlt : n < pl.length
    · have hnl : (n : Int) < (pl.length : Int) := by omega
      have dl : decide ((n : Int) < (pl.length : Int)) = true := by simp; omega
      obtain ⟨ad', cap', hv', hev'⟩ := hPu.legs.form Pl.cells_length
      obtain ⟨g, hg, hcell, _⟩ := hev' n hlt
      have ead : pa = ad' := by injection hv'
      subst ead
      subst hg
      have c0 := hcell 0 (by decide)
      have c1 := hcell 1 (by decide)
      have c2 := hcell 2 (by decide)
      have c3 := hcell 3 (by decide)
      have hyk := hx.1.2.2 pl[n] (List.getElem_mem hlt)
      have W1 : IntKind.u8.wrap (n : Int) = (n : Int) := by rw [IntKind.wrap_u8]; omega
      have hbit := u8_bit mask n hmk (by omega)
      have hy9 := hide (hyes.out n hlt)
      have hn9 := hide (hno.out n)
      clear hcell hev' hv' hyes hno hc
      generalize pl[n] = E at *
      obtain ⟨yb, yp, yg, ya⟩ := E
      simp only [Pl.cells, List.getElem?_cons_zero, List.getElem?_cons_succ, Nat.add_zero] at c0 c1 c2 c3
      have hFr2 := hide (fun (u : World) hu => hFr.out ⟨yb, yp, yg, ya⟩ hyk n (by omega) u hu)
      simp only [Pl.cells] at hFr2
      generalize SF ⟨yb, yp, yg, ya⟩ n st = TX at *
      clear hFr
      have hn4 : n = 0 ∨ n = 1 ∨ n = 2 ∨ n = 3 := by omega
      rcases hn4 with rfl | rfl | rfl | rfl
      · cases hbb : bitB mask 0 with
        | false =>
          have e1 : bits .and .u8 (mask : Int) 1 = 0 := by rw [hbb] at hbit; simpa using hbit
          have hq := hide (hn9.out hbb)
          clear hy9 hn9 hbit hFr2 hbb
          go_wp2
          exact ⟨⟨0 + 1, by omega, by go_num, by rw [hq.out]; exact hrow, hxown, hb⟩, by simp [intOf]; omega⟩
        | true =>
          have e1 : bits .and .u8 (mask : Int) 1 = 1 := by rw [hbb] at hbit; simpa using hbit
          have hq := hide (hy9.out hbb)
          clear hy9 hn9 hbit hbb
          go_wp2_with fail
          refine (hFr2.out _ hPu).mono ?_
          rintro e w2 ⟨rfl, hb2⟩
          have hrow2 := hrow.below hb2
          have hb3 := hb.trans (hb2.mono hb.size)
          clear hFr2 c0 c1 c2 c3 hcu hrow
          go_wp2_with (first
            | (at_builtin; refine wpList_row txtCell_length w2 (by rfl) _ _ 58 (by rfl) 9 i0 _ 16 Try.underlying58 hi0 y0 y1 y2 rfl (by decide) (.slice adx (F 0).length capx) (F 0) (by rfl) hrow2 1 TX (by rfl) (txt_one _) (by unfold maxLen; omega) (by omega) ?_ _ (by rfl); intro g9 cap9 w9 hrow9 hk9 hg9 hlt9; have X : Hid (RowOf w9 9 1 txtCell (.slice (some ⟨g9, 0, none⟩) ((F 0).length + 1) cap9) (F 0 ++ [TX]) ∧ Kept (fun k => (Value.slice adx (F 0).length capx).ownBlock = some k) w2 w9 ∧ ((Value.slice adx (F 0).length capx).ownBlock = some g9 ∨ w2.heap.size ≤ g9)) := hide ⟨hrow9, hk9, hg9⟩; clear hrow9 hk9 hg9))
          have hg9 : w.heap.size ≤ g9 := X.out.2.2.elim (hxown g9) (fun h => Nat.le_trans hb3.size h)
          have hb9 := hb3.trans (X.out.2.1.below hb3.size (fun k hk => hxown k hk))
          refine ⟨⟨0 + 1, by omega, by go_num, by rw [hq.out]; exact X.out.1, fun g' h' => ?_, hb9⟩, by simp [intOf]; omega⟩
          have : g9 = g' := by simpa [Value.ownBlock] using h'
          omega
      · cases hbb : bitB mask 1 with
        | false =>
          have e1 : bits .and .u8 (mask : Int) 2 = 0 := by rw [hbb] at hbit; simpa using hbit
          have hq := hide (hn9.out hbb)
          clear hy9 hn9 hbit hFr2 hbb
          go_wp2
          exact ⟨⟨1 + 1, by omega, by go_num, by rw [hq.out]; exact hrow, hxown, hb⟩, by simp [intOf]; omega⟩
        | true =>
          have e1 : bits .and .u8 (mask : Int) 2 = 2 := by rw [hbb] at hbit; simpa using hbit
          have hq := hide (hy9.out hbb)
          clear hy9 hn9 hbit hbb
          go_wp2_with fail
          refine (hFr2.out _ hPu).mono ?_
          rintro e w2 ⟨rfl, hb2⟩
          have hrow2 := hrow.below hb2
          have hb3 := hb.trans (hb2.mono hb.size)
          clear hFr2 c0 c1 c2 c3 hcu hrow
          go_wp2_with (first
            | (at_builtin; refine wpList_row txtCell_length w2 (by rfl) _ _ 58 (by rfl) 9 i0 _ 16 Try.underlying58 hi0 y0 y1 y2 rfl (by decide) (.slice adx (F 1).length capx) (F 1) (by rfl) hrow2 1 TX (by rfl) (txt_one _) (by unfold maxLen; omega) (by omega) ?_ _ (by rfl); intro g9 cap9 w9 hrow9 hk9 hg9 hlt9; have X : Hid (RowOf w9 9 1 txtCell (.slice (some ⟨g9, 0, none⟩) ((F 1).length + 1) cap9) (F 1 ++ [TX]) ∧ Kept (fun k => (Value.slice adx (F 1).length capx).ownBlock = some k) w2 w9 ∧ ((Value.slice adx (F 1).length capx).ownBlock = some g9 ∨ w2.heap.size ≤ g9)) := hide ⟨hrow9, hk9, hg9⟩; clear hrow9 hk9 hg9))
          have hg9 : w.heap.size ≤ g9 := X.out.2.2.elim (hxown g9) (fun h => Nat.le_trans hb3.size h)
          have hb9 := hb3.trans (X.out.2.1.below hb3.size (fun k hk => hxown k hk))
          refine ⟨⟨1 + 1, by omega, by go_num, by rw [hq.out]; exact X.out.1, fun g' h' => ?_, hb9⟩, by simp [intOf]; omega⟩
          have : g9 = g' := by simpa [Value.ownBlock] using h'
          omega
      · cases hbb : bitB mask 2 with
        | false =>
          have e1 : bits .and .u8 (mask : Int) 4 = 0 := by rw [hbb] at hbit; simpa using hbit
          have hq := hide (hn9.out hbb)
          clear hy9 hn9 hbit hFr2 hbb
          go_wp2
          exact ⟨⟨2 + 1, by omega, by go_num, by rw [hq.out]; exact hrow, hxown, hb⟩, by simp [intOf]; omega⟩
        | true =>
          have e1 : bits .and .u8 (mask : Int) 4 = 4 := by rw [hbb] at hbit; simpa using hbit
          have hq := hide (hy9.out hbb)
          clear hy9 hn9 hbit hbb
          go_wp2_with fail
          refine (hFr2.out _ hPu).mono ?_
          rintro e w2 ⟨rfl, hb2⟩
          have hrow2 := hrow.below hb2
          have hb3 := hb.trans (hb2.mono hb.size)
          clear hFr2 c0 c1 c2 c3 hcu hrow
          go_wp2_with (first
            | (at_builtin; refine wpList_row txtCell_length w2 (by rfl) _ _ 58 (by rfl) 9 i0 _ 16 Try.underlying58 hi0 y0 y1 y2 rfl (by decide) (.slice adx (F 2).length capx) (F 2) (by rfl) hrow2 1 TX (by rfl) (txt_one _) (by unfold maxLen; omega) (by omega) ?_ _ (by rfl); intro g9 cap9 w9 hrow9 hk9 hg9 hlt9; have X : Hid (RowOf w9 9 1 txtCell (.slice (some ⟨g9, 0, none⟩) ((F 2).length + 1) cap9) (F 2 ++ [TX]) ∧ Kept (fun k => (Value.slice adx (F 2).length capx).ownBlock = some k) w2 w9 ∧ ((Value.slice adx (F 2).length capx).ownBlock = some g9 ∨ w2.heap.size ≤ g9)) := hide ⟨hrow9, hk9, hg9⟩; clear hrow9 hk9 hg9))
          have hg9 : w.heap.size ≤ g9 := X.out.2.2.elim (hxown g9) (fun h => Nat.le_trans hb3.size h)
          have hb9 := hb3.trans (X.out.2.1.below hb3.size (fun k hk => hxown k hk))
          refine ⟨⟨2 + 1, by omega, by go_num, by rw [hq.out]; exact X.out.1, fun g' h' => ?_, hb9⟩, by simp [intOf]; omega⟩
          have : g9 = g' := by simpa [Value.ownBlock] using h'
          omega
      · cases hbb : bitB mask 3 with
        | false =>
          have e1 : bits .and .u8 (mask : Int) 8 = 0 := by rw [hbb] at hbit; simpa using hbit
          have hq := hide (hn9.out hbb)
          clear hy9 hn9 hbit hFr2 hbb
          go_wp2
          exact ⟨⟨3 + 1, by omega, by go_num, by rw [hq.out]; exact hrow, hxown, hb⟩, by simp [intOf]; omega⟩
        | true =>
          have e1 : bits .and .u8 (mask : Int) 8 = 8 := by rw [hbb] at hbit; simpa using hbit
          have hq := hide (hy9.out hbb)
          clear hy9 hn9 hbit hbb
          go_wp2_with fail
          refine (hFr2.out _ hPu).mono ?_
          rintro e w2 ⟨rfl, hb2⟩
          have hrow2 := hrow.below hb2
          have hb3 := hb.trans (hb2.mono hb.size)
          clear hFr2 c0 c1 c2 c3 hcu hrow
          go_wp2_with (first
            | (at_builtin; refine wpList_row txtCell_length w2 (by rfl) _ _ 58 (by rfl) 9 i0 _ 16 Try.underlying58 hi0 y0 y1 y2 rfl (by decide) (.slice adx (F 3).length capx) (F 3) (by rfl) hrow2 1 TX (by rfl) (txt_one _) (by unfold maxLen; omega) (by omega) ?_ _ (by rfl); intro g9 cap9 w9 hrow9 hk9 hg9 hlt9; have X : Hid (RowOf w9 9 1 txtCell (.slice (some ⟨g9, 0, none⟩) ((F 3).length + 1) cap9) (F 3 ++ [TX]) ∧ Kept (fun k => (Value.slice adx (F 3).length capx).ownBlock = some k) w2 w9 ∧ ((Value.slice adx (F 3).length capx).ownBlock = some g9 ∨ w2.heap.size ≤ g9)) := hide ⟨hrow9, hk9, hg9⟩; clear hrow9 hk9 hg9))
          have hg9 : w.heap.size ≤ g9 := X.out.2.2.elim (hxown g9) (fun h => Nat.le_trans hb3.size h)
          have hb9 := hb3.trans (X.out.2.1.below hb3.size (fun k hk => hxown k hk))
          refine ⟨⟨3 + 1, by omega, by go_num, by rw [hq.out]; exact X.out.1, fun g' h' => ?_, hb9⟩, by simp [intOf]; omega⟩
          have : g9 = g' := by simpa [Value.ownBlock] using h'
          omega
    · obtain rfl : n = pl.length := by omega
      have dl : decide ((pl.length : Int) < (pl.length : Int)) = false := by simp
      replace hrow := hide hrow
      replace hxown := hide hxown
      replace hb := hide hb
      clear hFr hyes hno hcu hc
      go_wp2
      go_ret
      exact ⟨⟨_, rfl, by rw [hz.out]; exact hrow.out, hxown.out⟩, hb.out⟩
end Go.Proofs.Ytjkhbjgfoopomaa
