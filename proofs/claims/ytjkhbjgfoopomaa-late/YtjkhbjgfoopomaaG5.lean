import Derived.Test.YtjkhbjgfoopomaaG4
/-
  The program's notary in memory; find, status, hasLeg.
-/
namespace Go.Proofs.Ytjkhbjgfoopomaa
open Go.RowKit
set_option linter.unusedVariables false
set_option linter.unusedSimpArgs false
/-- a payment that the program's notary keeps -/
structure Xp where
  pm : Pm
  st : Nat
  held : Nat
  done : Nat
def Xp.ok (x : Xp) : Prop := x.pm.ok ∧ x.st < 256 ∧ x.held < 256 ∧ x.done < 256
def Xp.cells (x : Xp) : List Value := [.int .u32 (x.pm.id : Int), .int .u64 (x.pm.dl : Int), .string (bs x.pm.memo), .slice x.pm.la x.pm.legs.length x.pm.lc, .int .u8 (x.st : Int), .int .u8 (x.held : Int), .int .u8 (x.done : Int)]
theorem Xp.cells_length (x : Xp) : x.cells.length = 7 := rfl
/-- a notary of the program's lies at B -/
structure XD (w : World) (B ck : Nat) (ps : List Xp) (v : Value) : Prop where
  blk : w.heap[B]? = some (.cells #[.int .u64 (ck : Int), v] (tyAt w B) (0, 0))
  row : RowOf w 139 7 Xp.cells v ps
  legs : ∀ x, x ∈ ps → RowOf w 57 4 Pl.cells x.pm.lv x.pm.legs
theorem XD.lt {w : World} {B ck : Nat} {ps : List Xp} {v : Value} (h : XD w B ck ps v) : B < w.heap.size := block_lt h.blk
theorem XD.below {w u : World} {B ck : Nat} {ps : List Xp} {v : Value} (h : XD w B ck ps v) (hb : Below w.heap.size w u) : XD u B ck ps v :=
  ⟨ty_of (by rw [hb.block B h.lt]; exact h.blk), h.row.below hb, fun x hx => (h.legs x hx).below hb⟩
/-- where a payment stands; the list's length, if it is not kept -/
def findX (id : Nat) : List Xp → Nat
  | [] => 0
  | x :: r => if x.pm.id = id then 0 else findX id r + 1
theorem findX_le (id : Nat) : ∀ ps, findX id ps ≤ ps.length
  | [] => Nat.le_refl _
  | x :: r => by
    have := findX_le id r
    simp only [findX, List.length_cons]
    split <;> omega
theorem findX_at (id : Nat) : ∀ (ps : List Xp) (h : findX id ps < ps.length), ps[findX id ps].pm.id = id
  | [], h => by simp at h
  | x :: r, h => by
    simp only [findX] at h ⊢
    split at h
    · rename_i e
      simp [e]
    · rename_i e
      simp only [e, if_false, List.getElem_cons_succ]
      exact findX_at id r (by simpa using h)
theorem findX_no (id : Nat) : ∀ (ps : List Xp) (k : Nat) (h : k < ps.length), k < findX id ps → ps[k].pm.id ≠ id
  | [], k, h, _ => by simp at h
  | x :: r, k, h, hk => by
    simp only [findX] at hk
    split at hk
    · omega
    · rename_i e
      cases k with
      | zero => exact e
      | succ k => exact findX_no id r k (by simpa using h) (by omega)
theorem findX_is (id : Nat) (ps : List Xp) (k : Nat) (hk : k ≤ ps.length) (hno : ∀ j (hj : j < ps.length), j < k → ps[j].pm.id ≠ id) (hat : ∀ h : k < ps.length, ps[k].pm.id = id) : findX id ps = k := by
  have h1 := findX_le id ps
  rcases Nat.lt_trichotomy (findX id ps) k with h | h | h
  · have h2 : findX id ps < ps.length := by omega
    exact absurd (findX_at id ps h2) (hno _ h2 h)
  · exact h
  · have h2 : k < ps.length := by omega
    exact absurd (hat h2) (findX_no id ps k h2 h)
set_option maxRecDepth 100000 in
set_option maxHeartbeats 1000000 in
theorem xfind_any (id : Nat) (hid : id < 4294967296) (w : World) (B ck : Nat) (ps : List Xp) (v : Value) (hX : XD w B ck ps v) (hok : ∀ x, x ∈ ps → x.ok) (hlen : ps.length ≤ 1000000) :
    Calls Try.prog 73 #[.pointer (some ⟨B, 0, none⟩), .int .u32 (id : Int)] w fun e w' => e = .returned (.int .i64 (findX id ps : Int)) ∧ w' = w := by
  obtain ⟨ad, cap, hv, hev⟩ := hX.row.form Xp.cells_length
  subst hv
  have hc : ∀ o, w.cell? ⟨B, o, none⟩ = (#[.int .u64 (ck : Int), .slice ad ps.length cap] : Array Value)[o]? := fun o => cell_at hX.blk o
  go_enter Try.func73, Try.ntmps73
  go_wp2
  go_loopw [5] (fun c u => ∃ k : Nat, k ≤ ps.length ∧ c = .int .i64 k ∧ (∀ j (hj : j < ps.length), j < k → ps[j].pm.id ≠ id) ∧ u = w) (fun c _ => ps.length - (intOf c).toNat)
  case atStart => exact ⟨0, Nat.zero_le _, rfl, fun j hj h => by omega, rfl⟩
  case round =>
    obtain ⟨k, hk, rfl, hno, rfl⟩ := hrel
    replace hno := hide hno
    by_cases hlt : k < ps.length
    · obtain ⟨g, hg, hcell, _⟩ := hev k hlt
      subst hg
      have c0 := hcell 0 (by decide)
      have hek := hok ps[k] (List.getElem_mem hlt)
      have hlk : (k : Int) < (ps.length : Int) := by omega
      have dl : decide ((k : Int) < (ps.length : Int)) = true := by simp; omega
      have hnx : Hid (ps[k].pm.id ≠ id → ∀ j (hj : j < ps.length), j < k + 1 → ps[j].pm.id ≠ id) := hide (fun h j hj hj2 => by
        rcases Nat.lt_or_ge j k with x | x
        · exact hno.out j hj x
        · obtain rfl : j = k := by omega
          exact h)
      have hqq : Hid (ps[k].pm.id = id → findX id ps = k) := hide (fun h => findX_is id ps k hk hno.out (fun _ => h))
      clear hcell hev hno
      generalize ps[k] = E at *
      obtain ⟨⟨pi, pd, pm, pl, pa, pc⟩, st, he, dn⟩ := E
      obtain ⟨⟨hpi, _, _⟩, _⟩ := hek
      simp only [Xp.cells, List.getElem?_cons_zero, Nat.add_zero] at c0 hpi hnx hqq
      by_cases hi : pi = id
      · have di : ((pi : Int) != (id : Int)) = false := by simp; omega
        have hq := hide (hqq.out hi)
        clear hnx hqq hi
        go_wp2
        go_ret
        exact ⟨by rw [hq.out]; rfl, rfl⟩
      · have di : ((pi : Int) != (id : Int)) = true := by simp; omega
        have hq := hide (hnx.out hi)
        clear hnx hqq hi
        go_wp2
        exact ⟨⟨k + 1, hlt, by go_num, hq.out, trivial⟩, by simp [intOf]; omega⟩
    · obtain rfl : k = ps.length := by omega
      have hq : Hid (findX id ps = ps.length) := hide (findX_is id ps _ (Nat.le_refl _) hno.out (fun h => by omega))
      have dl : decide ((ps.length : Int) < (ps.length : Int)) = false := by simp
      clear hev hno
      go_wp2
      go_ret
      exact ⟨by rw [hq.out]; rfl, rfl⟩
/-- a payment in a box of its own -/
structure PBox (w : World) (b : Nat) (x : Xp) : Prop where
  blk : w.heap[b]? = some (.cells x.cells.toArray 139 (0, 0))
  legs : RowOf w 57 4 Pl.cells x.pm.lv x.pm.legs
theorem PBox.lt {w : World} {b : Nat} {x : Xp} (h : PBox w b x) : b < w.heap.size := block_lt h.blk
theorem PBox.below {w u : World} {b : Nat} {x : Xp} (h : PBox w b x) (hb : Below w.heap.size w u) : PBox u b x :=
  ⟨by rw [hb.block b h.lt]; exact h.blk, h.legs.below hb⟩
set_option maxRecDepth 100000 in
set_option maxHeartbeats 1000000 in
theorem pstatus_any (w : World) (b : Nat) (x : Xp) (hx : x.ok) (hP : PBox w b x) :
    Calls Try.prog 82 #[.pointer (some ⟨b, 0, none⟩)] w fun e w' => e = .returned (.agg #[.int .u8 (x.st : Int), .int .u8 (x.held : Int), .int .u8 (x.done : Int)]) ∧ Below w.heap.size w w' := by
  have hc := fun o => cell_at hP.blk o
  have hbl := hP.lt
  obtain ⟨⟨pi, pd, pm, pl, pa, pc⟩, st, he, dn⟩ := x
  simp only [Xp.cells] at *
  go_enter Try.func82, Try.ntmps82
  go_wp2_with fail
  go_region
  go_wp2
  refine bodyPost_ret (v := .agg #[.int .u8 (st : Int), .int .u8 (he : Int), .int .u8 (dn : Int)]) (by simp [results, Try.results82, go_sem]) rfl ⟨rfl, ?_⟩
  repeat' (first | exact Below.refl _ _ | refine Below.drew ?_ | refine Below.setCell ?_ (by simp) _ | refine Below.alloc ?_ (by simp) _)
end Go.Proofs.Ytjkhbjgfoopomaa
/-
  The program's notary: frameFor, say, remind.
-/
namespace Go.Proofs.Ytjkhbjgfoopomaa
open Go.RowKit
set_option linter.unusedVariables false
set_option linter.unusedSimpArgs false
/-- the frame to a leg's bank -/
def sayFr (p : Pm) (x : Pl) (n st : Nat) : List UInt8 := frameOf (askMsg p x n (askKind st))
set_option maxRecDepth 100000 in
set_option maxHeartbeats 2000000 in
theorem frameFor_any (x : Xp) (hx : x.ok) (hst : 1 ≤ x.st ∧ x.st ≤ 3) (hm64 : x.pm.memo.length ≤ 64) (y : Pl) (hy : y.ok) (n : Nat) (hn : n < 256) (w : World) (b : Nat) (hP : PBox w b x) :
    Calls Try.prog 100 #[.pointer (some ⟨b, 0, none⟩), .int .u8 (n : Int), .agg y.cells.toArray] w fun e w' => e = .returned (.string (bs (sayFr x.pm y n x.st))) ∧ Below w.heap.size w w' := by
  have hc := fun o => cell_at hP.blk o
  have hbl := hP.lt
  have hz : Hid (bs (sayFr x.pm y n x.st) = bs (frameOf (askMsg x.pm y n (askKind x.st)))) := hide rfl
  have hSp := hide (fun u => spell_any (askMsg x.pm y n (askKind x.st)) (askMsg_ok hx.1 hy hn (by unfold askKind; split; omega; split <;> omega)) (by unfold askMsg; split; exact hm64; exact Nat.zero_le _) u)
  have hsplit : x.st = 1 ∨ x.st = 2 ∨ x.st = 3 := by omega
  generalize sayFr x.pm y n x.st = SF at *
  obtain ⟨⟨pi, pd, pm, pl, pa, pc⟩, st, he, dn⟩ := x
  obtain ⟨yb, yp, yg, ya⟩ := y
  obtain ⟨h1, h2, h3, h4⟩ := hy
  obtain ⟨⟨hpi, hpd, hpl⟩, _, _, _⟩ := hx
  simp only [Xp.cells, Pl.cells] at *
  rcases hsplit with rfl | rfl | rfl
  · simp only [askMsg, askKind, if_true, Msg.v, Msg.cells] at hSp hz
    go_enter Try.func100, Try.ntmps100
    go_wp2_with fail
    go_region
    go_wp2_with fail
    refine (hSp.out _).mono ?_
    rintro e w1 ⟨rfl, hb1⟩
    replace hb1 := hide hb1
    clear hSp
    go_wp2
    go_ret
    refine ⟨by rw [hz.out]; rfl, Below.trans ?_ (hb1.out.mono (by simp [World.setCell] <;> omega))⟩
    repeat' (first | exact Below.refl _ _ | refine Below.drew ?_ | refine Below.setCell ?_ (by simp) _ | refine Below.alloc ?_ (by simp <;> omega) _)
  · simp only [askMsg, askKind, show ¬ (2 : Nat) = 1 from by decide, if_true, if_false, Msg.v, Msg.cells] at hSp hz
    go_enter Try.func100, Try.ntmps100
    go_wp2_with fail
    go_region
    go_wp2_with fail
    refine (hSp.out _).mono ?_
    rintro e w1 ⟨rfl, hb1⟩
    replace hb1 := hide hb1
    clear hSp
    go_wp2
    go_ret
    refine ⟨by rw [hz.out]; rfl, Below.trans ?_ (hb1.out.mono (by simp [World.setCell] <;> omega))⟩
    repeat' (first | exact Below.refl _ _ | refine Below.drew ?_ | refine Below.setCell ?_ (by simp) _ | refine Below.alloc ?_ (by simp <;> omega) _)
  · simp only [askMsg, askKind, show ¬ (3 : Nat) = 1 from by decide, show ¬ (3 : Nat) = 2 from by decide, if_false, Msg.v, Msg.cells] at hSp hz
    go_enter Try.func100, Try.ntmps100
    go_wp2_with fail
    go_region
    go_wp2_with fail
    refine (hSp.out _).mono ?_
    rintro e w1 ⟨rfl, hb1⟩
    replace hb1 := hide hb1
    clear hSp
    go_wp2
    go_ret
    refine ⟨by rw [hz.out]; rfl, Below.trans ?_ (hb1.out.mono (by simp [World.setCell] <;> omega))⟩
    repeat' (first | exact Below.refl _ _ | refine Below.drew ?_ | refine Below.setCell ?_ (by simp) _ | refine Below.alloc ?_ (by simp <;> omega) _)
/-- a list without elements that is not nil -/
theorem RowOf.void {α : Type} {f : α → List Value} {sz : Nat} (w : World) (e : TypeId) : RowOf (α := α) (w.alloc (.cells #[] e)) e sz f (.slice (some ⟨w.heap.size, 0, none⟩) 0 0) [] :=
  ⟨by simp, .inr ⟨w.heap.size, 0, #[], rfl, Nat.zero_le _, heap_alloc_self _ _, Nat.le_refl _, by unfold maxLen; omega, by simp, by simp⟩⟩
/-- is the bit there? -/
def bitB (m i : Nat) : Bool := decide (m / 2 ^ i % 2 = 1)
def sayTo (p : Pm) (st mask : Nat) : Nat → List (List UInt8)
  | 0 => []
  | n + 1 => sayTo p st mask n ++ (if bitB mask n then (match p.legs[n]? with
    | none => []
    | some x => [sayFr p x n st]) else [])
/-- the frames to the legs whose bits are among these -/
def sayL (p : Pm) (st mask : Nat) : List (List UInt8) := sayTo p st mask p.legs.length
theorem sayTo_le (p : Pm) (st mask : Nat) : ∀ n, (sayTo p st mask n).length ≤ n
  | 0 => Nat.le_refl _
  | n + 1 => by
    have := sayTo_le p st mask n
    simp only [sayTo, List.length_append]
    split
    · split <;> simp <;> omega
    · simp; omega
set_option maxRecDepth 100000 in
theorem u8_bit (m n : Nat) (hm : m < 256) (hn : n < 4) : bits .and .u8 (m : Int) ((2 ^ n : Nat) : Int) = (if bitB m n then ((2 ^ n : Nat) : Int) else 0) := by
  have h2 : 2 ^ n < 256 := Nat.lt_of_lt_of_le (Nat.pow_lt_pow_right (by decide) hn) (by decide)
  rw [u8_and_nat m (2 ^ n) hm h2]
  have key : ∀ m : Fin 256, ∀ n : Fin 4, (m.1 &&& 2 ^ n.1) = if bitB m.1 n.1 then 2 ^ n.1 else 0 := by decide
  rw [key ⟨m, hm⟩ ⟨n, hn⟩]
  simp only
  split <;> rfl
set_option maxRecDepth 100000 in
set_option maxHeartbeats 2000000 in
theorem say_any (x : Xp) (hx : x.ok) (hst : 1 ≤ x.st ∧ x.st ≤ 3) (hm64 : x.pm.memo.length ≤ 64) (h4 : x.pm.legs.length ≤ 4) (mask : Nat) (hmk : mask < 256) (w : World) (b : Nat) (hP : PBox w b x) :
    Calls Try.prog 78 #[.pointer (some ⟨b, 0, none⟩), .int .u8 (mask : Int)] w fun e w' => (∃ lv, e = .returned lv ∧ RowOf w' 9 1 txtCell lv (sayL x.pm x.st mask) ∧ ∀ g, lv.ownBlock = some g → w.heap.size ≤ g) ∧ Below w.heap.size w w' := by
  obtain ⟨i0, hi0, y0, y1, y2⟩ := info_parts txtInfo
  have hc := fun o => cell_at hP.blk o
  have hbl := hP.lt
  have hFr := hide (fun (y : Pl) (hy : y.ok) (n : Nat) (hn : n < 256) (u : World) (hu : PBox u b x) => frameFor_any x hx hst hm64 y hy n hn u b hu)
  have hle := hide (sayTo_le x.pm x.st mask)
  have hyes : Hid (∀ n (hn : n < x.pm.legs.length), bitB mask n = true → sayTo x.pm x.st mask (n + 1) = sayTo x.pm x.st mask n ++ [sayFr x.pm x.pm.legs[n] n x.st]) := hide (fun n hn h => by simp [sayTo, h, hn])
  have hno : Hid (∀ n, bitB mask n = false → sayTo x.pm x.st mask (n + 1) = sayTo x.pm x.st mask n) := hide (fun n h => by simp [sayTo, h])
  have hz : Hid (sayL x.pm x.st mask = sayTo x.pm x.st mask x.pm.legs.length) := hide rfl
  generalize sayL x.pm x.st mask = Z at *
  generalize sayTo x.pm x.st mask = F at *
  generalize sayFr x.pm = SF at *
  obtain ⟨⟨pi, pd, pm, pl, pa, pc⟩, st, he, dn⟩ := x
  simp only [Xp.cells] at *
  go_enter Try.func78, Try.ntmps78
  go_wp2
  go_loopw [5, 16] (fun fr c u => ∃ n : Nat, n ≤ pl.length ∧ c = .int .i64 n ∧ RowOf u 9 1 txtCell fr (F n) ∧ (∀ g, fr.ownBlock = some g → w.heap.size ≤ g) ∧ Below w.heap.size w u) (fun _ c _ => pl.length - (intOf c).toNat)
  case atStart =>
    have h0 : F 0 = [] := List.length_eq_zero_iff.1 (by have := hle.out 0; omega)
    refine ⟨0, Nat.zero_le _, rfl, by rw [h0]; exact RowOf.void _ _, fun g hg => ?_, (Below.refl _ _).alloc (Nat.le_refl _) _⟩
    have : w.heap.size = g := by simpa [Value.ownBlock] using hg
    omega
  case round =>
    obtain ⟨n, hn, rfl, hrow, hxown, hb⟩ := hrel
    have hFn := hle.out n
    obtain ⟨adx, capx, rfl⟩ := hrow.slice
    have hPu := hP.below hb
    have hcu := fun o => cell_at hPu.blk o
    have hblu := hPu.lt
    simp only [Xp.cells] at hcu
    by_cases hlt : n < pl.length
    · have hnl : (n : Int) < (pl.length : Int) := by omega
      have dl : decide ((n : Int) < (pl.length : Int)) = true := by simp; omega
      obtain ⟨ad', cap', hv', hev'⟩ := hPu.legs.form Pl.cells_length
      obtain ⟨g, hg, hcell, _⟩ := hev' n hlt
      have ead : pa = ad' := by injection hv'
      subst ead
      subst hg
      have c0 := hcell 0 (by decide)
      have c1 := hcell 1 (by decide)
      have c2 := hcell 2 (by decide)
      have c3 := hcell 3 (by decide)
      have hyk := hx.1.2.2 pl[n] (List.getElem_mem hlt)
      have W1 : IntKind.u8.wrap (n : Int) = (n : Int) := by rw [IntKind.wrap_u8]; omega
      have hbit := u8_bit mask n hmk (by omega)
      have hy9 := hide (hyes.out n hlt)
      have hn9 := hide (hno.out n)
      clear hcell hev' hv' hyes hno hc
      generalize pl[n] = E at *
      obtain ⟨yb, yp, yg, ya⟩ := E
      simp only [Pl.cells, List.getElem?_cons_zero, List.getElem?_cons_succ, Nat.add_zero] at c0 c1 c2 c3
      have hFr2 := hide (fun (u : World) hu => hFr.out ⟨yb, yp, yg, ya⟩ hyk n (by omega) u hu)
      simp only [Pl.cells] at hFr2
      generalize SF ⟨yb, yp, yg, ya⟩ n st = TX at *
      clear hFr
      have hn4 : n = 0 ∨ n = 1 ∨ n = 2 ∨ n = 3 := by omega
      rcases hn4 with rfl | rfl | rfl | rfl
      · cases hbb : bitB mask 0 with
        | false =>
          have e1 : bits .and .u8 (mask : Int) 1 = 0 := by rw [hbb] at hbit; simpa using hbit
          have hq := hide (hn9.out hbb)
          clear hy9 hn9 hbit hFr2 hbb
          go_wp2
          exact ⟨⟨0 + 1, by omega, by go_num, by rw [hq.out]; exact hrow, hxown, hb⟩, by simp [intOf]; omega⟩
        | true =>
          have e1 : bits .and .u8 (mask : Int) 1 = 1 := by rw [hbb] at hbit; simpa using hbit
          have hq := hide (hy9.out hbb)
          clear hy9 hn9 hbit hbb
          go_wp2_with fail
          refine (hFr2.out _ hPu).mono ?_
          rintro e w2 ⟨rfl, hb2⟩
          have hrow2 := hrow.below hb2
          have hb3 := hb.trans (hb2.mono hb.size)
          clear hFr2 c0 c1 c2 c3 hcu hrow
          go_wp2_with (first
            | (at_builtin; refine wpList_row txtCell_length w2 (by rfl) _ _ 58 (by rfl) 9 i0 _ 16 Try.underlying58 hi0 y0 y1 y2 rfl (by decide) (.slice adx (F 0).length capx) (F 0) (by rfl) hrow2 1 TX (by rfl) (txt_one _) (by unfold maxLen; omega) (by omega) ?_ _ (by rfl); intro g9 cap9 w9 hrow9 hk9 hg9 hlt9; have X : Hid (RowOf w9 9 1 txtCell (.slice (some ⟨g9, 0, none⟩) ((F 0).length + 1) cap9) (F 0 ++ [TX]) ∧ Kept (fun k => (Value.slice adx (F 0).length capx).ownBlock = some k) w2 w9 ∧ ((Value.slice adx (F 0).length capx).ownBlock = some g9 ∨ w2.heap.size ≤ g9)) := hide ⟨hrow9, hk9, hg9⟩; clear hrow9 hk9 hg9))
          have hg9 : w.heap.size ≤ g9 := X.out.2.2.elim (hxown g9) (fun h => Nat.le_trans hb3.size h)
          have hb9 := hb3.trans (X.out.2.1.below hb3.size (fun k hk => hxown k hk))
          refine ⟨⟨0 + 1, by omega, by go_num, by rw [hq.out]; exact X.out.1, fun g' h' => ?_, hb9⟩, by simp [intOf]; omega⟩
          have : g9 = g' := by simpa [Value.ownBlock] using h'
          omega
      · cases hbb : bitB mask 1 with
        | false =>
          have e1 : bits .and .u8 (mask : Int) 2 = 0 := by rw [hbb] at hbit; simpa using hbit
          have hq := hide (hn9.out hbb)
          clear hy9 hn9 hbit hFr2 hbb
          go_wp2
          exact ⟨⟨1 + 1, by omega, by go_num, by rw [hq.out]; exact hrow, hxown, hb⟩, by simp [intOf]; omega⟩
        | true =>
          have e1 : bits .and .u8 (mask : Int) 2 = 2 := by rw [hbb] at hbit; simpa using hbit
          have hq := hide (hy9.out hbb)
          clear hy9 hn9 hbit hbb
          go_wp2_with fail
          refine (hFr2.out _ hPu).mono ?_
          rintro e w2 ⟨rfl, hb2⟩
          have hrow2 := hrow.below hb2
          have hb3 := hb.trans (hb2.mono hb.size)
          clear hFr2 c0 c1 c2 c3 hcu hrow
          go_wp2_with (first
            | (at_builtin; refine wpList_row txtCell_length w2 (by rfl) _ _ 58 (by rfl) 9 i0 _ 16 Try.underlying58 hi0 y0 y1 y2 rfl (by decide) (.slice adx (F 1).length capx) (F 1) (by rfl) hrow2 1 TX (by rfl) (txt_one _) (by unfold maxLen; omega) (by omega) ?_ _ (by rfl); intro g9 cap9 w9 hrow9 hk9 hg9 hlt9; have X : Hid (RowOf w9 9 1 txtCell (.slice (some ⟨g9, 0, none⟩) ((F 1).length + 1) cap9) (F 1 ++ [TX]) ∧ Kept (fun k => (Value.slice adx (F 1).length capx).ownBlock = some k) w2 w9 ∧ ((Value.slice adx (F 1).length capx).ownBlock = some g9 ∨ w2.heap.size ≤ g9)) := hide ⟨hrow9, hk9, hg9⟩; clear hrow9 hk9 hg9))
          have hg9 : w.heap.size ≤ g9 := X.out.2.2.elim (hxown g9) (fun h => Nat.le_trans hb3.size h)
          have hb9 := hb3.trans (X.out.2.1.below hb3.size (fun k hk => hxown k hk))
          refine ⟨⟨1 + 1, by omega, by go_num, by rw [hq.out]; exact X.out.1, fun g' h' => ?_, hb9⟩, by simp [intOf]; omega⟩
          have : g9 = g' := by simpa [Value.ownBlock] using h'
          omega
      · cases hbb : bitB mask 2 with
        | false =>
          have e1 : bits .and .u8 (mask : Int) 4 = 0 := by rw [hbb] at hbit; simpa using hbit
          have hq := hide (hn9.out hbb)
          clear hy9 hn9 hbit hFr2 hbb
          go_wp2
          exact ⟨⟨2 + 1, by omega, by go_num, by rw [hq.out]; exact hrow, hxown, hb⟩, by simp [intOf]; omega⟩
        | true =>
          have e1 : bits .and .u8 (mask : Int) 4 = 4 := by rw [hbb] at hbit; simpa using hbit
          have hq := hide (hy9.out hbb)
          clear hy9 hn9 hbit hbb
          go_wp2_with fail
          refine (hFr2.out _ hPu).mono ?_
          rintro e w2 ⟨rfl, hb2⟩
          have hrow2 := hrow.below hb2
          have hb3 := hb.trans (hb2.mono hb.size)
          clear hFr2 c0 c1 c2 c3 hcu hrow
          go_wp2_with (first
            | (at_builtin; refine wpList_row txtCell_length w2 (by rfl) _ _ 58 (by rfl) 9 i0 _ 16 Try.underlying58 hi0 y0 y1 y2 rfl (by decide) (.slice adx (F 2).length capx) (F 2) (by rfl) hrow2 1 TX (by rfl) (txt_one _) (by unfold maxLen; omega) (by omega) ?_ _ (by rfl); intro g9 cap9 w9 hrow9 hk9 hg9 hlt9; have X : Hid (RowOf w9 9 1 txtCell (.slice (some ⟨g9, 0, none⟩) ((F 2).length + 1) cap9) (F 2 ++ [TX]) ∧ Kept (fun k => (Value.slice adx (F 2).length capx).ownBlock = some k) w2 w9 ∧ ((Value.slice adx (F 2).length capx).ownBlock = some g9 ∨ w2.heap.size ≤ g9)) := hide ⟨hrow9, hk9, hg9⟩; clear hrow9 hk9 hg9))
          have hg9 : w.heap.size ≤ g9 := X.out.2.2.elim (hxown g9) (fun h => Nat.le_trans hb3.size h)
          have hb9 := hb3.trans (X.out.2.1.below hb3.size (fun k hk => hxown k hk))
          refine ⟨⟨2 + 1, by omega, by go_num, by rw [hq.out]; exact X.out.1, fun g' h' => ?_, hb9⟩, by simp [intOf]; omega⟩
          have : g9 = g' := by simpa [Value.ownBlock] using h'
          omega
      · cases hbb : bitB mask 3 with
        | false =>
          have e1 : bits .and .u8 (mask : Int) 8 = 0 := by rw [hbb] at hbit; simpa using hbit
          have hq := hide (hn9.out hbb)
          clear hy9 hn9 hbit hFr2 hbb
          go_wp2
          exact ⟨⟨3 + 1, by omega, by go_num, by rw [hq.out]; exact hrow, hxown, hb⟩, by simp [intOf]; omega⟩
        | true =>
          have e1 : bits .and .u8 (mask : Int) 8 = 8 := by rw [hbb] at hbit; simpa using hbit
          have hq := hide (hy9.out hbb)
          clear hy9 hn9 hbit hbb
          go_wp2_with fail
          refine (hFr2.out _ hPu).mono ?_
          rintro e w2 ⟨rfl, hb2⟩
          have hrow2 := hrow.below hb2
          have hb3 := hb.trans (hb2.mono hb.size)
          clear hFr2 c0 c1 c2 c3 hcu hrow
          go_wp2_with (first
            | (at_builtin; refine wpList_row txtCell_length w2 (by rfl) _ _ 58 (by rfl) 9 i0 _ 16 Try.underlying58 hi0 y0 y1 y2 rfl (by decide) (.slice adx (F 3).length capx) (F 3) (by rfl) hrow2 1 TX (by rfl) (txt_one _) (by unfold maxLen; omega) (by omega) ?_ _ (by rfl); intro g9 cap9 w9 hrow9 hk9 hg9 hlt9; have X : Hid (RowOf w9 9 1 txtCell (.slice (some ⟨g9, 0, none⟩) ((F 3).length + 1) cap9) (F 3 ++ [TX]) ∧ Kept (fun k => (Value.slice adx (F 3).length capx).ownBlock = some k) w2 w9 ∧ ((Value.slice adx (F 3).length capx).ownBlock = some g9 ∨ w2.heap.size ≤ g9)) := hide ⟨hrow9, hk9, hg9⟩; clear hrow9 hk9 hg9))
          have hg9 : w.heap.size ≤ g9 := X.out.2.2.elim (hxown g9) (fun h => Nat.le_trans hb3.size h)
          have hb9 := hb3.trans (X.out.2.1.below hb3.size (fun k hk => hxown k hk))
          refine ⟨⟨3 + 1, by omega, by go_num, by rw [hq.out]; exact X.out.1, fun g' h' => ?_, hb9⟩, by simp [intOf]; omega⟩
          have : g9 = g' := by simpa [Value.ownBlock] using h'
          omega
    · obtain rfl : n = pl.length := by omega
      have dl : decide ((pl.length : Int) < (pl.length : Int)) = false := by simp
      replace hrow := hide hrow
      replace hxown := hide hxown
      replace hb := hide hb
      clear hFr hyes hno hcu hc
      go_wp2
      go_ret
      exact ⟨⟨_, rfl, by rw [hz.out]; exact hrow.out, hxown.out⟩, hb.out⟩
end Go.Proofs.Ytjkhbjgfoopomaa
