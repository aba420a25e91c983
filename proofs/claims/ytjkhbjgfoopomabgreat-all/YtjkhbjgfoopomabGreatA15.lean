import Derived.Test.YtjkhbjgfoopomabGreatA9
import Derived.Test.YtjkhbjgfoopomabGreatA11
namespace Go.Proofs.YtjkhbjgfoopomabGreat
open Go.RowKit
set_option maxRecDepth 100000
set_option maxHeartbeats 2000000
set_option linter.unusedVariables false
set_option linter.unusedSimpArgs false
def asksTo (p : Pm) (k but : Nat) : Nat → List (List UInt8)
 | 0 => []
 | n + 1 => asksTo p k but n ++ (if withOf but n = but then [] else match p.legs[n]? with
  | none => []
  | some x => [askOf p x n k])
def asksOf (p : Pm) (k but : Nat) : List (List UInt8) := asksTo p k but p.legs.length
theorem asksTo_le (p : Pm) (k but : Nat) : ∀ n, (asksTo p k but n).length ≤ n
 | 0 => Nat.le_refl _
 | n + 1 => by
  have := asksTo_le p k but n;simp only [asksTo, List.length_append];split
  ·simp; omega
  ·split <;> simp <;> omega
theorem asks_any (p : Pm) (hp : p.ok) (hm : p.memo.length ≤ 140737488351232) (k but : Nat) (hk : k < 256) (hbut : but < 1000) (w : World) (hR : RowOf w 67 4 Pl.cells p.lv p.legs) (hl4 : p.legs.length ≤ 4) :
  Calls Tryz.prog 125 #[p.v, .int .i64 (k : Int), .int .i64 (but : Int)] w fun e w' => (∃ lv, e = .returned lv ∧ RowOf w' 9 1 txtCell lv (asksOf p k but) ∧ ∀ g, lv.ownBlock = some g → w.heap.size ≤ g) ∧ Below w.heap.size w w' := by
 obtain ⟨i0, hi0, y0, y1, y2⟩ := info_parts txtInfo
 have hask := hide (fun leg (hl : leg < p.legs.length) u hu => ask_any p hp hm leg k hk u hu hl hl4)
 have hz : Hid (asksOf p k but = asksTo p k but p.legs.length) := hide rfl
 have hle := hide (asksTo_le p k but)
 have hyes : Hid (∀ n, withOf but n = but → asksTo p k but (n + 1) = asksTo p k but n) := hide (fun n h => by simp [asksTo, h])
 have hno : Hid (∀ n (hn : n < p.legs.length), withOf but n ≠ but → asksTo p k but (n + 1) = asksTo p k but n ++ [askOf p p.legs[n] n k]) := hide (fun n hn h => by simp [asksTo, h, hn])
 obtain ⟨pi, pd, pm, pl, pa, pc⟩ := p
 simp only [Pm.v, Pm.lv] at *
 generalize hF : asksTo ⟨pi, pd, pm, pl, pa, pc⟩ k but = F at *
 generalize asksOf ⟨pi, pd, pm, pl, pa, pc⟩ k but = Z at *
 clear hF
 obtain ⟨hpi, hpd, hpl⟩ := hp
 go_enter Tryz.func125, Tryz.ntmps125
 go_wp2
 have hB0 : Hid (Below w.heap.size w (w.alloc (.cells #[.int .u32 (pi : Int), .int .u64 (pd : Int), .string (bs pm), .slice pa pl.length pc] 69))) := hide ((Below.refl _ _).alloc (Nat.le_refl _) _)
 have hw1 : Hid (w.heap.size + 1 = (w.alloc (.cells #[.int .u32 (pi : Int), .int .u64 (pd : Int), .string (bs pm), .slice pa pl.length pc] 69)).heap.size) := hide (by simp)
 have hp1 : Hid ((w.alloc (.cells #[.int .u32 (pi : Int), .int .u64 (pd : Int), .string (bs pm), .slice pa pl.length pc] 69)).heap[w.heap.size]? = some (.cells #[.int .u32 (pi : Int), .int .u64 (pd : Int), .string (bs pm), .slice pa pl.length pc] 69 (0, 0))) := hide (heap_alloc_self _ _)
 generalize w.alloc (.cells #[.int .u32 (pi : Int), .int .u64 (pd : Int), .string (bs pm), .slice pa pl.length pc] 69) = w1 at *
 go_loopw [7, 8] (fun x c u => ∃ n : Nat, n ≤ pl.length ∧ c = .int .i64 n ∧ RowOf u 9 1 txtCell x (F n) ∧ (∀ g, x.ownBlock = some g → w1.heap.size ≤ g) ∧ Below w1.heap.size w1 u) (fun _ c _ => pl.length - (intOf c).toNat)
 case atStart => exact ⟨0, Nat.zero_le _, rfl, by have h0 : F 0 = [] := List.length_eq_zero_iff.1 (by have := hle.out 0; omega); rw [h0]; exact RowOf.nil _ _, fun g hg => by simp [Value.ownBlock] at hg, Below.refl _ _⟩
 case round =>
  obtain ⟨n, hn, rfl, hrow, hxown, hb⟩ := hrel;have hFn := hle.out n;obtain ⟨adx, capx, rfl⟩ := hrow.slice;have hpu : wr.heap[w.heap.size]? = some (.cells #[.int .u32 (pi : Int), .int .u64 (pd : Int), .string (bs pm), .slice pa pl.length pc] 69 (0, 0)) := by rw [hb.block _ (by have := hw1.out; omega)]; exact hp1.out
  have hc : ∀ o, wr.cell? ⟨w.heap.size, o, none⟩ = (#[.int .u32 (pi : Int), .int .u64 (pd : Int), .string (bs pm), .slice pa pl.length pc] : Array Value)[o]? := fun o => cell_at hpu o;have hpl1 := block_lt hpu;have hRr := hide ((hR.below hB0.out).below hb);replace hrow := hide hrow;replace hxown := hide hxown;replace hb := hide hb;by_cases hlt : n < pl.length
  ·have hn256 : (n : Int) % 256 = (n : Int) := by omega
   have hW := hide (fun u => with_any but n hbut (by omega) u)
   have hbd : Hid (withOf but n < 2000) := hide (by
    unfold withOf;have : 2 ^ n ≤ 2 ^ 4 := Nat.pow_le_pow_right (by decide) (by omega)
    split <;> omega)
   by_cases hq : withOf but n = but
   ·have hy := hide (hyes.out n hq);rw [hq] at hW;have d1 : ((but : Int) != (but : Int)) = false := by simp
    clear hyes hno hq;go_wp2_with fail
    try rw [hn256]
    refine (hW.out _).mono ?_;rintro e u2 ⟨rfl, rfl⟩;go_wp2;exact ⟨⟨n + 1, hlt, by go_num, by rw [hy.out]; exact hrow.out, hxown.out, hb.out⟩, by simp [intOf]; omega⟩
   ·have hy := hide (hno.out n hlt hq);have d1 : ((withOf but n : Int) != (but : Int)) = true := by simp; omega
    have hK := hide (hask.out n hlt);clear hyes hno hq hask;generalize withOf but n = WB at *;generalize askOf _ _ n k = A at *;go_wp2_with fail
    try rw [hn256]
    refine (hW.out _).mono ?_;rintro e u2 ⟨rfl, rfl⟩;go_wp2_with fail
    refine (hK.out _ hRr.out).mono ?_;rintro e u3 ⟨rfl, hb3⟩;have hrow2 := hrow.out.below hb3;have hB3 := hb.out.trans (hb3.mono hb.out.size);clear hK hW hc;generalize hL0 : F n = L at *;generalize hm0 : L.length = m at *;have hlo : Hid (L.length = m) := hide hm0;clear hm0
    go_wp2_with (first
     | (at_builtin; refine wpList_row txtCell_length u3 (by rfl) _ _ 38 (by rfl) 9 i0 _ 16 Tryz.underlying38 hi0 y0 y1 y2 rfl (by decide) (.slice adx m capx) L (by rfl) hrow2 1 A (by rfl) (txt_one _) (by rw [hlo.out]; unfold maxLen; omega) (by rw [hlo.out]; omega) ?_ _ (by rfl); intro g9 cap9 w9 hrow9 hk9 hg9 hlt9; rw [hlo.out] at hrow9; rw [hlo.out]; have X : Hid (RowOf w9 9 1 txtCell (.slice (some ⟨g9, 0, none⟩) (m + 1) cap9) (L ++ [A]) ∧ Kept (fun k => (Value.slice adx m capx).ownBlock = some k) u3 w9 ∧ ((Value.slice adx m capx).ownBlock = some g9 ∨ u3.heap.size ≤ g9)) := hide ⟨hrow9, hk9, hg9⟩; clear hrow9 hk9 hg9))
    have hg9 : w1.heap.size ≤ g9 := X.out.2.2.elim (hxown.out g9) (fun h => Nat.le_trans hB3.size h);have hb9 := hB3.trans (X.out.2.1.below hB3.size (fun k hk => hxown.out k hk));refine ⟨⟨n + 1, hlt, by go_num, by rw [hy.out]; exact X.out.1, fun g' h' => ?_, hb9⟩, by simp [intOf]; omega⟩;have : g' = g9 := by simpa [Value.ownBlock] using h'.symm
    omega
  ·obtain rfl : n = pl.length := by omega
   go_wp2;go_ret;exact ⟨⟨_, rfl, by rw [hz.out]; exact hrow.out, fun g hg => Nat.le_trans hB0.out.size (hxown.out g hg)⟩, hB0.out.trans (hb.out.mono hB0.out.size)⟩
structure Xp where
 pm : Pm
 st : Nat
 held : Nat
 done : Nat
def Xp.ok (x : Xp) : Prop := x.pm.ok ∧ x.st < 256 ∧ x.held < 256 ∧ x.done < 256
def Xp.cells (x : Xp) : List Value := [.int .u32 (x.pm.id : Int), .int .u64 (x.pm.dl : Int), .string (bs x.pm.memo), .slice x.pm.la x.pm.legs.length x.pm.lc, .int .u8 (x.st : Int), .int .u8 (x.held : Int), .int .u8 (x.done : Int)]
theorem Xp.cells_length (x : Xp) : x.cells.length = 7 := rfl
structure XD (w : World) (B ck : Nat) (ps : List Xp) (v : Value) : Prop where
 blk : w.heap[B]? = some (.cells #[.int .u64 (ck : Int), v] (tyAt w B) (0, 0))
 row : RowOf w 135 7 Xp.cells v ps
 legs : ∀ x, x ∈ ps → RowOf w 67 4 Pl.cells x.pm.lv x.pm.legs
theorem XD.lt {w : World} {B ck : Nat} {ps : List Xp} {v : Value} (h : XD w B ck ps v) : B < w.heap.size := block_lt h.blk
theorem XD.below {w u : World} {B ck : Nat} {ps : List Xp} {v : Value} (h : XD w B ck ps v) (hb : Below w.heap.size w u) : XD u B ck ps v :=
 ⟨ty_of (by rw [hb.block B h.lt]; exact h.blk), h.row.below hb, fun x hx => (h.legs x hx).below hb⟩
def findX (id : Nat) : List Xp → Nat
 | [] => 0
 | x :: r => if x.pm.id = id then 0 else findX id r + 1
theorem findX_le (id : Nat) : ∀ ps, findX id ps ≤ ps.length
 | [] => Nat.le_refl _
 | x :: r => by
  have := findX_le id r;simp only [findX, List.length_cons];split <;> omega
theorem findX_at (id : Nat) : ∀ (ps : List Xp) (h : findX id ps < ps.length), ps[findX id ps].pm.id = id
 | [], h => by simp at h
 | x :: r, h => by
  simp only [findX] at h ⊢;split at h
  ·rename_i e;simp [e]
  ·rename_i e;simp only [e, if_false, List.getElem_cons_succ];exact findX_at id r (by simpa using h)
theorem findX_no (id : Nat) : ∀ (ps : List Xp) (k : Nat) (h : k < ps.length), k < findX id ps → ps[k].pm.id ≠ id
 | [], k, h, _ => by simp at h
 | x :: r, k, h, hk => by
  simp only [findX] at hk;split at hk
  ·omega
  ·rename_i e;cases k with
   | zero => exact e
   | succ k => exact findX_no id r k (by simpa using h) (by omega)
theorem findX_is (id : Nat) (ps : List Xp) (k : Nat) (hk : k ≤ ps.length) (hno : ∀ j (hj : j < ps.length), j < k → ps[j].pm.id ≠ id) (hat : ∀ h : k < ps.length, ps[k].pm.id = id) : findX id ps = k := by
 have h1 := findX_le id ps
 rcases Nat.lt_trichotomy (findX id ps) k with h | h | h
 ·have h2 : findX id ps < ps.length := by omega
  exact absurd (findX_at id ps h2) (hno _ h2 h)
 ·exact h
 ·have h2 : k < ps.length := by omega
  exact absurd (hat h2) (findX_no id ps k h2 h)
theorem xfind_any (id : Nat) (hid : id < 4294967296) (w : World) (B ck : Nat) (ps : List Xp) (v : Value) (hX : XD w B ck ps v) (hok : ∀ x, x ∈ ps → x.ok) (hlen : ps.length ≤ 1000000) :
  Calls Tryz.prog 60 #[.pointer (some ⟨B, 0, none⟩), .int .u32 (id : Int)] w fun e w' => e = .returned (.int .i64 (findX id ps : Int)) ∧ w' = w := by
 obtain ⟨ad, cap, hv, hev⟩ := hX.row.form Xp.cells_length
 subst hv
 have hc : ∀ o, w.cell? ⟨B, o, none⟩ = (#[.int .u64 (ck : Int), .slice ad ps.length cap] : Array Value)[o]? := fun o => cell_at hX.blk o
 go_enter Tryz.func60, Tryz.ntmps60
 go_wp2
 go_loopw [5] (fun c u => ∃ k : Nat, k ≤ ps.length ∧ c = .int .i64 k ∧ (∀ j (hj : j < ps.length), j < k → ps[j].pm.id ≠ id) ∧ u = w) (fun c _ => ps.length - (intOf c).toNat)
 case atStart => exact ⟨0, Nat.zero_le _, rfl, fun j hj h => by omega, rfl⟩
 case round =>
  obtain ⟨k, hk, rfl, hno, rfl⟩ := hrel;replace hno := hide hno;by_cases hlt : k < ps.length
  ·obtain ⟨g, hg, hcell, _⟩ := hev k hlt;subst hg;have c0 := hcell 0 (by decide);have hek := hok ps[k] (List.getElem_mem hlt);have hlk : (k : Int) < (ps.length : Int) := by omega
   have dl : decide ((k : Int) < (ps.length : Int)) = true := by simp; omega
   have hnx : Hid (ps[k].pm.id ≠ id → ∀ j (hj : j < ps.length), j < k + 1 → ps[j].pm.id ≠ id) := hide (fun h j hj hj2 => by
    rcases Nat.lt_or_ge j k with x | x
    ·exact hno.out j hj x
    ·obtain rfl : j = k := by omega
     exact h)
   have hqq : Hid (ps[k].pm.id = id → findX id ps = k) := hide (fun h => findX_is id ps k hk hno.out (fun _ => h));clear hcell hev hno;generalize ps[k] = E at *;obtain ⟨⟨pi, pd, pm, pl, pa, pc⟩, st, he, dn⟩ := E;obtain ⟨⟨hpi, _, _⟩, _⟩ := hek;simp only [Xp.cells, List.getElem?_cons_zero, Nat.add_zero] at c0 hpi hnx hqq;by_cases hi : pi = id
   ·have di : ((pi : Int) != (id : Int)) = false := by simp; omega
    have hq := hide (hqq.out hi);clear hnx hqq hi;go_wp2;go_ret;exact ⟨by rw [hq.out]; rfl, rfl⟩
   ·have di : ((pi : Int) != (id : Int)) = true := by simp; omega
    have hq := hide (hnx.out hi);clear hnx hqq hi;go_wp2;exact ⟨⟨k + 1, hlt, by go_num, hq.out, trivial⟩, by simp [intOf]; omega⟩
  ·obtain rfl : k = ps.length := by omega
   have hq : Hid (findX id ps = ps.length) := hide (findX_is id ps _ (Nat.le_refl _) hno.out (fun h => by omega));have dl : decide ((ps.length : Int) < (ps.length : Int)) = false := by simp
   clear hev hno;go_wp2;go_ret;exact ⟨by rw [hq.out]; rfl, rfl⟩
structure PBox (w : World) (b : Nat) (x : Xp) : Prop where
 blk : w.heap[b]? = some (.cells x.cells.toArray 135 (0, 0))
 legs : RowOf w 67 4 Pl.cells x.pm.lv x.pm.legs
theorem PBox.lt {w : World} {b : Nat} {x : Xp} (h : PBox w b x) : b < w.heap.size := block_lt h.blk
theorem PBox.below {w u : World} {b : Nat} {x : Xp} (h : PBox w b x) (hb : Below w.heap.size w u) : PBox u b x :=
 ⟨by rw [hb.block b h.lt]; exact h.blk, h.legs.below hb⟩
theorem pstatus_any (w : World) (b : Nat) (x : Xp) (hx : x.ok) (hP : PBox w b x) :
  Calls Tryz.prog 67 #[.pointer (some ⟨b, 0, none⟩)] w fun e w' => e = .returned (.agg #[.int .u8 (x.st : Int), .int .u8 (x.held : Int), .int .u8 (x.done : Int)]) ∧ Below w.heap.size w w' := by
 have hc := fun o => cell_at hP.blk o
 have hbl := hP.lt
 obtain ⟨⟨pi, pd, pm, pl, pa, pc⟩, st, he, dn⟩ := x
 simp only [Xp.cells] at *
 go_enter Tryz.func67, Tryz.ntmps67
 go_wp2_with fail
 go_region
 go_wp2
 refine bodyPost_ret (v := .agg #[.int .u8 (st : Int), .int .u8 (he : Int), .int .u8 (dn : Int)]) (by simp [results, Tryz.results67, go_sem]) rfl ⟨rfl, ?_⟩
 repeat' (first | exact Below.refl _ _ | refine Below.drew ?_ | refine Below.setCell ?_ (by simp) _ | refine Below.alloc ?_ (by simp) _)
def sayFr (p : Pm) (x : Pl) (n st : Nat) : List UInt8 := frameOf (askMsg p x n (askKind st))
theorem frameFor_any (x : Xp) (hx : x.ok) (hst : 1 ≤ x.st ∧ x.st ≤ 3) (hm64 : x.pm.memo.length ≤ 64) (y : Pl) (hy : y.ok) (n : Nat) (hn : n < 256) (w : World) (b : Nat) (hP : PBox w b x) :
  Calls Tryz.prog 103 #[.pointer (some ⟨b, 0, none⟩), .int .u8 (n : Int), .agg y.cells.toArray] w fun e w' => e = .returned (.string (bs (sayFr x.pm y n x.st))) ∧ Below w.heap.size w w' := by
 have hc := fun o => cell_at hP.blk o
 have hbl := hP.lt
 have hz : Hid (bs (sayFr x.pm y n x.st) = bs (frameOf (askMsg x.pm y n (askKind x.st)))) := hide rfl
 have hSp := hide (fun u => spell_any (askMsg x.pm y n (askKind x.st)) (askMsg_ok hx.1 hy hn (by unfold askKind; split; omega; split <;> omega)) (by unfold askMsg; split; exact hm64; exact Nat.zero_le _) u)
 have hsplit : x.st = 1 ∨ x.st = 2 ∨ x.st = 3 := by omega
 generalize sayFr x.pm y n x.st = SF at *
 obtain ⟨⟨pi, pd, pm, pl, pa, pc⟩, st, he, dn⟩ := x
 obtain ⟨yb, yp, yg, ya⟩ := y
 obtain ⟨h1, h2, h3, h4⟩ := hy
 obtain ⟨⟨hpi, hpd, hpl⟩, _, _, _⟩ := hx
 simp only [Xp.cells, Pl.cells] at *
 rcases hsplit with rfl | rfl | rfl
 ·simp only [askMsg, askKind, if_true, Msg.v, Msg.cells] at hSp hz;go_enter Tryz.func103, Tryz.ntmps103;go_wp2_with fail
  go_region
  go_wp2_with fail
  refine (hSp.out _).mono ?_;rintro e w1 ⟨rfl, hb1⟩;replace hb1 := hide hb1;clear hSp;go_wp2;go_ret;refine ⟨by rw [hz.out]; rfl, Below.trans ?_ (hb1.out.mono (by simp [World.setCell] <;> omega))⟩
  repeat' (first | exact Below.refl _ _ | refine Below.drew ?_ | refine Below.setCell ?_ (by simp) _ | refine Below.alloc ?_ (by simp <;> omega) _)
 ·simp only [askMsg, askKind, show ¬ (2 : Nat) = 1 from by decide, if_true, if_false, Msg.v, Msg.cells] at hSp hz;go_enter Tryz.func103, Tryz.ntmps103;go_wp2_with fail
  go_region
  go_wp2_with fail
  refine (hSp.out _).mono ?_;rintro e w1 ⟨rfl, hb1⟩;replace hb1 := hide hb1;clear hSp;go_wp2;go_ret;refine ⟨by rw [hz.out]; rfl, Below.trans ?_ (hb1.out.mono (by simp [World.setCell] <;> omega))⟩
  repeat' (first | exact Below.refl _ _ | refine Below.drew ?_ | refine Below.setCell ?_ (by simp) _ | refine Below.alloc ?_ (by simp <;> omega) _)
 ·simp only [askMsg, askKind, show ¬ (3 : Nat) = 1 from by decide, show ¬ (3 : Nat) = 2 from by decide, if_false, Msg.v, Msg.cells] at hSp hz;go_enter Tryz.func103, Tryz.ntmps103;go_wp2_with fail
  go_region
  go_wp2_with fail
  refine (hSp.out _).mono ?_;rintro e w1 ⟨rfl, hb1⟩;replace hb1 := hide hb1;clear hSp;go_wp2;go_ret;refine ⟨by rw [hz.out]; rfl, Below.trans ?_ (hb1.out.mono (by simp [World.setCell] <;> omega))⟩
  repeat' (first | exact Below.refl _ _ | refine Below.drew ?_ | refine Below.setCell ?_ (by simp) _ | refine Below.alloc ?_ (by simp <;> omega) _)
theorem RowOf.void {α : Type} {f : α → List Value} {sz : Nat} (w : World) (e : TypeId) : RowOf (α := α) (w.alloc (.cells #[] e)) e sz f (.slice (some ⟨w.heap.size, 0, none⟩) 0 0) [] :=
 ⟨by simp, .inr ⟨w.heap.size, 0, #[], rfl, Nat.zero_le _, heap_alloc_self _ _, Nat.le_refl _, by unfold maxLen; omega, by simp, by simp⟩⟩
def bitB (m i : Nat) : Bool := decide (m / 2 ^ i % 2 = 1)
def sayTo (p : Pm) (st mask : Nat) : Nat → List (List UInt8)
 | 0 => []
 | n + 1 => sayTo p st mask n ++ (if bitB mask n then (match p.legs[n]? with
  | none => []
  | some x => [sayFr p x n st]) else [])
def sayL (p : Pm) (st mask : Nat) : List (List UInt8) := sayTo p st mask p.legs.length
theorem sayTo_le (p : Pm) (st mask : Nat) : ∀ n, (sayTo p st mask n).length ≤ n
 | 0 => Nat.le_refl _
 | n + 1 => by
  have := sayTo_le p st mask n;simp only [sayTo, List.length_append];split
  ·split <;> simp <;> omega
  ·simp; omega
theorem u8_bit (m n : Nat) (hm : m < 256) (hn : n < 4) : bits .and .u8 (m : Int) ((2 ^ n : Nat) : Int) = (if bitB m n then ((2 ^ n : Nat) : Int) else 0) := by
 have h2 : 2 ^ n < 256 := Nat.lt_of_lt_of_le (Nat.pow_lt_pow_right (by decide) hn) (by decide)
 rw [u8_and_nat m (2 ^ n) hm h2]
 have key : ∀ m : Fin 256, ∀ n : Fin 4, (m.1 &&& 2 ^ n.1) = if bitB m.1 n.1 then 2 ^ n.1 else 0 := by decide
 rw [key ⟨m, hm⟩ ⟨n, hn⟩]
 simp only
 split <;> rfl
theorem say_any (x : Xp) (hx : x.ok) (hst : 1 ≤ x.st ∧ x.st ≤ 3) (hm64 : x.pm.memo.length ≤ 64) (h4 : x.pm.legs.length ≤ 4) (mask : Nat) (hmk : mask < 256) (w : World) (b : Nat) (hP : PBox w b x) :
  Calls Tryz.prog 65 #[.pointer (some ⟨b, 0, none⟩), .int .u8 (mask : Int)] w fun e w' => (∃ lv, e = .returned lv ∧ RowOf w' 9 1 txtCell lv (sayL x.pm x.st mask) ∧ ∀ g, lv.ownBlock = some g → w.heap.size ≤ g) ∧ Below w.heap.size w w' := by
 obtain ⟨i0, hi0, y0, y1, y2⟩ := info_parts txtInfo
 have hc := fun o => cell_at hP.blk o
 have hbl := hP.lt
 have hFr := hide (fun (y : Pl) (hy : y.ok) (n : Nat) (hn : n < 256) (u : World) (hu : PBox u b x) => frameFor_any x hx hst hm64 y hy n hn u b hu)
 have hle := hide (sayTo_le x.pm x.st mask)
 have hyes : Hid (∀ n (hn : n < x.pm.legs.length), bitB mask n = true → sayTo x.pm x.st mask (n + 1) = sayTo x.pm x.st mask n ++ [sayFr x.pm x.pm.legs[n] n x.st]) := hide (fun n hn h => by simp [sayTo, h, hn])
 have hno : Hid (∀ n, bitB mask n = false → sayTo x.pm x.st mask (n + 1) = sayTo x.pm x.st mask n) := hide (fun n h => by simp [sayTo, h])
 have hz : Hid (sayL x.pm x.st mask = sayTo x.pm x.st mask x.pm.legs.length) := hide rfl
 generalize sayL x.pm x.st mask = Z at *
 generalize sayTo x.pm x.st mask = F at *
 generalize sayFr x.pm = SF at *
 obtain ⟨⟨pi, pd, pm, pl, pa, pc⟩, st, he, dn⟩ := x
 simp only [Xp.cells] at *
 go_enter Tryz.func65, Tryz.ntmps65
 go_wp2
 go_loopw [5, 16] (fun fr c u => ∃ n : Nat, n ≤ pl.length ∧ c = .int .i64 n ∧ RowOf u 9 1 txtCell fr (F n) ∧ (∀ g, fr.ownBlock = some g → w.heap.size ≤ g) ∧ Below w.heap.size w u) (fun _ c _ => pl.length - (intOf c).toNat)
 case atStart =>
  have h0 : F 0 = [] := List.length_eq_zero_iff.1 (by have := hle.out 0; omega);refine ⟨0, Nat.zero_le _, rfl, by rw [h0]; exact RowOf.void _ _, fun g hg => ?_, (Below.refl _ _).alloc (Nat.le_refl _) _⟩;have : w.heap.size = g := by simpa [Value.ownBlock] using hg
  omega
 case round =>
  obtain ⟨n, hn, rfl, hrow, hxown, hb⟩ := hrel;have hFn := hle.out n;obtain ⟨adx, capx, rfl⟩ := hrow.slice;have hPu := hP.below hb;have hcu := fun o => cell_at hPu.blk o;have hblu := hPu.lt;simp only [Xp.cells] at hcu;by_cases hlt : n < pl.length
  ·have hnl : (n : Int) < (pl.length : Int) := by omega
   have dl : decide ((n : Int) < (pl.length : Int)) = true := by simp; omega
   obtain ⟨ad', cap', hv', hev'⟩ := hPu.legs.form Pl.cells_length;obtain ⟨g, hg, hcell, _⟩ := hev' n hlt;have ead : pa = ad' := by injection hv'
   subst ead;subst hg;have c0 := hcell 0 (by decide);have c1 := hcell 1 (by decide);have c2 := hcell 2 (by decide);have c3 := hcell 3 (by decide);have hyk := hx.1.2.2 pl[n] (List.getElem_mem hlt);have W1 : IntKind.u8.wrap (n : Int) = (n : Int) := by rw [IntKind.wrap_u8]; omega
   have hbit := u8_bit mask n hmk (by omega);have hy9 := hide (hyes.out n hlt);have hn9 := hide (hno.out n);clear hcell hev' hv' hyes hno hc;generalize pl[n] = E at *;obtain ⟨yb, yp, yg, ya⟩ := E;simp only [Pl.cells, List.getElem?_cons_zero, List.getElem?_cons_succ, Nat.add_zero] at c0 c1 c2 c3;have hFr2 := hide (fun (u : World) hu => hFr.out ⟨yb, yp, yg, ya⟩ hyk n (by omega) u hu);simp only [Pl.cells] at hFr2;generalize SF ⟨yb, yp, yg, ya⟩ n st = TX at *;clear hFr;have hn4 : n = 0 ∨ n = 1 ∨ n = 2 ∨ n = 3 := by omega
   rcases hn4 with rfl | rfl | rfl | rfl
   ·cases hbb : bitB mask 0 with
    | false =>
     have e1 : bits .and .u8 (mask : Int) 1 = 0 := by rw [hbb] at hbit; simpa using hbit
     have hq := hide (hn9.out hbb);clear hy9 hn9 hbit hFr2 hbb;go_wp2;exact ⟨⟨0 + 1, by omega, by go_num, by rw [hq.out]; exact hrow, hxown, hb⟩, by simp [intOf]; omega⟩
    | true =>
     have e1 : bits .and .u8 (mask : Int) 1 = 1 := by rw [hbb] at hbit; simpa using hbit
     have hq := hide (hy9.out hbb);clear hy9 hn9 hbit hbb;go_wp2_with fail
     refine (hFr2.out _ hPu).mono ?_;rintro e w2 ⟨rfl, hb2⟩;have hrow2 := hrow.below hb2;have hb3 := hb.trans (hb2.mono hb.size);clear hFr2 c0 c1 c2 c3 hcu hrow
     go_wp2_with (first
      | (at_builtin; refine wpList_row txtCell_length w2 (by rfl) _ _ 38 (by rfl) 9 i0 _ 16 Tryz.underlying38 hi0 y0 y1 y2 rfl (by decide) (.slice adx (F 0).length capx) (F 0) (by rfl) hrow2 1 TX (by rfl) (txt_one _) (by unfold maxLen; omega) (by omega) ?_ _ (by rfl); intro g9 cap9 w9 hrow9 hk9 hg9 hlt9; have X : Hid (RowOf w9 9 1 txtCell (.slice (some ⟨g9, 0, none⟩) ((F 0).length + 1) cap9) (F 0 ++ [TX]) ∧ Kept (fun k => (Value.slice adx (F 0).length capx).ownBlock = some k) w2 w9 ∧ ((Value.slice adx (F 0).length capx).ownBlock = some g9 ∨ w2.heap.size ≤ g9)) := hide ⟨hrow9, hk9, hg9⟩; clear hrow9 hk9 hg9))
     have hg9 : w.heap.size ≤ g9 := X.out.2.2.elim (hxown g9) (fun h => Nat.le_trans hb3.size h);have hb9 := hb3.trans (X.out.2.1.below hb3.size (fun k hk => hxown k hk));refine ⟨⟨0 + 1, by omega, by go_num, by rw [hq.out]; exact X.out.1, fun g' h' => ?_, hb9⟩, by simp [intOf]; omega⟩;have : g9 = g' := by simpa [Value.ownBlock] using h'
     omega
   ·cases hbb : bitB mask 1 with
    | false =>
     have e1 : bits .and .u8 (mask : Int) 2 = 0 := by rw [hbb] at hbit; simpa using hbit
     have hq := hide (hn9.out hbb);clear hy9 hn9 hbit hFr2 hbb;go_wp2;exact ⟨⟨1 + 1, by omega, by go_num, by rw [hq.out]; exact hrow, hxown, hb⟩, by simp [intOf]; omega⟩
    | true =>
     have e1 : bits .and .u8 (mask : Int) 2 = 2 := by rw [hbb] at hbit; simpa using hbit
     have hq := hide (hy9.out hbb);clear hy9 hn9 hbit hbb;go_wp2_with fail
     refine (hFr2.out _ hPu).mono ?_;rintro e w2 ⟨rfl, hb2⟩;have hrow2 := hrow.below hb2;have hb3 := hb.trans (hb2.mono hb.size);clear hFr2 c0 c1 c2 c3 hcu hrow
     go_wp2_with (first
      | (at_builtin; refine wpList_row txtCell_length w2 (by rfl) _ _ 38 (by rfl) 9 i0 _ 16 Tryz.underlying38 hi0 y0 y1 y2 rfl (by decide) (.slice adx (F 1).length capx) (F 1) (by rfl) hrow2 1 TX (by rfl) (txt_one _) (by unfold maxLen; omega) (by omega) ?_ _ (by rfl); intro g9 cap9 w9 hrow9 hk9 hg9 hlt9; have X : Hid (RowOf w9 9 1 txtCell (.slice (some ⟨g9, 0, none⟩) ((F 1).length + 1) cap9) (F 1 ++ [TX]) ∧ Kept (fun k => (Value.slice adx (F 1).length capx).ownBlock = some k) w2 w9 ∧ ((Value.slice adx (F 1).length capx).ownBlock = some g9 ∨ w2.heap.size ≤ g9)) := hide ⟨hrow9, hk9, hg9⟩; clear hrow9 hk9 hg9))
     have hg9 : w.heap.size ≤ g9 := X.out.2.2.elim (hxown g9) (fun h => Nat.le_trans hb3.size h);have hb9 := hb3.trans (X.out.2.1.below hb3.size (fun k hk => hxown k hk));refine ⟨⟨1 + 1, by omega, by go_num, by rw [hq.out]; exact X.out.1, fun g' h' => ?_, hb9⟩, by simp [intOf]; omega⟩;have : g9 = g' := by simpa [Value.ownBlock] using h'
     omega
   ·cases hbb : bitB mask 2 with
    | false =>
     have e1 : bits .and .u8 (mask : Int) 4 = 0 := by rw [hbb] at hbit; simpa using hbit
     have hq := hide (hn9.out hbb);clear hy9 hn9 hbit hFr2 hbb;go_wp2;exact ⟨⟨2 + 1, by omega, by go_num, by rw [hq.out]; exact hrow, hxown, hb⟩, by simp [intOf]; omega⟩
    | true =>
     have e1 : bits .and .u8 (mask : Int) 4 = 4 := by rw [hbb] at hbit; simpa using hbit
     have hq := hide (hy9.out hbb);clear hy9 hn9 hbit hbb;go_wp2_with fail
     refine (hFr2.out _ hPu).mono ?_;rintro e w2 ⟨rfl, hb2⟩;have hrow2 := hrow.below hb2;have hb3 := hb.trans (hb2.mono hb.size);clear hFr2 c0 c1 c2 c3 hcu hrow
     go_wp2_with (first
      | (at_builtin; refine wpList_row txtCell_length w2 (by rfl) _ _ 38 (by rfl) 9 i0 _ 16 Tryz.underlying38 hi0 y0 y1 y2 rfl (by decide) (.slice adx (F 2).length capx) (F 2) (by rfl) hrow2 1 TX (by rfl) (txt_one _) (by unfold maxLen; omega) (by omega) ?_ _ (by rfl); intro g9 cap9 w9 hrow9 hk9 hg9 hlt9; have X : Hid (RowOf w9 9 1 txtCell (.slice (some ⟨g9, 0, none⟩) ((F 2).length + 1) cap9) (F 2 ++ [TX]) ∧ Kept (fun k => (Value.slice adx (F 2).length capx).ownBlock = some k) w2 w9 ∧ ((Value.slice adx (F 2).length capx).ownBlock = some g9 ∨ w2.heap.size ≤ g9)) := hide ⟨hrow9, hk9, hg9⟩; clear hrow9 hk9 hg9))
     have hg9 : w.heap.size ≤ g9 := X.out.2.2.elim (hxown g9) (fun h => Nat.le_trans hb3.size h);have hb9 := hb3.trans (X.out.2.1.below hb3.size (fun k hk => hxown k hk));refine ⟨⟨2 + 1, by omega, by go_num, by rw [hq.out]; exact X.out.1, fun g' h' => ?_, hb9⟩, by simp [intOf]; omega⟩;have : g9 = g' := by simpa [Value.ownBlock] using h'
     omega
   ·cases hbb : bitB mask 3 with
    | false =>
     have e1 : bits .and .u8 (mask : Int) 8 = 0 := by rw [hbb] at hbit; simpa using hbit
     have hq := hide (hn9.out hbb);clear hy9 hn9 hbit hFr2 hbb;go_wp2;exact ⟨⟨3 + 1, by omega, by go_num, by rw [hq.out]; exact hrow, hxown, hb⟩, by simp [intOf]; omega⟩
    | true =>
     have e1 : bits .and .u8 (mask : Int) 8 = 8 := by rw [hbb] at hbit; simpa using hbit
     have hq := hide (hy9.out hbb);clear hy9 hn9 hbit hbb;go_wp2_with fail
     refine (hFr2.out _ hPu).mono ?_;rintro e w2 ⟨rfl, hb2⟩;have hrow2 := hrow.below hb2;have hb3 := hb.trans (hb2.mono hb.size);clear hFr2 c0 c1 c2 c3 hcu hrow
     go_wp2_with (first
      | (at_builtin; refine wpList_row txtCell_length w2 (by rfl) _ _ 38 (by rfl) 9 i0 _ 16 Tryz.underlying38 hi0 y0 y1 y2 rfl (by decide) (.slice adx (F 3).length capx) (F 3) (by rfl) hrow2 1 TX (by rfl) (txt_one _) (by unfold maxLen; omega) (by omega) ?_ _ (by rfl); intro g9 cap9 w9 hrow9 hk9 hg9 hlt9; have X : Hid (RowOf w9 9 1 txtCell (.slice (some ⟨g9, 0, none⟩) ((F 3).length + 1) cap9) (F 3 ++ [TX]) ∧ Kept (fun k => (Value.slice adx (F 3).length capx).ownBlock = some k) w2 w9 ∧ ((Value.slice adx (F 3).length capx).ownBlock = some g9 ∨ w2.heap.size ≤ g9)) := hide ⟨hrow9, hk9, hg9⟩; clear hrow9 hk9 hg9))
     have hg9 : w.heap.size ≤ g9 := X.out.2.2.elim (hxown g9) (fun h => Nat.le_trans hb3.size h);have hb9 := hb3.trans (X.out.2.1.below hb3.size (fun k hk => hxown k hk));refine ⟨⟨3 + 1, by omega, by go_num, by rw [hq.out]; exact X.out.1, fun g' h' => ?_, hb9⟩, by simp [intOf]; omega⟩;have : g9 = g' := by simpa [Value.ownBlock] using h'
     omega
  ·obtain rfl : n = pl.length := by omega
   have dl : decide ((pl.length : Int) < (pl.length : Int)) = false := by simp
   replace hrow := hide hrow;replace hxown := hide hxown;replace hb := hide hb;clear hFr hyes hno hcu hc;go_wp2;go_ret;exact ⟨⟨_, rfl, by rw [hz.out]; exact hrow.out, hxown.out⟩, hb.out⟩
def remindsOf (p : Pm) (acts : List Dt) : List (List UInt8) := if (stOf p acts).1 = 1 then asksOf p 1 (stOf p acts).2.1 else asksOf p (askKind (stOf p acts).1) (stOf p acts).2.2.1
theorem askKind_lt (st : Nat) : askKind st < 256 := by unfold askKind; split; omega; split <;> omega
theorem reminds_any (p : Pm) (hp : p.ok) (hm : p.memo.length ≤ 140737488351232) (hl4 : p.legs.length ≤ 4) (w : World) (B : Nat) (acts : List Dt) (v : Value) (hR : RD w B acts v) (hok : ∀ x, x ∈ acts → x.ok) (h4 : ∀ x, x ∈ acts → few4 x) (hlen : acts.length ≤ 1000000000000) (hL : RowOf w 67 4 Pl.cells p.lv p.legs) :
  Calls Tryz.prog 128 #[.pointer (some ⟨B, 0, none⟩), p.v] w fun e w' => (∃ lv, e = .returned lv ∧ RowOf w' 9 1 txtCell lv (remindsOf p acts) ∧ ∀ g, lv.ownBlock = some g → w.heap.size ≤ g) ∧ Below w.heap.size w w' := by
 have hS := hide (fun u hu => status_any p hp hl4 u B acts v hu hok h4 hlen)
 have hbd := stOf_bd p acts h4
 have hA := hide (fun k but (hk : k < 256) (hb : but < 1000) u hu => asks_any p hp hm k but hk hb u hu hl4)
 have hz : Hid (remindsOf p acts = if (stOf p acts).1 = 1 then asksOf p 1 (stOf p acts).2.1 else asksOf p (askKind (stOf p acts).1) (stOf p acts).2.2.1) := hide rfl
 generalize stOf p acts = S at *
 obtain ⟨s1, s2, s3, s4⟩ := S
 have hkd := hide (fun u => kind_any s1 (by simp only at hbd; omega) u)
 generalize remindsOf p acts = Z at *
 obtain ⟨b1, b2, b3, _⟩ := hbd
 simp only at hS hz b1 b2 b3
 obtain ⟨pi, pd, pm, pl, pa, pc⟩ := p
 simp only [Pm.v, Pm.lv] at *
 have hB0 : Hid (Below w.heap.size w (w.alloc (.cells #[.int .u32 (pi : Int), .int .u64 (pd : Int), .string (bs pm), .slice pa pl.length pc] 69))) := hide ((Below.refl _ _).alloc (Nat.le_refl _) _)
 go_enter Tryz.func128, Tryz.ntmps128
 go_wp2_with fail
 refine (hS.out _ (hR.below hB0.out)).mono ?_
 rintro e w2 ⟨rfl, hb2⟩
 have hp2 : w2.heap[w.heap.size]? = some (.cells #[.int .u32 (pi : Int), .int .u64 (pd : Int), .string (bs pm), .slice pa pl.length pc] 69 (0, 0)) := by rw [hb2.block _ (by simp)]; exact heap_alloc_self _ _
 have hc : ∀ o, w2.cell? ⟨w.heap.size, o, none⟩ = (#[.int .u32 (pi : Int), .int .u64 (pd : Int), .string (bs pm), .slice pa pl.length pc] : Array Value)[o]? := fun o => cell_at hp2 o
 have hlt2 := block_lt hp2
 have hB2 := hide (hB0.out.trans (hb2.mono hB0.out.size))
 have hL2 := hide (hL.below hB2.out)
 clear hS hb2 hp2 hB0
 by_cases h1 : s1 = 1
 ·subst h1;have hZ : Hid (Z = asksOf ⟨pi, pd, pm, pl, pa, pc⟩ 1 s2) := hide (by rw [hz.out]; simp);have hA2 := hide (hA.out 1 s2 (by omega) (by omega));clear hz hA hkd;go_wp2_with fail
  refine (hA2.out _ hL2.out).mono ?_;rintro e w3 ⟨⟨lv, rfl, hrow, hown⟩, hb3⟩;replace hrow := hide hrow;replace hb3 := hide hb3;replace hown := hide hown;go_wp2;go_ret;exact ⟨⟨_, rfl, by rw [hZ.out]; exact hrow.out, fun g hg => Nat.le_trans hB2.out.size (hown.out g hg)⟩, hB2.out.trans (hb3.out.mono hB2.out.size)⟩
 ·have d1 : ((s1 : Int) == 1) = false := by simp; omega
  have hZ : Hid (Z = asksOf ⟨pi, pd, pm, pl, pa, pc⟩ (askKind s1) s3) := hide (by rw [hz.out]; simp [h1]);have hA2 := hide (hA.out (askKind s1) s3 (askKind_lt _) (by omega));clear hz hA h1;generalize askKind s1 = kd at *;go_wp2_with fail
  go_region_with (first
   | (go_at_call 126; refine (hkd.out _).mono ?_; rintro e u5 ⟨rfl, rfl⟩)
   | (go_at_call 125; refine (hA2.out _ (by first | exact hL2.out | exact hL2.out.below ((Below.refl _ _).drew))).mono ?_; rintro e w3 ⟨⟨lv, rfl, hrow, hown⟩, hb3⟩))
  all_goals (replace hrow := hide hrow; replace hown := hide hown; have hb4 : Hid (Below w2.heap.size w2 w3) := hide (by first | exact hb3 | exact undrew hb3); clear hb3; go_wp2; go_ret; exact ⟨⟨_, rfl, by rw [hZ.out]; exact hrow.out, fun g hg => Nat.le_trans hB2.out.size (hown.out g hg)⟩, hB2.out.trans (hb4.out.mono hB2.out.size)⟩)
end Go.Proofs.YtjkhbjgfoopomabGreat
