import Derived.Test.YtjkhbjgfoopomaaGreatG14
import Derived.Test.YtjkhbjgfoopomaaGreatG7
/-
  The document's ask.
-/
namespace Go.Proofs.YtjkhbjgfoopomaaGreat
open Go.RowKit
set_option linter.unusedVariables false
set_option linter.unusedSimpArgs false
/-- P9 to P11: what is asked of a leg's bank -/
def askMsg (p : Pm) (x : Pl) (leg kind : Nat) : Msg := if kind = 1 then ⟨1, 0, x.b, p.id, leg, x.p, x.g, x.a, p.memo⟩ else ⟨kind, 0, x.b, p.id, leg, 0, 0, 0, []⟩
def askOf (p : Pm) (x : Pl) (leg kind : Nat) : List UInt8 := encOf (askMsg p x leg kind)
theorem askMsg_ok {p : Pm} {x : Pl} {leg kind : Nat} (hp : p.ok) (hx : x.ok) (hl : leg < 256) (hk : kind < 256) : (askMsg p x leg kind).ok := by
  unfold askMsg
  split
  · exact ⟨by show (1 : Nat) < 256; omega, by show (0 : Nat) < 256; omega, hx.1, hp.1, hl, hx.2.1, hx.2.2.1, hx.2.2.2⟩
  · exact ⟨hk, by show (0 : Nat) < 256; omega, hx.1, hp.1, hl, by show (0 : Nat) < 65536; omega, by show (0 : Nat) < 65536; omega, by show (0 : Nat) < 4294967296; omega⟩

set_option maxRecDepth 100000 in
set_option maxHeartbeats 1000000 in
theorem ask_any (p : Pm) (hp : p.ok) (hm : p.memo.length ≤ 140737488351232) (leg kind : Nat) (hk : kind < 256) (w : World) (hR : RowOf w 54 4 Pl.cells p.lv p.legs) (hl : leg < p.legs.length) (hl4 : p.legs.length ≤ 4) :
    Calls Tryz.prog 75 #[p.v, .int .i64 (leg : Int), .int .i64 (kind : Int)] w fun e w' => e = .returned (.string (bs (askOf p p.legs[leg] leg kind))) ∧ Below w.heap.size w w' := by
  have hE := hide (fun u => refEncode_any (askMsg p p.legs[leg] leg kind) (askMsg_ok hp (hp.2.2 _ (List.getElem_mem hl)) (by omega) hk) (by unfold askMsg; split; exact hm; exact Nat.zero_le _) u)
  have hox := hp.2.2 _ (List.getElem_mem hl)
  have hgo : Hid (bs (askOf p p.legs[leg] leg kind) = bs (encOf (askMsg p p.legs[leg] leg kind))) := hide rfl
  obtain ⟨pi, pd, pm, pl, pa, pc⟩ := p
  obtain ⟨hpi, hpd, hpl⟩ := hp
  simp only [Pm.v, Pm.lv] at *
  obtain ⟨ad, cap, hv, hev⟩ := hR.form Pl.cells_length
  obtain ⟨g, hg, hcell, _⟩ := hev leg hl
  have ead : pa = ad := by injection hv
  subst ead
  subst hg
  have hgl : g < w.heap.size := hR.lt rfl
  have c0 := hcell 0 (by decide)
  have c1 := hcell 1 (by decide)
  have c2 := hcell 2 (by decide)
  have c3 := hcell 3 (by decide)
  clear hcell hev hv hpl hR
  generalize pl[leg] = E at *
  obtain ⟨lb, lp, lg, la⟩ := E
  obtain ⟨hlb, hlp, hlg, hla⟩ := hox
  simp only [Pl.cells, List.getElem?_cons_zero, List.getElem?_cons_succ, Nat.add_zero] at c0 c1 c2 c3
  simp only at hlb hlp hlg hla hl
  have hleg : (leg : Int) % 256 = (leg : Int) := by omega
  have hkk : (kind : Int) % 256 = (kind : Int) := by omega
  by_cases h1 : kind = 1
  · subst h1
    have hE2 : Hid (∀ u, Calls Tryz.prog 51 #[.agg #[.int .u8 1, .int .u8 0, .int .u8 (lb : Int), .int .u32 (pi : Int), .int .u8 (leg : Int), .int .u16 (lp : Int), .int .u16 (lg : Int), .int .u32 (la : Int), .string (bs pm)]] u fun e w' => e = .returned (.tuple #[.string (bs (askOf ⟨pi, pd, pm, pl, some ⟨g, 0, none⟩, pc⟩ ⟨lb, lp, lg, la⟩ leg 1)), .int .i64 ((faultOf (askMsg ⟨pi, pd, pm, pl, some ⟨g, 0, none⟩, pc⟩ ⟨lb, lp, lg, la⟩ leg 1) : Nat) : Int)]) ∧ Below u.heap.size u w') := hide (fun u => hE.out u)
    clear hE hgo
    generalize askOf _ _ _ _ = A at *
    generalize faultOf _ = fv at *
    go_enter Tryz.func75, Tryz.ntmps75
    go_wp2_with fail
    try rw [hleg]
    refine (hE2.out _).mono ?_
    rintro e u2 ⟨rfl, hb9⟩
    replace hb9 := hide hb9
    go_wp2
    go_ret
    refine ⟨rfl, Below.trans ?_ (Below.mono hb9.out ?_)⟩
    · repeat' (first | exact Below.refl _ _ | refine Below.setCell ?_ (by first | (simp; done) | (simp; omega)) _ | refine Below.alloc ?_ (by first | (simp; done) | (simp; omega)) _)
    · simp; try omega
  · have d1 : ((kind : Int) == 1) = false := by simp; omega
    have hE2 : Hid (∀ u, Calls Tryz.prog 51 #[.agg #[.int .u8 (kind : Int), .int .u8 0, .int .u8 (lb : Int), .int .u32 (pi : Int), .int .u8 (leg : Int), .int .u16 0, .int .u16 0, .int .u32 0, .string ⟨#[]⟩]] u fun e w' => e = .returned (.tuple #[.string (bs (askOf ⟨pi, pd, pm, pl, some ⟨g, 0, none⟩, pc⟩ ⟨lb, lp, lg, la⟩ leg kind)), .int .i64 ((faultOf (askMsg ⟨pi, pd, pm, pl, some ⟨g, 0, none⟩, pc⟩ ⟨lb, lp, lg, la⟩ leg kind) : Nat) : Int)]) ∧ Below u.heap.size u w') := hide (fun u => by
      have h := hE.out u
      have e : (askMsg ⟨pi, pd, pm, pl, some ⟨g, 0, none⟩, pc⟩ ⟨lb, lp, lg, la⟩ leg kind).v = .agg #[.int .u8 (kind : Int), .int .u8 0, .int .u8 (lb : Int), .int .u32 (pi : Int), .int .u8 (leg : Int), .int .u16 0, .int .u16 0, .int .u32 0, .string ⟨#[]⟩] := by
        simp only [askMsg, if_neg h1]
        rfl
      rw [e] at h
      exact h)
    clear hE hgo h1
    generalize askOf _ _ _ _ = A at *
    generalize faultOf _ = fv at *
    go_enter Tryz.func75, Tryz.ntmps75
    go_wp2_with fail
    try rw [hleg]
    refine (hE2.out _).mono ?_
    rintro e u2 ⟨rfl, hb9⟩
    replace hb9 := hide hb9
    go_wp2
    go_ret
    refine ⟨rfl, Below.trans ?_ (Below.mono hb9.out ?_)⟩
    · repeat' (first | exact Below.refl _ _ | refine Below.setCell ?_ (by first | (simp; done) | (simp; omega)) _ | refine Below.alloc ?_ (by first | (simp; done) | (simp; omega)) _)
    · simp; try omega
end Go.Proofs.YtjkhbjgfoopomaaGreat
/-
  The document's asks.
-/
namespace Go.Proofs.YtjkhbjgfoopomaaGreat
open Go.RowKit
set_option linter.unusedVariables false
set_option linter.unusedSimpArgs false
/-- P9 to P11: the frames to the first legs, those but whose bit is there -/
def asksTo (p : Pm) (k but : Nat) : Nat → List (List UInt8)
  | 0 => []
  | n + 1 => asksTo p k but n ++ (if withOf but n = but then [] else match p.legs[n]? with
    | none => []
    | some x => [askOf p x n k])
def asksOf (p : Pm) (k but : Nat) : List (List UInt8) := asksTo p k but p.legs.length
theorem asksTo_le (p : Pm) (k but : Nat) : ∀ n, (asksTo p k but n).length ≤ n
  | 0 => Nat.le_refl _
  | n + 1 => by
    have := asksTo_le p k but n
    simp only [asksTo, List.length_append]
    split
    · simp; omega
    · split <;> simp <;> omega

set_option maxRecDepth 100000 in
set_option maxHeartbeats 1000000 in
theorem asks_any (p : Pm) (hp : p.ok) (hm : p.memo.length ≤ 140737488351232) (k but : Nat) (hk : k < 256) (hbut : but < 1000) (w : World) (hR : RowOf w 54 4 Pl.cells p.lv p.legs) (hl4 : p.legs.length ≤ 4) :
    Calls Tryz.prog 73 #[p.v, .int .i64 (k : Int), .int .i64 (but : Int)] w fun e w' => (∃ lv, e = .returned lv ∧ RowOf w' 9 1 txtCell lv (asksOf p k but) ∧ ∀ g, lv.ownBlock = some g → w.heap.size ≤ g) ∧ Below w.heap.size w w' := by
  obtain ⟨i0, hi0, y0, y1, y2⟩ := info_parts txtInfo
  have hask := hide (fun leg (hl : leg < p.legs.length) u hu => ask_any p hp hm leg k hk u hu hl hl4)
  have hz : Hid (asksOf p k but = asksTo p k but p.legs.length) := hide rfl
  have hle := hide (asksTo_le p k but)
  have hyes : Hid (∀ n, withOf but n = but → asksTo p k but (n + 1) = asksTo p k but n) := hide (fun n h => by simp [asksTo, h])
  have hno : Hid (∀ n (hn : n < p.legs.length), withOf but n ≠ but → asksTo p k but (n + 1) = asksTo p k but n ++ [askOf p p.legs[n] n k]) := hide (fun n hn h => by simp [asksTo, h, hn])
  obtain ⟨pi, pd, pm, pl, pa, pc⟩ := p
  simp only [Pm.v, Pm.lv] at *
  generalize hF : asksTo ⟨pi, pd, pm, pl, pa, pc⟩ k but = F at *
  generalize asksOf ⟨pi, pd, pm, pl, pa, pc⟩ k but = Z at *
  clear hF
  obtain ⟨hpi, hpd, hpl⟩ := hp
  go_enter Tryz.func73, Tryz.ntmps73
  go_wp2
  have hB0 : Hid (Below w.heap.size w (w.alloc (.cells #[.int .u32 (pi : Int), .int .u64 (pd : Int), .string (bs pm), .slice pa pl.length pc] 44))) := hide ((Below.refl _ _).alloc (Nat.le_refl _) _)
  have hw1 : Hid (w.heap.size + 1 = (w.alloc (.cells #[.int .u32 (pi : Int), .int .u64 (pd : Int), .string (bs pm), .slice pa pl.length pc] 44)).heap.size) := hide (by simp)
  have hp1 : Hid ((w.alloc (.cells #[.int .u32 (pi : Int), .int .u64 (pd : Int), .string (bs pm), .slice pa pl.length pc] 44)).heap[w.heap.size]? = some (.cells #[.int .u32 (pi : Int), .int .u64 (pd : Int), .string (bs pm), .slice pa pl.length pc] 44 (0, 0))) := hide (heap_alloc_self _ _)
  generalize w.alloc (.cells #[.int .u32 (pi : Int), .int .u64 (pd : Int), .string (bs pm), .slice pa pl.length pc] 44) = w1 at *
  go_loopw [7, 8] (fun x c u => ∃ n : Nat, n ≤ pl.length ∧ c = .int .i64 n ∧ RowOf u 9 1 txtCell x (F n) ∧ (∀ g, x.ownBlock = some g → w1.heap.size ≤ g) ∧ Below w1.heap.size w1 u) (fun _ c _ => pl.length - (intOf c).toNat)
  case atStart => exact ⟨0, Nat.zero_le _, rfl, by have h0 : F 0 = [] := List.length_eq_zero_iff.1 (by have := hle.out 0; omega); rw [h0]; exact RowOf.nil _ _, fun g hg => by simp [Value.ownBlock] at hg, Below.refl _ _⟩
  case round =>
    obtain ⟨n, hn, rfl, hrow, hxown, hb⟩ := hrel
    have hFn := hle.out n
    obtain ⟨adx, capx, rfl⟩ := hrow.slice
    have hpu : wr.heap[w.heap.size]? = some (.cells #[.int .u32 (pi : Int), .int .u64 (pd : Int), .string (bs pm), .slice pa pl.length pc] 44 (0, 0)) := by rw [hb.block _ (by have := hw1.out; omega)]; exact hp1.out
    have hc : ∀ o, wr.cell? ⟨w.heap.size, o, none⟩ = (#[.int .u32 (pi : Int), .int .u64 (pd : Int), .string (bs pm), .slice pa pl.length pc] : Array Value)[o]? := fun o => cell_at hpu o
    have hpl1 := block_lt hpu
    have hRr := hide ((hR.below hB0.out).below hb)
    replace hrow := hide hrow
    replace hxown := hide hxown
    replace hb := hide hb
    by_cases hlt : n < pl.length
    · have hn256 : (n : Int) % 256 = (n : Int) := by omega
      have hW := hide (fun u => with_any but n hbut (by omega) u)
      have hbd : Hid (withOf but n < 2000) := hide (by
        unfold withOf
        have : 2 ^ n ≤ 2 ^ 4 := Nat.pow_le_pow_right (by decide) (by omega)
        split <;> omega)
      by_cases hq : withOf but n = but
      · have hy := hide (hyes.out n hq)
        rw [hq] at hW
        have d1 : ((but : Int) != (but : Int)) = false := by simp
        clear hyes hno hq
        go_wp2_with fail
        try rw [hn256]
        refine (hW.out _).mono ?_
        rintro e u2 ⟨rfl, rfl⟩
        go_wp2
        exact ⟨⟨n + 1, hlt, by go_num, by rw [hy.out]; exact hrow.out, hxown.out, hb.out⟩, by simp [intOf]; omega⟩
      · have hy := hide (hno.out n hlt hq)
        have d1 : ((withOf but n : Int) != (but : Int)) = true := by simp; omega
        have hK := hide (hask.out n hlt)
        clear hyes hno hq hask
        generalize withOf but n = WB at *
        generalize askOf _ _ n k = A at *
        go_wp2_with fail
        try rw [hn256]
        refine (hW.out _).mono ?_
        rintro e u2 ⟨rfl, rfl⟩
        go_wp2_with fail
        refine (hK.out _ hRr.out).mono ?_
        rintro e u3 ⟨rfl, hb3⟩
        have hrow2 := hrow.out.below hb3
        have hB3 := hb.out.trans (hb3.mono hb.out.size)
        clear hK hW hc
        generalize hL0 : F n = L at *
        generalize hm0 : L.length = m at *
        have hlo : Hid (L.length = m) := hide hm0
        clear hm0
        go_wp2_with (first
          | (at_builtin; refine wpList_row txtCell_length u3 (by rfl) _ _ 59 (by rfl) 9 i0 _ 16 Tryz.underlying59 hi0 y0 y1 y2 rfl (by decide) (.slice adx m capx) L (by rfl) hrow2 1 A (by rfl) (txt_one _) (by rw [hlo.out]; unfold maxLen; omega) (by rw [hlo.out]; omega) ?_ _ (by rfl); intro g9 cap9 w9 hrow9 hk9 hg9 hlt9; rw [hlo.out] at hrow9; rw [hlo.out]; have X : Hid (RowOf w9 9 1 txtCell (.slice (some ⟨g9, 0, none⟩) (m + 1) cap9) (L ++ [A]) ∧ Kept (fun k => (Value.slice adx m capx).ownBlock = some k) u3 w9 ∧ ((Value.slice adx m capx).ownBlock = some g9 ∨ u3.heap.size ≤ g9)) := hide ⟨hrow9, hk9, hg9⟩; clear hrow9 hk9 hg9))
        have hg9 : w1.heap.size ≤ g9 := X.out.2.2.elim (hxown.out g9) (fun h => Nat.le_trans hB3.size h)
        have hb9 := hB3.trans (X.out.2.1.below hB3.size (fun k hk => hxown.out k hk))
        refine ⟨⟨n + 1, hlt, by go_num, by rw [hy.out]; exact X.out.1, fun g' h' => ?_, hb9⟩, by simp [intOf]; omega⟩
        have : g' = g9 := by simpa [Value.ownBlock] using h'.symm
        omega
    · obtain rfl : n = pl.length := by omega
      go_wp2
      go_ret
      exact ⟨⟨_, rfl, by rw [hz.out]; exact hrow.out, fun g hg => Nat.le_trans hB0.out.size (hxown.out g hg)⟩, hB0.out.trans (hb.out.mono hB0.out.size)⟩
end Go.Proofs.YtjkhbjgfoopomaaGreat
/-
  The program's notary in memory; find, status, hasLeg.
-/
namespace Go.Proofs.YtjkhbjgfoopomaaGreat
open Go.RowKit
set_option linter.unusedVariables false
set_option linter.unusedSimpArgs false
/-- a payment that the program's notary keeps -/
structure Xp where
  pm : Pm
  st : Nat
  held : Nat
  done : Nat
def Xp.ok (x : Xp) : Prop := x.pm.ok ∧ x.st < 256 ∧ x.held < 256 ∧ x.done < 256
def Xp.cells (x : Xp) : List Value := [.int .u32 (x.pm.id : Int), .int .u64 (x.pm.dl : Int), .string (bs x.pm.memo), .slice x.pm.la x.pm.legs.length x.pm.lc, .int .u8 (x.st : Int), .int .u8 (x.held : Int), .int .u8 (x.done : Int)]
theorem Xp.cells_length (x : Xp) : x.cells.length = 7 := rfl
/-- a notary of the program's lies at B -/
structure XD (w : World) (B ck : Nat) (ps : List Xp) (v : Value) : Prop where
  blk : w.heap[B]? = some (.cells #[.int .u64 (ck : Int), v] 137 (0, 0))
  row : RowOf w 194 7 Xp.cells v ps
  legs : ∀ x, x ∈ ps → RowOf w 54 4 Pl.cells x.pm.lv x.pm.legs
theorem XD.lt {w : World} {B ck : Nat} {ps : List Xp} {v : Value} (h : XD w B ck ps v) : B < w.heap.size := block_lt h.blk
theorem XD.below {w u : World} {B ck : Nat} {ps : List Xp} {v : Value} (h : XD w B ck ps v) (hb : Below w.heap.size w u) : XD u B ck ps v :=
  ⟨by rw [hb.block B h.lt]; exact h.blk, h.row.below hb, fun x hx => (h.legs x hx).below hb⟩
/-- where a payment stands; the list's length, if it is not kept -/
def findX (id : Nat) : List Xp → Nat
  | [] => 0
  | x :: r => if x.pm.id = id then 0 else findX id r + 1
theorem findX_le (id : Nat) : ∀ ps, findX id ps ≤ ps.length
  | [] => Nat.le_refl _
  | x :: r => by
    have := findX_le id r
    simp only [findX, List.length_cons]
    split <;> omega
theorem findX_at (id : Nat) : ∀ (ps : List Xp) (h : findX id ps < ps.length), ps[findX id ps].pm.id = id
  | [], h => by simp at h
  | x :: r, h => by
    simp only [findX] at h ⊢
    split at h
    · rename_i e
      simp [e]
    · rename_i e
      simp only [e, if_false, List.getElem_cons_succ]
      exact findX_at id r (by simpa using h)
theorem findX_no (id : Nat) : ∀ (ps : List Xp) (k : Nat) (h : k < ps.length), k < findX id ps → ps[k].pm.id ≠ id
  | [], k, h, _ => by simp at h
  | x :: r, k, h, hk => by
    simp only [findX] at hk
    split at hk
    · omega
    · rename_i e
      cases k with
      | zero => exact e
      | succ k => exact findX_no id r k (by simpa using h) (by omega)
theorem findX_is (id : Nat) (ps : List Xp) (k : Nat) (hk : k ≤ ps.length) (hno : ∀ j (hj : j < ps.length), j < k → ps[j].pm.id ≠ id) (hat : ∀ h : k < ps.length, ps[k].pm.id = id) : findX id ps = k := by
  have h1 := findX_le id ps
  rcases Nat.lt_trichotomy (findX id ps) k with h | h | h
  · have h2 : findX id ps < ps.length := by omega
    exact absurd (findX_at id ps h2) (hno _ h2 h)
  · exact h
  · have h2 : k < ps.length := by omega
    exact absurd (hat h2) (findX_no id ps k h2 h)
set_option maxRecDepth 100000 in
set_option maxHeartbeats 1000000 in
theorem xfind_any (id : Nat) (hid : id < 4294967296) (w : World) (B ck : Nat) (ps : List Xp) (v : Value) (hX : XD w B ck ps v) (hok : ∀ x, x ∈ ps → x.ok) (hlen : ps.length ≤ 1000000) :
    Calls Tryz.prog 102 #[.pointer (some ⟨B, 0, none⟩), .int .u32 (id : Int)] w fun e w' => e = .returned (.int .i64 (findX id ps : Int)) ∧ w' = w := by
  obtain ⟨ad, cap, hv, hev⟩ := hX.row.form Xp.cells_length
  subst hv
  have hc : ∀ o, w.cell? ⟨B, o, none⟩ = (#[.int .u64 (ck : Int), .slice ad ps.length cap] : Array Value)[o]? := fun o => cell_at hX.blk o
  go_enter Tryz.func102, Tryz.ntmps102
  go_wp2
  go_loopw [5] (fun c u => ∃ k : Nat, k ≤ ps.length ∧ c = .int .i64 k ∧ (∀ j (hj : j < ps.length), j < k → ps[j].pm.id ≠ id) ∧ u = w) (fun c _ => ps.length - (intOf c).toNat)
  case atStart => exact ⟨0, Nat.zero_le _, rfl, fun j hj h => by omega, rfl⟩
  case round =>
    obtain ⟨k, hk, rfl, hno, rfl⟩ := hrel
    replace hno := hide hno
    by_cases hlt : k < ps.length
    · obtain ⟨g, hg, hcell, _⟩ := hev k hlt
      subst hg
      have c0 := hcell 0 (by decide)
      have hek := hok ps[k] (List.getElem_mem hlt)
      have hlk : (k : Int) < (ps.length : Int) := by omega
      have dl : decide ((k : Int) < (ps.length : Int)) = true := by simp; omega
      have hnx : Hid (ps[k].pm.id ≠ id → ∀ j (hj : j < ps.length), j < k + 1 → ps[j].pm.id ≠ id) := hide (fun h j hj hj2 => by
        rcases Nat.lt_or_ge j k with x | x
        · exact hno.out j hj x
        · obtain rfl : j = k := by omega
          exact h)
      have hqq : Hid (ps[k].pm.id = id → findX id ps = k) := hide (fun h => findX_is id ps k hk hno.out (fun _ => h))
      clear hcell hev hno
      generalize ps[k] = E at *
      obtain ⟨⟨pi, pd, pm, pl, pa, pc⟩, st, he, dn⟩ := E
      obtain ⟨⟨hpi, _, _⟩, _⟩ := hek
      simp only [Xp.cells, List.getElem?_cons_zero, Nat.add_zero] at c0 hpi hnx hqq
      by_cases hi : pi = id
      · have di : ((pi : Int) != (id : Int)) = false := by simp; omega
        have hq := hide (hqq.out hi)
        clear hnx hqq hi
        go_wp2
        go_ret
        exact ⟨by rw [hq.out]; rfl, rfl⟩
      · have di : ((pi : Int) != (id : Int)) = true := by simp; omega
        have hq := hide (hnx.out hi)
        clear hnx hqq hi
        go_wp2
        exact ⟨⟨k + 1, hlt, by go_num, hq.out, trivial⟩, by simp [intOf]; omega⟩
    · obtain rfl : k = ps.length := by omega
      have hq : Hid (findX id ps = ps.length) := hide (findX_is id ps _ (Nat.le_refl _) hno.out (fun h => by omega))
      have dl : decide ((ps.length : Int) < (ps.length : Int)) = false := by simp
      clear hev hno
      go_wp2
      go_ret
      exact ⟨by rw [hq.out]; rfl, rfl⟩
/-- a payment in a box of its own -/
structure PBox (w : World) (b : Nat) (x : Xp) : Prop where
  blk : w.heap[b]? = some (.cells x.cells.toArray 194 (0, 0))
  legs : RowOf w 54 4 Pl.cells x.pm.lv x.pm.legs
theorem PBox.lt {w : World} {b : Nat} {x : Xp} (h : PBox w b x) : b < w.heap.size := block_lt h.blk
theorem PBox.below {w u : World} {b : Nat} {x : Xp} (h : PBox w b x) (hb : Below w.heap.size w u) : PBox u b x :=
  ⟨by rw [hb.block b h.lt]; exact h.blk, h.legs.below hb⟩
set_option maxRecDepth 100000 in
set_option maxHeartbeats 1000000 in
theorem pstatus_any (w : World) (b : Nat) (x : Xp) (hx : x.ok) (hP : PBox w b x) :
    Calls Tryz.prog 105 #[.pointer (some ⟨b, 0, none⟩)] w fun e w' => e = .returned (.agg #[.int .u8 (x.st : Int), .int .u8 (x.held : Int), .int .u8 (x.done : Int)]) ∧ Below w.heap.size w w' := by
  have hc := fun o => cell_at hP.blk o
  have hbl := hP.lt
  obtain ⟨⟨pi, pd, pm, pl, pa, pc⟩, st, he, dn⟩ := x
  simp only [Xp.cells] at *
  go_enter Tryz.func105, Tryz.ntmps105
  go_wp2_with fail
  go_region
  go_wp2
  refine bodyPost_ret (v := .agg #[.int .u8 (st : Int), .int .u8 (he : Int), .int .u8 (dn : Int)]) (by simp [results, Tryz.results105, go_sem]) rfl ⟨rfl, ?_⟩
  repeat' (first | exact Below.refl _ _ | refine Below.drew ?_ | refine Below.setCell ?_ (by simp) _ | refine Below.alloc ?_ (by simp) _)
end Go.Proofs.YtjkhbjgfoopomaaGreat
