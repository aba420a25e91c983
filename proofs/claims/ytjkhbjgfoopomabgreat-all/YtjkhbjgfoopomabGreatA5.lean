import Derived.Test.YtjkhbjgfoopomabGreatA3
import Derived.BigQuiet
namespace Go.Proofs.YtjkhbjgfoopomabGreat
open Go.RowKit
set_option maxRecDepth 100000
set_option maxHeartbeats 1000000
set_option linter.unusedVariables false
set_option linter.unusedSimpArgs false
structure RBTo (w w' : World) (B node : Nat) (evs' : List Ev) (v v' : Value) : Prop where
 rb : RB w' B node evs' v'
 kept : Kept (fun k => k = B ∨ v.ownBlock = some k) w w'
 own : ∀ g, v'.ownBlock = some g → v.ownBlock = some g ∨ w.heap.size ≤ g
 ap : v'.ownBlock ≠ some B
theorem RBTo.from {w w1 w2 : World} {B node : Nat} {evs' : List Ev} {v v' : Value} (hb : Below w.heap.size w w1) (h : RBTo w1 w2 B node evs' v v') : RBTo w w2 B node evs' v v' :=
 ⟨h.rb, (Kept.of_below hb).trans h.kept (fun i hi => .inl hi), fun g hg => (h.own g hg).imp_right (fun x => Nat.le_trans hb.size x), h.ap⟩
theorem RB.grow {w w2 : World} {B node g n cap : Nat} {evs : List Ev} {e : Ev} {v : Value} (hR : RB w B node evs v) (hap : v.ownBlock ≠ some B) (hrow : RowOf w2 207 11 Ev.cells (.slice (some ⟨g, 0, none⟩) n cap) (evs ++ [e]))
  (hk : Kept (fun k => v.ownBlock = some k) w w2) (hg : v.ownBlock = some g ∨ w.heap.size ≤ g) : RBTo w (w2.setCell ⟨B, 1, none⟩ (.slice (some ⟨g, 0, none⟩) n cap)) B node (evs ++ [e]) v (.slice (some ⟨g, 0, none⟩) n cap) := by
 have hB : w2.heap[B]? = some (.cells #[.int .u8 (node : Int), v] 163 (0, 0)) := by rw [hk.block B hR.lt hap]; exact hR.blk
 have hgB : g ≠ B := by
  rcases hg with h | h
  ·intro e; subst e; exact hap h
  ·have := hR.lt; omega
 refine ⟨⟨heap_set_self hB 1 _, hrow.kept (Kept.of_setCell _ _ _) ?_⟩, ?_, ?_, ?_⟩
 ·intro g' h';have : g' = g := by simpa [Value.ownBlock] using h'.symm
  subst this;exact hgB
 ·exact (hk.mono (fun i _ h => .inr h)).trans (Kept.of_setCell _ _ _) (fun i h => .inl (.inl h))
 ·intro g' h';have : g' = g := by simpa [Value.ownBlock] using h'.symm
  subst this;exact hg
 ·intro h';exact hgB (by simpa [Value.ownBlock] using h')
theorem evInfo : (Tryz.prog.info? 207).map (fun i => (i.zero, i.size, i.bytes)) = some (some (.agg #[.int .i64 0, .int .u8 0, .int .u8 0, .int .u8 0, .int .u32 0, .int .u8 0, .int .u16 0, .int .u16 0, .int .u32 0, .string ByteArray.empty, .bool false]), 11, 56) := by kernel_rfl
theorem ev_one (e : Ev) : ∀ u ∈ e.cells, u.oneCell' = true := by
 intro u hu
 simp only [Ev.cells, List.mem_cons, List.not_mem_nil, or_false] at hu
 rcases hu with h | h | h | h | h | h | h | h | h | h | h <;> subst h <;> rfl
def openEv (a b : Nat) : Ev := ⟨0, ⟨0, 0, 0, 0, 0, a, 0, b, []⟩, false⟩
def openErr (a : Nat) (evs : List Ev) : Nat := if (openedOf a evs).2.1 then 9 else if 16 ≤ (openedOf a evs).2.2 then 10 else 0
def openEvs (a b : Nat) (evs : List Ev) : List Ev := if openErr a evs = 0 then evs ++ [openEv a b] else evs
theorem refOpen_any (a b : Nat) (ha : a < 65536) (hb32 : b < 4294967296) (w : World) (B node : Nat) (evs : List Ev) (v : Value) (hR : RB w B node evs v) (hap : v.ownBlock ≠ some B) (hok : ∀ e, e ∈ evs → e.ok) (hlen : evs.length ≤ 1000000) :
  Calls Tryz.prog 77 #[.pointer (some ⟨B, 0, none⟩), .int .u16 (a : Int), .int .u32 (b : Int)] w fun e w' =>
   e = .returned (.int .i64 (openErr a evs : Int)) ∧ ∃ v', RBTo w w' B node (openEvs a b evs) v v' := by
 have hO := hide (opened_any a ha w B node evs v hR hok hlen)
 have hz : Hid (openErr a evs = if (openedOf a evs).2.1 then 9 else if 16 ≤ (openedOf a evs).2.2 then 10 else 0) := hide rfl
 have hz2 : Hid (openEvs a b evs = if openErr a evs = 0 then evs ++ [openEv a b] else evs) := hide rfl
 have hbd := openedOf_bd a evs hok
 generalize openEvs a b evs = E' at *
 generalize openErr a evs = er at *
 generalize openedOf a evs = S at *
 obtain ⟨s1, s2, s3⟩ := S
 have stay : Hid (∀ u, Below w.heap.size w u → RBTo w u B node evs v v) := hide (fun u hu => ⟨hR.below hu, Kept.of_below hu, fun g h => .inl h, hap⟩)
 obtain ⟨i0, hi, y0, y1, y2⟩ := info_parts evInfo
 obtain ⟨ad, cap, hv, hev⟩ := hR.form
 clear hev
 subst hv
 cases s2 with
 | true =>
  have hq : Hid (er = 9) := hide (by rw [hz.out]; simp);have hq2 : Hid (E' = evs) := hide (by rw [hz2.out, hq.out]; simp);clear hz hz2;go_enter Tryz.func77, Tryz.ntmps77;go_wp2_with fail
  refine hO.out.mono ?_;rintro e w1 ⟨rfl, hb⟩;clear hO;go_wp2;go_ret;exact ⟨by rw [hq.out]; rfl, _, by rw [hq2.out]; exact stay.out _ hb⟩
 | false =>
  by_cases h16 : 16 ≤ s3
  ·have d16 : decide ((16 : Int) ≤ (s3 : Int)) = true := by simp; omega
   have d16' : decide ((s3 : Int) ≥ 16) = true := by simp; omega
   have hq : Hid (er = 10) := hide (by rw [hz.out]; simp [h16]);have hq2 : Hid (E' = evs) := hide (by rw [hz2.out, hq.out]; simp);clear hz hz2;go_enter Tryz.func77, Tryz.ntmps77;go_wp2_with fail
   refine hO.out.mono ?_;rintro e w1 ⟨rfl, hb⟩;clear hO;go_wp2;go_ret;exact ⟨by rw [hq.out]; rfl, _, by rw [hq2.out]; exact stay.out _ hb⟩
  ·have d16 : decide ((16 : Int) ≤ (s3 : Int)) = false := by simp; omega
   have d16' : decide ((s3 : Int) ≥ 16) = false := by simp; omega
   have hq : Hid (er = 0) := hide (by rw [hz.out]; simp [h16]);have hq2 : Hid (E' = evs ++ [openEv a b]) := hide (by rw [hz2.out, hq.out]; simp);clear hz hz2 stay;go_enter Tryz.func77, Tryz.ntmps77;go_wp2_with fail
   refine hO.out.mono ?_;rintro e w1 ⟨rfl, hb⟩;have hR1 := hR.below hb;have hc : ∀ o, _ = _ := fun o => cell_at hR1.blk o;have hf : ∀ o, _ = _ := fun o => frozen_at hR1.blk o;have hBl := hR1.lt;clear hO;have hrow1 := hR1.row
   go_wp2_with (first
    | (at_builtin; refine wpList_row Ev.cells_length w1 (by rfl) _ _ 161 (by rfl) 207 i0 _ 56 Tryz.underlying161 hi y0 y1 y2 rfl (by decide) (.slice ad evs.length cap) evs (by rfl) hrow1 1 (openEv a b) (by rfl) (ev_one _) (by unfold maxLen; omega) (by omega) ?_ _ (by rfl); intro g cap' w2 hrow2 hk2 hg2 hlt2; have hblk : w2.heap[B]? = some (.cells #[.int .u8 (node : Int), .slice ad evs.length cap] 163 (0, 0)) := (by rw [hk2.block B hBl hap]; exact hR1.blk); have hc2 := fun o => cell_at hblk o; have hf2 := fun o => frozen_at hblk o; have X : Hid (RowOf w2 207 11 Ev.cells (.slice (some ⟨g, 0, none⟩) (evs.length + 1) cap') (evs ++ [openEv a b]) ∧ Kept (fun k => (Value.slice ad evs.length cap).ownBlock = some k) w1 w2 ∧ ((Value.slice ad evs.length cap).ownBlock = some g ∨ w1.heap.size ≤ g)) := hide ⟨hrow2, hk2, hg2⟩; clear hrow2 hk2 hg2 hblk))
   go_ret;exact ⟨by rw [hq.out]; rfl, _, by rw [hq2.out]; exact RBTo.from hb (RB.grow hR1 hap X.out.1 X.out.2.1 X.out.2.2)⟩
end Go.Proofs.YtjkhbjgfoopomabGreat
namespace Go.Proofs.YtjkhbjgfoopomabGreat
set_option linter.unusedVariables false
def val (l : List UInt8) : Nat := l.foldl (fun v b => v * 256 + b.toNat) 0
theorem val_snoc (l : List UInt8) (b : UInt8) : val (l ++ [b]) = val l * 256 + b.toNat := by simp [val, List.foldl_append]
theorem val_from (l : List UInt8) : ∀ (v k : Nat), v < 256 ^ k → l.foldl (fun v b => v * 256 + b.toNat) v < 256 ^ (k + l.length) := by
 induction l with
 | nil => intro v k h; exact h
 | cons b l ih =>
  intro v k h;have hb := b.toNat_lt;have := ih (v * 256 + b.toNat) (k + 1) (by rw [Nat.pow_succ]; omega);simp only [List.foldl_cons, List.length_cons]
  rwa [show k + (l.length + 1) = k + 1 + l.length by omega]
theorem val_lt (l : List UInt8) : val l < 256 ^ l.length := by
 have := val_from l 0 0 (by decide)
 rwa [Nat.zero_add] at this
theorem val_lt4 {l : List UInt8} (h : l.length ≤ 4) : val l < 4294967296 := by
 have h1 := val_lt l
 have h2 : 256 ^ l.length ≤ 256 ^ 4 := Nat.pow_le_pow_right (by decide) h
 omega
theorem val_lt2 {l : List UInt8} (h : l.length ≤ 2) : val l < 65536 := by
 have h1 := val_lt l
 have h2 : 256 ^ l.length ≤ 256 ^ 2 := Nat.pow_le_pow_right (by decide) h
 omega
theorem val_lt3 {l : List UInt8} (h : l.length ≤ 3) : val l < 16777216 := by
 have h1 := val_lt l
 have h2 : 256 ^ l.length ≤ 256 ^ 3 := Nat.pow_le_pow_right (by decide) h
 omega
def at8 (l : List UInt8) (i : Nat) : Nat := (l.getD i 0).toNat
theorem at8_lt (l : List UInt8) (i : Nat) : at8 l i < 256 := (l.getD i 0).toNat_lt
def cut (l : List UInt8) (a b : Nat) : List UInt8 := (l.drop a).take (b - a)
theorem cut_length {l : List UInt8} {a b : Nat} (h : b ≤ l.length) : (cut l a b).length = b - a := by
 simp [cut]; omega
def sayOf (l : List UInt8) : Msg := ⟨at8 l 1, at8 l 2, at8 l 3, val (cut l 4 8), at8 l 8, val (cut l 9 11), val (cut l 11 13), val (cut l 13 17), cut l 18 (l.length - 4)⟩
def formB (l : List UInt8) : Bool := decide (22 ≤ l.length) && decide (at8 l 0 = 69) && decide (l.length = 22 + at8 l 17)
def sealB (l : List UInt8) : Bool := decide (val (cut l (l.length - 4) l.length) = sumOf (cut l 0 (l.length - 4)))
def decErr (l : List UInt8) : Nat := if !formB l then 1 else if !sealB l then 2 else faultOf (sayOf l)
def Msg.zero : Msg := ⟨0, 0, 0, 0, 0, 0, 0, 0, []⟩
def decMsg (l : List UInt8) : Msg := if decErr l = 0 then sayOf l else Msg.zero
theorem sayOf_ok {l : List UInt8} (h : 22 ≤ l.length) : (sayOf l).ok :=
 ⟨at8_lt _ _, at8_lt _ _, at8_lt _ _, val_lt4 (by rw [cut_length (by omega)]; decide), at8_lt _ _, val_lt2 (by rw [cut_length (by omega)]; decide), val_lt2 (by rw [cut_length (by omega)]; decide), val_lt4 (by rw [cut_length (by omega)]; decide)⟩
theorem zero_ok : Msg.zero.ok := ⟨by decide, by decide, by decide, by decide, by decide, by decide, by decide, by decide⟩
structure Pl where
 b : Nat
 p : Nat
 g : Nat
 a : Nat
def Pl.ok (x : Pl) : Prop := x.b < 256 ∧ x.p < 65536 ∧ x.g < 65536 ∧ x.a < 4294967296
def Pl.cells (x : Pl) : List Value := [.int .u8 (x.b : Int), .int .u16 (x.p : Int), .int .u16 (x.g : Int), .int .u32 (x.a : Int)]
theorem Pl.cells_length (x : Pl) : x.cells.length = 4 := rfl
structure Pm where
 id : Nat
 dl : Nat
 memo : List UInt8
 legs : List Pl
 la : Option Addr
 lc : Nat
def Pm.lv (x : Pm) : Value := .slice x.la x.legs.length x.lc
def Pm.ok (x : Pm) : Prop := x.id < 4294967296 ∧ x.dl < 18446744073709551616 ∧ ∀ l, l ∈ x.legs → l.ok
def Pm.v (x : Pm) : Value := .agg #[.int .u32 (x.id : Int), .int .u64 (x.dl : Int), .string (bs x.memo), x.lv]
def noPm : Pm := ⟨0, 0, [], [], none, 0⟩
structure Dt where
 kind : Int
 pay : Pm
 msg : Msg
def Dt.ok (x : Dt) : Prop := -1 ≤ x.kind ∧ x.kind ≤ 6 ∧ x.pay.ok ∧ x.msg.ok
def Dt.cells (x : Dt) : List Value := [.int .i64 x.kind, .int .u32 (x.pay.id : Int), .int .u64 (x.pay.dl : Int), .string (bs x.pay.memo), x.pay.lv, .int .u8 (x.msg.k : Int), .int .u8 (x.msg.f : Int), .int .u8 (x.msg.t : Int), .int .u32 (x.msg.i : Int), .int .u8 (x.msg.l : Int), .int .u16 (x.msg.p : Int), .int .u16 (x.msg.g : Int), .int .u32 (x.msg.a : Int), .string (bs x.msg.m)]
theorem Dt.cells_length (x : Dt) : x.cells.length = 14 := rfl
def clockStep (n : Nat) (x : Dt) : Nat := if x.kind = 0 then n + 1 else n
def clockOf (acts : List Dt) : Nat := acts.foldl clockStep 0
theorem clockOf_snoc (acts : List Dt) (x : Dt) : clockOf (acts ++ [x]) = clockStep (clockOf acts) x := by simp [clockOf, List.foldl_append]
theorem clockFold_le (acts : List Dt) : ∀ n, acts.foldl clockStep n ≤ n + acts.length := by
 induction acts with
 | nil => intro n; simp
 | cons x r ih =>
  intro n;have h := ih (clockStep n x);have h2 : clockStep n x ≤ n + 1 := by unfold clockStep; split <;> omega
  simp only [List.foldl_cons, List.length_cons];omega
theorem clockOf_le (acts : List Dt) : clockOf acts ≤ acts.length := by
 have := clockFold_le acts 0
 unfold clockOf
 omega
def findStep (id : Nat) (s : Pm × Bool × Nat) (x : Dt) : Pm × Bool × Nat := if x.kind = -1 then (if x.pay.id = id then (x.pay, true, s.2.2 + 1) else (s.1, s.2.1, s.2.2 + 1)) else s
def findOf (id : Nat) (acts : List Dt) : Pm × Bool × Nat := acts.foldl (findStep id) (noPm, false, 0)
theorem findOf_snoc (id : Nat) (acts : List Dt) (x : Dt) : findOf id (acts ++ [x]) = findStep id (findOf id acts) x := by simp [findOf, List.foldl_append]
theorem findFold_le (id : Nat) (acts : List Dt) : ∀ s, (acts.foldl (findStep id) s).2.2 ≤ s.2.2 + acts.length := by
 induction acts with
 | nil => intro n; simp
 | cons x r ih =>
  intro s;have h := ih (findStep id s x);have h2 : (findStep id s x).2.2 ≤ s.2.2 + 1 := by unfold findStep; (repeat' split) <;> simp
  simp only [List.foldl_cons, List.length_cons];omega
theorem findOf_le (id : Nat) (acts : List Dt) : (findOf id acts).2.2 ≤ acts.length := by
 have := findFold_le id acts (noPm, false, 0)
 unfold findOf
 simpa using this
def fullOf (n : Nat) : Nat := 2 ^ n - 1
def withOf (bits leg : Nat) : Nat := if bits / 2 ^ leg % 2 = 1 then bits else bits + 2 ^ leg
def askKind (st : Nat) : Nat := if st = 1 then 1 else if st = 2 then 2 else 3
end Go.Proofs.YtjkhbjgfoopomabGreat
namespace Go.Proofs.YtjkhbjgfoopomabGreat
open Go.RowKit
set_option maxRecDepth 100000
set_option maxHeartbeats 1000000
set_option linter.unusedVariables false
set_option linter.unusedSimpArgs false
structure RD (w : World) (B : Nat) (acts : List Dt) (v : Value) : Prop where
 blk : w.heap[B]? = some (.cells #[v] 155 (0, 0))
 row : RowOf w 216 14 Dt.cells v acts
 legs : ∀ x, x ∈ acts → RowOf w 67 4 Pl.cells x.pay.lv x.pay.legs
theorem RD.lt {w : World} {B : Nat} {acts : List Dt} {v : Value} (h : RD w B acts v) : B < w.heap.size := block_lt h.blk
theorem RD.below {w u : World} {B : Nat} {acts : List Dt} {v : Value} (h : RD w B acts v) (hb : Below w.heap.size w u) : RD u B acts v :=
 ⟨by rw [hb.block B h.lt]; exact h.blk, h.row.below hb, fun x hx => (h.legs x hx).below hb⟩
def LegsAt (w : World) (la : Option Addr) (legs : List Pl) : Prop := ∀ k (hk : k < legs.length), ∃ a, la = some a ∧ a.block < w.heap.size ∧ ∀ j v, legs[k].cells[j]? = some v → w.cell? ((a.add (k * 4)).add j) = some v
theorem addr_block (a : Addr) (n : Nat) : (a.add n).block = a.block := by unfold Addr.add; split <;> rfl
theorem addr_add (a : Addr) (i j : Nat) : (a.add i).add j = a.add (i + j) := by
 unfold Addr.add
 by_cases hi : i = 0
 ·subst hi; simp
 ·by_cases hj : j = 0
  ·subst hj; simp [hi]
  ·simp [hi, hj, Nat.add_assoc]
theorem LegsAt.below {w u : World} {la : Option Addr} {legs : List Pl} (h : LegsAt w la legs) (hb : Below w.heap.size w u) : LegsAt u la legs := by
 intro k hk
 obtain ⟨a, e, hl, hc⟩ := h k hk
 refine ⟨a, e, Nat.lt_of_lt_of_le hl hb.size, fun j v hj => ?_⟩
 exact (World.cell?_of_block (w := w) (by rw [addr_block, addr_block]; exact hb.block _ hl)).trans (hc j v hj)
theorem RowOf.legsAt {w : World} {la : Option Addr} {lc : Nat} {legs : List Pl} (h : RowOf w 67 4 Pl.cells (.slice la legs.length lc) legs) : LegsAt w la legs := by
 intro k hk
 obtain ⟨ad, cap, hv, hev⟩ := h.form Pl.cells_length
 obtain ⟨g, hg, hcell, _⟩ := hev k hk
 have ead : la = ad := by injection hv
 subst ead
 subst hg
 refine ⟨_, rfl, h.lt rfl, fun j v hj => ?_⟩
 have hjl : j < 4 := by
  have := (List.getElem?_eq_some_iff.1 hj).1
  rwa [Pl.cells_length] at this
 rw [addr_add]
 have e : (⟨g, 0, none⟩ : Addr).add (k * 4 + j) = ⟨g, k * 4 + j, none⟩ := by unfold Addr.add; split <;> simp_all
 rw [e, hcell j hjl]
 exact hj
theorem take_snoc_dt {α : Type} (l : List α) (k : Nat) (h : k < l.length) : l.take (k + 1) = l.take k ++ [l[k]] := by rw [List.take_succ_eq_append_getElem h]
theorem clock_any (w : World) (B : Nat) (acts : List Dt) (v : Value) (hR : RD w B acts v) (hok : ∀ x, x ∈ acts → x.ok) (hlen : acts.length ≤ 1000000000000) :
  Calls Tryz.prog 95 #[.pointer (some ⟨B, 0, none⟩)] w fun e w' => e = .returned (.int .u64 (clockOf acts : Int)) ∧ w' = w := by
 obtain ⟨ad, cap, hv, hev⟩ := hR.row.form Dt.cells_length
 subst hv
 have hc : ∀ o, _ = _ := fun o => cell_at hR.blk o
 go_enter Tryz.func95, Tryz.ntmps95
 go_wp2
 go_loopw [3, 4] (fun x c u => ∃ k : Nat, k ≤ acts.length ∧ c = .int .i64 k ∧ x = .int .u64 (clockOf (acts.take k) : Int) ∧ u = w) (fun _ c _ => acts.length - (intOf c).toNat)
 case atStart => exact ⟨0, Nat.zero_le _, rfl, rfl, rfl⟩
 case round =>
  obtain ⟨k, hk, rfl, rfl, rfl⟩ := hrel;have hcl : clockOf (acts.take k) ≤ k := Nat.le_trans (clockOf_le _) (List.length_take_le _ _);by_cases hlt : k < acts.length
  ·obtain ⟨g, hg, hcell, _⟩ := hev k hlt;subst hg;have hs : Hid (clockOf (acts.take (k + 1)) = clockStep (clockOf (acts.take k)) acts[k]) := hide (by rw [take_snoc_dt acts k hlt, clockOf_snoc]);have c0 := hcell 0 (by decide);have hek := hok acts[k] (List.getElem_mem hlt);clear hcell hev;generalize clockOf (acts.take k) = S at *;generalize acts[k] = E at *;obtain ⟨kind, pay, msg⟩ := E;simp only [Dt.cells, List.getElem?_cons_zero, Nat.add_zero] at c0;by_cases hz : kind = 0
   ·have dz : (kind == 0) = true := by simp [hz]
    have hq : Hid (clockOf (acts.take (k + 1)) = S + 1) := hide (by rw [hs.out]; simp [clockStep, hz]);clear hs;subst hz;go_wp2;exact ⟨⟨k + 1, hlt, by go_num, by rw [hq.out]; go_num, trivial⟩, by simp [intOf]; omega⟩
   ·have dz : (kind == 0) = false := by simp [hz]
    have hq : Hid (clockOf (acts.take (k + 1)) = S) := hide (by rw [hs.out]; simp [clockStep, hz]);clear hs hz;go_wp2;exact ⟨⟨k + 1, hlt, by go_num, by rw [hq.out], trivial⟩, by simp [intOf]; omega⟩
  ·obtain rfl : k = acts.length := by omega
   rw [List.take_length] at hcl ⊢;clear hev;go_wp2;go_ret;exact ⟨rfl, rfl⟩
theorem kind_any (st : Nat) (hst : st < 1000) (w : World) : Calls Tryz.prog 126 #[.int .i64 (st : Int)] w fun e w' => e = .returned (.int .i64 (askKind st : Int)) ∧ w' = w := by
 have hz : Hid (askKind st = if st = 1 then 1 else if st = 2 then 2 else 3) := hide rfl
 by_cases h1 : st = 1
 ·subst h1;have hq : Hid (askKind 1 = 1) := hide rfl;clear hz;go_enter Tryz.func126, Tryz.ntmps126;go_wp2;go_ret;exact ⟨by rw [hq.out]; rfl, rfl⟩
 ·by_cases h2 : st = 2
  ·subst h2;have hq : Hid (askKind 2 = 2) := hide rfl;clear hz;go_enter Tryz.func126, Tryz.ntmps126;go_wp2;go_ret;exact ⟨by rw [hq.out]; rfl, rfl⟩
  ·have d1 : ((st : Int) == 1) = false := by simp; omega
   have d2 : ((st : Int) == 2) = false := by simp; omega
   have hq : Hid (askKind st = 3) := hide (by rw [hz.out, if_neg h1, if_neg h2]);clear hz h1 h2;go_enter Tryz.func126, Tryz.ntmps126;go_wp2;go_ret;exact ⟨by rw [hq.out]; rfl, rfl⟩
theorem withOf_yes {bits leg : Nat} (h : bits / 2 ^ leg % 2 = 1) : withOf bits leg = bits := by simp [withOf, h]
theorem withOf_no {bits leg : Nat} (h : ¬ bits / 2 ^ leg % 2 = 1) : withOf bits leg = bits + 2 ^ leg := by simp [withOf, h]
theorem bit_wrap (bits P : Nat) (hb : bits < 1000) : (wrap64 ((bits : Int) / (P : Int))).tmod 2 = ((bits / P % 2 : Nat) : Int) := by
 have h1 := Nat.div_le_self bits P
 rw [← Int.natCast_ediv]
 generalize bits / P = q at *
 have hw : wrap64 (q : Int) = (q : Int) := by unfold wrap64; omega
 rw [hw, Int.tmod_eq_emod_of_nonneg (by omega)]
 omega
theorem with_any (bits leg : Nat) (hb : bits < 1000) (hl : leg ≤ 4) (w : World) : Calls Tryz.prog 129 #[.int .i64 (bits : Int), .int .u8 (leg : Int)] w fun e w' => e = .returned (.int .i64 (withOf bits leg : Int)) ∧ w' = w := by
 go_enter Tryz.func129, Tryz.ntmps129
 go_wp2
 go_loopw [5, 6] (fun x c u => ∃ k : Nat, k ≤ leg ∧ c = .int .u8 k ∧ x = .int .i64 ((2 ^ k : Nat) : Int) ∧ u = w) (fun _ c _ => leg - (intOf c).toNat)
 case atStart => exact ⟨0, Nat.zero_le _, rfl, rfl, rfl⟩
 case round =>
  obtain ⟨k, hk, rfl, rfl, rfl⟩ := hrel;have hp : Hid (2 ^ (k + 1) = 2 ^ k * 2) := hide (Nat.pow_succ 2 k);have hpl : 2 ^ k ≤ 16 := Nat.le_trans (Nat.pow_le_pow_right (by decide) (by omega)) (by decide : 2 ^ 4 ≤ 16);have hp0 : 0 < 2 ^ k := Nat.pow_pos (by decide);by_cases hlt : k < leg
  ·generalize 2 ^ k = P at *;have dl : decide ((k : Int) < (leg : Int)) = true := by simp; omega
   have W1 : IntKind.u8.wrap ((k : Int) + 1) = (k : Int) + 1 := by rw [IntKind.wrap_u8]; omega
   go_wp2;exact ⟨⟨k + 1, hlt, by go_num, by rw [hp.out]; go_num, trivial⟩, by simp [intOf]; omega⟩
  ·obtain rfl : k = leg := by omega
   have hy := hide (@withOf_yes bits k);have hn := hide (@withOf_no bits k);clear hp;generalize 2 ^ k = P at *;by_cases h1 : bits / P % 2 = 1
   ·have hq : Hid (withOf bits k = bits) := hide (hy.out h1);have d1 : ((wrap64 ((bits : Int) / (P : Int))).tmod 2 == 1) = true := by rw [bit_wrap bits P hb]; simp; omega
    clear hy hn h1;go_wp2;go_ret;exact ⟨by rw [hq.out]; rfl, rfl⟩
   ·have hq : Hid (withOf bits k = bits + P) := hide (hn.out h1);have d1 : ((wrap64 ((bits : Int) / (P : Int))).tmod 2 == 1) = false := by rw [bit_wrap bits P hb]; simp; omega
    clear hy hn h1;go_wp2;go_ret;exact ⟨by rw [hq.out]; go_num, rfl⟩
theorem fullOf_succ (k : Nat) : fullOf (k + 1) = fullOf k * 2 + 1 := by
 unfold fullOf
 have : 0 < 2 ^ k := Nat.pow_pos (by decide)
 rw [Nat.pow_succ]
 omega
theorem full_any (n : Nat) (hn : n ≤ 8) (w : World) : Calls Tryz.prog 130 #[.int .i64 (n : Int)] w fun e w' => e = .returned (.int .i64 (fullOf n : Int)) ∧ w' = w := by
 go_enter Tryz.func130, Tryz.ntmps130
 go_wp2
 go_loopw [3, 4] (fun x c u => ∃ k : Nat, k ≤ n ∧ c = .int .i64 k ∧ x = .int .i64 (fullOf k : Int) ∧ u = w) (fun _ c _ => n - (intOf c).toNat)
 case atStart => exact ⟨0, Nat.zero_le _, rfl, rfl, rfl⟩
 case round =>
  obtain ⟨k, hk, rfl, rfl, rfl⟩ := hrel
  have hf : fullOf k < 256 := by
   have : 2 ^ k ≤ 2 ^ 8 := Nat.pow_le_pow_right (by decide) (by omega);unfold fullOf;omega
  have hp : Hid (fullOf (k + 1) = fullOf k * 2 + 1) := hide (fullOf_succ k);by_cases hlt : k < n
  ·generalize fullOf k = P at *;have dl : decide ((k : Int) < (n : Int)) = true := by simp; omega
   go_wp2;exact ⟨⟨k + 1, hlt, by go_num, by rw [hp.out]; go_num, trivial⟩, by simp [intOf]; omega⟩
  ·obtain rfl : k = n := by omega
   clear hp;go_wp2;go_ret;exact ⟨rfl, rfl⟩
def Pm.cells (x : Pm) : List Value := [.int .u32 (x.id : Int), .int .u64 (x.dl : Int), .string (bs x.memo), .slice x.la x.legs.length x.lc]
structure TwoP (w : World) (x y : Pm) (u : World) : Prop where
 bel : Below w.heap.size w u
 one : u.heap[w.heap.size]? = some (.cells x.cells.toArray 69 (0, 0))
 two : u.heap[w.heap.size + 1]? = some (.cells y.cells.toArray 69 (0, 0))
theorem TwoP.mk0 (w : World) : TwoP w noPm noPm ((w.alloc (.cells noPm.cells.toArray 69)).alloc (.cells noPm.cells.toArray 69)) := by
 refine ⟨((Below.refl _ _).alloc (Nat.le_refl _) _).alloc (by simp) _, ?_, ?_⟩
 ·rw [Below.heap_alloc _ _ _ (by simp)];exact heap_alloc_self _ _
 ·rw [show w.heap.size + 1 = (w.alloc (.cells noPm.cells.toArray 69)).heap.size from by simp];exact heap_alloc_self _ _
theorem TwoP.putOne {w u : World} {x y : Pm} (h : TwoP w x y u) (z : Pm) : TwoP w z y (putL u w.heap.size 0 z.cells) :=
 have hk := putL_kept z.cells u w.heap.size 0
 ⟨h.bel.trans (hk.below h.bel.size (fun k e => by omega)), putL_whole _ h.one rfl, by rw [hk.block _ (block_lt h.two) (by omega)]; exact h.two⟩
theorem TwoP.putTwo {w u : World} {x y : Pm} (h : TwoP w x y u) (z : Pm) : TwoP w x z (putL u (w.heap.size + 1) 0 z.cells) :=
 have hk := putL_kept z.cells u (w.heap.size + 1) 0
 ⟨h.bel.trans (hk.below h.bel.size (fun k e => by omega)), by rw [hk.block _ (block_lt h.one) (by omega)]; exact h.one, putL_whole _ h.two rfl⟩
theorem find_pay (id : Nat) (hid : id < 4294967296) (w : World) (B : Nat) (acts : List Dt) (v : Value) (hR : RD w B acts v) (hok : ∀ x, x ∈ acts → x.ok) (hlen : acts.length ≤ 1000000000000) :
  Calls Tryz.prog 93 #[.pointer (some ⟨B, 0, none⟩), .int .u32 (id : Int)] w fun e w' => e = .returned (.tuple #[(findOf id acts).1.v, .bool (findOf id acts).2.1, .int .i64 ((findOf id acts).2.2 : Int)]) ∧ Below w.heap.size w w' := by
 obtain ⟨ad, cap, hv, hev⟩ := hR.row.form Dt.cells_length
 subst hv
 clear hev
 go_enter Tryz.func93, Tryz.ntmps93
 go_wp2
 go_loopw [8, 9, 10] (fun y z c u => ∃ k : Nat, k ≤ acts.length ∧ c = .int .i64 k ∧ y = .bool (findOf id (acts.take k)).2.1 ∧ z = .int .i64 ((findOf id (acts.take k)).2.2 : Int) ∧ TwoP w noPm (findOf id (acts.take k)).1 u) (fun _ _ c _ => acts.length - (intOf c).toNat)
 case atStart => exact ⟨0, Nat.zero_le _, rfl, rfl, rfl, TwoP.mk0 w⟩
 case round =>
  obtain ⟨k, hk, rfl, rfl, rfl, hT⟩ := hrel;have hRu := hR.below hT.bel;have hc : ∀ o, _ = _ := fun o => cell_at hRu.blk o;have hBl := hRu.lt;have hm : ∀ o, _ = _ := fun o => cell_at hT.two o;have hfm : ∀ o, _ = _ := fun o => frozen_at hT.two o;have hm0 : ∀ o, _ = _ := fun o => cell_at hT.one o;have hfm0 : ∀ o, _ = _ := fun o => frozen_at hT.one o;have hl1 := block_lt hT.one;have hl2 := block_lt hT.two;have hfl : (findOf id (acts.take k)).2.2 ≤ k := Nat.le_trans (findOf_le _ _) (List.length_take_le _ _);by_cases hlt : k < acts.length
  ·obtain ⟨ad', cap', hv', hev'⟩ := hRu.row.form Dt.cells_length;obtain ⟨g, hg, hcell, _⟩ := hev' k hlt;have ead : ad = ad' := by injection hv'
   subst ead;subst hg;have hgl : g < wr.heap.size := hRu.row.lt rfl;have hs : Hid (findOf id (acts.take (k + 1)) = findStep id (findOf id (acts.take k)) acts[k]) := hide (by rw [take_snoc_dt acts k hlt, findOf_snoc]);have c0 := hcell 0 (by decide);have c1 := hcell 1 (by decide);have c2 := hcell 2 (by decide);have c3 := hcell 3 (by decide);have c4 := hcell 4 (by decide);have hek := hok acts[k] (List.getElem_mem hlt);clear hcell hev' hv';generalize findOf id (acts.take k) = S at *;generalize acts[k] = E at *;obtain ⟨kind, ⟨pi, pd, pm, pl, pa, pc⟩, msg⟩ := E;obtain ⟨⟨si, sd, sm, sl, sa, sc⟩, s2, s3⟩ := S;obtain ⟨_, _, ⟨hpi, hpd, _⟩, _⟩ := hek;simp only [Dt.cells, Pm.lv, List.getElem?_cons_zero, List.getElem?_cons_succ, Nat.add_zero] at c0 c1 c2 c3 c4 hpi hpd hfl;simp only [Pm.cells, noPm] at hm hm0;by_cases hz : kind = -1
   ·subst hz;by_cases hi : pi = id
    ·have di : ((pi : Int) == (id : Int)) = true := by simp; omega
     have hq : Hid (findOf id (acts.take (k + 1)) = (⟨pi, pd, pm, pl, pa, pc⟩, true, s3 + 1)) := hide (by rw [hs.out]; simp [findStep, hi]);have hT2 := hide (hT.putTwo ⟨pi, pd, pm, pl, pa, pc⟩);clear hs hi;go_wp2;exact ⟨⟨k + 1, hlt, by go_num, by rw [hq.out], by rw [hq.out]; go_num, by rw [hq.out]; exact hT2.out⟩, by simp [intOf]; omega⟩
    ·have di : ((pi : Int) == (id : Int)) = false := by simp; omega
     have hq : Hid (findOf id (acts.take (k + 1)) = (⟨si, sd, sm, sl, sa, sc⟩, s2, s3 + 1)) := hide (by rw [hs.out]; simp [findStep, hi]);clear hs hi;go_wp2;exact ⟨⟨k + 1, hlt, by go_num, by rw [hq.out], by rw [hq.out]; go_num, by rw [hq.out]; exact hT⟩, by simp [intOf]; omega⟩
   ·have dz : (kind == -1) = false := by simp [hz]
    have hq : Hid (findOf id (acts.take (k + 1)) = (⟨si, sd, sm, sl, sa, sc⟩, s2, s3)) := hide (by rw [hs.out]; simp [findStep, hz]);clear hs hz;go_wp2;exact ⟨⟨k + 1, hlt, by go_num, by rw [hq.out], by rw [hq.out], by rw [hq.out]; exact hT⟩, by simp [intOf]; omega⟩
  ·obtain rfl : k = acts.length := by omega
   simp only [List.take_length] at hT hm hfl ⊢;generalize hS : findOf id acts = S at *;have HS := hide hS;clear hS;obtain ⟨z, s2, s3⟩ := S;have hT2 := hT.putOne z;obtain ⟨si, sd, sm, sl, sa, sc⟩ := z;simp only [Pm.cells, noPm] at hm hm0 hT2;go_wp2;have hc2 : ∀ o, _ = (#[.int .u32 (si : Int), .int .u64 (sd : Int), .string (bs sm), .slice sa sl.length sc] : Array Value)[o]? := fun o => cell_at hT2.one o;have hb2 := hT2.bel;simp only [putL] at hc2 hb2;generalize World.setCell _ _ _ = u at *;exact bodyPost_ret (v := .tuple #[.agg #[.int .u32 (si : Int), .int .u64 (sd : Int), .string (bs sm), .slice sa sl.length sc], .bool s2, .int .i64 (s3 : Int)]) (by simp [results, Tryz.results93, go_sem, hc2]) rfl ⟨by rw [HS.out]; rfl, hb2⟩
end Go.Proofs.YtjkhbjgfoopomabGreat
