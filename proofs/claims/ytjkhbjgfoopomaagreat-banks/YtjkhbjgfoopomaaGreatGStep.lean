import Derived.Test.YtjkhbjgfoopomaaGreatGOpen
import Derived.Test.YtjkhbjgfoopomaaGreatGFunds
import Derived.Test.YtjkhbjgfoopomaaGreatGLeg
/-
  A step of the statement Banks.
-/
namespace Go.Proofs.YtjkhbjgfoopomaaGreat
open Go.RowKit
set_option linter.unusedVariables false
set_option linter.unusedSimpArgs false

theorem bank_any (w0 : Base) (w : World) (Wb : Nat) (own : Nat → Nat) (hs : List House) (ll : List (Value × Nat)) (vb vl : Value) (I : MemInv w0 w Wb own hs ll vb vl) (hok : ∀ h, h ∈ hs → h.ok) (i : Nat) (hi : i < hs.length) (o : Opr) (ho : o.ok) (hk : 2 ≤ o.kind ∧ o.kind ≤ 6) (hlen : ll.length ≤ 3999999999000) :
    Calls Tryz.prog 10 #[.pointer (some ⟨Wb, 0, none⟩), .pointer (some ⟨hs[i].hb, 0, none⟩), o.v] w (BankSays w0 Wb hs ll vb i hs[i].hb) := by
  obtain ⟨hR, hn1, hn7, hlg⟩ := hok hs[i] (List.getElem_mem hi)
  have e : hs = hs.set i hs[i] := (List.set_getElem_self hi).symm
  rw [e] at I
  generalize hs[i] = h at *
  obtain ⟨hb, xb, rb, node, evs, ac, ls, va, vll, v, lgs, vg⟩ := h
  simp only at hR hn1 hn7 hlg
  have hoo := ho
  obtain ⟨kind, at_, n, s, ⟨k, f, t, mi, l, p, g, a, m⟩, pid, dead, memo, legs, llen, lcap, acc, amt⟩ := o
  obtain ⟨_, _, _, hs1, hm, hm1, hacc, hamt⟩ := ho
  simp only at hk hacc hamt
  have hk5 : kind = 2 ∨ kind = 3 ∨ kind = 4 ∨ kind = 5 ∨ kind = 6 := by omega
  rcases hk5 with rfl | rfl | rfl | rfl | rfl
  · exact bank_open w0 w Wb own hs ll vb vl i hi hb xb rb node evs ac ls va vll v lgs vg I hok hR hn1 hn7 hlg at_ n s k f t mi l p g a m pid dead memo legs llen lcap acc amt hacc hamt
  · cases hB : hasB acc ac with
    | true => exact bank_funds_there w0 w Wb own hs ll vb vl i hi hb xb rb node evs ac ls va vll v lgs vg I hok hR hn1 hn7 hlg at_ n s k f t mi l p g a m pid dead memo legs llen lcap acc amt hacc hB
    | false => exact bank_funds_none w0 w Wb own hs ll vb vl i hi hb xb rb node evs ac ls va vll v lgs vg I hok hR hn1 hn7 hlg at_ n s k f t mi l p g a m pid dead memo legs llen lcap acc amt hacc hB
  · have hmi : mi < 4294967296 := hm.2.2.2.1
    have hml : l < 256 := hm.2.2.2.2.1
    by_cases hj : findB mi l ls < ls.length
    · have hT := hR.at mi l hj
      exact bank_leg w0 w Wb own hs ll vb vl i hi hb xb rb node evs ac ls va vll v lgs vg I hok hR hn1 hn7 hlg at_ n s k f t mi l p g a m pid dead memo legs llen lcap acc amt hmi hml 0 (ls[findB mi l ls]).st (.inr ⟨ls[findB mi l ls], by simp [hj], rfl, rfl⟩) hT.1 (.inr ⟨hT.2.1, hT.2.2.1, rfl⟩)
    · have hj' : ls.length ≤ findB mi l ls := by omega
      have hT := hR.no mi l hj'
      exact bank_leg w0 w Wb own hs ll vb vl i hi hb xb rb node evs ac ls va vll v lgs vg I hok hR hn1 hn7 hlg at_ n s k f t mi l p g a m pid dead memo legs llen lcap acc amt hmi hml 13 0 (.inl ⟨by simp [hj'], rfl, rfl⟩) (by rw [hT]) (.inl ⟨rfl, rfl⟩)
  · exact bank_handle w0 w Wb own hs ll vb vl i hi hb xb rb node evs ac ls va vll v lgs vg I hok hR hn1 hn7 hlg at_ n s k f t mi l p g a m pid dead memo legs llen lcap acc amt hoo hlen
  · exact bank_tick w0 w Wb own hs ll vb vl i hi hb xb rb node evs ac ls va vll v lgs vg I hok hR hn1 hn7 hlg at_ n s k f t mi l p g a m pid dead memo legs llen lcap acc amt hlen
theorem made_any (w0 : Base) (w : World) (Wb : Nat) (own : Nat → Nat) (hs : List House) (ll : List (Value × Nat)) (vb vl : Value) (I : MemInv w0 w Wb own hs ll vb vl) (hok : ∀ h, h ∈ hs → h.ok) (hlen : hs.length ≤ 1000000000000) (o : Opr) (ho : i64ok o.n) (hk : o.kind ≠ 8) (hlg : w0.lg = false) :
    Calls Tryz.prog 9 #[.pointer (some ⟨Wb, 0, none⟩), o.v] w (MadeSays w0 Wb hs ll (bankB (pickN o.n 256))) := by
  obtain ⟨kind, at_, n, s, ⟨k, f, t, mi, l, p, g, a, m⟩, pid, dead, memo, legs, llen, lcap, acc, amt⟩ := o
  simp only at ho hk
  have hk8 : (kind == 8) = false := by simpa using hk
  cases hB : bankB (pickN n 256) with
  | true =>
    exact made_new w0 w Wb own hs ll vb vl I hok hlen kind at_ n hk8 ho s k f t mi l p g a m pid dead memo legs llen lcap acc amt hB
  | false =>
    exact made_none w0 w Wb own hs ll vb vl I hok kind at_ n hk8 ho s k f t mi l p g a m pid dead memo legs llen lcap acc amt hB hlg
theorem MemInv.below0 {w0 : Base} {w w' : World} {Wb : Nat} {own : Nat → Nat} {hs : List House} {ll : List (Value × Nat)} {vb vl : Value} (I : MemInv w0 w Wb own hs ll vb vl) (hb : Below w.heap.size w w') : MemInv w0 w' Wb (fun k => if k < w.heap.size then own k else 0) hs ll vb vl :=
  have hA : ∀ k, k < w.heap.size → (fun k => if k < w.heap.size then own k else 0) k = own k := fun k hk => by simp [hk]
  I.rest (S := fun _ => False) (Kept.of_below hb) (fun _ h => h.elim) hA I.far (I.brow.below hb) (fun i hi => (I.house i hi).kept (S := fun _ => False) (Kept.of_below hb) (fun _ _ h => h.elim) hA)
/-- from here on, with one block more that stays -/
def baseUp (w0 : Base) (w : World) (b : Nat) (hs : w0.w.heap.size ≤ w.heap.size) (hb : b < w.heap.size) : Base := ⟨w, fun k => w0.F k ∨ k = b, fun k hk => by
  rcases hk with hk | rfl
  · exact Nat.lt_of_lt_of_le (w0.lt k hk) hs
  · exact hb, w0.lg, w0.vd, w0.Q, w0.loc⟩
theorem MemInv.up {w0 : Base} {w : World} {Wb : Nat} {own : Nat → Nat} {hs : List House} {ll : List (Value × Nat)} {vb vl : Value} (I : MemInv w0 w Wb own hs ll vb vl) (b : Nat) (hb : b < w.heap.size) (h0 : own b = 0) : MemInv (baseUp w0 w b I.bel.size hb) w Wb own hs ll vb vl :=
  ⟨⟨rfl, rfl, rfl, Nat.le_refl _, fun _ _ => rfl⟩, fun k hk hF => by
    rcases hF with hF | rfl
    · exact I.old k hk hF
    · exact hk h0, I.wblk, I.wown, I.brow, I.bown, I.lrow, I.lown, I.full, I.fown, I.four, I.house, I.oth⟩
theorem MemInv.down {w0 : Base} {w w' : World} {Wb : Nat} {own : Nat → Nat} {hs : List House} {ll : List (Value × Nat)} {vb vl : Value} {b : Nat} {h1 : w0.w.heap.size ≤ w.heap.size} {h2 : b < w.heap.size} (hB : BelF w0 w) (I : MemInv (baseUp w0 w b h1 h2) w' Wb own hs ll vb vl) : MemInv w0 w' Wb own hs ll vb vl :=
  ⟨⟨I.bel.os.trans hB.os, I.bel.tape.trans hB.tape, I.bel.output.trans hB.output, Nat.le_trans hB.size I.bel.size, fun k hF => (I.bel.block k (.inl hF)).trans (hB.block k hF)⟩, fun k hk hF => I.old k hk (.inl hF), I.wblk, I.wown, I.brow, I.bown, I.lrow, I.lown, I.full, I.fown, I.four, I.house, I.oth⟩
/-- the world goes on: houses at most one more, lists at most four more -/
def Goes1 (w0 : Base) (w' : World) (Wb : Nat) (hs : List House) (ll : List (Value × Nat)) : Prop :=
  ∃ own' hs' ll' vb' vl', MemInv w0 w' Wb own' hs' ll' vb' vl' ∧ (∀ h, h ∈ hs' → h.ok) ∧ hs'.length ≤ hs.length + 1 ∧ hs.length ≤ hs'.length ∧ ll'.length ≤ ll.length + 4

/-- behind a step on a bank -/
structure Behind (w0 : Base) (u w' : World) (Wb b : Nat) (hs : List House) (ll : List (Value × Nat)) (vb : Value) : Prop where
  goes : Goes1 w0 w' Wb hs ll
  box : w'.heap[b]? = u.heap[b]?
  bank : w'.cell? ⟨Wb, 1, none⟩ = some vb
  row : ∀ j (hj : j < hs.length) g, vb.ownBlock = some g → w'.cell? ⟨g, j, none⟩ = some (.pointer (some ⟨hs[j].hb, 0, none⟩))
theorem bank_behind (w0 : Base) (w : World) (Wb : Nat) (own : Nat → Nat) (hs : List House) (ll : List (Value × Nat)) (vb vl : Value) (I : MemInv w0 w Wb own hs ll vb vl) (hok : ∀ h, h ∈ hs → h.ok) (i : Nat) (hi : i < hs.length) (o : Opr) (ho : o.ok) (hk : 2 ≤ o.kind ∧ o.kind ≤ 6) (hlen : ll.length ≤ 3999999999000)
    (u : World) (hu : Below w.heap.size w u) (hlt : w.heap.size < u.heap.size) :
    Calls Tryz.prog 10 #[.pointer (some ⟨Wb, 0, none⟩), .pointer (some ⟨hs[i].hb, 0, none⟩), o.v] u fun e w' => e = .returned (.bool true) ∧ Behind w0 u w' Wb w.heap.size hs ll vb := by
  have I0 := I.below0 hu
  have I1 := I0.up w.heap.size hlt (by simp)
  refine (bank_any _ u Wb _ hs ll vb vl I1 hok i hi o ho hk hlen).mono ?_
  rintro e w' ⟨rfl, own', hs', ll', vl', J, hok', hhb, hll⟩
  have hhb' : hs'.map House.hb = hs.map House.hb := by
    rw [hhb, show hs[i].hb = (hs.map House.hb)[i]'(by simpa using hi) by simp]
    exact List.set_getElem_self _
  have hl' : hs'.length = hs.length := by have := congrArg List.length hhb'; simpa using this
  refine ⟨rfl, ⟨own', hs', ll', vb, vl', MemInv.down I0.bel J, hok', by omega, by omega, hll⟩, J.bel.block _ (.inr rfl), cell_at J.wblk 1, ?_⟩
  intro j hj g hg
  obtain ⟨ad, cap, hv, hev⟩ := J.brow.form ptrCell_length
  obtain ⟨g', rfl, hcell, _⟩ := hev j (by omega)
  have c0 := hcell 0 (by decide)
  obtain rfl : g' = g := by rw [hv] at hg; simpa [Value.ownBlock] using hg
  simp only [ptrCell, List.getElem?_cons_zero, Nat.add_zero, Nat.mul_one] at c0
  rw [c0]
  have : (hs'.map House.hb)[j]'(by simp; omega) = (hs.map House.hb)[j]'(by simpa using hj) := by simp only [hhb']
  simp only [List.getElem_map] at this
  rw [this]
theorem range_of {u u' : World} {b : Nat} {cs : List Value} (h : u.rangeAt b 0 cs) (hb : u'.heap[b]? = u.heap[b]?) : u'.rangeAt b 0 cs := fun j v hj => (World.cell?_of_block (w := u) (a := ⟨b, 0 + j, none⟩) hb).trans (h j v hj)

set_option maxRecDepth 100000 in
set_option maxHeartbeats 2000000 in
theorem step_bank (w0 : Base) (w : World) (Wb : Nat) (own : Nat → Nat) (hs : List House) (ll : List (Value × Nat)) (vb vl : Value) (I : MemInv w0 w Wb own hs ll vb vl) (hok : ∀ h, h ∈ hs → h.ok) (hl1 : 0 < hs.length) (hl2 : hs.length ≤ 1000000000000) (hlen : ll.length ≤ 3999999999000)
    (kind at_ n : Int) (s : List UInt8) (k f t mi l p g a : Nat) (m : List UInt8) (pid dead : Int) (memo : List UInt8) (legs : Option Addr) (llen lcap acc amt : Nat) (ho : (⟨kind, at_, n, s, ⟨k, f, t, mi, l, p, g, a, m⟩, pid, dead, memo, legs, llen, lcap, acc, amt⟩ : Opr).ok) (hk : 2 ≤ kind ∧ kind ≤ 6) :
    Calls Tryz.prog 7 #[.pointer (some ⟨Wb, 0, none⟩), (⟨kind, at_, n, s, ⟨k, f, t, mi, l, p, g, a, m⟩, pid, dead, memo, legs, llen, lcap, acc, amt⟩ : Opr).v] w fun e w' => e = .returned (.bool true) ∧ Goes1 w0 w' Wb hs ll := by
  have hP := hide (fun u => pick_any at_ ho.2.1 hs.length hl1 (by omega) u)
  have hpl : pickN at_ hs.length < hs.length := Nat.mod_lt _ hl1
  obtain ⟨W1, hW1⟩ : ∃ W1, W1 = (w.alloc (.cells (⟨kind, at_, n, s, ⟨k, f, t, mi, l, p, g, a, m⟩, pid, dead, memo, legs, llen, lcap, acc, amt⟩ : Opr).cells 46)).drew := ⟨_, rfl⟩
  have hbW : Below w.heap.size w W1 := by rw [hW1]; exact ((Below.refl w.heap.size w).alloc (Nat.le_refl _) _).drew
  have hlW : w.heap.size < W1.heap.size := by rw [hW1]; simp
  have hrg : W1.rangeAt w.heap.size 0 (⟨kind, at_, n, s, ⟨k, f, t, mi, l, p, g, a, m⟩, pid, dead, memo, legs, llen, lcap, acc, amt⟩ : Opr).cells.toList := by rw [hW1]; exact op_range (⟨kind, at_, n, s, ⟨k, f, t, mi, l, p, g, a, m⟩, pid, dead, memo, legs, llen, lcap, acc, amt⟩ : Opr) w
  have hBk := bank_behind w0 w Wb own hs ll vb vl I hok (pickN at_ hs.length) hpl (⟨kind, at_, n, s, ⟨k, f, t, mi, l, p, g, a, m⟩, pid, dead, memo, legs, llen, lcap, acc, amt⟩ : Opr) ho hk hlen W1 hbW hlW
  obtain ⟨bad, bcap, hv, hev⟩ := I.brow.form ptrCell_length
  obtain ⟨bg, hbg, hcell, _⟩ := hev _ hpl
  subst hbg
  have cg := hcell 0 (by decide)
  simp only [ptrCell, List.getElem?_cons_zero, Nat.add_zero, Nat.mul_one] at cg
  have hbgl : bg < w.heap.size := I.brow.lt (by rw [hv]; rfl)
  have hrw := hide (fun (w' : World) (h : Behind w0 W1 w' Wb w.heap.size hs ll vb) => h.row _ hpl bg (by rw [hv]; rfl))
  generalize hs[pickN at_ hs.length].hb = hb at *
  generalize pickN at_ hs.length = pn at *
  subst hv
  have hc : ∀ o, w.cell? ⟨Wb, o, none⟩ = (#[.bool w0.lg, .slice (some ⟨bg, 0, none⟩) hs.length bcap, w0.vd, vl] : Array Value)[o]? := fun o => cell_at I.wblk o
  have hWl : Wb < w.heap.size := block_lt I.wblk
  have e0 : W1.cell? ⟨Wb, 1, none⟩ = some (.slice (some ⟨bg, 0, none⟩) hs.length bcap) := (hbW.cell (p := ⟨Wb, 1, none⟩) hWl).trans (hc 1)
  have e1 : W1.cell? ⟨w.heap.size, 1, none⟩ = some (.int .i64 at_) := by rw [hW1]; simp [Opr.cells]
  have e2 : W1.cell? ⟨bg, pn, none⟩ = some (.pointer (some ⟨hb, 0, none⟩)) := (hbW.cell (p := ⟨bg, pn, none⟩) hbgl).trans cg
  have d15 : (kind == 15) = false := by simp; omega
  have d1 : (kind == 1) = false := by simp; omega
  have d8 : (kind == 8) = false := by simp; omega
  have d2 : decide (kind ≥ 2) = true := by simp; omega
  have d2' : decide (2 ≤ kind) = true := by simp; omega
  have d7 : decide (kind ≤ 7) = true := by simp; omega
  have dl : decide ((0 : Int) < (hs.length : Int)) = true := by simp; omega
  have hpn : (pn : Int) < (hs.length : Int) := by omega
  have hsz : (Tryz.prog.info? 46).map (·.size) = some (List.length ([.int .i64 kind, .int .i64 at_, .int .i64 n, .string (bs s), .int .u8 (k : Int), .int .u8 (f : Int), .int .u8 (t : Int), .int .u32 (mi : Int), .int .u8 (l : Int), .int .u16 (p : Int), .int .u16 (g : Int), .int .u32 (a : Int), .string (bs m), .int .u32 pid, .int .u64 dead, .string (bs memo), .slice legs llen lcap, .int .u16 (acc : Int), .int .u32 (amt : Int)] : List Value)) := opSize
  have hun := Tryz.underlying46
  clear I hev hcell
  simp only [Opr.v, Opr.cells] at *
  have hS0 : Hid (W1.cell? ⟨Wb, 1, none⟩ = some (.slice (some ⟨bg, 0, none⟩) hs.length bcap) ∧ W1.cell? ⟨w.heap.size, 1, none⟩ = some (.int .i64 at_) ∧ W1.cell? ⟨bg, pn, none⟩ = some (.pointer (some ⟨hb, 0, none⟩)) ∧ W1.rangeAt w.heap.size 0 [.int .i64 kind, .int .i64 at_, .int .i64 n, .string (bs s), .int .u8 (k : Int), .int .u8 (f : Int), .int .u8 (t : Int), .int .u32 (mi : Int), .int .u8 (l : Int), .int .u16 (p : Int), .int .u16 (g : Int), .int .u32 (a : Int), .string (bs m), .int .u32 pid, .int .u64 dead, .string (bs memo), .slice legs llen lcap, .int .u16 (acc : Int), .int .u32 (amt : Int)]) := hide ⟨e0, e1, e2, hrg⟩
  replace hsz := hide hsz
  replace hun := hide hun
  replace hrg := hide hrg
  replace hBk := hide hBk
  replace hW1 := hide hW1
  go_enter Tryz.func7, Tryz.ntmps7
  go_wp2_with fail
  refine wp_region_held_drew (S := (fun u => u.cell? ⟨Wb, 1, none⟩ = some (.slice (some ⟨bg, 0, none⟩) hs.length bcap) ∧ u.cell? ⟨w.heap.size, 1, none⟩ = some (.int .i64 at_) ∧ u.cell? ⟨bg, pn, none⟩ = some (.pointer (some ⟨hb, 0, none⟩)) ∧ u.rangeAt w.heap.size 0 [.int .i64 kind, .int .i64 at_, .int .i64 n, .string (bs s), .int .u8 (k : Int), .int .u8 (f : Int), .int .u8 (t : Int), .int .u32 (mi : Int), .int .u8 (l : Int), .int .u16 (p : Int), .int .u16 (g : Int), .int .u32 (a : Int), .string (bs m), .int .u32 pid, .int .u64 dead, .string (bs memo), .slice legs llen lcap, .int .u16 (acc : Int), .int .u32 (amt : Int)])) (by kernel_rfl) ?_ (fun _ => ?_)
  · rw [← hW1.out]
    exact hS0.out
  rw [← hW1.out]
  refine wpAnyH_take (i := 15) (oi := _) (v := .agg (List.toArray [.int .i64 kind, .int .i64 at_, .int .i64 n, .string (bs s), .int .u8 (k : Int), .int .u8 (f : Int), .int .u8 (t : Int), .int .u32 (mi : Int), .int .u8 (l : Int), .int .u16 (p : Int), .int .u16 (g : Int), .int .u32 (a : Int), .string (bs m), .int .u32 pid, .int .u64 dead, .string (bs memo), .slice legs llen lcap, .int .u16 (acc : Int), .int .u32 (amt : Int)])) rfl (by kernel_rfl) (by kernel_rfl) (by kernel_rfl) (fun _ _ _ h => h) (yieldsIf_load_mid (by rfl) 46 (.tmp 3) rfl w.heap.size 0 rfl [.int .i64 kind, .int .i64 at_, .int .i64 n, .string (bs s), .int .u8 (k : Int), .int .u8 (f : Int), .int .u8 (t : Int), .int .u32 (mi : Int), .int .u8 (l : Int), .int .u16 (p : Int), .int .u16 (g : Int), .int .u32 (a : Int), .string (bs m), .int .u32 pid, .int .u64 dead, .string (bs memo), .slice legs llen lcap, .int .u16 (acc : Int), .int .u32 (amt : Int)] _ (fun u hu => hu.2.2.2) hun.out rfl hsz.out) hS0.out ?_
  simp only [Act.put, List.setIfInBounds_toArray, List.set_cons_zero, List.set_cons_succ]
  refine wpAnyH_take (i := 0) (oi := _) (v := .pointer (some ⟨Wb, 0, none⟩)) rfl (by kernel_rfl) (by kernel_rfl) (by kernel_rfl) (fun _ _ _ h => h) (Or.inl ⟨by rfl, ?_⟩) hS0.out ?_
  · intro u hu
    obtain ⟨h1, h2, h3, h4⟩ := hu
    clear h4
    go_simp
  simp only [Act.put, List.setIfInBounds_toArray, List.set_cons_zero, List.set_cons_succ]
  refine wpAnyH_take (i := 1) (oi := _) (v := .pointer (some ⟨Wb, 0, none⟩)) rfl (by kernel_rfl) (by kernel_rfl) (by kernel_rfl) (fun _ _ _ h => h) (Or.inl ⟨by rfl, ?_⟩) hS0.out ?_
  · intro u hu
    obtain ⟨h1, h2, h3, h4⟩ := hu
    clear h4
    go_simp
  simp only [Act.put, List.setIfInBounds_toArray, List.set_cons_zero, List.set_cons_succ]
  refine wpAnyH_take (i := 2) (oi := _) (v := .pointer (some ⟨Wb, 0, none⟩)) rfl (by kernel_rfl) (by kernel_rfl) (by kernel_rfl) (fun _ _ _ h => h) (Or.inl ⟨by rfl, ?_⟩) hS0.out ?_
  · intro u hu
    obtain ⟨h1, h2, h3, h4⟩ := hu
    clear h4
    go_simp
  simp only [Act.put, List.setIfInBounds_toArray, List.set_cons_zero, List.set_cons_succ]
  refine wpAnyH_take (i := 3) (oi := _) (v := .pointer (some ⟨Wb, 1, none⟩)) rfl (by kernel_rfl) (by kernel_rfl) (by kernel_rfl) (fun _ _ _ h => h) (Or.inl ⟨by rfl, ?_⟩) hS0.out ?_
  · intro u hu
    obtain ⟨h1, h2, h3, h4⟩ := hu
    clear h4
    go_simp
  simp only [Act.put, List.setIfInBounds_toArray, List.set_cons_zero, List.set_cons_succ]
  refine wpAnyH_take (i := 4) (oi := _) (v := .slice (some ⟨bg, 0, none⟩) hs.length bcap) rfl (by kernel_rfl) (by kernel_rfl) (by kernel_rfl) (fun _ _ _ h => h) (Or.inl ⟨by rfl, ?_⟩) hS0.out ?_
  · intro u hu
    obtain ⟨h1, h2, h3, h4⟩ := hu
    clear h4
    go_simp
  simp only [Act.put, List.setIfInBounds_toArray, List.set_cons_zero, List.set_cons_succ]
  refine wpAnyH_take (i := 5) (oi := _) (v := .pointer (some ⟨w.heap.size, 1, none⟩)) rfl (by kernel_rfl) (by kernel_rfl) (by kernel_rfl) (fun _ _ _ h => h) (Or.inl ⟨by rfl, ?_⟩) hS0.out ?_
  · intro u hu
    obtain ⟨h1, h2, h3, h4⟩ := hu
    clear h4
    go_simp
  simp only [Act.put, List.setIfInBounds_toArray, List.set_cons_zero, List.set_cons_succ]
  refine wpAnyH_take (i := 6) (oi := _) (v := .int .i64 at_) rfl (by kernel_rfl) (by kernel_rfl) (by kernel_rfl) (fun _ _ _ h => h) (Or.inl ⟨by rfl, ?_⟩) hS0.out ?_
  · intro u hu
    obtain ⟨h1, h2, h3, h4⟩ := hu
    clear h4
    go_simp
  simp only [Act.put, List.setIfInBounds_toArray, List.set_cons_zero, List.set_cons_succ]
  refine wpAnyH_take (i := 7) (oi := _) (v := .pointer (some ⟨Wb, 0, none⟩)) rfl (by kernel_rfl) (by kernel_rfl) (by kernel_rfl) (fun _ _ _ h => h) (Or.inl ⟨by rfl, ?_⟩) hS0.out ?_
  · intro u hu
    obtain ⟨h1, h2, h3, h4⟩ := hu
    clear h4
    go_simp
  simp only [Act.put, List.setIfInBounds_toArray, List.set_cons_zero, List.set_cons_succ]
  refine wpAnyH_take (i := 8) (oi := _) (v := .pointer (some ⟨Wb, 0, none⟩)) rfl (by kernel_rfl) (by kernel_rfl) (by kernel_rfl) (fun _ _ _ h => h) (Or.inl ⟨by rfl, ?_⟩) hS0.out ?_
  · intro u hu
    obtain ⟨h1, h2, h3, h4⟩ := hu
    clear h4
    go_simp
  simp only [Act.put, List.setIfInBounds_toArray, List.set_cons_zero, List.set_cons_succ]
  refine wpAnyH_take (i := 9) (oi := _) (v := .pointer (some ⟨Wb, 1, none⟩)) rfl (by kernel_rfl) (by kernel_rfl) (by kernel_rfl) (fun _ _ _ h => h) (Or.inl ⟨by rfl, ?_⟩) hS0.out ?_
  · intro u hu
    obtain ⟨h1, h2, h3, h4⟩ := hu
    clear h4
    go_simp
  simp only [Act.put, List.setIfInBounds_toArray, List.set_cons_zero, List.set_cons_succ]
  refine wpAnyH_take (i := 10) (oi := _) (v := .slice (some ⟨bg, 0, none⟩) hs.length bcap) rfl (by kernel_rfl) (by kernel_rfl) (by kernel_rfl) (fun _ _ _ h => h) (Or.inl ⟨by rfl, ?_⟩) hS0.out ?_
  · intro u hu
    obtain ⟨h1, h2, h3, h4⟩ := hu
    clear h4
    go_simp
  simp only [Act.put, List.setIfInBounds_toArray, List.set_cons_zero, List.set_cons_succ]
  refine wpAnyH_take (i := 11) (oi := _) (v := .int .i64 (hs.length : Int)) rfl (by kernel_rfl) (by kernel_rfl) (by kernel_rfl) (fun _ _ _ h => h) (Or.inl ⟨by rfl, ?_⟩) hS0.out ?_
  · intro u hu
    obtain ⟨h1, h2, h3, h4⟩ := hu
    clear h4
    go_simp
  simp only [Act.put, List.setIfInBounds_toArray, List.set_cons_zero, List.set_cons_succ]
  refine wpAnyH_ready (rs := [12]) (by kernel_rfl) (by simp) ?_
  refine AllReadyH.cons (o := { dst := some 60, op := Op.call { callee := Callee.value (Operand.func 14), args := #[Operand.tmp 54, Operand.tmp 59], argTypes := #[3, 3] }, type := 3, pos := "law.go:344", after := #[{ on := 6, ground := Ground.data }, { on := 11, ground := Ground.data }], guard := none }) rfl (fun K hK => ?_) AllReadyH.nil
  go_simp
  refine (hP.out _).mono ?_
  rintro e u2 ⟨rfl, rfl⟩
  go_wp2_with fail
  refine hK.out _ _ hS0.out (fun _ => ?_)
  clear hK K
  try simp only [Act.put, List.setIfInBounds_toArray, List.set_cons_zero, List.set_cons_succ]
  refine wpAnyH_take (i := 13) (oi := _) (v := .pointer (some ⟨bg, pn, none⟩)) rfl (by kernel_rfl) (by kernel_rfl) (by kernel_rfl) (fun _ _ _ h => h) (Or.inl ⟨by rfl, ?_⟩) hS0.out ?_
  · intro u hu
    obtain ⟨h1, h2, h3, h4⟩ := hu
    clear h4
    go_simp
  simp only [Act.put, List.setIfInBounds_toArray, List.set_cons_zero, List.set_cons_succ]
  refine wpAnyH_take (i := 14) (oi := _) (v := .pointer (some ⟨hb, 0, none⟩)) rfl (by kernel_rfl) (by kernel_rfl) (by kernel_rfl) (fun _ _ _ h => h) (Or.inl ⟨by rfl, ?_⟩) hS0.out ?_
  · intro u hu
    obtain ⟨h1, h2, h3, h4⟩ := hu
    clear h4
    go_simp
  simp only [Act.put, List.setIfInBounds_toArray, List.set_cons_zero, List.set_cons_succ]
  refine wpAnyH_ready (rs := [16]) (by kernel_rfl) (by simp) ?_
  refine AllReadyH.cons (o := { dst := some 64, op := Op.call { callee := Callee.value (Operand.func 10), args := #[Operand.tmp 48, Operand.tmp 62, Operand.tmp 63], argTypes := #[25, 50, 46] }, type := 4, pos := "law.go:344", after := #[{ on := 0, ground := Ground.data }, { on := 14, ground := Ground.data }, { on := 15, ground := Ground.data }, { on := 12, ground := Ground.chain }], guard := none }) rfl (fun K hK => ?_) AllReadyH.nil
  go_simp
  refine (hBk.out).mono ?_
  rintro e w2 ⟨rfl, hBe⟩
  have hS2 : Hid (w2.cell? ⟨Wb, 1, none⟩ = some (.slice (some ⟨bg, 0, none⟩) hs.length bcap) ∧ w2.cell? ⟨w.heap.size, 1, none⟩ = some (.int .i64 at_) ∧ w2.cell? ⟨bg, pn, none⟩ = some (.pointer (some ⟨hb, 0, none⟩)) ∧ w2.rangeAt w.heap.size 0 [.int .i64 kind, .int .i64 at_, .int .i64 n, .string (bs s), .int .u8 (k : Int), .int .u8 (f : Int), .int .u8 (t : Int), .int .u32 (mi : Int), .int .u8 (l : Int), .int .u16 (p : Int), .int .u16 (g : Int), .int .u32 (a : Int), .string (bs m), .int .u32 pid, .int .u64 dead, .string (bs memo), .slice legs llen lcap, .int .u16 (acc : Int), .int .u32 (amt : Int)]) := hide ⟨hBe.bank, (World.cell?_of_block (a := ⟨w.heap.size, 1, none⟩) hBe.box).trans hS0.out.2.1, hrw.out _ hBe, range_of hS0.out.2.2.2 hBe.box⟩
  replace hBe := hide hBe
  go_wp2_with fail
  refine hK.out _ _ hS2.out (fun _ => ?_)
  clear hK K
  try simp only [Act.put, List.setIfInBounds_toArray, List.set_cons_zero, List.set_cons_succ]
  refine wpAnyH_take (i := 17) (oi := { dst := some 4, op := Op.assign (Operand.tmp 64), type := 4, pos := "law.go:344", after := #[{ on := 16, ground := Ground.data }, { on := 16, ground := Ground.chain }, { on := 0, ground := Ground.phase }, { on := 1, ground := Ground.phase }, { on := 2, ground := Ground.phase }, { on := 3, ground := Ground.phase }, { on := 4, ground := Ground.phase }, { on := 5, ground := Ground.phase }, { on := 6, ground := Ground.phase }, { on := 7, ground := Ground.phase }, { on := 8, ground := Ground.phase }, { on := 9, ground := Ground.phase }, { on := 10, ground := Ground.phase }, { on := 11, ground := Ground.phase }, { on := 12, ground := Ground.phase }, { on := 13, ground := Ground.phase }, { on := 14, ground := Ground.phase }, { on := 15, ground := Ground.phase }, { on := 16, ground := Ground.phase }], guard := none }) (v := .bool true) rfl (by kernel_rfl) (by kernel_rfl) (by kernel_rfl) (fun _ _ _ h => h) (Or.inl ⟨by rfl, ?_⟩) hS2.out ?_
  · intro u hu
    clear hu
    go_simp
  try simp only [Act.put, List.setIfInBounds_toArray, List.set_cons_zero, List.set_cons_succ]
  refine wpAnyH_done (by kernel_rfl) ?_ _
  go_wp2
  go_ret
  exact ⟨rfl, hBe.out.goes⟩
end Go.Proofs.YtjkhbjgfoopomaaGreat
/-
  A step of the statement Banks, whichever; its head.
-/
namespace Go.Proofs.YtjkhbjgfoopomaaGreat
open Go.RowKit
set_option linter.unusedVariables false
set_option linter.unusedSimpArgs false

set_option maxRecDepth 100000 in
set_option maxHeartbeats 2000000 in
theorem step_made (w0 : Base) (w : World) (Wb : Nat) (own : Nat → Nat) (hs : List House) (ll : List (Value × Nat)) (vb vl : Value) (I : MemInv w0 w Wb own hs ll vb vl) (hok : ∀ h, h ∈ hs → h.ok) (hl2 : hs.length ≤ 1000000000000)
    (at_ n : Int) (s : List UInt8) (k f t mi l p g a : Nat) (m : List UInt8) (pid dead : Int) (memo : List UInt8) (legs : Option Addr) (llen lcap acc amt : Nat) (hn : i64ok n) (hlg : w0.lg = false) :
    Calls Tryz.prog 7 #[.pointer (some ⟨Wb, 0, none⟩), (⟨1, at_, n, s, ⟨k, f, t, mi, l, p, g, a, m⟩, pid, dead, memo, legs, llen, lcap, acc, amt⟩ : Opr).v] w fun e w' => e = .returned (.bool true) ∧ Goes1 w0 w' Wb hs ll := by
  obtain ⟨W1, hW1⟩ : ∃ W1, W1 = (w.alloc (.cells (⟨1, at_, n, s, ⟨k, f, t, mi, l, p, g, a, m⟩, pid, dead, memo, legs, llen, lcap, acc, amt⟩ : Opr).cells 46)) := ⟨_, rfl⟩
  have hbW : Below w.heap.size w W1 := by rw [hW1]; exact (Below.refl w.heap.size w).alloc (Nat.le_refl _) _
  have hrg := hide (op_range (⟨1, at_, n, s, ⟨k, f, t, mi, l, p, g, a, m⟩, pid, dead, memo, legs, llen, lcap, acc, amt⟩ : Opr) w)
  have hM := hide (made_any w0 W1 Wb own hs ll vb vl (I.below hbW) hok hl2 (⟨1, at_, n, s, ⟨k, f, t, mi, l, p, g, a, m⟩, pid, dead, memo, legs, llen, lcap, acc, amt⟩ : Opr) hn (by show (1 : Int) ≠ 8; decide) hlg)
  clear I
  simp only [Opr.v, Opr.cells] at *
  replace hW1 := hide hW1
  go_enter Tryz.func7, Tryz.ntmps7
  go_wp2_with (first
    | (refine wpList_load_mid (by rfl) 46 _ (by rfl) w.heap.size 0 (by rfl) [.int .i64 1, .int .i64 at_, .int .i64 n, .string (bs s), .int .u8 (k : Int), .int .u8 (f : Int), .int .u8 (t : Int), .int .u32 (mi : Int), .int .u8 (l : Int), .int .u16 (p : Int), .int .u16 (g : Int), .int .u32 (a : Int), .string (bs m), .int .u32 pid, .int .u64 dead, .string (bs memo), .slice legs llen lcap, .int .u16 (acc : Int), .int .u32 (amt : Int)] _ hrg.out Tryz.underlying46 rfl opSize ?_)
    | (go_at_call 9; refine stopAt ?_))
  refine hide ?_
  rw [← hW1.out]
  refine (hM.out).mono ?_
  rintro e w2 ⟨rfl, own', hs', vb', vl', J, hok', hl'⟩
  have hG : Hid (Goes1 w0 w2 Wb hs ll) := hide ⟨own', hs', ll, vb', vl', J, hok', by rw [hl']; split <;> omega, by rw [hl']; omega, by omega⟩
  clear J hM hrg
  go_wp2
  go_ret
  exact ⟨rfl, hG.out⟩
theorem step_any (w0 : Base) (w : World) (Wb : Nat) (own : Nat → Nat) (hs : List House) (ll : List (Value × Nat)) (vb vl : Value) (I : MemInv w0 w Wb own hs ll vb vl) (hok : ∀ h, h ∈ hs → h.ok) (hl1 : 0 < hs.length) (hl2 : hs.length ≤ 1000000000000) (hlen : ll.length ≤ 3999999999000) (o : Opr) (ho : o.ok) (hk : 1 ≤ o.kind ∧ o.kind ≤ 6) (hlg : w0.lg = false) :
    Calls Tryz.prog 7 #[.pointer (some ⟨Wb, 0, none⟩), o.v] w fun e w' => e = .returned (.bool true) ∧ Goes1 w0 w' Wb hs ll := by
  obtain ⟨kind, at_, n, s, ⟨k, f, t, mi, l, p, g, a, m⟩, pid, dead, memo, legs, llen, lcap, acc, amt⟩ := o
  simp only at hk
  by_cases h1 : kind = 1
  · subst h1
    exact step_made w0 w Wb own hs ll vb vl I hok hl2 at_ n s k f t mi l p g a m pid dead memo legs llen lcap acc amt ho.2.2.1 hlg
  · exact step_bank w0 w Wb own hs ll vb vl I hok hl1 hl2 hlen kind at_ n s k f t mi l p g a m pid dead memo legs llen lcap acc amt ho (by omega)
/-- behind the head: one bank -/
def Begun (w0 : Base) (Wb : Nat) (e : Ending) (w' : World) : Prop := e = .returned (.bool true) ∧ ∃ own' hs' ll' vb' vl', MemInv w0 w' Wb own' hs' ll' vb' vl' ∧ (∀ h, h ∈ hs' → h.ok) ∧ hs'.length = 1 ∧ ll'.length ≤ 8
end Go.Proofs.YtjkhbjgfoopomaaGreat
/-
  The head of the statement Banks.
-/
namespace Go.Proofs.YtjkhbjgfoopomaaGreat
open Go.RowKit
set_option linter.unusedVariables false
set_option linter.unusedSimpArgs false

/-- behind a step on the first bank: the cells of the list of banks; all in order -/
theorem goes_cells {w0 : Base} {w' : World} {Wb : Nat} {hs : List House} {vb : Value} {hb : Nat} {ll : List (Value × Nat)} (h : Goes w0 w' Wb hs ll vb 0 hb) (hl : 0 < hs.length) (g : Nat) (hg : vb.ownBlock = some g) : w'.cell? ⟨Wb, 1, none⟩ = some vb ∧ w'.cell? ⟨g, 0, none⟩ = some (.pointer (some ⟨hb, 0, none⟩)) ∧ ∃ own hs' ll' vl, MemInv w0 w' Wb own hs' ll' vb vl ∧ (∀ h, h ∈ hs' → h.ok) ∧ hs'.length = hs.length ∧ ll'.length ≤ ll.length + 4 := by
  obtain ⟨own', hs', ll', vl', J, hok', hhb, hll⟩ := h
  have hl' : hs'.length = hs.length := by have := congrArg List.length hhb; simpa using this
  refine ⟨cell_at J.wblk 1, ?_, own', hs', ll', vl', J, hok', hl', hll⟩
  obtain ⟨ad, cap, hv, hev⟩ := J.brow.form ptrCell_length
  obtain ⟨g', rfl, hcell, _⟩ := hev 0 (by omega)
  have c0 := hcell 0 (by decide)
  obtain rfl : g' = g := by rw [hv] at hg; simpa [Value.ownBlock] using hg
  simp only [ptrCell, List.getElem?_cons_zero, Nat.zero_mul, Nat.add_zero] at c0
  rw [c0]
  have : (hs'.map House.hb)[0]'(by simp; omega) = ((hs.map House.hb).set 0 hb)[0]'(by simpa using hl) := by simp only [hhb]
  simp only [List.getElem_map, List.getElem_set_self] at this
  rw [this]

theorem openOp_ok (acc amt : Nat) (ha : acc < 65536) (hm : amt < 4294967296) : (⟨2, 0, 0, [], ⟨0, 0, 0, 0, 0, 0, 0, 0, []⟩, 0, 0, [], none, 0, 0, acc, amt⟩ : Opr).ok := by
  simp [Opr.ok, i64ok, Msg.ok, ha, hm]
set_option maxRecDepth 100000 in
set_option maxHeartbeats 2000000 in
theorem begin_any (w0 : Base) (w : World) (Wb : Nat) (own : Nat → Nat) (I : MemInv w0 w Wb own [] [] (.slice none 0 0) (.slice none 0 0)) (hlg : w0.lg = false) :
    Calls Tryz.prog 6 #[.pointer (some ⟨Wb, 0, none⟩), .bool true, .bool false] w (Begun w0 Wb) := by
  have hM := hide (made_any w0 w Wb own [] [] (.slice none 0 0) (.slice none 0 0) I (by simp) (by simp) ⟨1, 0, 3, [], ⟨0, 0, 0, 0, 0, 0, 0, 0, []⟩, 0, 0, [], none, 0, 0, 0, 0⟩ ⟨by decide, by decide⟩ (by decide) hlg)
  simp only [Opr.v, Opr.cells] at hM
  go_enter Tryz.func6, Tryz.ntmps6
  go_wp2_with fail
  refine (hM.out).mono ?_
  rintro e w2 ⟨rfl, own', hs', vb', vl', J, hok', hl'⟩
  have hl1 : hs'.length = 1 := hl'
  have hJ : Hid (∃ own hs ll vb vl, MemInv w0 w2 Wb own hs ll vb vl ∧ (∀ h, h ∈ hs → h.ok) ∧ hs.length = 1 ∧ ll.length ≤ 4 * 0) := hide ⟨own', hs', [], vb', vl', J, hok', hl1, Nat.le_refl _⟩
  clear hM hl' J hok' hl1 I
  go_wp2
  go_loopw [7, 8] (fun okv c u => okv = .bool true ∧ ∃ k : Nat, k ≤ 2 ∧ c = .int .i64 k ∧ ∃ own hs ll vb vl, MemInv w0 u Wb own hs ll vb vl ∧ (∀ h, h ∈ hs → h.ok) ∧ hs.length = 1 ∧ ll.length ≤ 4 * k) (fun _ c _ => 2 - (intOf c).toNat)
  case atStart => exact ⟨rfl, 0, by omega, rfl, hJ.out⟩
  case round =>
    clear hJ
    obtain ⟨rfl, k, hk, rfl, own, hs, ll, vb, vl, J, hok, hl1, hll⟩ := hrel
    obtain ⟨bad, bcap, hv, hev⟩ := J.brow.form ptrCell_length
    have h0 : 0 < hs.length := by omega
    obtain ⟨bg, hbg, hcell, _⟩ := hev 0 h0
    subst hbg
    have cg := hcell 0 (by decide)
    simp only [ptrCell, List.getElem?_cons_zero, Nat.zero_mul, Nat.add_zero] at cg
    have hBk := hide (fun (acc amt : Nat) (ha : acc < 65536) (hm : amt < 4294967296) => bank_any w0 wr Wb own hs ll vb vl J hok 0 h0 _ (openOp_ok acc amt ha hm) ⟨by show (2 : Int) ≤ 2; decide, by show (2 : Int) ≤ 6; decide⟩ (by omega))
    simp only [Opr.v, Opr.cells] at hBk
    have hgo := hide (fun (w' : World) (h : Goes w0 w' Wb hs ll vb 0 hs[0].hb) => (goes_cells h h0 bg (by rw [hv]; rfl)).2.2)
    have hbgl : bg < wr.heap.size := J.brow.lt (by rw [hv]; rfl)
    generalize hs[0].hb = hb at *
    subst hv
    have hlo : Hid (hs.length = 1) := hide hl1
    have hc : ∀ o, wr.cell? ⟨Wb, o, none⟩ = (#[.bool w0.lg, .slice (some ⟨bg, 0, none⟩) 1 bcap, w0.vd, vl] : Array Value)[o]? := fun o => by rw [← hl1]; exact cell_at J.wblk o
    have hfin : Hid (k = 2 → Begun w0 Wb (.returned (.bool true)) wr) := hide (fun h2 => ⟨rfl, own, hs, ll, _, vl, J, hok, hl1, by omega⟩)
    clear J hok hev hcell
    have hk3 : k = 0 ∨ k = 1 ∨ k = 2 := by omega
    rcases hk3 with rfl | rfl | rfl
    · have hB := hide (hBk.out 5 1500 (by decide) (by decide))
      clear hBk
      go_wp2_with fail
      refine (hB.out).mono ?_
      rintro e w3 ⟨rfl, hG⟩
      obtain ⟨own3, hs3, ll3, vl3, J3, hok3, hl3, hll3⟩ := hgo.out w3 hG
      have hn : Hid (∃ own hs ll vb vl, MemInv w0 w3 Wb own hs ll vb vl ∧ (∀ h, h ∈ hs → h.ok) ∧ hs.length = 1 ∧ ll.length ≤ 4 * 1) := hide ⟨own3, hs3, ll3, _, vl3, J3, hok3, by rw [hl3]; exact hlo.out, by omega⟩
      clear hG J3 hok3 hgo hB hc cg
      go_wp2
      exact ⟨⟨rfl, 1, by omega, by go_num, hn.out⟩, by simp [intOf]⟩
    · have hB := hide (hBk.out 6 0 (by decide) (by decide))
      clear hBk
      go_wp2_with fail
      refine (hB.out).mono ?_
      rintro e w3 ⟨rfl, hG⟩
      obtain ⟨own3, hs3, ll3, vl3, J3, hok3, hl3, hll3⟩ := hgo.out w3 hG
      have hn : Hid (∃ own hs ll vb vl, MemInv w0 w3 Wb own hs ll vb vl ∧ (∀ h, h ∈ hs → h.ok) ∧ hs.length = 1 ∧ ll.length ≤ 4 * 2) := hide ⟨own3, hs3, ll3, _, vl3, J3, hok3, by rw [hl3]; exact hlo.out, by omega⟩
      clear hG J3 hok3 hgo hB hc cg
      go_wp2
      exact ⟨⟨rfl, 2, by omega, by go_num, hn.out⟩, by simp [intOf]⟩
    · clear hBk hgo
      go_wp2
      go_ret
      exact hfin.out trivial
end Go.Proofs.YtjkhbjgfoopomaaGreat
