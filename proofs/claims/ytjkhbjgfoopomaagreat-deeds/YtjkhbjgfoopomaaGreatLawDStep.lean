import Derived.Test.YtjkhbjgfoopomaaGreatG29
/-
  A step of the statement Deeds.
-/
namespace Go.Proofs.YtjkhbjgfoopomaaGreat
open Go.RowKit
set_option linter.unusedVariables false
set_option linter.unusedSimpArgs false
/-- from here on, with one block more that stays -/
def dbaseUp (w0 : DBase) (w : World) (b : Nat) (hs : w0.w.heap.size ≤ w.heap.size) (hb : b < w.heap.size) : DBase := ⟨w, fun k => w0.F k ∨ k = b, fun k hk => by
  rcases hk with hk | rfl
  · exact Nat.lt_of_lt_of_le (w0.lt k hk) hs
  · exact hb, w0.lg, w0.vb, w0.Q, w0.loc⟩
section
variable {w0 : DBase} {w w' : World} {Wb : Nat} {own : Nat → Nat} {hs : List Office} {ll : List (Value × Nat)} {vd vl : Value}
theorem DInv.up (I : DInv w0 w Wb own hs ll vd vl) (b : Nat) (hb : b < w.heap.size) (h0 : own b = 0) : DInv (dbaseUp w0 w b I.bel.size hb) w Wb own hs ll vd vl :=
  ⟨⟨rfl, rfl, rfl, Nat.le_refl _, fun _ _ => rfl⟩, fun k hk hF => by
    rcases hF with hF | rfl
    · exact I.old k hk hF
    · exact hk h0, I.wblk, I.wown, I.drow, I.down, I.lrow, I.lown, I.full, I.fown, I.four, I.house, I.oth⟩
theorem DInv.lower {b : Nat} {h1 : w0.w.heap.size ≤ w.heap.size} {h2 : b < w.heap.size} (hB : BelF w0.bs w) (I : DInv (dbaseUp w0 w b h1 h2) w' Wb own hs ll vd vl) : DInv w0 w' Wb own hs ll vd vl :=
  ⟨⟨I.bel.os.trans hB.os, I.bel.tape.trans hB.tape, I.bel.output.trans hB.output, Nat.le_trans hB.size I.bel.size, fun k hF => (I.bel.block k (.inl hF)).trans (hB.block k hF)⟩, fun k hk hF => I.old k hk (.inl hF), I.wblk, I.wown, I.drow, I.down, I.lrow, I.lown, I.full, I.fown, I.four, I.house, I.oth⟩
theorem Stays.up {la : Option Addr} {legs : List Pl} (h : Stays w0 la legs) (hB : BelF w0.bs w) (b : Nat) (h1 : w0.w.heap.size ≤ w.heap.size) (h2 : b < w.heap.size) : Stays (dbaseUp w0 w b h1 h2) la legs := ⟨h.legsAt hB, fun a e hl => .inl (h.own a e hl)⟩
theorem Opr.paid.up {o : Opr} (h : o.paid w0) (hB : BelF w0.bs w) (b : Nat) (h1 : w0.w.heap.size ≤ w.heap.size) (h2 : b < w.heap.size) : o.paid (dbaseUp w0 w b h1 h2) := by
  obtain ⟨pi, pd, legs, e1, e2, e3, e4, e5, e6, e7⟩ := h
  exact ⟨pi, pd, legs, e1, e2, e3, e4, e5, e6, e7.up hB b h1 h2⟩
end
/-- the world goes on: offices at most one more, lists at most four more -/
def DGoes1 (w0 : DBase) (N : Nat) (w' : World) (Wb : Nat) (hs : List Office) (ll : List (Value × Nat)) : Prop :=
  ∃ own' hs' ll' vd' vl', DInv w0 w' Wb own' hs' ll' vd' vl' ∧ (∀ h, h ∈ hs' → h.ok (N + 1)) ∧ hs'.length ≤ hs.length + 1 ∧ hs.length ≤ hs'.length ∧ ll'.length ≤ ll.length + 4
/-- behind a step on a notary -/
structure DBehind (w0 : DBase) (N : Nat) (u w' : World) (Wb b : Nat) (hs : List Office) (ll : List (Value × Nat)) (vd : Value) : Prop where
  goes : DGoes1 w0 N w' Wb hs ll
  box : w'.heap[b]? = u.heap[b]?
  bank : w'.cell? ⟨Wb, 2, none⟩ = some vd
  row : ∀ j (hj : j < hs.length) g, vd.ownBlock = some g → w'.cell? ⟨g, j, none⟩ = some (.pointer (some ⟨hs[j].hb, 0, none⟩))
theorem deed_behind (w0 : DBase) (N : Nat) (hN : N ≤ 999999999999) (w : World) (Wb : Nat) (own : Nat → Nat) (hs : List Office) (ll : List (Value × Nat)) (vd vl : Value) (I : DInv w0 w Wb own hs ll vd vl) (hok : ∀ h, h ∈ hs → h.ok N) (i : Nat) (hi : i < hs.length) (o : Opr) (ho : o.ok) (hp : o.paid w0) (hk : 9 ≤ o.kind ∧ o.kind ≤ 13) (hlen : ll.length ≤ 3999999999000)
    (u : World) (hu : Below w.heap.size w u) (hlt : w.heap.size < u.heap.size) :
    Calls Tryz.prog 11 #[.pointer (some ⟨Wb, 0, none⟩), .pointer (some ⟨hs[i].hb, 0, none⟩), o.v] u fun e w' => e = .returned (.bool true) ∧ DBehind w0 N u w' Wb w.heap.size hs ll vd := by
  have I0 := I.below0 hu
  have I1 := I0.up w.heap.size hlt (by simp)
  refine (deed_any _ N hN u Wb _ hs ll vd vl I1 hok i hi o ho (hp.up I0.bel _ _ _) hk hlen).mono ?_
  rintro e w' ⟨rfl, own', hs', ll', vl', J, hok', hhb, hll⟩
  have hhb' : hs'.map Office.hb = hs.map Office.hb := by
    rw [hhb, show hs[i].hb = (hs.map Office.hb)[i]'(by simpa using hi) by simp]
    exact List.set_getElem_self _
  have hl' : hs'.length = hs.length := by have := congrArg List.length hhb'; simpa using this
  refine ⟨rfl, ⟨own', hs', ll', vd, vl', DInv.lower I0.bel J, hok', by omega, by omega, hll⟩, J.bel.block _ (.inr rfl), cell_at J.wblk 2, ?_⟩
  intro j hj g hg
  obtain ⟨ad, cap, hv, hev⟩ := J.drow.form offCell_length
  obtain ⟨g', rfl, hcell, _⟩ := hev j (by omega)
  have c0 := hcell 0 (by decide)
  obtain rfl : g' = g := by rw [hv] at hg; simpa [Value.ownBlock] using hg
  simp only [offCell, List.getElem?_cons_zero, Nat.add_zero, Nat.mul_one] at c0
  rw [c0]
  have : (hs'.map Office.hb)[j]'(by simp; omega) = (hs.map Office.hb)[j]'(by simpa using hj) := by simp only [hhb']
  simp only [List.getElem_map] at this
  rw [this]

set_option maxRecDepth 100000 in
set_option maxHeartbeats 2000000 in
theorem step_deed (w0 : DBase) (N : Nat) (hN : N ≤ 999999999999) (w : World) (Wb : Nat) (own : Nat → Nat) (hs : List Office) (ll : List (Value × Nat)) (vd vl : Value) (I : DInv w0 w Wb own hs ll vd vl) (hok : ∀ h, h ∈ hs → h.ok N) (hl1 : 0 < hs.length) (hl2 : hs.length ≤ 1000000000000) (hlen : ll.length ≤ 3999999999000)
    (kind at_ n : Int) (s : List UInt8) (k f t mi l p g a : Nat) (m : List UInt8) (pid dead : Int) (memo : List UInt8) (legs : Option Addr) (llen lcap acc amt : Nat) (ho : (⟨kind, at_, n, s, ⟨k, f, t, mi, l, p, g, a, m⟩, pid, dead, memo, legs, llen, lcap, acc, amt⟩ : Opr).ok) (hp : (⟨kind, at_, n, s, ⟨k, f, t, mi, l, p, g, a, m⟩, pid, dead, memo, legs, llen, lcap, acc, amt⟩ : Opr).paid w0) (hk : 9 ≤ kind ∧ kind ≤ 13) :
    Calls Tryz.prog 7 #[.pointer (some ⟨Wb, 0, none⟩), (⟨kind, at_, n, s, ⟨k, f, t, mi, l, p, g, a, m⟩, pid, dead, memo, legs, llen, lcap, acc, amt⟩ : Opr).v] w fun e w' => e = .returned (.bool true) ∧ DGoes1 w0 N w' Wb hs ll := by
  have hP := hide (fun u => pick_any at_ ho.2.1 hs.length hl1 (by omega) u)
  have hpl : pickN at_ hs.length < hs.length := Nat.mod_lt _ hl1
  obtain ⟨W1, hW1⟩ : ∃ W1, W1 = (w.alloc (.cells (⟨kind, at_, n, s, ⟨k, f, t, mi, l, p, g, a, m⟩, pid, dead, memo, legs, llen, lcap, acc, amt⟩ : Opr).cells 46)).drew := ⟨_, rfl⟩
  have hbW : Below w.heap.size w W1 := by rw [hW1]; exact ((Below.refl w.heap.size w).alloc (Nat.le_refl _) _).drew
  have hlW : w.heap.size < W1.heap.size := by rw [hW1]; simp
  have hrg : W1.rangeAt w.heap.size 0 (⟨kind, at_, n, s, ⟨k, f, t, mi, l, p, g, a, m⟩, pid, dead, memo, legs, llen, lcap, acc, amt⟩ : Opr).cells.toList := by rw [hW1]; exact op_range (⟨kind, at_, n, s, ⟨k, f, t, mi, l, p, g, a, m⟩, pid, dead, memo, legs, llen, lcap, acc, amt⟩ : Opr) w
  have hBk := deed_behind w0 N hN w Wb own hs ll vd vl I hok (pickN at_ hs.length) hpl (⟨kind, at_, n, s, ⟨k, f, t, mi, l, p, g, a, m⟩, pid, dead, memo, legs, llen, lcap, acc, amt⟩ : Opr) ho hp hk hlen W1 hbW hlW
  obtain ⟨bad, bcap, hv, hev⟩ := I.drow.form offCell_length
  obtain ⟨bg, hbg, hcell, _⟩ := hev _ hpl
  subst hbg
  have cg := hcell 0 (by decide)
  simp only [offCell, List.getElem?_cons_zero, Nat.add_zero, Nat.mul_one] at cg
  have hbgl : bg < w.heap.size := I.drow.lt (by rw [hv]; rfl)
  have hrw := hide (fun (w' : World) (h : DBehind w0 N W1 w' Wb w.heap.size hs ll vd) => h.row _ hpl bg (by rw [hv]; rfl))
  generalize hs[pickN at_ hs.length].hb = hb at *
  generalize pickN at_ hs.length = pn at *
  subst hv
  have hc : ∀ o, w.cell? ⟨Wb, o, none⟩ = (#[.bool w0.lg, w0.vb, .slice (some ⟨bg, 0, none⟩) hs.length bcap, vl] : Array Value)[o]? := fun o => cell_at I.wblk o
  have hWl : Wb < w.heap.size := block_lt I.wblk
  have e0 : W1.cell? ⟨Wb, 2, none⟩ = some (.slice (some ⟨bg, 0, none⟩) hs.length bcap) := (hbW.cell (p := ⟨Wb, 2, none⟩) hWl).trans (hc 2)
  have e1 : W1.cell? ⟨w.heap.size, 1, none⟩ = some (.int .i64 at_) := by rw [hW1]; simp [Opr.cells]
  have e2 : W1.cell? ⟨bg, pn, none⟩ = some (.pointer (some ⟨hb, 0, none⟩)) := (hbW.cell (p := ⟨bg, pn, none⟩) hbgl).trans cg
  have d15 : (kind == 15) = false := by simp; omega
  have d1 : (kind == 1) = false := by simp; omega
  have d8 : (kind == 8) = false := by simp; omega
  have d2 : decide (kind ≥ 2) = true := by simp; omega
  have d2' : decide (2 ≤ kind) = true := by simp; omega
  have d7 : decide (kind ≤ 7) = false := by simp; omega
  have d9 : decide (kind ≥ 9) = true := by simp; omega
  have d9' : decide (9 ≤ kind) = true := by simp; omega
  have d14 : decide (kind ≤ 14) = true := by simp; omega
  have dl : decide ((0 : Int) < (hs.length : Int)) = true := by simp; omega
  have hpn : (pn : Int) < (hs.length : Int) := by omega
  have hsz : (Tryz.prog.info? 46).map (·.size) = some (List.length ([.int .i64 kind, .int .i64 at_, .int .i64 n, .string (bs s), .int .u8 (k : Int), .int .u8 (f : Int), .int .u8 (t : Int), .int .u32 (mi : Int), .int .u8 (l : Int), .int .u16 (p : Int), .int .u16 (g : Int), .int .u32 (a : Int), .string (bs m), .int .u32 pid, .int .u64 dead, .string (bs memo), .slice legs llen lcap, .int .u16 (acc : Int), .int .u32 (amt : Int)] : List Value)) := opSize
  have hun := Tryz.underlying46
  clear I hev hcell
  simp only [Opr.v, Opr.cells] at *
  have hS0 : Hid (W1.cell? ⟨Wb, 2, none⟩ = some (.slice (some ⟨bg, 0, none⟩) hs.length bcap) ∧ W1.cell? ⟨w.heap.size, 1, none⟩ = some (.int .i64 at_) ∧ W1.cell? ⟨bg, pn, none⟩ = some (.pointer (some ⟨hb, 0, none⟩)) ∧ W1.rangeAt w.heap.size 0 [.int .i64 kind, .int .i64 at_, .int .i64 n, .string (bs s), .int .u8 (k : Int), .int .u8 (f : Int), .int .u8 (t : Int), .int .u32 (mi : Int), .int .u8 (l : Int), .int .u16 (p : Int), .int .u16 (g : Int), .int .u32 (a : Int), .string (bs m), .int .u32 pid, .int .u64 dead, .string (bs memo), .slice legs llen lcap, .int .u16 (acc : Int), .int .u32 (amt : Int)]) := hide ⟨e0, e1, e2, hrg⟩
  replace hsz := hide hsz
  replace hun := hide hun
  replace hrg := hide hrg
  replace hBk := hide hBk
  replace hW1 := hide hW1
  go_enter Tryz.func7, Tryz.ntmps7
  go_wp2_with fail
  refine wp_region_held_drew (S := (fun u => u.cell? ⟨Wb, 2, none⟩ = some (.slice (some ⟨bg, 0, none⟩) hs.length bcap) ∧ u.cell? ⟨w.heap.size, 1, none⟩ = some (.int .i64 at_) ∧ u.cell? ⟨bg, pn, none⟩ = some (.pointer (some ⟨hb, 0, none⟩)) ∧ u.rangeAt w.heap.size 0 [.int .i64 kind, .int .i64 at_, .int .i64 n, .string (bs s), .int .u8 (k : Int), .int .u8 (f : Int), .int .u8 (t : Int), .int .u32 (mi : Int), .int .u8 (l : Int), .int .u16 (p : Int), .int .u16 (g : Int), .int .u32 (a : Int), .string (bs m), .int .u32 pid, .int .u64 dead, .string (bs memo), .slice legs llen lcap, .int .u16 (acc : Int), .int .u32 (amt : Int)])) (by kernel_rfl) ?_ (fun _ => ?_)
  · rw [← hW1.out]
    exact hS0.out
  rw [← hW1.out]
  refine wpAnyH_take (i := 15) (oi := _) (v := .agg (List.toArray [.int .i64 kind, .int .i64 at_, .int .i64 n, .string (bs s), .int .u8 (k : Int), .int .u8 (f : Int), .int .u8 (t : Int), .int .u32 (mi : Int), .int .u8 (l : Int), .int .u16 (p : Int), .int .u16 (g : Int), .int .u32 (a : Int), .string (bs m), .int .u32 pid, .int .u64 dead, .string (bs memo), .slice legs llen lcap, .int .u16 (acc : Int), .int .u32 (amt : Int)])) rfl (by kernel_rfl) (by kernel_rfl) (by kernel_rfl) (fun _ _ _ h => h) (yieldsIf_load_mid (by rfl) 46 (.tmp 3) rfl w.heap.size 0 rfl [.int .i64 kind, .int .i64 at_, .int .i64 n, .string (bs s), .int .u8 (k : Int), .int .u8 (f : Int), .int .u8 (t : Int), .int .u32 (mi : Int), .int .u8 (l : Int), .int .u16 (p : Int), .int .u16 (g : Int), .int .u32 (a : Int), .string (bs m), .int .u32 pid, .int .u64 dead, .string (bs memo), .slice legs llen lcap, .int .u16 (acc : Int), .int .u32 (amt : Int)] _ (fun u hu => hu.2.2.2) hun.out rfl hsz.out) hS0.out ?_
  simp only [Act.put, List.setIfInBounds_toArray, List.set_cons_zero, List.set_cons_succ]
  refine wpAnyH_take (i := 0) (oi := _) (v := .pointer (some ⟨Wb, 0, none⟩)) rfl (by kernel_rfl) (by kernel_rfl) (by kernel_rfl) (fun _ _ _ h => h) (Or.inl ⟨by rfl, ?_⟩) hS0.out ?_
  · intro u hu
    obtain ⟨h1, h2, h3, h4⟩ := hu
    clear h4
    go_simp
  simp only [Act.put, List.setIfInBounds_toArray, List.set_cons_zero, List.set_cons_succ]
  refine wpAnyH_take (i := 1) (oi := _) (v := .pointer (some ⟨Wb, 0, none⟩)) rfl (by kernel_rfl) (by kernel_rfl) (by kernel_rfl) (fun _ _ _ h => h) (Or.inl ⟨by rfl, ?_⟩) hS0.out ?_
  · intro u hu
    obtain ⟨h1, h2, h3, h4⟩ := hu
    clear h4
    go_simp
  simp only [Act.put, List.setIfInBounds_toArray, List.set_cons_zero, List.set_cons_succ]
  refine wpAnyH_take (i := 2) (oi := _) (v := .pointer (some ⟨Wb, 0, none⟩)) rfl (by kernel_rfl) (by kernel_rfl) (by kernel_rfl) (fun _ _ _ h => h) (Or.inl ⟨by rfl, ?_⟩) hS0.out ?_
  · intro u hu
    obtain ⟨h1, h2, h3, h4⟩ := hu
    clear h4
    go_simp
  simp only [Act.put, List.setIfInBounds_toArray, List.set_cons_zero, List.set_cons_succ]
  refine wpAnyH_take (i := 3) (oi := _) (v := .pointer (some ⟨Wb, 2, none⟩)) rfl (by kernel_rfl) (by kernel_rfl) (by kernel_rfl) (fun _ _ _ h => h) (Or.inl ⟨by rfl, ?_⟩) hS0.out ?_
  · intro u hu
    obtain ⟨h1, h2, h3, h4⟩ := hu
    clear h4
    go_simp
  simp only [Act.put, List.setIfInBounds_toArray, List.set_cons_zero, List.set_cons_succ]
  refine wpAnyH_take (i := 4) (oi := _) (v := .slice (some ⟨bg, 0, none⟩) hs.length bcap) rfl (by kernel_rfl) (by kernel_rfl) (by kernel_rfl) (fun _ _ _ h => h) (Or.inl ⟨by rfl, ?_⟩) hS0.out ?_
  · intro u hu
    obtain ⟨h1, h2, h3, h4⟩ := hu
    clear h4
    go_simp
  simp only [Act.put, List.setIfInBounds_toArray, List.set_cons_zero, List.set_cons_succ]
  refine wpAnyH_take (i := 5) (oi := _) (v := .pointer (some ⟨w.heap.size, 1, none⟩)) rfl (by kernel_rfl) (by kernel_rfl) (by kernel_rfl) (fun _ _ _ h => h) (Or.inl ⟨by rfl, ?_⟩) hS0.out ?_
  · intro u hu
    obtain ⟨h1, h2, h3, h4⟩ := hu
    clear h4
    go_simp
  simp only [Act.put, List.setIfInBounds_toArray, List.set_cons_zero, List.set_cons_succ]
  refine wpAnyH_take (i := 6) (oi := _) (v := .int .i64 at_) rfl (by kernel_rfl) (by kernel_rfl) (by kernel_rfl) (fun _ _ _ h => h) (Or.inl ⟨by rfl, ?_⟩) hS0.out ?_
  · intro u hu
    obtain ⟨h1, h2, h3, h4⟩ := hu
    clear h4
    go_simp
  simp only [Act.put, List.setIfInBounds_toArray, List.set_cons_zero, List.set_cons_succ]
  refine wpAnyH_take (i := 7) (oi := _) (v := .pointer (some ⟨Wb, 0, none⟩)) rfl (by kernel_rfl) (by kernel_rfl) (by kernel_rfl) (fun _ _ _ h => h) (Or.inl ⟨by rfl, ?_⟩) hS0.out ?_
  · intro u hu
    obtain ⟨h1, h2, h3, h4⟩ := hu
    clear h4
    go_simp
  simp only [Act.put, List.setIfInBounds_toArray, List.set_cons_zero, List.set_cons_succ]
  refine wpAnyH_take (i := 8) (oi := _) (v := .pointer (some ⟨Wb, 0, none⟩)) rfl (by kernel_rfl) (by kernel_rfl) (by kernel_rfl) (fun _ _ _ h => h) (Or.inl ⟨by rfl, ?_⟩) hS0.out ?_
  · intro u hu
    obtain ⟨h1, h2, h3, h4⟩ := hu
    clear h4
    go_simp
  simp only [Act.put, List.setIfInBounds_toArray, List.set_cons_zero, List.set_cons_succ]
  refine wpAnyH_take (i := 9) (oi := _) (v := .pointer (some ⟨Wb, 2, none⟩)) rfl (by kernel_rfl) (by kernel_rfl) (by kernel_rfl) (fun _ _ _ h => h) (Or.inl ⟨by rfl, ?_⟩) hS0.out ?_
  · intro u hu
    obtain ⟨h1, h2, h3, h4⟩ := hu
    clear h4
    go_simp
  simp only [Act.put, List.setIfInBounds_toArray, List.set_cons_zero, List.set_cons_succ]
  refine wpAnyH_take (i := 10) (oi := _) (v := .slice (some ⟨bg, 0, none⟩) hs.length bcap) rfl (by kernel_rfl) (by kernel_rfl) (by kernel_rfl) (fun _ _ _ h => h) (Or.inl ⟨by rfl, ?_⟩) hS0.out ?_
  · intro u hu
    obtain ⟨h1, h2, h3, h4⟩ := hu
    clear h4
    go_simp
  simp only [Act.put, List.setIfInBounds_toArray, List.set_cons_zero, List.set_cons_succ]
  refine wpAnyH_take (i := 11) (oi := _) (v := .int .i64 (hs.length : Int)) rfl (by kernel_rfl) (by kernel_rfl) (by kernel_rfl) (fun _ _ _ h => h) (Or.inl ⟨by rfl, ?_⟩) hS0.out ?_
  · intro u hu
    obtain ⟨h1, h2, h3, h4⟩ := hu
    clear h4
    go_simp
  simp only [Act.put, List.setIfInBounds_toArray, List.set_cons_zero, List.set_cons_succ]
  refine wpAnyH_ready (rs := [12]) (by kernel_rfl) (by simp) ?_
  refine AllReadyH.cons (o := { dst := some 94, op := Op.call { callee := Callee.value (Operand.func 14), args := #[Operand.tmp 88, Operand.tmp 93], argTypes := #[3, 3] }, type := 3, pos := "law.go:346", after := #[{ on := 6, ground := Ground.data }, { on := 11, ground := Ground.data }], guard := none }) rfl (fun K hK => ?_) AllReadyH.nil
  go_simp
  refine (hP.out _).mono ?_
  rintro e u2 ⟨rfl, rfl⟩
  go_wp2_with fail
  refine hK.out _ _ hS0.out (fun _ => ?_)
  clear hK K
  try simp only [Act.put, List.setIfInBounds_toArray, List.set_cons_zero, List.set_cons_succ]
  refine wpAnyH_take (i := 13) (oi := _) (v := .pointer (some ⟨bg, pn, none⟩)) rfl (by kernel_rfl) (by kernel_rfl) (by kernel_rfl) (fun _ _ _ h => h) (Or.inl ⟨by rfl, ?_⟩) hS0.out ?_
  · intro u hu
    obtain ⟨h1, h2, h3, h4⟩ := hu
    clear h4
    go_simp
  simp only [Act.put, List.setIfInBounds_toArray, List.set_cons_zero, List.set_cons_succ]
  refine wpAnyH_take (i := 14) (oi := _) (v := .pointer (some ⟨hb, 0, none⟩)) rfl (by kernel_rfl) (by kernel_rfl) (by kernel_rfl) (fun _ _ _ h => h) (Or.inl ⟨by rfl, ?_⟩) hS0.out ?_
  · intro u hu
    obtain ⟨h1, h2, h3, h4⟩ := hu
    clear h4
    go_simp
  simp only [Act.put, List.setIfInBounds_toArray, List.set_cons_zero, List.set_cons_succ]
  refine wpAnyH_ready (rs := [16]) (by kernel_rfl) (by simp) ?_
  refine AllReadyH.cons (o := { dst := some 98, op := Op.call { callee := Callee.value (Operand.func 11), args := #[Operand.tmp 82, Operand.tmp 96, Operand.tmp 97], argTypes := #[25, 52, 46] }, type := 4, pos := "law.go:346", after := #[{ on := 0, ground := Ground.data }, { on := 14, ground := Ground.data }, { on := 15, ground := Ground.data }, { on := 12, ground := Ground.chain }], guard := none }) rfl (fun K hK => ?_) AllReadyH.nil
  go_simp
  refine (hBk.out).mono ?_
  rintro e w2 ⟨rfl, hBe⟩
  have hS2 : Hid (w2.cell? ⟨Wb, 2, none⟩ = some (.slice (some ⟨bg, 0, none⟩) hs.length bcap) ∧ w2.cell? ⟨w.heap.size, 1, none⟩ = some (.int .i64 at_) ∧ w2.cell? ⟨bg, pn, none⟩ = some (.pointer (some ⟨hb, 0, none⟩)) ∧ w2.rangeAt w.heap.size 0 [.int .i64 kind, .int .i64 at_, .int .i64 n, .string (bs s), .int .u8 (k : Int), .int .u8 (f : Int), .int .u8 (t : Int), .int .u32 (mi : Int), .int .u8 (l : Int), .int .u16 (p : Int), .int .u16 (g : Int), .int .u32 (a : Int), .string (bs m), .int .u32 pid, .int .u64 dead, .string (bs memo), .slice legs llen lcap, .int .u16 (acc : Int), .int .u32 (amt : Int)]) := hide ⟨hBe.bank, (World.cell?_of_block (a := ⟨w.heap.size, 1, none⟩) hBe.box).trans hS0.out.2.1, hrw.out _ hBe, range_of hS0.out.2.2.2 hBe.box⟩
  replace hBe := hide hBe
  go_wp2_with fail
  refine hK.out _ _ hS2.out (fun _ => ?_)
  clear hK K
  try simp only [Act.put, List.setIfInBounds_toArray, List.set_cons_zero, List.set_cons_succ]
  refine wpAnyH_take (i := 17) (oi := { dst := some 4, op := Op.assign (Operand.tmp 98), type := 4, pos := "law.go:346", after := #[{ on := 16, ground := Ground.data }, { on := 16, ground := Ground.chain }, { on := 0, ground := Ground.phase }, { on := 1, ground := Ground.phase }, { on := 2, ground := Ground.phase }, { on := 3, ground := Ground.phase }, { on := 4, ground := Ground.phase }, { on := 5, ground := Ground.phase }, { on := 6, ground := Ground.phase }, { on := 7, ground := Ground.phase }, { on := 8, ground := Ground.phase }, { on := 9, ground := Ground.phase }, { on := 10, ground := Ground.phase }, { on := 11, ground := Ground.phase }, { on := 12, ground := Ground.phase }, { on := 13, ground := Ground.phase }, { on := 14, ground := Ground.phase }, { on := 15, ground := Ground.phase }, { on := 16, ground := Ground.phase }], guard := none }) (v := .bool true) rfl (by kernel_rfl) (by kernel_rfl) (by kernel_rfl) (fun _ _ _ h => h) (Or.inl ⟨by rfl, ?_⟩) hS2.out ?_
  · intro u hu
    clear hu
    go_simp
  try simp only [Act.put, List.setIfInBounds_toArray, List.set_cons_zero, List.set_cons_succ]
  refine wpAnyH_done (by kernel_rfl) ?_ _
  go_wp2
  go_ret
  exact ⟨rfl, hBe.out.goes⟩
end Go.Proofs.YtjkhbjgfoopomaaGreat
