import Derived.Test.YtjkhbjgfoopomaaGreatGStep
import Derived.Deep.Slices
/-
  The script of the statement Banks.
-/
namespace Go.Proofs.YtjkhbjgfoopomaaGreat
open Go.RowKit
set_option linter.unusedVariables false
set_option linter.unusedSimpArgs false
/-- at the head: no notaries, no logs asked for -/
def base0 (W : World) : Base := ⟨W, fun k => k < W.heap.size, fun _ h => h, false, .slice none 0 0, fun _ _ => True, fun _ _ _ _ _ _ _ _ _ => trivial⟩
/-- a script that came in: each step's cells -/
structure Script (W : World) (sv : Value) (ops : List Opr) : Prop where
  form : ∃ ad cap, sv = .slice ad ops.length cap ∧ ∀ k (hk : k < ops.length), ∃ a, ad = some a ∧ a.block < W.heap.size ∧ ∀ j v, ops[k].cells.toList[j]? = some v → W.cell? ((a.add (k * 19)).add j) = some v
  ok : ∀ o, o ∈ ops → o.ok
  len : ops.length ≤ 977343669106
theorem add_block (a : Addr) (n : Nat) : (a.add n).block = a.block := by unfold Addr.add; split <;> rfl
/-- a struct as a whole is read, wherever it lies -/
theorem wpList_load_at {P : Program} {ops : Array Oper} {rest : List Oper} {op : Oper} {a : Act} {w : World} {Q : Exit → Act → World → Prop} (hgd : op.guard = none) (ty : TypeId) (x : Operand) (ho : op.op = .load ty x)
    (ad : Addr) (hx : a.eval x = .pointer (some ad)) (cs : List Value) (fs : Array Field) (hc : ∀ j v, cs[j]? = some v → w.cell? (ad.add j) = some v) (hu : P.underlying ty = some (.struct fs)) (hi : (P.info? ty).map (·.size) = some cs.length)
    (h : wpList P ops Q rest (a.put op.dst (.agg cs.toArray)) w) : wpList P ops Q (op :: rest) a w := by
  have hl : (loadCells ad cs.length).run P w = .ok cs.toArray w := run_loadCells_list (P := P) w ad cs hc
  have hv : (loadVar ty ad).run P w = .ok (.agg cs.toArray) w := by
    cases hq : P.info? ty with
    | none => simp [hq] at hi
    | some i =>
      have hs : i.size = cs.length := by simpa [hq] using hi
      have hagg : (isAgg ty).run P w = .ok true w := by
        unfold isAgg
        rw [Sem.run_bind, run_underlying hu w]
        simp
      simp [loadVar, Sem.run_bind, hagg, sizeOf, typeInfo, hq, hs, hl]
  refine wpList_plain hgd fun K hK => ?_
  unfold Oper.wp execOp
  simp only [ho, hx, Instr.loadAt, Instr.sureAddr, Sem.run_bind, Sem.run_pure, Result.andThen_ok, hv]
  exact hK _ _ h

theorem stopLoadP {P : Program} {ops : Array Oper} {rest : List Oper} {a : Act} {w : World} {Q : Exit → Act → World → Prop} {d : Option Tmp} {ty : TypeId} {p : String} {af : Array Edge} {gd : Option (Nat × Bool)} {x : Operand} (T : TypeId) (h : Hid (wpList P ops Q ({ dst := d, op := Op.load T x, type := ty, pos := p, after := af, guard := gd } :: rest) a w)) : wpList P ops Q ({ dst := d, op := Op.load T x, type := ty, pos := p, after := af, guard := gd } :: rest) a w := h
theorem stopStoreP {P : Program} {ops : Array Oper} {rest : List Oper} {a : Act} {w : World} {Q : Exit → Act → World → Prop} {d : Option Tmp} {ty : TypeId} {p : String} {af : Array Edge} {gd : Option (Nat × Bool)} {x y : Operand} (T : TypeId) (h : Hid (wpList P ops Q ({ dst := d, op := Op.store T x y, type := ty, pos := p, after := af, guard := gd } :: rest) a w)) : wpList P ops Q ({ dst := d, op := Op.store T x y, type := ty, pos := p, after := af, guard := gd } :: rest) a w := h
theorem setCells_putL (b : Nat) : ∀ (vs : List Value) (o : Nat) (w : World), w.setCells b o vs = putL w b o vs
  | [], _, _ => rfl
  | v :: r, o, w => setCells_putL b r (o + 1) (w.setCell ⟨b, o, none⟩ v)
theorem there_new (w : World) (Z : Array Value) (T : TypeId) (n : Nat) (h : n ≤ Z.size) : (w.alloc (.cells Z T)).there w.heap.size 0 n := by
  intro j hj
  rw [Nat.zero_add, World.cell?_alloc_new]
  exact ⟨by rw [Array.getElem?_eq_getElem (by omega)]; rfl, by simp⟩
theorem op_one (o : Opr) : o.cells.all (·.oneCell') = true := by
  refine Array.all_eq_true_iff_forall_mem.2 (fun v hv => ?_)
  simp only [Opr.cells, List.mem_toArray, List.mem_cons, List.not_mem_nil, or_false] at hv
  rcases hv with h | h | h | h | h | h | h | h | h | h | h | h | h | h | h | h | h | h | h <;> subst h <;> rfl
theorem boxed {w U : World} {Z : Array Value} {T : TypeId} {cs : List Value} (hU : (w.alloc (.cells Z T)).setCells w.heap.size 0 cs = U) (hz : Z.size = cs.length) : U.heap[w.heap.size]? = some (.cells cs.toArray T (0, 0)) ∧ Below w.heap.size w U := by
  subst hU
  rw [setCells_putL]
  refine ⟨putL_whole cs (heap_alloc_self _ _) hz, ((Below.refl _ _).alloc (Nat.le_refl _) _).trans ((putL_kept cs _ _ _).below (by simp) (fun k e => by omega))⟩
set_option maxRecDepth 100000 in
set_option maxHeartbeats 2000000 in
theorem plays_any (W : World) (sv : Value) (ops : List Opr) (hS : Script W sv ops) :
    Calls Tryz.prog 5 #[sv, .int .i64 1, .int .i64 6, .bool false] W fun e w' => e = .returned (.bool true) ∧ Below W.heap.size W w' := by
  obtain ⟨sad, scap, hsv, hel⟩ := hS.form
  subst hsv
  have hlen := hS.len
  obtain ⟨U, hU⟩ : ∃ U, U = W.alloc (.cells #[.bool false, .slice none 0 0, .slice none 0 0, .slice none 0 0] 30) := ⟨_, rfl⟩
  have hb0 : Below W.heap.size W U := by rw [hU]; exact (Below.refl _ _).alloc (Nat.le_refl _) _
  have hblk : U.heap[W.heap.size]? = some (.cells #[.bool false, .slice none 0 0, .slice none 0 0, .slice none 0 0] 30 (0, 0)) := by rw [hU]; exact heap_alloc_self _ _
  have I0 : MemInv (base0 W) U W.heap.size (fun k => if k = W.heap.size then 1 else 0) [] [] (.slice none 0 0) (.slice none 0 0) := by
    refine ⟨⟨hb0.os, hb0.tape, hb0.output, hb0.size, fun k hk => hb0.block k hk⟩, fun k hk hF => ?_, hblk, by simp, RowOf.nil _ _, fun g hg => by simp [Value.ownBlock] at hg, RowOf.nil _ _, fun g hg => by simp [Value.ownBlock] at hg, fun i hi => by simp at hi, fun i hi => by simp at hi, rfl, fun i hi => by simp at hi, trivial⟩
    have hF' : k < W.heap.size := hF
    rw [if_neg (by omega)] at hk
    exact hk rfl
  have hBg := hide (begin_any _ U W.heap.size _ I0 rfl)
  replace hU := hide hU
  clear I0 hblk hb0
  go_enter Tryz.func5, Tryz.ntmps5
  go_wp2_with fail
  rw [← hU.out]
  refine (hBg.out).mono ?_
  rintro e w2 ⟨rfl, own2, hs2, ll2, vb2, vl2, I2, hok2, hl2, hll2⟩
  have hJ : Hid (∃ own hs ll vb vl, MemInv (base0 W) w2 W.heap.size own hs ll vb vl ∧ (∀ h, h ∈ hs → h.ok) ∧ 1 ≤ hs.length ∧ hs.length ≤ 1 + 0 ∧ ll.length ≤ 8 + 4 * 0) := hide ⟨own2, hs2, ll2, vb2, vl2, I2, hok2, by omega, by omega, by omega⟩
  clear I2 hok2 hl2 hll2 hBg hU
  go_wp2
  go_loopw [10, 11] (fun okv c u => okv = .bool true ∧ ∃ k : Nat, k ≤ ops.length ∧ c = .int .i64 k ∧ ∃ own hs ll vb vl, MemInv (base0 W) u W.heap.size own hs ll vb vl ∧ (∀ h, h ∈ hs → h.ok) ∧ 1 ≤ hs.length ∧ hs.length ≤ 1 + k ∧ ll.length ≤ 8 + 4 * k) (fun _ c _ => ops.length - (intOf c).toNat)
  case atStart => exact ⟨rfl, 0, by omega, rfl, hJ.out⟩
  case round =>
    clear hJ
    obtain ⟨rfl, k, hk, rfl, own, hs, ll, vb, vl, I, hok, h1, h2, h3⟩ := hrel
    by_cases hlt : k < ops.length
    · obtain ⟨ea, hea, hebl, hecell⟩ := hel k hlt
      subst hea
      have hoo := hS.ok ops[k] (List.getElem_mem hlt)
      have hec : ∀ j v, ops[k].cells.toList[j]? = some v → wr.cell? ((ea.add (k * 19)).add j) = some v := fun j v hj => (World.cell?_of_block (w := W) (I.bel.block _ (by show ((ea.add (k * 19)).add j).block < W.heap.size; rw [add_block, add_block]; exact hebl))).trans (hecell j v hj)
      have hStep := fun (o : Opr) (ho : o.ok) (hk : 1 ≤ o.kind ∧ o.kind ≤ 6) (u : World) (hu : Below wr.heap.size wr u) => step_any _ u W.heap.size own hs ll vb vl (I.below hu) hok h1 (by omega) (by omega) o ho hk rfl
      have hskip : Hid (∀ u, Below wr.heap.size wr u → ∃ own hs ll vb vl, MemInv (base0 W) u W.heap.size own hs ll vb vl ∧ (∀ h, h ∈ hs → h.ok) ∧ 1 ≤ hs.length ∧ hs.length ≤ 1 + (k + 1) ∧ ll.length ≤ 8 + 4 * (k + 1)) := hide (fun u hu => ⟨own, hs, ll, vb, vl, I.below hu, hok, h1, by omega, by omega⟩)
      have hstill : Hid (∀ w', Goes1 (base0 W) w' W.heap.size hs ll → ∃ own hs ll vb vl, MemInv (base0 W) w' W.heap.size own hs ll vb vl ∧ (∀ h, h ∈ hs → h.ok) ∧ 1 ≤ hs.length ∧ hs.length ≤ 1 + (k + 1) ∧ ll.length ≤ 8 + 4 * (k + 1)) := hide (fun w' hG => by
        obtain ⟨own', hs', ll', vb', vl', J, hok', a1, a2, a3⟩ := hG
        exact ⟨own', hs', ll', vb', vl', J, hok', by omega, by omega, by omega⟩)
      clear I hecell hok
      generalize ops[k] = o at *
      obtain ⟨kind, at_, n, s, ⟨mk, f, t, mi, l, p, g, a, m⟩, pid, dead, memo, legs, llen, lcap, acc, amt⟩ := o
      have hlk : (k : Int) < (ops.length : Int) := by omega
      simp only [Opr.cells] at hec
      replace hec := hide hec
      replace hStep := hide hStep
      have hone := hide (op_one (⟨kind, at_, n, s, ⟨mk, f, t, mi, l, p, g, a, m⟩, pid, dead, memo, legs, llen, lcap, acc, amt⟩ : Opr))
      by_cases hin : 1 ≤ kind ∧ kind ≤ 6
      · have hSt := hStep.out (⟨kind, at_, n, s, ⟨mk, f, t, mi, l, p, g, a, m⟩, pid, dead, memo, legs, llen, lcap, acc, amt⟩ : Opr) hoo hin
        simp only [Opr.v, Opr.cells] at hSt
        replace hSt := hide hSt
        have d1 : decide (1 ≤ kind) = true := by simp; omega
        have d1' : decide (kind ≥ 1) = true := by simp; omega
        have d6 : decide (kind ≤ 6) = true := by simp; omega
        have d7 : (kind == 7) = false := by simp; omega
        have d14 : (kind == 14) = false := by simp; omega
        clear hStep hel hS hoo
        go_wp2_with (first | (with_reducible refine stopLoadP 46 ?_))
        refine hide ?_
        refine wpList_load_at (by rfl) 46 _ (by rfl) (ea.add (k * 19)) (by rfl) [.int .i64 kind, .int .i64 at_, .int .i64 n, .string (bs s), .int .u8 (mk : Int), .int .u8 (f : Int), .int .u8 (t : Int), .int .u32 (mi : Int), .int .u8 (l : Int), .int .u16 (p : Int), .int .u16 (g : Int), .int .u32 (a : Int), .string (bs m), .int .u32 pid, .int .u64 dead, .string (bs memo), .slice legs llen lcap, .int .u16 (acc : Int), .int .u32 (amt : Int)] _ hec.out Tryz.underlying46 opSize ?_
        go_wp2_with (first | (with_reducible refine stopStoreP 46 ?_))
        refine hide ?_
        refine wpList_store_mid (by rfl) 46 _ _ (by rfl) wr.heap.size 0 (List.toArray [.int .i64 kind, .int .i64 at_, .int .i64 n, .string (bs s), .int .u8 (mk : Int), .int .u8 (f : Int), .int .u8 (t : Int), .int .u32 (mi : Int), .int .u8 (l : Int), .int .u16 (p : Int), .int .u16 (g : Int), .int .u32 (a : Int), .string (bs m), .int .u32 pid, .int .u64 dead, .string (bs memo), .slice legs llen lcap, .int .u16 (acc : Int), .int .u32 (amt : Int)]) (by rfl) (by rfl) (there_new _ _ _ _ (by simp)) opSize hone.out ?_
        generalize hU' : World.setCells _ _ _ _ = U'
        obtain ⟨hUb, hUw⟩ := boxed hU' rfl
        have c0 : U'.cell? ⟨wr.heap.size, 0, none⟩ = some (.int .i64 kind) := cell_at hUb 0
        have hUl := block_lt hUb
        clear hU' hec
        have hrgU : U'.rangeAt wr.heap.size 0 [.int .i64 kind, .int .i64 at_, .int .i64 n, .string (bs s), .int .u8 (mk : Int), .int .u8 (f : Int), .int .u8 (t : Int), .int .u32 (mi : Int), .int .u8 (l : Int), .int .u16 (p : Int), .int .u16 (g : Int), .int .u32 (a : Int), .string (bs m), .int .u32 pid, .int .u64 dead, .string (bs memo), .slice legs llen lcap, .int .u16 (acc : Int), .int .u32 (amt : Int)] := fun j v hj => by rw [Nat.zero_add, cell_at hUb]; simpa using hj
        replace hUb := hide hUb
        replace hrgU := hide hrgU
        go_wp2_with (first | (with_reducible refine stopLoadP 46 ?_))
        refine hide ?_
        refine wpList_load_mid (by rfl) 46 _ (by rfl) wr.heap.size 0 (by rfl) [.int .i64 kind, .int .i64 at_, .int .i64 n, .string (bs s), .int .u8 (mk : Int), .int .u8 (f : Int), .int .u8 (t : Int), .int .u32 (mi : Int), .int .u8 (l : Int), .int .u16 (p : Int), .int .u16 (g : Int), .int .u32 (a : Int), .string (bs m), .int .u32 pid, .int .u64 dead, .string (bs memo), .slice legs llen lcap, .int .u16 (acc : Int), .int .u32 (amt : Int)] _ hrgU.out Tryz.underlying46 rfl opSize ?_
        go_wp2_with fail
        refine (hSt.out U' hUw).mono ?_
        rintro e w5 ⟨rfl, hG⟩
        obtain ⟨own5, hs5, ll5, vb5, vl5, J, hok5, b1, b2, b3⟩ := hstill.out w5 hG
        have hSL := hide (still_any w5 W.heap.size false vb5 (.slice none 0 0) vl5 ll5 J.wblk J.lrow (by omega) (fun i hi => J.full i hi))
        have hn : Hid (∀ u, Below w5.heap.size w5 u → ∃ own hs ll vb vl, MemInv (base0 W) u W.heap.size own hs ll vb vl ∧ (∀ h, h ∈ hs → h.ok) ∧ 1 ≤ hs.length ∧ hs.length ≤ 1 + (k + 1) ∧ ll.length ≤ 8 + 4 * (k + 1)) := hide (fun u hu => ⟨own5, hs5, ll5, vb5, vl5, J.below hu, hok5, b1, b2, b3⟩)
        clear hG J hok5 hSt hstill hskip hUb hrgU hUw c0 hUl
        go_wp2_with fail
        refine (hSL.out).mono ?_
        rintro e w6 ⟨rfl, hb6⟩
        have hn6 := hide (hn.out w6 hb6)
        clear hn hSL hb6
        go_wp2
        exact ⟨⟨rfl, k + 1, hlt, by go_num, hn6.out⟩, by simp [intOf]; omega⟩
      · by_cases hlo : kind < 1
        · have d1 : decide (1 ≤ kind) = false := by simp; omega
          have d1' : decide (kind ≥ 1) = false := by simp; omega
          have d7 : (kind == 7) = false := by simp; omega
          have d14 : (kind == 14) = false := by simp; omega
          clear hStep hel hS hoo hstill hin
          go_wp2_with (first | (with_reducible refine stopLoadP 46 ?_))
          refine hide ?_
          refine wpList_load_at (by rfl) 46 _ (by rfl) (ea.add (k * 19)) (by rfl) [.int .i64 kind, .int .i64 at_, .int .i64 n, .string (bs s), .int .u8 (mk : Int), .int .u8 (f : Int), .int .u8 (t : Int), .int .u32 (mi : Int), .int .u8 (l : Int), .int .u16 (p : Int), .int .u16 (g : Int), .int .u32 (a : Int), .string (bs m), .int .u32 pid, .int .u64 dead, .string (bs memo), .slice legs llen lcap, .int .u16 (acc : Int), .int .u32 (amt : Int)] _ hec.out Tryz.underlying46 opSize ?_
          go_wp2_with (first | (with_reducible refine stopStoreP 46 ?_))
          refine hide ?_
          refine wpList_store_mid (by rfl) 46 _ _ (by rfl) wr.heap.size 0 (List.toArray [.int .i64 kind, .int .i64 at_, .int .i64 n, .string (bs s), .int .u8 (mk : Int), .int .u8 (f : Int), .int .u8 (t : Int), .int .u32 (mi : Int), .int .u8 (l : Int), .int .u16 (p : Int), .int .u16 (g : Int), .int .u32 (a : Int), .string (bs m), .int .u32 pid, .int .u64 dead, .string (bs memo), .slice legs llen lcap, .int .u16 (acc : Int), .int .u32 (amt : Int)]) (by rfl) (by rfl) (there_new _ _ _ _ (by simp)) opSize hone.out ?_
          generalize hU' : World.setCells _ _ _ _ = U'
          obtain ⟨hUb, hUw⟩ := boxed hU' rfl
          have c0 : U'.cell? ⟨wr.heap.size, 0, none⟩ = some (.int .i64 kind) := cell_at hUb 0
          have hUl := block_lt hUb
          clear hU' hec
          have hn := hide (hskip.out U' hUw)
          clear hskip hUw
          go_wp2
          exact ⟨⟨rfl, k + 1, hlt, by go_num, hn.out⟩, by simp [intOf]; omega⟩
        · have d1 : decide (1 ≤ kind) = true := by simp; omega
          have d1' : decide (kind ≥ 1) = true := by simp; omega
          have d6 : decide (kind ≤ 6) = false := by simp; omega
          by_cases h7 : kind = 7
          · subst h7
            clear hStep hel hS hoo hstill hin
            go_wp2_with (first | (with_reducible refine stopLoadP 46 ?_))
            refine hide ?_
            refine wpList_load_at (by rfl) 46 _ (by rfl) (ea.add (k * 19)) (by rfl) [.int .i64 7, .int .i64 at_, .int .i64 n, .string (bs s), .int .u8 (mk : Int), .int .u8 (f : Int), .int .u8 (t : Int), .int .u32 (mi : Int), .int .u8 (l : Int), .int .u16 (p : Int), .int .u16 (g : Int), .int .u32 (a : Int), .string (bs m), .int .u32 pid, .int .u64 dead, .string (bs memo), .slice legs llen lcap, .int .u16 (acc : Int), .int .u32 (amt : Int)] _ hec.out Tryz.underlying46 opSize ?_
            go_wp2_with (first | (with_reducible refine stopStoreP 46 ?_))
            refine hide ?_
            refine wpList_store_mid (by rfl) 46 _ _ (by rfl) wr.heap.size 0 (List.toArray [.int .i64 7, .int .i64 at_, .int .i64 n, .string (bs s), .int .u8 (mk : Int), .int .u8 (f : Int), .int .u8 (t : Int), .int .u32 (mi : Int), .int .u8 (l : Int), .int .u16 (p : Int), .int .u16 (g : Int), .int .u32 (a : Int), .string (bs m), .int .u32 pid, .int .u64 dead, .string (bs memo), .slice legs llen lcap, .int .u16 (acc : Int), .int .u32 (amt : Int)]) (by rfl) (by rfl) (there_new _ _ _ _ (by simp)) opSize hone.out ?_
            generalize hU' : World.setCells _ _ _ _ = U'
            obtain ⟨hUb, hUw⟩ := boxed hU' rfl
            have c0 : U'.cell? ⟨wr.heap.size, 0, none⟩ = some (.int .i64 7) := cell_at hUb 0
            have hUl := block_lt hUb
            clear hU' hec
            have hn := hide (hskip.out U' hUw)
            clear hskip hUw
            go_wp2
            exact ⟨⟨rfl, k + 1, hlt, by go_num, hn.out⟩, by simp [intOf]; omega⟩
          · have d7 : (kind == 7) = false := by simp; omega
            by_cases h14 : kind = 14
            · subst h14
              clear hStep hel hS hoo hstill hin
              go_wp2_with (first | (with_reducible refine stopLoadP 46 ?_))
              refine hide ?_
              refine wpList_load_at (by rfl) 46 _ (by rfl) (ea.add (k * 19)) (by rfl) [.int .i64 14, .int .i64 at_, .int .i64 n, .string (bs s), .int .u8 (mk : Int), .int .u8 (f : Int), .int .u8 (t : Int), .int .u32 (mi : Int), .int .u8 (l : Int), .int .u16 (p : Int), .int .u16 (g : Int), .int .u32 (a : Int), .string (bs m), .int .u32 pid, .int .u64 dead, .string (bs memo), .slice legs llen lcap, .int .u16 (acc : Int), .int .u32 (amt : Int)] _ hec.out Tryz.underlying46 opSize ?_
              go_wp2_with (first | (with_reducible refine stopStoreP 46 ?_))
              refine hide ?_
              refine wpList_store_mid (by rfl) 46 _ _ (by rfl) wr.heap.size 0 (List.toArray [.int .i64 14, .int .i64 at_, .int .i64 n, .string (bs s), .int .u8 (mk : Int), .int .u8 (f : Int), .int .u8 (t : Int), .int .u32 (mi : Int), .int .u8 (l : Int), .int .u16 (p : Int), .int .u16 (g : Int), .int .u32 (a : Int), .string (bs m), .int .u32 pid, .int .u64 dead, .string (bs memo), .slice legs llen lcap, .int .u16 (acc : Int), .int .u32 (amt : Int)]) (by rfl) (by rfl) (there_new _ _ _ _ (by simp)) opSize hone.out ?_
              generalize hU' : World.setCells _ _ _ _ = U'
              obtain ⟨hUb, hUw⟩ := boxed hU' rfl
              have c0 : U'.cell? ⟨wr.heap.size, 0, none⟩ = some (.int .i64 14) := cell_at hUb 0
              have hUl := block_lt hUb
              clear hU' hec
              have hn := hide (hskip.out U' hUw)
              clear hskip hUw
              go_wp2
              exact ⟨⟨rfl, k + 1, hlt, by go_num, hn.out⟩, by simp [intOf]; omega⟩
            · have d14 : (kind == 14) = false := by simp; omega
              clear hStep hel hS hoo hstill hin
              go_wp2_with (first | (with_reducible refine stopLoadP 46 ?_))
              refine hide ?_
              refine wpList_load_at (by rfl) 46 _ (by rfl) (ea.add (k * 19)) (by rfl) [.int .i64 kind, .int .i64 at_, .int .i64 n, .string (bs s), .int .u8 (mk : Int), .int .u8 (f : Int), .int .u8 (t : Int), .int .u32 (mi : Int), .int .u8 (l : Int), .int .u16 (p : Int), .int .u16 (g : Int), .int .u32 (a : Int), .string (bs m), .int .u32 pid, .int .u64 dead, .string (bs memo), .slice legs llen lcap, .int .u16 (acc : Int), .int .u32 (amt : Int)] _ hec.out Tryz.underlying46 opSize ?_
              go_wp2_with (first | (with_reducible refine stopStoreP 46 ?_))
              refine hide ?_
              refine wpList_store_mid (by rfl) 46 _ _ (by rfl) wr.heap.size 0 (List.toArray [.int .i64 kind, .int .i64 at_, .int .i64 n, .string (bs s), .int .u8 (mk : Int), .int .u8 (f : Int), .int .u8 (t : Int), .int .u32 (mi : Int), .int .u8 (l : Int), .int .u16 (p : Int), .int .u16 (g : Int), .int .u32 (a : Int), .string (bs m), .int .u32 pid, .int .u64 dead, .string (bs memo), .slice legs llen lcap, .int .u16 (acc : Int), .int .u32 (amt : Int)]) (by rfl) (by rfl) (there_new _ _ _ _ (by simp)) opSize hone.out ?_
              generalize hU' : World.setCells _ _ _ _ = U'
              obtain ⟨hUb, hUw⟩ := boxed hU' rfl
              have c0 : U'.cell? ⟨wr.heap.size, 0, none⟩ = some (.int .i64 kind) := cell_at hUb 0
              have hUl := block_lt hUb
              clear hU' hec
              have hn := hide (hskip.out U' hUw)
              clear hskip hUw
              go_wp2
              exact ⟨⟨rfl, k + 1, hlt, by go_num, hn.out⟩, by simp [intOf]; omega⟩
    · obtain rfl : k = ops.length := by omega
      have hb : Below W.heap.size W wr := ⟨I.bel.os, I.bel.tape, I.bel.output, I.bel.size, fun k hk => I.bel.block k hk⟩
      clear I hel hS
      go_wp2
      go_ret
      exact ⟨rfl, hb⟩
end Go.Proofs.YtjkhbjgfoopomaaGreat
/-
  A script that came in, opened.
-/
namespace Go.Proofs.YtjkhbjgfoopomaaGreat
open Go.ChangeShapes Go.WideShapes Go.ChangeAt Go.RowKit
set_option linter.unusedVariables false
set_option linter.unusedSimpArgs false

theorem cellsMsg : Tryz.prog.cellsOf 40 = 9 := by kernel_rfl
theorem cellsKind : Tryz.prog.cellsOf 32 = 1 := by kernel_rfl
theorem cellsNode : Tryz.prog.cellsOf 33 = 1 := by kernel_rfl
theorem cellsID : Tryz.prog.cellsOf 35 = 1 := by kernel_rfl
theorem cellsU8 : Tryz.prog.cellsOf 5 = 1 := by kernel_rfl
theorem cellsAccount : Tryz.prog.cellsOf 37 = 1 := by kernel_rfl
theorem cellsAmount : Tryz.prog.cellsOf 38 = 1 := by kernel_rfl
theorem cellsString : Tryz.prog.cellsOf 9 = 1 := by kernel_rfl
theorem cellsInt : Tryz.prog.cellsOf 3 = 1 := by kernel_rfl
theorem cellsU64 : Tryz.prog.cellsOf 41 = 1 := by kernel_rfl
theorem cellsLegs : Tryz.prog.cellsOf 42 = 1 := by kernel_rfl
theorem cellsPay : Tryz.prog.cellsOf 44 = 4 := by kernel_rfl
theorem cellsOp : Tryz.prog.cellsOf 46 = 19 := by kernel_rfl
theorem bytesOp : Tryz.prog.bytesOf 46 = 144 := by kernel_rfl
theorem u8_of {x : Int} (h : (Lit.int .u8 x).wf = true) : ∃ n : Nat, x = n ∧ n < 256 := by
  simp [Lit.wf, IntKind.min, IntKind.max, IntKind.signed, IntKind.bits] at h
  exact ⟨x.toNat, by omega, by omega⟩
theorem u16_of {x : Int} (h : (Lit.int .u16 x).wf = true) : ∃ n : Nat, x = n ∧ n < 65536 := by
  simp [Lit.wf, IntKind.min, IntKind.max, IntKind.signed, IntKind.bits] at h
  exact ⟨x.toNat, by omega, by omega⟩
theorem u32_of {x : Int} (h : (Lit.int .u32 x).wf = true) : ∃ n : Nat, x = n ∧ n < 4294967296 := by
  simp [Lit.wf, IntKind.min, IntKind.max, IntKind.signed, IntKind.bits] at h
  exact ⟨x.toNat, by omega, by omega⟩
theorem i64_of {x : Int} (h : (Lit.int .i64 x).wf = true) : i64ok x := by
  simp [Lit.wf, IntKind.min, IntKind.max, IntKind.signed, IntKind.bits] at h
  exact ⟨by omega, by omega⟩

/-- the datum of a message -/
def Msg.d {H : Type} (x : Msg) : DataW H := .agg [.lit (.int .u8 (x.k : Int)), .lit (.int .u8 (x.f : Int)), .lit (.int .u8 (x.t : Int)), .lit (.int .u32 (x.i : Int)), .lit (.int .u8 (x.l : Int)), .lit (.int .u16 (x.p : Int)), .lit (.int .u16 (x.g : Int)), .lit (.int .u32 (x.a : Int)), .lit (.string x.m)]
section
variable {H : Type} {enc : TypeId × Value → H} {w : World} {base : Nat} {spare : Nat → Bool} {held : Bool}
theorem open_msgL {n : Nat} {c0 c1 c2 c3 c4 c5 c6 c7 c8 : Value} {x : DataW H × List MemPlace} (h : DataW.trod enc Tryz.prog w base spare held n 40 [c0, c1, c2, c3, c4, c5, c6, c7, c8] = some x) :
    ∃ m : Msg, [c0, c1, c2, c3, c4, c5, c6, c7, c8] = m.cells.toList ∧ x.1 = m.d ∧ m.ok := by
  obtain ⟨xs, n', _, hx, _, hlen, hg⟩ := DataW.trod_struct Tryz.underlying40 h
  have g0 := hg 0 _ rfl
  have g1 := hg 1 _ rfl
  have g2 := hg 2 _ rfl
  have g3 := hg 3 _ rfl
  have g4 := hg 4 _ rfl
  have g5 := hg 5 _ rfl
  have g6 := hg 6 _ rfl
  have g7 := hg 7 _ rfl
  have g8 := hg 8 _ rfl
  clear hg
  have hlen' : xs.length = 9 := hlen
  match xs, hlen' with
  | [y0, y1, y2, y3, y4, y5, y6, y7, y8], _ =>
    simp [cellsKind, cellsNode, cellsID, cellsU8, cellsAccount, cellsAmount, cellsString] at g0 g1 g2 g3 g4 g5 g6 g7 g8
    obtain ⟨n0, e0, rfl, w0⟩ := DataW.trod_int Tryz.underlying32 g0
    obtain ⟨n1, e1, rfl, w1⟩ := DataW.trod_int Tryz.underlying33 g1
    obtain ⟨n2, e2, rfl, w2⟩ := DataW.trod_int Tryz.underlying33 g2
    obtain ⟨n3, e3, rfl, w3⟩ := DataW.trod_int Tryz.underlying35 g3
    obtain ⟨n4, e4, rfl, w4⟩ := DataW.trod_int Tryz.underlying5 g4
    obtain ⟨n5, e5, rfl, w5⟩ := DataW.trod_int Tryz.underlying37 g5
    obtain ⟨n6, e6, rfl, w6⟩ := DataW.trod_int Tryz.underlying37 g6
    obtain ⟨n7, e7, rfl, w7⟩ := DataW.trod_int Tryz.underlying38 g7
    obtain ⟨s, e8, rfl, w8⟩ := DataW.trod_string Tryz.underlying9 g8
    simp only [List.cons.injEq, and_true] at e0 e1 e2 e3 e4 e5 e6 e7 e8
    subst e0 e1 e2 e3 e4 e5 e6 e7 e8
    obtain ⟨k, rfl, hk⟩ := u8_of w0
    obtain ⟨f, rfl, hf⟩ := u8_of w1
    obtain ⟨t, rfl, ht⟩ := u8_of w2
    obtain ⟨i, rfl, hi⟩ := u32_of w3
    obtain ⟨l, rfl, hl⟩ := u8_of w4
    obtain ⟨p, rfl, hp⟩ := u16_of w5
    obtain ⟨g, rfl, hg⟩ := u16_of w6
    obtain ⟨a, rfl, ha⟩ := u32_of w7
    refine ⟨⟨k, f, t, i, l, p, g, a, s.data.toList⟩, ?_, ?_, ⟨hk, hf, ht, hi, hl, hp, hg, ha⟩⟩
    · simp only [Msg.cells, bs_of]
    · rw [hx]; rfl
theorem open_payL {n : Nat} {c0 c1 c2 c3 : Value} {x : DataW H × List MemPlace} (h : DataW.trod enc Tryz.prog w base spare held n 44 [c0, c1, c2, c3] = some x) :
    ∃ (pid dead : Int) (memo : List UInt8) (legs : Option Addr) (llen lcap : Nat), c0 = .int .u32 pid ∧ c1 = .int .u64 dead ∧ c2 = .string (bs memo) ∧ c3 = .slice legs llen lcap := by
  obtain ⟨xs, n', _, hx, _, hlen, hg⟩ := DataW.trod_struct Tryz.underlying44 h
  have g0 := hg 0 _ rfl
  have g1 := hg 1 _ rfl
  have g2 := hg 2 _ rfl
  have g3 := hg 3 _ rfl
  clear hg
  have hlen' : xs.length = 4 := hlen
  match xs, hlen' with
  | [y0, y1, y2, y3], _ =>
    simp [cellsID, cellsU64, cellsString, cellsLegs] at g0 g1 g2 g3
    obtain ⟨n0, e0, rfl, w0⟩ := DataW.trod_int Tryz.underlying35 g0
    obtain ⟨n1, e1, rfl, w1⟩ := DataW.trod_int Tryz.underlying41 g1
    obtain ⟨s, e2, rfl, w2⟩ := DataW.trod_string Tryz.underlying9 g2
    simp only [List.cons.injEq, and_true] at e0 e1 e2
    rcases DataW.trod_slice Tryz.underlying42 g3 with ⟨e3, _⟩ | ⟨a, len, cap, _, _, _, _, e3, _⟩
    · simp only [List.cons.injEq, and_true] at e3
      exact ⟨n0, n1, s.data.toList, none, 0, 0, e0, e1, by rw [bs_of]; exact e2, e3⟩
    · simp only [List.cons.injEq, and_true] at e3
      exact ⟨n0, n1, s.data.toList, some a, len, cap, e0, e1, by rw [bs_of]; exact e2, e3⟩
set_option maxRecDepth 100000 in
/-- a step, opened: its cells; what is within the reach -/
theorem open_opL {n : Nat} {cs : List Value} {x : DataW H × List MemPlace} (h : DataW.trod enc Tryz.prog w base spare held n 46 cs = some x) (hw : ∀ b ∈ x.1.weights Tryz.prog 46, b ≤ reachBytes) : ∃ o : Opr, cs = o.cells.toList ∧ o.ok := by
  obtain ⟨xs, n', _, hx, hcl, hlen, hg⟩ := DataW.trod_struct Tryz.underlying46 h
  rw [cellsOp] at hcl
  match cs, hcl with
  | [c0, c1, c2, c3, c4, c5, c6, c7, c8, c9, c10, c11, c12, c13, c14, c15, c16, c17, c18], _ =>
  have g0 := hg 0 _ rfl
  have g1 := hg 1 _ rfl
  have g2 := hg 2 _ rfl
  have g3 := hg 3 _ rfl
  have g4 := hg 4 _ rfl
  have g5 := hg 5 _ rfl
  have g6 := hg 6 _ rfl
  have g7 := hg 7 _ rfl
  clear hg
  have hlen' : xs.length = 8 := hlen
  match xs, hlen' with
  | [y0, y1, y2, y3, y4, y5, y6, y7], _ =>
    simp [cellsInt, cellsString, cellsMsg, cellsPay, cellsAccount, cellsAmount] at g0 g1 g2 g3 g4 g5 g6 g7
    obtain ⟨n0, e0, rfl, w0⟩ := DataW.trod_int Tryz.underlying3 g0
    obtain ⟨n1, e1, rfl, w1⟩ := DataW.trod_int Tryz.underlying3 g1
    obtain ⟨n2, e2, rfl, w2⟩ := DataW.trod_int Tryz.underlying3 g2
    obtain ⟨s, e3, rfl, w3⟩ := DataW.trod_string Tryz.underlying9 g3
    obtain ⟨m, em, dm, hm⟩ := open_msgL g4
    obtain ⟨pid, dead, memo, legs, llen, lcap, p0, p1, p2, p3⟩ := open_payL g5
    obtain ⟨n6, e6, rfl, w6⟩ := DataW.trod_int Tryz.underlying37 g6
    obtain ⟨n7, e7, rfl, w7⟩ := DataW.trod_int Tryz.underlying38 g7
    simp only [List.cons.injEq, and_true] at e0 e1 e2 e3 e6 e7
    obtain ⟨acc, rfl, hacc⟩ := u16_of w6
    obtain ⟨amt, rfl, hamt⟩ := u32_of w7
    have hs : s.data.toList.length ≤ reachBytes := hw _ (by rw [hx]; simp [DataW.weights, Tryz.underlying46, DataW.weightsEach])
    have hmm : m.m.length ≤ reachBytes := hw _ (by rw [hx]; simp [DataW.weights, Tryz.underlying46, Tryz.underlying40, DataW.weightsEach, dm, Msg.d])
    refine ⟨⟨n0, n1, n2, s.data.toList, m, pid, dead, memo, legs, llen, lcap, acc, amt⟩, ?_, i64_of w0, i64_of w1, i64_of w2, hs, hm, hmm, hacc, hamt⟩
    simp only [Msg.cells, List.cons.injEq, and_true] at em
    obtain ⟨m0, m1, m2, m3, m4, m5, m6, m7, m8⟩ := em
    simp only [Opr.cells, e0, e1, e2, e3, m0, m1, m2, m3, m4, m5, m6, m7, m8, p0, p1, p2, p3, e6, e7, bs_of]
end
end Go.Proofs.YtjkhbjgfoopomaaGreat
/-
  The script of the statement Banks, opened.
-/
namespace Go.Proofs.YtjkhbjgfoopomaaGreat
open Go.ChangeShapes Go.WideShapes Go.ChangeAt Go.RowKit
set_option linter.unusedVariables false
set_option linter.unusedSimpArgs false

theorem weights_all {H : Type} {P : Program} {e : TypeId} : ∀ (l : List (DataW H)) (d : DataW H), d ∈ l → ∀ n ∈ d.weights P e, n ∈ DataW.weightsAll P e l
  | [], d, h => by simp at h
  | x :: r, d, h => fun n hn => by
    simp only [DataW.weightsAll, List.mem_append]
    rcases List.mem_cons.1 h with h | h
    · subst h; exact .inl hn
    · exact .inr (weights_all r d h n hn)
theorem row_first (a : Addr) (n : Nat) (h : 0 < n) : MemPlace.cell a.block a.off ∈ MemPlace.row a n := List.mem_map.2 ⟨0, List.mem_range.2 h, by simp⟩
set_option maxRecDepth 100000 in
/-- the argument, opened -/
theorem open_script {H : Type} {enc : TypeId × Value → H} {W : World} {b0 : Nat} {v : Value} {d : DataW H} {p : List MemPlace}
    (hv : Value.okWide Tryz.prog W .any b0 22 v) (h : DataW.Trod enc Tryz.prog W 0 (fun _ => true) true 22 v d p) (lt : ∀ x ∈ p, x.block < W.heap.size) (hsz : (DataW.weightsEach Tryz.prog [22] [d]).all (· ≤ reachBytes) = true) : ∃ ops, Script W v ops := by
  obtain ⟨a0, n0, c0, rfl⟩ := okWide_slice Tryz.underlying22 hv
  obtain ⟨fuel, hfu⟩ := h
  have hcells : (Value.slice a0 n0 c0).cells.toList = [.slice a0 n0 c0] := rfl
  rw [hcells] at hfu
  have hwt : ∀ b ∈ d.weights Tryz.prog 22, b ≤ reachBytes := fun b hb => by
    have := List.all_eq_true.1 hsz b (DataW.weights_mem_each (j := 0) rfl rfl b hb)
    simpa using this
  rcases Go.Deep.open_slice Tryz.underlying22 hfu with ⟨e1, _⟩ | ⟨a, len, cap, m, n, D, Pl, e1, _, hl, hm, hmm, hx, hel⟩
  · simp only [List.cons.injEq, and_true] at e1
    rw [e1]
    exact ⟨[], ⟨none, 0, rfl, fun k hk => by simp at hk⟩, by simp, by simp⟩
  · simp only [List.cons.injEq, and_true] at e1
    rw [e1]
    simp only [if_true] at hmm
    subst hmm
    simp only [Prod.mk.injEq] at hx
    obtain ⟨hd, hp⟩ := hx
    rw [cellsOp] at hel hp
    have hun := Tryz.underlying22
    rw [hd] at hwt
    simp only [DataW.weights, hun] at hwt
    have hall : ∀ i, i < len → ∃ o : Opr, o.ok ∧ ∀ j v, o.cells.toList[j]? = some v → W.cell? ((a.add (i * 19)).add j) = some v := by
      intro i hi
      obtain ⟨cs', h1, h2⟩ := hel i (by omega)
      obtain ⟨o, ho, hok⟩ := open_opL h2 (fun b hb => hwt b (by
        refine List.mem_cons_of_mem _ (List.mem_append_left _ (weights_all _ (D i) ?_ b hb))
        exact List.mem_map.2 ⟨i, List.mem_range.2 hi, rfl⟩))
      obtain ⟨_, hln, hc⟩ := World.cells?_some h1
      refine ⟨o, hok, fun j v hj => ?_⟩
      have hj19 : j < 19 := by
        have := (List.getElem?_eq_some_iff.1 hj).1
        simpa [Opr.cells] using this
      rw [hc j hj19, ho]
      exact hj
    have hab : 0 < len → a.block < W.heap.size := fun h0 => by
      have hc : 0 < m := by omega
      refine lt (.cell a.block a.off) ?_
      rw [hp]
      refine List.mem_append_left _ ?_
      exact row_first a (m * 19) (by omega)
    obtain ⟨f, hf⟩ := Classical.axiomOfChoice (fun i : Fin len => hall i.1 i.2)
    have hlen : ((List.range len).map D).length + ((List.range (m - len)).map fun j => D (len + j)).length = m := by simp; omega
    have hby := hwt _ (List.mem_cons_self)
    rw [hlen, bytesOp] at hby
    have hrb : reachBytes = 140737488351232 := rfl
    refine ⟨List.ofFn f, ⟨some a, m, by rw [List.length_ofFn], fun k hk => ?_⟩, fun o ho => ?_, by rw [List.length_ofFn]; omega⟩
    · rw [List.length_ofFn] at hk
      refine ⟨a, rfl, hab (by omega), fun j v hj => ?_⟩
      rw [List.getElem_ofFn] at hj
      exact (hf ⟨k, hk⟩).2 j v hj
    · obtain ⟨i, rfl⟩ := List.mem_ofFn.1 ho
      exact (hf i).1
end Go.Proofs.YtjkhbjgfoopomaaGreat
