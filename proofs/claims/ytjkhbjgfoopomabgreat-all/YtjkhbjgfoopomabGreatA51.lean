import Derived.Test.YtjkhbjgfoopomabGreatA49
import Derived.Test.YtjkhbjgfoopomabGreatA50
namespace Go.Proofs.YtjkhbjgfoopomabGreat
open Go.RowKit
set_option linter.unusedVariables false
set_option linter.unusedSimpArgs false
set_option maxRecDepth 100000
set_option maxHeartbeats 2000000
def legs12 : List Pl := [⟨1, 0, 0, 1⟩, ⟨2, 0, 0, 1⟩]
def headOp (b : Nat) : Opr := ⟨9, 0, 0, [], ⟨0, 0, 0, 0, 0, 0, 0, 0, []⟩, 7, 2, [], some ⟨b, 0, none⟩, 2, 2, 0, 0⟩
theorem headOp_ok (b : Nat) : (headOp b).ok := by simp [headOp, Opr.ok, i64ok, Msg.ok]
theorem legs12_at {u : World} {b : Nat} {t : TypeId} {fr : Nat × Nat} (h : u.heap[b]? = some (.cells #[.int .u8 1, .int .u16 0, .int .u16 0, .int .u32 1, .int .u8 2, .int .u16 0, .int .u16 0, .int .u32 1] t fr)) : LegsAt u (some ⟨b, 0, none⟩) legs12 := by
 have hb := block_lt h
 have hk2 : ∀ k, k < legs12.length → k = 0 ∨ k = 1 := fun k hk => by have : k < 2 := hk; omega
 intro k hk
 refine ⟨⟨b, 0, none⟩, rfl, hb, fun j v hj => ?_⟩
 have e : ((⟨b, 0, none⟩ : Addr).add (k * 4)).add j = ⟨b, k * 4 + j, none⟩ := by
  rw [addr_add];unfold Addr.add;split <;> simp_all
 have hj4 : j < 4 := by
  have := (List.getElem?_eq_some_iff.1 hj).1
  rwa [Pl.cells_length] at this
 rw [e, cell_at h]
 have hj' : j = 0 ∨ j = 1 ∨ j = 2 ∨ j = 3 := by omega
 rcases hk2 k hk with rfl | rfl <;> rcases hj' with rfl | rfl | rfl | rfl <;> exact hj
theorem head_deed (w0 : DBase) (N : Nat) (hN : N ≤ 999999999999) (w : World) (Wb : Nat) (own : Nat → Nat) (hs : List Office) (ll : List (Value × Nat)) (vd vl : Value) (I : DInv w0 w Wb own hs ll vd vl) (hok : ∀ h, h ∈ hs → h.ok N) (hl : 0 < hs.length) (hlen : ll.length ≤ 3999999999000)
  (u : World) (hu : Below w.heap.size w u) (b : Nat) (hb : w.heap.size ≤ b) (t : TypeId) (hbl : u.heap[b]? = some (.cells #[.int .u8 1, .int .u16 0, .int .u16 0, .int .u32 1, .int .u8 2, .int .u16 0, .int .u16 0, .int .u32 1] t (0, 0))) :
  Calls Tryz.prog 52 #[.pointer (some ⟨Wb, 0, none⟩), .pointer (some ⟨hs[0].hb, 0, none⟩), (headOp b).v] u fun e w' => e = .returned (.bool true) ∧ DGoes1 w0 N w' Wb hs ll ∧ w'.cell? ⟨Wb, 2, none⟩ = some vd ∧ (∀ g, vd.ownBlock = some g → w'.cell? ⟨g, 0, none⟩ = some (.pointer (some ⟨hs[0].hb, 0, none⟩))) ∧ w'.heap[b]? = u.heap[b]? := by
 have I0 := I.below0 hu
 have hbu := block_lt hbl
 have I1 := I0.up b hbu (by show (if b < w.heap.size then own b else 0) = 0; rw [if_neg (by omega)])
 have hp : (headOp b).paid (dbaseUp w0 u b I0.bel.size hbu) := ⟨7, 2, legs12, rfl, rfl, rfl, ⟨by show (7 : Nat) < 4294967296; decide, by show (2 : Nat) < 18446744073709551616; decide, fun l hl => by
  simp only [legs12, List.mem_cons, List.not_mem_nil, or_false] at hl
  rcases hl with rfl | rfl <;> simp [Pl.ok]⟩, by simp [headOp], by simp [legs12], ⟨legs12_at hbl, fun a e _ => by
   have e' : (⟨b, 0, none⟩ : Addr) = a := by simpa [headOp] using e
   subst e'
   exact .inr rfl⟩⟩
 refine (deed_any _ N hN u Wb _ hs ll vd vl I1 hok 0 hl (headOp b) (headOp_ok b) hp ⟨by simp [headOp], by simp [headOp]⟩ hlen).mono ?_
 rintro e w' ⟨rfl, own', hs', ll', vl', J, hok', hhb, hll⟩
 have hhb' : hs'.map Office.hb = hs.map Office.hb := by
  rw [hhb, show hs[0].hb = (hs.map Office.hb)[0]'(by simpa using hl) by simp];exact List.set_getElem_self _
 have hl' : hs'.length = hs.length := by have := congrArg List.length hhb'; simpa using this
 refine ⟨rfl, ⟨own', hs', ll', vd, vl', DInv.lower I0.bel J, hok', by omega, by omega, hll⟩, cell_at J.wblk 2, fun g hg => ?_, J.bel.block _ (.inr rfl)⟩
 obtain ⟨ad, cap, hv, hev⟩ := J.drow.form offCell_length
 obtain ⟨g', rfl, hcell, _⟩ := hev 0 (by omega)
 have c0 := hcell 0 (by decide)
 obtain rfl : g' = g := by rw [hv] at hg; simpa [Value.ownBlock] using hg
 simp only [offCell, List.getElem?_cons_zero, Nat.zero_mul, Nat.add_zero] at c0
 rw [c0]
 have : (hs'.map Office.hb)[0]'(by simp; omega) = (hs.map Office.hb)[0]'(by simpa using hl) := by simp only [hhb']
 simp only [List.getElem_map] at this
 rw [this]
def AllJ (W : World) (k : Nat) (u : World) : Prop := ∃ own hs os ll vb vd vl, MemInv (baseB W vd os) u W.heap.size own hs ll vb vl ∧ (∀ h, h ∈ hs → h.ok) ∧ (∀ h, h ∈ os → h.ok (1 + k)) ∧ 1 ≤ hs.length ∧ hs.length ≤ 2 + k ∧ 1 ≤ os.length ∧ os.length ≤ 2 + k ∧ ll.length ≤ 20 + 4 * k
def AllBegun (W : World) (Wb : Nat) (e : Ending) (u : World) : Prop := e = .returned (.bool true) ∧ ∃ own hs os ll vb vd vl, MemInv (baseB W vd os) u Wb own hs ll vb vl ∧ (∀ h, h ∈ hs → h.ok) ∧ (∀ h, h ∈ os → h.ok 1) ∧ 1 ≤ hs.length ∧ hs.length ≤ 2 ∧ 1 ≤ os.length ∧ os.length ≤ 2 ∧ ll.length ≤ 20
theorem all_begun (W w : World) (Wb : Nat) (own : Nat → Nat) (w0 : Base) (hw0 : Hid (w0 = baseB W (.slice none 0 0) [])) (I : MemInv w0 w Wb own [] [] (.slice none 0 0) (.slice none 0 0)) :
  Calls Tryz.prog 33 #[.pointer (some ⟨Wb, 0, none⟩), .bool true, .bool true] w (AllBegun W Wb) := by
 have hM := hide (made_lg w0 w Wb own [] [] (.slice none 0 0) (.slice none 0 0) I (by simp) (by simp) ⟨1, 0, 3, [], ⟨0, 0, 0, 0, 0, 0, 0, 0, []⟩, 0, 0, [], none, 0, 0, 0, 0⟩ ⟨by decide, by decide⟩ (by decide) (by rw [hw0.out]; rfl))
 simp only [Opr.v, Opr.cells] at hM
 go_enter Tryz.func33, Tryz.ntmps33
 go_wp2_with fail
 refine (hM.out).mono ?_
 rintro e w2 ⟨rfl, own', hs', vb', vl', J, hok', hl'⟩
 have hl1 : hs'.length = 1 := hl'
 have hJ : Hid (∃ own hs ll vb vl, MemInv w0 w2 Wb own hs ll vb vl ∧ (∀ h, h ∈ hs → h.ok) ∧ hs.length = 1 ∧ ll.length ≤ 4 * 0) := hide ⟨own', hs', [], vb', vl', J, hok', hl1, Nat.le_refl _⟩
 clear hM hl' J hok' hl1 I
 go_wp2
 go_loopw [7, 8] (fun okv c u => okv = .bool true ∧ ∃ k : Nat, k ≤ 2 ∧ c = .int .i64 k ∧ ∃ own hs ll vb vl, MemInv w0 u Wb own hs ll vb vl ∧ (∀ h, h ∈ hs → h.ok) ∧ hs.length = 1 ∧ ll.length ≤ 4 * k) (fun _ c _ => 2 - (intOf c).toNat)
 case atStart => exact ⟨rfl, 0, by omega, rfl, hJ.out⟩
 case round =>
  clear hJ;obtain ⟨rfl, k, hk, rfl, own, hs, ll, vb, vl, J, hok, hl1, hll⟩ := hrel;have hk3 : k = 2 ∨ k = 0 ∨ k = 1 := by omega
  rcases hk3 with rfl | hk3
  ·rw [hw0.out] at J;have D := J.toD;have hMd := hide (made_deed (baseD W vb hs) 0 wr Wb own [] ll (.slice none 0 0) vl D (by simp) (by simp) 0 0 [] 0 0 0 0 0 0 0 0 [] 0 0 [] none 0 0 0 0);simp only [Opr.v, Opr.cells] at hMd;replace hok := hide hok;replace hl1 := hide hl1;clear D J;go_wp2_with fail
   refine (hMd.out).mono ?_;rintro e w3 ⟨rfl, own3, os, vd', vl', J, hok3, hl3⟩;have hl3 : os.length = 1 := hl3;obtain ⟨bad, bcap, hv, hev⟩ := J.drow.form offCell_length;have h0 : 0 < os.length := by omega
   obtain ⟨bg, hbg, hcell, _⟩ := hev 0 h0;subst hbg;have cg := hcell 0 (by decide);simp only [offCell, List.getElem?_cons_zero, Nat.zero_mul, Nat.add_zero] at cg;have hbgl : bg < w3.heap.size := J.drow.lt (by rw [hv]; rfl);have hWl : Wb < w3.heap.size := block_lt J.wblk;have hH := fun u hu b hb t hbl => head_deed (baseD W vb hs) 0 (by decide) w3 Wb own3 os ll vd' vl' J hok3 h0 (by omega) u hu b hb t hbl;generalize os[0].hb = hb at *;subst hv;have hc : ∀ o, w3.cell? ⟨Wb, o, none⟩ = (#[.bool true, vb, .slice (some ⟨bg, 0, none⟩) 1 bcap, vl'] : Array Value)[o]? := fun o => by rw [← hl3]; exact cell_at J.wblk o
   simp only [headOp, Opr.v, Opr.cells] at hH;replace hH := hide hH;clear hMd J hok3 hev hcell;replace hl3 := hide hl3;clear h0;go_wp2_with fail
   refine (hH.out _ ((Below.refl _ _).alloc (Nat.le_refl _) _) w3.heap.size (Nat.le_refl _) _ (heap_alloc_self _ _)).mono ?_;rintro e w4 ⟨rfl, hG, _⟩;replace hG := hide hG;clear hH hc cg;go_wp2;go_ret;obtain ⟨own4, os4, ll4, vd4, vl4, J, a1, a2, a3, a4⟩ := hG.out;have hl := hl1.out;have hl' := hl3.out;exact ⟨rfl, own4, hs, os4, ll4, vb, vd4, vl4, J.toB, hok.out, a1, by omega, by omega, by omega, by omega, by omega⟩
  ·obtain ⟨bad, bcap, hv, hev⟩ := J.brow.form ptrCell_length;have h0 : 0 < hs.length := by omega
   obtain ⟨bg, hbg, hcell, _⟩ := hev 0 h0;subst hbg;have cg := hcell 0 (by decide);simp only [ptrCell, List.getElem?_cons_zero, Nat.zero_mul, Nat.add_zero] at cg;have hBk := hide (fun (acc amt : Nat) (ha : acc < 65536) (hm : amt < 4294967296) => bank_any w0 wr Wb own hs ll vb vl J hok 0 h0 _ (openOp_ok acc amt ha hm) ⟨by show (2 : Int) ≤ 2; decide, by show (2 : Int) ≤ 6; decide⟩ (by omega));simp only [Opr.v, Opr.cells] at hBk;have hgo := hide (fun (w' : World) (h : Goes w0 w' Wb hs ll vb 0 hs[0].hb) => (goes_cells h h0 bg (by rw [hv]; rfl)).2.2);have hbgl : bg < wr.heap.size := J.brow.lt (by rw [hv]; rfl);generalize hs[0].hb = hb at *;subst hv;have hlo : Hid (hs.length = 1) := hide hl1;have hc : ∀ o, wr.cell? ⟨Wb, o, none⟩ = (#[.bool true, .slice (some ⟨bg, 0, none⟩) 1 bcap, .slice none 0 0, vl] : Array Value)[o]? := fun o => by rw [← hl1]; have h := cell_at J.wblk o; rw [hw0.out] at h; exact h
   clear J hok hev hcell;rcases hk3 with rfl | rfl
   ·have hB := hide (hBk.out 5 1500 (by decide) (by decide));clear hBk;go_wp2_with fail
    refine (hB.out).mono ?_;rintro e w3 ⟨rfl, hG⟩;obtain ⟨own3, hs3, ll3, vl3, J3, hok3, hl3, hll3⟩ := hgo.out w3 hG;have hn : Hid (∃ own hs ll vb vl, MemInv w0 w3 Wb own hs ll vb vl ∧ (∀ h, h ∈ hs → h.ok) ∧ hs.length = 1 ∧ ll.length ≤ 4 * 1) := hide ⟨own3, hs3, ll3, _, vl3, J3, hok3, by rw [hl3]; exact hlo.out, by omega⟩;clear hG J3 hok3 hgo hB hc cg;go_wp2;exact ⟨⟨rfl, 1, by omega, by go_num, hn.out⟩, by simp [intOf]⟩
   ·have hB := hide (hBk.out 6 0 (by decide) (by decide));clear hBk;go_wp2_with fail
    refine (hB.out).mono ?_;rintro e w3 ⟨rfl, hG⟩;obtain ⟨own3, hs3, ll3, vl3, J3, hok3, hl3, hll3⟩ := hgo.out w3 hG;have hn : Hid (∃ own hs ll vb vl, MemInv w0 w3 Wb own hs ll vb vl ∧ (∀ h, h ∈ hs → h.ok) ∧ hs.length = 1 ∧ ll.length ≤ 4 * 2) := hide ⟨own3, hs3, ll3, _, vl3, J3, hok3, by rw [hl3]; exact hlo.out, by omega⟩;clear hG J3 hok3 hgo hB hc cg;go_wp2;exact ⟨⟨rfl, 2, by omega, by go_num, hn.out⟩, by simp [intOf]⟩
theorem all_begin (W w : World) (own : Nat → Nat) (I : MemInv (baseB W (.slice none 0 0) []) w W.heap.size own [] [] (.slice none 0 0) (.slice none 0 0)) :
  Calls Tryz.prog 33 #[.pointer (some ⟨W.heap.size, 0, none⟩), .bool true, .bool true] w fun e w' => e = .returned (.bool true) ∧ AllJ W 0 w' :=
 (all_begun W w W.heap.size own _ (hide rfl) I).mono fun e w' h => h
end Go.Proofs.YtjkhbjgfoopomabGreat
namespace Go.Proofs.YtjkhbjgfoopomabGreat
open Go.ChangeShapes Go.WideShapes Go.ChangeAt Go.RowKit
set_option maxRecDepth 100000
set_option linter.unusedVariables false
set_option linter.unusedSimpArgs false
theorem cellsLeg : Tryz.prog.cellsOf 67 = 4 := by kernel_rfl
theorem bytesLeg : Tryz.prog.bytesOf 67 = 12 := by kernel_rfl
theorem u64_of {x : Int} (h : (Lit.int .u64 x).wf = true) : ∃ n : Nat, x = n ∧ n < 18446744073709551616 := by
 simp [Lit.wf, IntKind.min, IntKind.max, IntKind.signed, IntKind.bits] at h
 exact ⟨x.toNat, by omega, by omega⟩
def Opr.pays (W : World) (o : Opr) : Prop := ∃ (pi pd : Nat) (legs : List Pl), o.pid = (pi : Int) ∧ o.dead = (pd : Int) ∧ o.llen = legs.length ∧ (⟨pi, pd, o.memo, legs, o.legs, o.lcap⟩ : Pm).ok ∧ o.memo.length ≤ 140737488351232 ∧ legs.length ≤ 11728124029269 ∧ LegsAt W o.legs legs
section
variable {H : Type} {enc : TypeId × Value → H} {w : World} {base : Nat} {spare : Nat → Bool} {held : Bool}
theorem open_legL {n : Nat} {cs : List Value} {x : DataW H × List MemPlace} (h : DataW.trod enc Tryz.prog w base spare held n 67 cs = some x) : ∃ l : Pl, cs = l.cells ∧ l.ok := by
 obtain ⟨xs, n', _, hx, hcl, hlen, hg⟩ := DataW.trod_struct Tryz.underlying67 h
 rw [cellsLeg] at hcl
 match cs, hcl with
 | [c0, c1, c2, c3], _ =>
 have g0 := hg 0 _ rfl
 have g1 := hg 1 _ rfl
 have g2 := hg 2 _ rfl
 have g3 := hg 3 _ rfl
 clear hg
 have hlen' : xs.length = 4 := hlen
 match xs, hlen' with
 | [y0, y1, y2, y3], _ =>
  simp [cellsNode, cellsAccount, cellsAmount] at g0 g1 g2 g3;obtain ⟨n0, e0, rfl, w0⟩ := DataW.trod_int Tryz.underlying61 g0;obtain ⟨n1, e1, rfl, w1⟩ := DataW.trod_int Tryz.underlying54 g1;obtain ⟨n2, e2, rfl, w2⟩ := DataW.trod_int Tryz.underlying54 g2;obtain ⟨n3, e3, rfl, w3⟩ := DataW.trod_int Tryz.underlying47 g3;simp only [List.cons.injEq, and_true] at e0 e1 e2 e3;subst e0 e1 e2 e3;obtain ⟨b, rfl, hb⟩ := u8_of w0;obtain ⟨p, rfl, hp⟩ := u16_of w1;obtain ⟨g, rfl, hg⟩ := u16_of w2;obtain ⟨a, rfl, ha⟩ := u32_of w3;exact ⟨⟨b, p, g, a⟩, rfl, hb, hp, hg, ha⟩
theorem open_legsL {n : Nat} {c : Value} {x : DataW H × List MemPlace} (h : DataW.trod enc Tryz.prog w 0 (fun _ => true) held n 29 [c] = some x) (hw : ∀ b ∈ x.1.weights Tryz.prog 29, b ≤ reachBytes) :
  ∃ (la : Option Addr) (lcap : Nat) (legs : List Pl), c = .slice la legs.length lcap ∧ (∀ l, l ∈ legs → l.ok) ∧ legs.length ≤ 11728124029269 ∧ LegsAt w la legs := by
 have hlt : ∀ y ∈ x.2, y.block < w.heap.size := DataW.trod_lt n _ _ _ h
 rcases Go.Deep.open_slice Tryz.underlying29 h with ⟨e1, _⟩ | ⟨a, len, cap, m, n', D, Q, e1, _, hl, hm, hmm, hx, hel⟩
 ·simp only [List.cons.injEq, and_true] at e1;exact ⟨none, 0, [], e1, by simp, by simp, fun k hk => by simp at hk⟩
 ·simp only [List.cons.injEq, and_true] at e1;simp only [if_true] at hmm;subst hmm;rw [hx] at hw hlt;rw [cellsLeg] at hel hlt;have hun := Tryz.underlying29;simp only [DataW.weights, hun] at hw
  have hall : ∀ i, i < len → ∃ l : Pl, l.ok ∧ ∀ j v, l.cells[j]? = some v → w.cell? ((a.add (i * 4)).add j) = some v := by
   intro i hi;obtain ⟨cs', h1, h2⟩ := hel i (by omega);obtain ⟨l, hl, hok⟩ := open_legL h2;obtain ⟨_, hln, hc⟩ := World.cells?_some h1;refine ⟨l, hok, fun j v hj => ?_⟩
   have hj4 : j < 4 := by
    have := (List.getElem?_eq_some_iff.1 hj).1
    rwa [Pl.cells_length] at this
   rw [hc j hj4, hl];exact hj
  have hab : 0 < len → a.block < w.heap.size := fun h0 => by
   refine hlt (.cell a.block a.off) (List.mem_append_left _ (row_first a (m * 4) (by omega)))
  obtain ⟨f, hf⟩ := Classical.axiomOfChoice (fun i : Fin len => hall i.1 i.2);have hlen : ((List.range len).map D).length + ((List.range (m - len)).map fun j => D (len + j)).length = m := by simp; omega
  have hby := hw _ (List.mem_cons_self);rw [hlen, bytesLeg] at hby;have hrb : reachBytes = 140737488351232 := rfl;refine ⟨some a, m, List.ofFn f, by rw [List.length_ofFn]; exact e1, fun l hl' => ?_, by rw [List.length_ofFn]; omega, fun k hk => ?_⟩
  ·obtain ⟨i, rfl⟩ := List.mem_ofFn.1 hl';exact (hf i).1
  ·rw [List.length_ofFn] at hk;refine ⟨a, rfl, hab (by omega), fun j v hj => ?_⟩;rw [List.getElem_ofFn] at hj;exact (hf ⟨k, hk⟩).2 j v hj
theorem open_pay2 {n : Nat} {c0 c1 c2 c3 : Value} {x : DataW H × List MemPlace} (h : DataW.trod enc Tryz.prog w 0 (fun _ => true) held n 69 [c0, c1, c2, c3] = some x) (hw : ∀ b ∈ x.1.weights Tryz.prog 69, b ≤ reachBytes) :
  ∃ (pi pd : Nat) (memo : List UInt8) (la : Option Addr) (lcap : Nat) (legs : List Pl), c0 = .int .u32 (pi : Int) ∧ c1 = .int .u64 (pd : Int) ∧ c2 = .string (bs memo) ∧ c3 = .slice la legs.length lcap ∧ (⟨pi, pd, memo, legs, la, lcap⟩ : Pm).ok ∧ memo.length ≤ 140737488351232 ∧ legs.length ≤ 11728124029269 ∧ LegsAt w la legs := by
 obtain ⟨xs, n', _, hx, _, hlen, hg⟩ := DataW.trod_struct Tryz.underlying69 h
 have g0 := hg 0 _ rfl
 have g1 := hg 1 _ rfl
 have g2 := hg 2 _ rfl
 have g3 := hg 3 _ rfl
 clear hg
 have hlen' : xs.length = 4 := hlen
 match xs, hlen' with
 | [y0, y1, y2, y3], _ =>
  simp [cellsID, cellsU64, cellsString, cellsLegs] at g0 g1 g2 g3;obtain ⟨n0, e0, rfl, w0⟩ := DataW.trod_int Tryz.underlying46 g0;obtain ⟨n1, e1, rfl, w1⟩ := DataW.trod_int Tryz.underlying33 g1;obtain ⟨s, e2, rfl, w2⟩ := DataW.trod_string Tryz.underlying9 g2;simp only [List.cons.injEq, and_true] at e0 e1 e2;obtain ⟨pi, rfl, hpi⟩ := u32_of w0;obtain ⟨pd, rfl, hpd⟩ := u64_of w1;have hs : s.data.toList.length ≤ reachBytes := hw _ (by rw [hx]; simp [DataW.weights, Tryz.underlying69, DataW.weightsEach]);obtain ⟨la, lcap, legs, e3, hlok, hll, hL⟩ := open_legsL g3 (fun b hb => hw b (by rw [hx]; simp only [DataW.weights, Tryz.underlying69]; simp [DataW.weightsEach]; exact .inr (.inr (.inr hb))));exact ⟨pi, pd, s.data.toList, la, lcap, legs, e0, e1, by rw [bs_of]; exact e2, e3, ⟨hpi, hpd, hlok⟩, hs, hll, hL⟩
theorem open_opP {n : Nat} {cs : List Value} {x : DataW H × List MemPlace} (h : DataW.trod enc Tryz.prog w 0 (fun _ => true) held n 104 cs = some x) (hw : ∀ b ∈ x.1.weights Tryz.prog 104, b ≤ reachBytes) : ∃ o : Opr, cs = o.cells.toList ∧ o.ok ∧ o.pays w := by
 obtain ⟨xs, n', _, hx, hcl, hlen, hg⟩ := DataW.trod_struct Tryz.underlying104 h
 rw [cellsOp] at hcl
 match cs, hcl with
 | [c0, c1, c2, c3, c4, c5, c6, c7, c8, c9, c10, c11, c12, c13, c14, c15, c16, c17, c18], _ =>
 have g0 := hg 0 _ rfl
 have g1 := hg 1 _ rfl
 have g2 := hg 2 _ rfl
 have g3 := hg 3 _ rfl
 have g4 := hg 4 _ rfl
 have g5 := hg 5 _ rfl
 have g6 := hg 6 _ rfl
 have g7 := hg 7 _ rfl
 clear hg
 have hlen' : xs.length = 8 := hlen
 match xs, hlen' with
 | [y0, y1, y2, y3, y4, y5, y6, y7], _ =>
  simp [cellsInt, cellsString, cellsMsg, cellsPay, cellsAccount, cellsAmount] at g0 g1 g2 g3 g4 g5 g6 g7;obtain ⟨n0, e0, rfl, w0⟩ := DataW.trod_int Tryz.underlying3 g0;obtain ⟨n1, e1, rfl, w1⟩ := DataW.trod_int Tryz.underlying3 g1;obtain ⟨n2, e2, rfl, w2⟩ := DataW.trod_int Tryz.underlying3 g2;obtain ⟨s, e3, rfl, w3⟩ := DataW.trod_string Tryz.underlying9 g3;obtain ⟨m, em, dm, hm⟩ := open_msgL g4;obtain ⟨n6, e6, rfl, w6⟩ := DataW.trod_int Tryz.underlying54 g6;obtain ⟨n7, e7, rfl, w7⟩ := DataW.trod_int Tryz.underlying47 g7;simp only [List.cons.injEq, and_true] at e0 e1 e2 e3 e6 e7;obtain ⟨acc, rfl, hacc⟩ := u16_of w6;obtain ⟨amt, rfl, hamt⟩ := u32_of w7;have hs : s.data.toList.length ≤ reachBytes := hw _ (by rw [hx]; simp [DataW.weights, Tryz.underlying104, DataW.weightsEach]);have hmm : m.m.length ≤ reachBytes := hw _ (by rw [hx]; simp [DataW.weights, Tryz.underlying104, Tryz.underlying102, DataW.weightsEach, dm, Msg.d]);obtain ⟨pi, pd, memo, la, lcap, legs, p0, p1, p2, p3, hpm⟩ := open_pay2 g5 (fun b hb => hw b (by rw [hx]; simp only [DataW.weights, Tryz.underlying104]; simp [DataW.weightsEach]; exact .inr (.inr (.inr (.inr (.inr (.inl hb)))))));refine ⟨⟨n0, n1, n2, s.data.toList, m, (pi : Int), (pd : Int), memo, la, legs.length, lcap, acc, amt⟩, ?_, ⟨i64_of w0, i64_of w1, i64_of w2, hs, hm, hmm, hacc, hamt⟩, pi, pd, legs, rfl, rfl, rfl, hpm⟩;simp only [Msg.cells, List.cons.injEq, and_true] at em;obtain ⟨m0, m1, m2, m3, m4, m5, m6, m7, m8⟩ := em;simp only [Opr.cells, e0, e1, e2, e3, m0, m1, m2, m3, m4, m5, m6, m7, m8, p0, p1, p2, p3, e6, e7, bs_of]
end
theorem open_scriptP {H : Type} {enc : TypeId × Value → H} {W : World} {b0 : Nat} {v : Value} {d : DataW H} {p : List MemPlace}
  (hv : Value.okWide Tryz.prog W .any b0 55 v) (h : DataW.Trod enc Tryz.prog W 0 (fun _ => true) true 55 v d p) (lt : ∀ x ∈ p, x.block < W.heap.size) (hsz : (DataW.weightsEach Tryz.prog [55] [d]).all (· ≤ reachBytes) = true) : ∃ ops, Script W v ops ∧ ∀ o, o ∈ ops → o.pays W := by
 obtain ⟨a0, n0, c0, rfl⟩ := okWide_slice Tryz.underlying55 hv
 obtain ⟨fuel, hfu⟩ := h
 have hcells : (Value.slice a0 n0 c0).cells.toList = [.slice a0 n0 c0] := rfl
 rw [hcells] at hfu
 have hwt : ∀ b ∈ d.weights Tryz.prog 55, b ≤ reachBytes := fun b hb => by
  have := List.all_eq_true.1 hsz b (DataW.weights_mem_each (j := 0) rfl rfl b hb);simpa using this
 rcases Go.Deep.open_slice Tryz.underlying55 hfu with ⟨e1, _⟩ | ⟨a, len, cap, m, n, D, Q, e1, _, hl, hm, hmm, hx, hel⟩
 ·simp only [List.cons.injEq, and_true] at e1;rw [e1];exact ⟨[], ⟨⟨none, 0, rfl, fun k hk => by simp at hk⟩, by simp, by simp⟩, by simp⟩
 ·simp only [List.cons.injEq, and_true] at e1;rw [e1];simp only [if_true] at hmm;subst hmm;simp only [Prod.mk.injEq] at hx;obtain ⟨hd, hp⟩ := hx;rw [cellsOp] at hel hp;have hun := Tryz.underlying55;rw [hd] at hwt;simp only [DataW.weights, hun] at hwt
  have hall : ∀ i, i < len → ∃ o : Opr, (o.ok ∧ o.pays W) ∧ ∀ j v, o.cells.toList[j]? = some v → W.cell? ((a.add (i * 19)).add j) = some v := by
   intro i hi;obtain ⟨cs', h1, h2⟩ := hel i (by omega)
   obtain ⟨o, ho, hok⟩ := open_opP h2 (fun b hb => hwt b (by
    refine List.mem_cons_of_mem _ (List.mem_append_left _ (weights_all _ (D i) ?_ b hb))
    exact List.mem_map.2 ⟨i, List.mem_range.2 hi, rfl⟩))
   obtain ⟨_, hln, hc⟩ := World.cells?_some h1;refine ⟨o, hok, fun j v hj => ?_⟩
   have hj19 : j < 19 := by
    have := (List.getElem?_eq_some_iff.1 hj).1;simpa [Opr.cells] using this
   rw [hc j hj19, ho];exact hj
  have hab : 0 < len → a.block < W.heap.size := fun h0 => by
   have hc : 0 < m := by omega
   refine lt (.cell a.block a.off) ?_;rw [hp];refine List.mem_append_left _ ?_;exact row_first a (m * 19) (by omega)
  obtain ⟨f, hf⟩ := Classical.axiomOfChoice (fun i : Fin len => hall i.1 i.2);have hlen : ((List.range len).map D).length + ((List.range (m - len)).map fun j => D (len + j)).length = m := by simp; omega
  have hby := hwt _ (List.mem_cons_self);rw [hlen, bytesOp] at hby;have hrb : reachBytes = 140737488351232 := rfl;refine ⟨List.ofFn f, ⟨⟨some a, m, by rw [List.length_ofFn], fun k hk => ?_⟩, fun o ho => ?_, by rw [List.length_ofFn]; omega⟩, fun o ho => ?_⟩
  ·rw [List.length_ofFn] at hk;refine ⟨a, rfl, hab (by omega), fun j v hj => ?_⟩;rw [List.getElem_ofFn] at hj;exact (hf ⟨k, hk⟩).2 j v hj
  ·obtain ⟨i, rfl⟩ := List.mem_ofFn.1 ho;exact (hf i).1.1
  ·obtain ⟨i, rfl⟩ := List.mem_ofFn.1 ho;exact (hf i).1.2
end Go.Proofs.YtjkhbjgfoopomabGreat
namespace Go.Proofs.YtjkhbjgfoopomabGreat
open Go.RowKit
set_option linter.unusedVariables false
set_option linter.unusedSimpArgs false
theorem bank_all (w0 : Base) (w : World) (Wb : Nat) (own : Nat → Nat) (hs : List House) (ll : List (Value × Nat)) (vb vl : Value) (I : MemInv w0 w Wb own hs ll vb vl) (hok : ∀ h, h ∈ hs → h.ok) (i : Nat) (hi : i < hs.length) (o : Opr) (ho : o.ok) (hk : 2 ≤ o.kind ∧ o.kind ≤ 7) (hlen : ll.length ≤ 3999999999000) :
  Calls Tryz.prog 51 #[.pointer (some ⟨Wb, 0, none⟩), .pointer (some ⟨hs[i].hb, 0, none⟩), o.v] w (BankSays w0 Wb hs ll vb i hs[i].hb) := by
 by_cases h7 : o.kind = 7
 ·obtain ⟨hR, hn1, hn7, hlg⟩ := hok hs[i] (List.getElem_mem hi);have e : hs = hs.set i hs[i] := (List.set_getElem_self hi).symm;rw [e] at I;generalize hs[i] = h at *;obtain ⟨hb, xb, rb, node, evs, ac, ls, va, vll, v, lgs, vg⟩ := h;simp only at hR hn1 hn7 hlg;obtain ⟨kind, at_, n, s, ⟨k, f, t, mi, l, p, g, a, m⟩, pid, dead, memo, legs, llen, lcap, acc, amt⟩ := o;simp only at h7;subst h7;exact bank_restore w0 w Wb own hs ll vb vl i hi hb xb rb node evs ac ls va vll v lgs vg I hok hR hn1 hn7 hlg at_ n ho.2.2.1 s k f t mi l p g a m pid dead memo legs llen lcap acc amt
 ·exact bank_any w0 w Wb own hs ll vb vl I hok i hi o ho ⟨hk.1, by omega⟩ hlen
theorem deed_all (w0 : DBase) (N : Nat) (hN : N ≤ 999999999999) (w : World) (Wb : Nat) (own : Nat → Nat) (hs : List Office) (ll : List (Value × Nat)) (vd vl : Value) (I : DInv w0 w Wb own hs ll vd vl) (hok : ∀ h, h ∈ hs → h.ok N) (i : Nat) (hi : i < hs.length) (o : Opr) (ho : o.ok) (hp : o.paid w0) (hk : 9 ≤ o.kind ∧ o.kind ≤ 14) (hll : ll.length ≤ 3999999999000) :
  Calls Tryz.prog 52 #[.pointer (some ⟨Wb, 0, none⟩), .pointer (some ⟨hs[i].hb, 0, none⟩), o.v] w (DeedSays w0 N Wb hs ll vd i hs[i].hb) := by
 by_cases h14 : o.kind = 14
 ·obtain ⟨hR, hlg, hlen⟩ := hok hs[i] (List.getElem_mem hi);have e : hs = hs.set i hs[i] := (List.set_getElem_self hi).symm;rw [e] at I;generalize hs[i] = h at *;obtain ⟨hb, xb, rb, ck, acts, ps, xv, v, lgs, vg⟩ := h;simp only at hR hlg hlen;obtain ⟨kind, at_, n, s, ⟨k, f, t, mi, l, p, g, a, m⟩, pid, dead, memo, legs, llen, lcap, acc, amt⟩ := o;simp only at h14;subst h14;exact deed_restore w0 N hN w Wb own hs ll vd vl i hi hb xb rb ck acts ps xv v lgs vg I hok hR hlg hlen at_ n ho.2.2.1 s k f t mi l p g a m pid dead memo legs llen lcap acc amt
 ·exact deed_any w0 N hN w Wb own hs ll vd vl I hok i hi o ho hp ⟨hk.1, by omega⟩ hll
theorem pays_paid {W : World} {vb : Value} {hs : List House} {o : Opr} (h : o.pays W) : o.paid (baseD W vb hs) := by
 obtain ⟨pi, pd, legs, e1, e2, e3, e4, e5, e6, e7⟩ := h
 refine ⟨pi, pd, legs, e1, e2, e3, e4, e5, e6, e7, fun a e hl => ?_⟩
 obtain ⟨a', e', hb, _⟩ := e7 0 hl
 rw [e] at e'
 injection e' with e'
 subst e'
 exact hb
theorem all_step (W : World) (k : Nat) (hk : k ≤ 977343669106) (u : World) (hJ : AllJ W k u) (o : Opr) (ho : o.ok) (hp : o.pays W) (hkind : 1 ≤ o.kind ∧ o.kind ≤ 15) :
  Calls Tryz.prog 34 #[.pointer (some ⟨W.heap.size, 0, none⟩), o.v] u fun e w' => e = .returned (.bool true) ∧ AllJ W (k + 1) w' := by
 obtain ⟨own, hs, os, ll, vb, vd, vl, I, hok, hos, h1, h2, h3, h4, h5⟩ := hJ
 have hos' : ∀ h, h ∈ os → h.ok (1 + (k + 1)) := fun h hh => ⟨(hos h hh).1, (hos h hh).2.1, Nat.le_trans (hos h hh).2.2 (by omega)⟩
 have hB : ∀ w', Goes1 (baseB W vd os) w' W.heap.size hs ll → AllJ W (k + 1) w' := by
  rintro w' ⟨own', hs', ll', vb', vl', J, a1, a2, a3, a4⟩;exact ⟨own', hs', os, ll', vb', vd, vl', J, a1, hos', by omega, by omega, h3, by omega, by omega⟩
 have hD : ∀ w', DGoes1 (baseD W vb hs) (1 + k) w' W.heap.size os ll → AllJ W (k + 1) w' := by
  rintro w' ⟨own', os', ll', vd', vl', J, a1, a2, a3, a4⟩;exact ⟨own', hs, os', ll', vb, vd', vl', J.toB, hok, fun h hh => ⟨(a1 h hh).1, (a1 h hh).2.1, Nat.le_trans (a1 h hh).2.2 (by omega)⟩, h1, by omega, by omega, by omega, by omega⟩
 have hoo := ho
 have hpp : ∀ vb hs, o.paid (baseD W vb hs) := fun vb hs => pays_paid hp
 obtain ⟨kind, at_, n, s, ⟨mk, f, t, mi, l, p, g, a, m⟩, pid, dead, memo, legs, llen, lcap, acc, amt⟩ := o
 simp only at hkind
 have hc : kind = 1 ∨ (2 ≤ kind ∧ kind ≤ 7) ∨ kind = 8 ∨ (9 ≤ kind ∧ kind ≤ 14) ∨ kind = 15 := by omega
 rcases hc with rfl | hc | rfl | hc | rfl
 ·refine (step_made_gen (baseB W vd os) u W.heap.size own hs ll vb vl I at_ n s mk f t mi l p g a m pid dead memo legs llen lcap acc amt _ (fun u1 J => made_lg (baseB W vd os) u1 W.heap.size own hs ll vb vl J hok (by omega) _ ho.2.2.1 (by show (1 : Int) ≠ 8; decide) rfl)).mono ?_;rintro e w' ⟨rfl, hG⟩;exact ⟨rfl, hB w' hG⟩
 ·refine (step_bank_gen (baseB W vd os) u W.heap.size own hs ll vb vl I h1 (by omega) kind at_ n s mk f t mi l p g a m pid dead memo legs llen lcap acc amt ho hc (fun i hi w1 u1 own1 J => bank_all w1 u1 W.heap.size own1 hs ll vb vl J hok i hi _ hoo hc (by omega))).mono ?_;rintro e w' ⟨rfl, hG⟩;exact ⟨rfl, hB w' hG⟩
 ·refine (dstep_made (baseD W vb hs) (1 + k) u W.heap.size own os ll vd vl I.toD hos (by omega) at_ n s mk f t mi l p g a m pid dead memo legs llen lcap acc amt).mono ?_;rintro e w' ⟨rfl, hG⟩;exact ⟨rfl, hD w' hG⟩
 ·refine (step_deed_gen (baseD W vb hs) (1 + k) u W.heap.size own os ll vd vl I.toD h3 (by omega) kind at_ n s mk f t mi l p g a m pid dead memo legs llen lcap acc amt ho (hpp _ _) hc (fun i hi w1 u1 own1 hp1 J => deed_all w1 (1 + k) (by omega) u1 W.heap.size own1 os ll vd vl J hos i hi _ hoo hp1 hc (by omega))).mono ?_;rintro e w' ⟨rfl, hG⟩;exact ⟨rfl, hD w' hG⟩
 ·refine (step_frames u W.heap.size at_ n s mk f t mi l p g a m pid dead memo legs llen lcap acc amt ho).mono ?_;rintro e w' ⟨rfl, hb⟩;exact ⟨rfl, own, hs, os, ll, vb, vd, vl, I.below hb, hok, hos', h1, by omega, h3, by omega, by omega⟩
end Go.Proofs.YtjkhbjgfoopomabGreat
