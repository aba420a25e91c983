import Derived.Test.YtjkhbjgfoopomabGreatA45
import Derived.Test.YtjkhbjgfoopomabGreatA41
namespace Go.Proofs.YtjkhbjgfoopomabGreat
open Go.RowKit
set_option maxRecDepth 100000
set_option maxHeartbeats 2000000
set_option linter.unusedVariables false
set_option linter.unusedSimpArgs false
theorem step_made_gen (w0 : Base) (w : World) (Wb : Nat) (own : Nat → Nat) (hs : List House) (ll : List (Value × Nat)) (vb vl : Value) (I : MemInv w0 w Wb own hs ll vb vl)
  (at_ n : Int) (s : List UInt8) (k f t mi l p g a : Nat) (m : List UInt8) (pid dead : Int) (memo : List UInt8) (legs : Option Addr) (llen lcap acc amt : Nat) (b : Bool)
  (hM0 : ∀ u, MemInv w0 u Wb own hs ll vb vl → Calls Tryz.prog 50 #[.pointer (some ⟨Wb, 0, none⟩), (⟨1, at_, n, s, ⟨k, f, t, mi, l, p, g, a, m⟩, pid, dead, memo, legs, llen, lcap, acc, amt⟩ : Opr).v] u (MadeSays w0 Wb hs ll b)) :
  Calls Tryz.prog 34 #[.pointer (some ⟨Wb, 0, none⟩), (⟨1, at_, n, s, ⟨k, f, t, mi, l, p, g, a, m⟩, pid, dead, memo, legs, llen, lcap, acc, amt⟩ : Opr).v] w fun e w' => e = .returned (.bool true) ∧ Goes1 w0 w' Wb hs ll := by
 obtain ⟨W1, hW1⟩ : ∃ W1, W1 = (w.alloc (.cells (⟨1, at_, n, s, ⟨k, f, t, mi, l, p, g, a, m⟩, pid, dead, memo, legs, llen, lcap, acc, amt⟩ : Opr).cells 104)) := ⟨_, rfl⟩
 have hbW : Below w.heap.size w W1 := by rw [hW1]; exact (Below.refl w.heap.size w).alloc (Nat.le_refl _) _
 have hrg := hide (op_range (⟨1, at_, n, s, ⟨k, f, t, mi, l, p, g, a, m⟩, pid, dead, memo, legs, llen, lcap, acc, amt⟩ : Opr) w)
 have hM := hide (hM0 W1 (I.below hbW))
 clear I hM0
 simp only [Opr.v, Opr.cells] at *
 replace hW1 := hide hW1
 go_enter Tryz.func34, Tryz.ntmps34
 go_wp2_with (first
  | (refine wpList_load_mid (by rfl) 104 _ (by rfl) w.heap.size 0 (by rfl) [.int .i64 1, .int .i64 at_, .int .i64 n, .string (bs s), .int .u8 (k : Int), .int .u8 (f : Int), .int .u8 (t : Int), .int .u32 (mi : Int), .int .u8 (l : Int), .int .u16 (p : Int), .int .u16 (g : Int), .int .u32 (a : Int), .string (bs m), .int .u32 pid, .int .u64 dead, .string (bs memo), .slice legs llen lcap, .int .u16 (acc : Int), .int .u32 (amt : Int)] _ hrg.out Tryz.underlying104 rfl opSize ?_)
  | (go_at_call 50; refine stopAt ?_))
 refine hide ?_
 rw [← hW1.out]
 refine (hM.out).mono ?_
 rintro e w2 ⟨rfl, own', hs', vb', vl', J, hok', hl'⟩
 have hG : Hid (Goes1 w0 w2 Wb hs ll) := hide ⟨own', hs', ll, vb', vl', J, hok', by rw [hl']; split <;> omega, by rw [hl']; omega, by omega⟩
 clear J hM hrg
 go_wp2
 go_ret
 exact ⟨rfl, hG.out⟩
theorem restoreB_bad (n : Nat) (hn : n < 256) (hno : bankB n = false) (s : ByteArray) (w : World) :
  Calls Tryz.prog 71 #[.int .u8 (n : Int), .string s] w fun e w' => e = .returned (.tuple #[.agg #[.int .u8 0, .slice none 0 0, .slice none 0 0], .int .i64 4]) ∧ Below w.heap.size w w' := by
 have hN := hide (fun u => new_any n hn u)
 rw [hno] at hN
 simp only [Bool.false_eq_true, if_false] at hN
 have hb0 := (Below.refl w.heap.size w).alloc (Nat.le_refl _) (.cells #[.int .u8 0, .slice none 0 0, .slice none 0 0] 90)
 have hk0 := heap_alloc_self w (.cells #[.int .u8 0, .slice none 0 0, .slice none 0 0] 90)
 have hs0 : (w.alloc (.cells #[.int .u8 0, .slice none 0 0, .slice none 0 0] 90)).heap.size = w.heap.size + 1 := by simp
 go_enter Tryz.func71, Tryz.ntmps71
 go_wp2_with fail
 refine (hN.out _).mono ?_
 rintro e w1 ⟨rfl, hb1⟩
 clear hN
 generalize World.alloc w _ = w0 at *
 have hsz := hb1.size
 have hb2 := hb1.alloc hb1.size (.cells #[.int .u8 0, .slice none 0 0, .slice none 0 0] 90)
 have hbl := hb0.trans (hb2.mono (by omega))
 have hbx : (w1.alloc (.cells #[.int .u8 0, .slice none 0 0, .slice none 0 0] 90)).heap[w.heap.size]? = some (.cells #[.int .u8 0, .slice none 0 0, .slice none 0 0] 90 (0, 0)) := by rw [hb2.block _ (by omega)]; exact hk0
 have hc0 : ∀ o, _ = _ := fun o => cell_at hbx o
 have hf0 : ∀ o, _ = _ := fun o => frozen_at hbx o
 have hl0 := block_lt hbx
 have hZ := putL_whole [.int .u8 0, .slice none 0 0, .slice none 0 0] hbx rfl
 have hZk := hide (putL_kept [.int .u8 0, .slice none 0 0, .slice none 0 0] (w1.alloc (.cells #[.int .u8 0, .slice none 0 0, .slice none 0 0] 90)) w.heap.size 0)
 clear hb0 hk0 hb1 hb2 hs0
 go_wp2
 have hc3 := fun o => cell_at hZ o
 have hB := hbl.trans (hZk.out.below hbl.size (fun k e => by omega))
 simp only [putL] at hc3 hB
 generalize World.setCell _ _ _ = u at *
 exact bodyPost_ret (v := .tuple #[.agg #[.int .u8 0, .slice none 0 0, .slice none 0 0], .int .i64 4]) (by simp [results, Tryz.results71, go_sem, hc3]) rfl ⟨rfl, hB⟩
theorem eRestB_bad (n : Nat) (hn : n < 256) (hno : bankB n = false) (s : ByteArray) (w : World) :
  Calls Tryz.prog 45 #[.int .u8 (n : Int), .string s] w fun e w' => e = .returned (.tuple #[.pointer none, .int .i64 4]) ∧ Below w.heap.size w w' := by
 have hR := hide (fun u => restoreB_bad n hn hno s u)
 go_enter Tryz.func45, Tryz.ntmps45
 go_wp2_with fail
 refine (hR.out _).mono ?_
 rintro e w1 ⟨rfl, hb⟩
 clear hR
 go_wp2
 go_ret2
 exact ⟨rfl, hb.alloc hb.size _⟩
theorem made_none_lg (w0 : Base) (w : World) (Wb : Nat) (own : Nat → Nat) (hs : List House) (ll : List (Value × Nat)) (vb vl : Value) (I : MemInv w0 w Wb own hs ll vb vl) (hok : ∀ h, h ∈ hs → h.ok)
  (kind at_ n : Int) (hk8 : (kind == 8) = false) (hn : i64ok n) (s : List UInt8) (k f t mi l p g a : Nat) (m : List UInt8) (pid dead : Int) (memo : List UInt8) (legs : Option Addr) (llen lcap acc amt : Nat) (hno : bankB (pickN n 256) = false) (hlg : w0.lg = true) :
  Calls Tryz.prog 50 #[.pointer (some ⟨Wb, 0, none⟩), (⟨kind, at_, n, s, ⟨k, f, t, mi, l, p, g, a, m⟩, pid, dead, memo, legs, llen, lcap, acc, amt⟩ : Opr).v] w (MadeSays w0 Wb hs ll false) := by
 have hP := hide (fun u => pick_any n hn 256 (by decide) (by decide) u)
 have hpl := pickN_lt n
 have hN := hide (fun u => newBank_any (pickN n 256) hpl u)
 have hZ := hide (fun u => eRestB_bad (pickN n 256) hpl hno ⟨#[]⟩ u)
 rw [hno] at hN
 simp only [Bool.false_eq_true, if_false] at hN
 have hno' : pickN n 256 < 1 ∨ 7 < pickN n 256 := by
  simp only [bankB, Bool.and_eq_false_iff, decide_eq_false_iff_not] at hno;omega
 generalize pickN n 256 = pn at *
 obtain ⟨W1, hW1⟩ : ∃ W1, W1 = (w.alloc (.cells (⟨kind, at_, n, s, ⟨k, f, t, mi, l, p, g, a, m⟩, pid, dead, memo, legs, llen, lcap, acc, amt⟩ : Opr).cells 104)) := ⟨_, rfl⟩
 have hbW : Below w.heap.size w W1 := by rw [hW1]; exact (Below.refl w.heap.size w).alloc (Nat.le_refl _) _
 have I1 := hide (I.below hbW)
 have hc : ∀ o, W1.cell? ⟨Wb, o, none⟩ = (#[.bool true, vb, w0.vd, vl] : Array Value)[o]? := fun o => by rw [← hlg]; exact cell_at I1.out.wblk o
 have hWl : Wb < W1.heap.size := block_lt I1.out.wblk
 replace hok := hide hok
 clear I hno
 simp only [Opr.v, Opr.cells] at *
 replace hW1 := hide hW1
 go_enter Tryz.func50, Tryz.ntmps50
 go_wp2_with fail
 rw [← hW1.out]
 refine (hP.out W1).mono ?_
 rintro e w2 ⟨rfl, rfl⟩
 have hW8 : IntKind.u8.wrap (pn : Int) = (pn : Int) := by rw [IntKind.wrap_u8]; omega
 clear hP
 go_wp2_with fail
 refine (hN.out _).mono ?_
 rintro e w3 ⟨rfl, hb3⟩
 have I3 := hide (I1.out.below hb3)
 have hc3 : ∀ o, w3.cell? ⟨Wb, o, none⟩ = (#[.bool true, vb, w0.vd, vl] : Array Value)[o]? := fun o => by rw [← hlg]; exact cell_at I3.out.wblk o
 have hWl3 : Wb < w3.heap.size := block_lt I3.out.wblk
 clear hc hWl hN I1 hb3
 rcases hno' with h1 | h1
 ·have d1 : decide ((pn : Int) < 1) = true := by simp; omega
  clear h1;go_wp2_with fail
  refine (num_any _ _).mono ?_;rintro e w4 ⟨rfl, rfl⟩;go_wp2_with fail
  refine (hZ.out _).mono ?_;rintro e w5 ⟨rfl, hb5⟩;have I5 := hide (I3.out.below hb5);clear hZ hb5 hc3 I3;go_wp2_with fail
  refine (num_any _ _).mono ?_;rintro e w6 ⟨rfl, rfl⟩;go_wp2;go_ret;exact ⟨rfl, own, hs, vb, vl, I5.out, hok.out, by simp⟩
 ·have d1 : decide ((pn : Int) < 1) = false := by simp; omega
  have d2 : decide ((pn : Int) > 7) = true := by simp; omega
  have d2' : decide ((7 : Int) < (pn : Int)) = true := by simp; omega
  clear h1;go_wp2_with fail
  refine (num_any _ _).mono ?_;rintro e w4 ⟨rfl, rfl⟩;go_wp2_with fail
  refine (hZ.out _).mono ?_;rintro e w5 ⟨rfl, hb5⟩;have I5 := hide (I3.out.below hb5);clear hZ hb5 hc3 I3;go_wp2_with fail
  refine (num_any _ _).mono ?_;rintro e w6 ⟨rfl, rfl⟩;go_wp2;go_ret;exact ⟨rfl, own, hs, vb, vl, I5.out, hok.out, by simp⟩
theorem made_lg (w0 : Base) (w : World) (Wb : Nat) (own : Nat → Nat) (hs : List House) (ll : List (Value × Nat)) (vb vl : Value) (I : MemInv w0 w Wb own hs ll vb vl) (hok : ∀ h, h ∈ hs → h.ok) (hlen : hs.length ≤ 1000000000000) (o : Opr) (ho : i64ok o.n) (hk : o.kind ≠ 8) (hlg : w0.lg = true) :
  Calls Tryz.prog 50 #[.pointer (some ⟨Wb, 0, none⟩), o.v] w (MadeSays w0 Wb hs ll (bankB (pickN o.n 256))) := by
 obtain ⟨kind, at_, n, s, ⟨k, f, t, mi, l, p, g, a, m⟩, pid, dead, memo, legs, llen, lcap, acc, amt⟩ := o
 simp only at ho hk
 have hk8 : (kind == 8) = false := by simpa using hk
 cases hB : bankB (pickN n 256) with
 | true =>
  exact made_new w0 w Wb own hs ll vb vl I hok hlen kind at_ n hk8 ho s k f t mi l p g a m pid dead memo legs llen lcap acc amt hB
 | false =>
  exact made_none_lg w0 w Wb own hs ll vb vl I hok kind at_ n hk8 ho s k f t mi l p g a m pid dead memo legs llen lcap acc amt hB hlg
theorem goes_cells {w0 : Base} {w' : World} {Wb : Nat} {hs : List House} {vb : Value} {hb : Nat} {ll : List (Value × Nat)} (h : Goes w0 w' Wb hs ll vb 0 hb) (hl : 0 < hs.length) (g : Nat) (hg : vb.ownBlock = some g) : w'.cell? ⟨Wb, 1, none⟩ = some vb ∧ w'.cell? ⟨g, 0, none⟩ = some (.pointer (some ⟨hb, 0, none⟩)) ∧ ∃ own hs' ll' vl, MemInv w0 w' Wb own hs' ll' vb vl ∧ (∀ h, h ∈ hs' → h.ok) ∧ hs'.length = hs.length ∧ ll'.length ≤ ll.length + 4 := by
 obtain ⟨own', hs', ll', vl', J, hok', hhb, hll⟩ := h
 have hl' : hs'.length = hs.length := by have := congrArg List.length hhb; simpa using this
 refine ⟨cell_at J.wblk 1, ?_, own', hs', ll', vl', J, hok', hl', hll⟩
 obtain ⟨ad, cap, hv, hev⟩ := J.brow.form ptrCell_length
 obtain ⟨g', rfl, hcell, _⟩ := hev 0 (by omega)
 have c0 := hcell 0 (by decide)
 obtain rfl : g' = g := by rw [hv] at hg; simpa [Value.ownBlock] using hg
 simp only [ptrCell, List.getElem?_cons_zero, Nat.zero_mul, Nat.add_zero] at c0
 rw [c0]
 have : (hs'.map House.hb)[0]'(by simp; omega) = ((hs.map House.hb).set 0 hb)[0]'(by simpa using hl) := by simp only [hhb]
 simp only [List.getElem_map, List.getElem_set_self] at this
 rw [this]
theorem openOp_ok (acc amt : Nat) (ha : acc < 65536) (hm : amt < 4294967296) : (⟨2, 0, 0, [], ⟨0, 0, 0, 0, 0, 0, 0, 0, []⟩, 0, 0, [], none, 0, 0, acc, amt⟩ : Opr).ok := by
 simp [Opr.ok, i64ok, Msg.ok, ha, hm]
end Go.Proofs.YtjkhbjgfoopomabGreat
