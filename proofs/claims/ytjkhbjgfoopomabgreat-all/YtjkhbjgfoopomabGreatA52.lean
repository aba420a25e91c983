import Derived.Test.YtjkhbjgfoopomabGreatA50
namespace Go.Proofs.YtjkhbjgfoopomabGreat
open Go.RowKit
set_option maxRecDepth 100000
set_option maxHeartbeats 4000000
set_option linter.unusedVariables false
set_option linter.unusedSimpArgs false
structure Keeps (W : World) (ops : List Opr) (lo hi : Int) (r : Bool) (J : Nat → World → Prop) : Prop where
 bel : ∀ k u, J k u → Below W.heap.size W u
 below : ∀ k u u', J k u → Below u.heap.size u u' → J k u'
 skip : ∀ k u, k < ops.length → J k u → J (k + 1) u
 step : ∀ k (hk : k < ops.length) u, J k u → lo ≤ ops[k].kind → ops[k].kind ≤ hi → (r = true ∨ (ops[k].kind ≠ 7 ∧ ops[k].kind ≠ 14)) → Calls Tryz.prog 34 #[.pointer (some ⟨W.heap.size, 0, none⟩), ops[k].v] u fun e w' => e = .returned (.bool true) ∧ J (k + 1) w'
 still : ∀ k u, J k u → k ≤ ops.length → Calls Tryz.prog 35 #[.pointer (some ⟨W.heap.size, 0, none⟩)] u fun e w' => e = .returned (.bool true) ∧ Below u.heap.size u w'
theorem skip_bools {kind lo hi : Int} {r : Bool} (h : ¬ ((lo ≤ kind ∧ kind ≤ hi) ∧ (r = true ∨ (kind ≠ 7 ∧ kind ≠ 14)))) : ((kind == 7) && (kind == 14)) = false ∧ (decide (lo ≤ kind) && decide (kind ≤ hi) && (r || !((kind == 7) || (kind == 14)))) = false := by
 constructor
 ·by_cases h7 : kind = 7
  ·subst h7; rfl
  ·simp [h7]
 ·rw [Bool.eq_false_iff];intro hx;simp only [Bool.and_eq_true, decide_eq_true_eq, Bool.or_eq_true, Bool.not_eq_true', Bool.or_eq_false_iff, beq_eq_false_iff_ne] at hx;exact h ⟨hx.1, hx.2⟩
theorem plays_gen (W : World) (sv : Value) (ops : List Opr) (hS : Script W sv ops) (lo hi : Int) (r : Bool) (J : Nat → World → Prop) (hJ : Keeps W ops lo hi r J)
  (hBg : Calls Tryz.prog 33 #[.pointer (some ⟨W.heap.size, 0, none⟩), .bool (decide (lo ≤ 1)), .bool (decide (hi ≥ 8))] (W.alloc (.cells #[.bool r, .slice none 0 0, .slice none 0 0, .slice none 0 0] 98)) fun e w' => e = .returned (.bool true) ∧ J 0 w') :
  Calls Tryz.prog 16 #[sv, .int .i64 lo, .int .i64 hi, .bool r] W fun e w' => e = .returned (.bool true) ∧ Below W.heap.size W w' := by
 obtain ⟨sad, scap, hsv, hel⟩ := hS.form
 subst hsv
 have hlen := hS.len
 obtain ⟨U, hU⟩ : ∃ U, U = W.alloc (.cells #[.bool r, .slice none 0 0, .slice none 0 0, .slice none 0 0] 98) := ⟨_, rfl⟩
 rw [← hU] at hBg
 replace hBg := hide hBg
 replace hU := hide hU
 replace hJ := hide hJ
 go_enter Tryz.func16, Tryz.ntmps16
 go_wp2_with fail
 rw [← hU.out]
 refine (hBg.out).mono ?_
 rintro e w2 ⟨rfl, hJ0⟩
 replace hJ0 := hide hJ0
 clear hBg hU
 go_wp2
 go_loopw [10, 11] (fun okv c u => okv = .bool true ∧ ∃ k : Nat, k ≤ ops.length ∧ c = .int .i64 k ∧ J k u) (fun _ c _ => ops.length - (intOf c).toNat)
 case atStart => exact ⟨rfl, 0, by omega, rfl, hJ0.out⟩
 case round =>
  clear hJ0;obtain ⟨rfl, k, hk, rfl, I⟩ := hrel;have hW := hJ.out.bel k _ I;by_cases hlt : k < ops.length
  ·obtain ⟨ea, hea, hebl, hecell⟩ := hel k hlt;subst hea;have hec : ∀ j v, ops[k].cells.toList[j]? = some v → wr.cell? ((ea.add (k * 19)).add j) = some v := fun j v hj => (World.cell?_of_block (w := W) (hW.block _ (by show ((ea.add (k * 19)).add j).block < W.heap.size; rw [add_block, add_block]; exact hebl))).trans (hecell j v hj);have hStep := fun (u : World) (hu : Below wr.heap.size wr u) => hJ.out.step k hlt u (hJ.out.below k _ _ I hu);have hskip : Hid (∀ u, Below wr.heap.size wr u → J (k + 1) u) := hide (fun u hu => hJ.out.skip k u hlt (hJ.out.below k _ _ I hu));clear I hecell hW;generalize ops[k] = o at *;obtain ⟨kind, at_, n, s, ⟨mk, f, t, mi, l, p, g, a, m⟩, pid, dead, memo, legs, llen, lcap, acc, amt⟩ := o;have hlk : (k : Int) < (ops.length : Int) := by omega
   simp only [Opr.cells] at hec;replace hec := hide hec;have hone := hide (op_one (⟨kind, at_, n, s, ⟨mk, f, t, mi, l, p, g, a, m⟩, pid, dead, memo, legs, llen, lcap, acc, amt⟩ : Opr));by_cases hplay : (lo ≤ kind ∧ kind ≤ hi) ∧ (r = true ∨ (kind ≠ 7 ∧ kind ≠ 14))
   ·have hSt := fun u hu => hStep u hu hplay.1.1 hplay.1.2 hplay.2;simp only [Opr.v, Opr.cells] at hSt;replace hSt := hide hSt;have d1 : decide (lo ≤ kind) = true := by simpa using hplay.1.1
    have d1' : decide (kind ≥ lo) = true := by simpa using hplay.1.1
    have d6 : decide (kind ≤ hi) = true := by simpa using hplay.1.2
    have h3 : ((kind == 7) = true ∧ (kind == 14) = false ∧ r = true) ∨ ((kind == 7) = false ∧ (kind == 14) = true ∧ r = true) ∨ ((kind == 7) = false ∧ (kind == 14) = false ∧ r = true) ∨ ((kind == 7) = false ∧ (kind == 14) = false ∧ r = false) := by
     cases r <;> simp at hplay ⊢ <;> omega
    clear hplay hStep hel hS hskip;rcases h3 with ⟨d7, d14, rfl⟩ | ⟨d7, d14, rfl⟩ | ⟨d7, d14, rfl⟩ | ⟨d7, d14, rfl⟩
    all_goals (
     go_wp2_with (first | (with_reducible refine stopLoadP 104 ?_))
     refine hide ?_;refine wpList_load_at (by rfl) 104 _ (by rfl) (ea.add (k * 19)) (by rfl) [.int .i64 kind, .int .i64 at_, .int .i64 n, .string (bs s), .int .u8 (mk : Int), .int .u8 (f : Int), .int .u8 (t : Int), .int .u32 (mi : Int), .int .u8 (l : Int), .int .u16 (p : Int), .int .u16 (g : Int), .int .u32 (a : Int), .string (bs m), .int .u32 pid, .int .u64 dead, .string (bs memo), .slice legs llen lcap, .int .u16 (acc : Int), .int .u32 (amt : Int)] _ hec.out Tryz.underlying104 opSize ?_;go_wp2_with (first | (with_reducible refine stopStoreP 104 ?_))
     refine hide ?_;refine wpList_store_mid (by rfl) 104 _ _ (by rfl) wr.heap.size 0 (List.toArray [.int .i64 kind, .int .i64 at_, .int .i64 n, .string (bs s), .int .u8 (mk : Int), .int .u8 (f : Int), .int .u8 (t : Int), .int .u32 (mi : Int), .int .u8 (l : Int), .int .u16 (p : Int), .int .u16 (g : Int), .int .u32 (a : Int), .string (bs m), .int .u32 pid, .int .u64 dead, .string (bs memo), .slice legs llen lcap, .int .u16 (acc : Int), .int .u32 (amt : Int)]) (by rfl) (by rfl) (there_new _ _ _ _ (by simp)) opSize hone.out ?_;generalize hU' : World.setCells _ _ _ _ = U';obtain ⟨hUb, hUw⟩ := boxed hU' rfl;have c0 : U'.cell? ⟨wr.heap.size, 0, none⟩ = some (.int .i64 kind) := cell_at hUb 0;have hUl := block_lt hUb;clear hU' hec;have hrgU : U'.rangeAt wr.heap.size 0 [.int .i64 kind, .int .i64 at_, .int .i64 n, .string (bs s), .int .u8 (mk : Int), .int .u8 (f : Int), .int .u8 (t : Int), .int .u32 (mi : Int), .int .u8 (l : Int), .int .u16 (p : Int), .int .u16 (g : Int), .int .u32 (a : Int), .string (bs m), .int .u32 pid, .int .u64 dead, .string (bs memo), .slice legs llen lcap, .int .u16 (acc : Int), .int .u32 (amt : Int)] := fun j v hj => by rw [Nat.zero_add, cell_at hUb]; simpa using hj
     replace hUb := hide hUb;replace hrgU := hide hrgU;go_wp2_with (first | (with_reducible refine stopLoadP 104 ?_))
     refine hide ?_;refine wpList_load_mid (by rfl) 104 _ (by rfl) wr.heap.size 0 (by rfl) [.int .i64 kind, .int .i64 at_, .int .i64 n, .string (bs s), .int .u8 (mk : Int), .int .u8 (f : Int), .int .u8 (t : Int), .int .u32 (mi : Int), .int .u8 (l : Int), .int .u16 (p : Int), .int .u16 (g : Int), .int .u32 (a : Int), .string (bs m), .int .u32 pid, .int .u64 dead, .string (bs memo), .slice legs llen lcap, .int .u16 (acc : Int), .int .u32 (amt : Int)] _ hrgU.out Tryz.underlying104 rfl opSize ?_;go_wp2_with fail
     refine (hSt.out U' hUw).mono ?_;rintro e w5 ⟨rfl, hG⟩;have hSL := hide (hJ.out.still (k + 1) w5 hG (by omega));have hn : Hid (∀ u, Below w5.heap.size w5 u → J (k + 1) u) := hide (fun u hu => hJ.out.below _ _ _ hG hu);clear hG hSt hUb hrgU hUw c0 hUl;go_wp2_with fail
     refine (hSL.out).mono ?_;rintro e w6 ⟨rfl, hb6⟩;have hn6 := hide (hn.out w6 hb6);clear hn hSL hb6;go_wp2
     exact ⟨⟨rfl, k + 1, hlt, by go_num, hn6.out⟩, by simp [intOf]; omega⟩)
   ·have h3 : ∃ b7 b14 b1 b6 : Bool, (kind == 7) = b7 ∧ (kind == 14) = b14 ∧ decide (lo ≤ kind) = b1 ∧ decide (kind ≥ lo) = b1 ∧ decide (kind ≤ hi) = b6 ∧ (b7 && b14) = false ∧ (b1 && b6 && (r || !(b7 || b14))) = false := by
     exact ⟨_, _, _, _, rfl, rfl, rfl, rfl, rfl, (skip_bools hplay).1, (skip_bools hplay).2⟩
    obtain ⟨b7, b14, b1, b6, d7, d14, d1, d1', d6, hx, hy⟩ := h3;clear hplay hStep hel hS;cases b7 <;> cases b14 <;> cases b1 <;> cases b6 <;> cases r <;> first | (exfalso; revert hx; decide) | (exfalso; revert hy; decide) | clear hx hy
    all_goals (
     go_wp2_with (first | (with_reducible refine stopLoadP 104 ?_))
     refine hide ?_;refine wpList_load_at (by rfl) 104 _ (by rfl) (ea.add (k * 19)) (by rfl) [.int .i64 kind, .int .i64 at_, .int .i64 n, .string (bs s), .int .u8 (mk : Int), .int .u8 (f : Int), .int .u8 (t : Int), .int .u32 (mi : Int), .int .u8 (l : Int), .int .u16 (p : Int), .int .u16 (g : Int), .int .u32 (a : Int), .string (bs m), .int .u32 pid, .int .u64 dead, .string (bs memo), .slice legs llen lcap, .int .u16 (acc : Int), .int .u32 (amt : Int)] _ hec.out Tryz.underlying104 opSize ?_;go_wp2_with (first | (with_reducible refine stopStoreP 104 ?_))
     refine hide ?_;refine wpList_store_mid (by rfl) 104 _ _ (by rfl) wr.heap.size 0 (List.toArray [.int .i64 kind, .int .i64 at_, .int .i64 n, .string (bs s), .int .u8 (mk : Int), .int .u8 (f : Int), .int .u8 (t : Int), .int .u32 (mi : Int), .int .u8 (l : Int), .int .u16 (p : Int), .int .u16 (g : Int), .int .u32 (a : Int), .string (bs m), .int .u32 pid, .int .u64 dead, .string (bs memo), .slice legs llen lcap, .int .u16 (acc : Int), .int .u32 (amt : Int)]) (by rfl) (by rfl) (there_new _ _ _ _ (by simp)) opSize hone.out ?_;generalize hU' : World.setCells _ _ _ _ = U';obtain ⟨hUb, hUw⟩ := boxed hU' rfl;have c0 : U'.cell? ⟨wr.heap.size, 0, none⟩ = some (.int .i64 kind) := cell_at hUb 0;have hUl := block_lt hUb;clear hU' hec;have hn := hide (hskip.out U' hUw);clear hskip hUw;go_wp2
     exact ⟨⟨rfl, k + 1, hlt, by go_num, hn.out⟩, by simp [intOf]; omega⟩)
  ·obtain rfl : k = ops.length := by omega
   replace hW := hide hW;clear I hel hS;go_wp2;go_ret;exact ⟨rfl, hW.out⟩
end Go.Proofs.YtjkhbjgfoopomabGreat
