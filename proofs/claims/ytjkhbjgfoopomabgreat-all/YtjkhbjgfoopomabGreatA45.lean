import Derived.Test.YtjkhbjgfoopomabGreatA43
import Derived.Test.YtjkhbjgfoopomabGreatA44
import Derived.Test.YtjkhbjgfoopomabGreatA42
namespace Go.Proofs.YtjkhbjgfoopomabGreat
open Go.RowKit
set_option maxRecDepth 100000
set_option maxHeartbeats 2000000
set_option linter.unusedVariables false
set_option linter.unusedSimpArgs false
theorem bank_tick (w0 : Base) (w : World) (Wb : Nat) (own : Nat → Nat) (hs : List House) (ll : List (Value × Nat)) (vb vl : Value) (i : Nat) (hi : i < hs.length) (hb xb rb node : Nat) (evs : List Ev) (ac : List Ac) (ls : List Lg) (va vll v : Value) (lgs : List (List UInt8 × Nat)) (vg : Value)
  (I : MemInv w0 w Wb own (hs.set i ⟨hb, xb, rb, node, evs, ac, ls, va, vll, v, lgs, vg⟩) ll vb vl) (hok : ∀ h, h ∈ hs → h.ok) (hR : Rel evs ac ls) (hn1 : 1 ≤ node) (hn7 : node ≤ 7) (hlg : LgB node evs lgs)
  (at_ n : Int) (s : List UInt8) (k f t mi l p g a : Nat) (m : List UInt8) (pid dead : Int) (memo : List UInt8) (legs : Option Addr) (llen lcap acc amt : Nat) (hlen : ll.length ≤ 3999999999000) :
  Calls Tryz.prog 51 #[.pointer (some ⟨Wb, 0, none⟩), .pointer (some ⟨hb, 0, none⟩), (⟨6, at_, n, s, ⟨k, f, t, mi, l, p, g, a, m⟩, pid, dead, memo, legs, llen, lcap, acc, amt⟩ : Opr).v] w (BankSays w0 Wb hs ll vb i hb) := by
 have H := MemInv.at hi I
 have F0 := foot_lt H
 have hc : ∀ o, w.cell? ⟨hb, o, none⟩ = (#[.pointer (some ⟨xb, 0, none⟩), .pointer (some ⟨rb, 0, none⟩), vg] : Array Value)[o]? := fun o => cell_at H.blk o
 have hl1 : hb < w.heap.size := block_lt H.blk
 have hl2 : rb < w.heap.size := H.r.lt
 have hRl : ∀ k, v.ownBlock = some k → k < w.heap.size := fun k hk => F0.2 k (.inr hk)
 have hnx : ¬ xfoot xb va vll hb := fun hx => by have h1 := H.xown _ hx; have h2 : own hb = _ := H.hown; omega
 have hnw : ¬ xfoot xb va vll w.heap.size := fun hx => by have := F0.1 _ hx; omega
 have hnr : ¬ (hb = rb ∨ v.ownBlock = some hb) := fun hx => by have h1 := H.rown _ hx; have h2 : own hb = _ := H.hown; omega
 have hnw2 : ¬ (w.heap.size = rb ∨ v.ownBlock = some w.heap.size) := fun hx => by
  rcases hx with hx | hx
  ·omega
  ·have := hRl _ hx; omega
 obtain ⟨rad, rcap, hv, _⟩ := H.r.form
 have hcr : ∀ o, w.cell? ⟨rb, o, none⟩ = (#[.int .u8 (node : Int), .slice rad evs.length rcap] : Array Value)[o]? := fun o => by rw [← (show v = _ from hv)]; exact cell_at H.r.blk o
 have hRs := hR.short
 obtain ⟨W1, hW1⟩ : ∃ W1, W1 = (w.alloc (.cells (⟨6, at_, n, s, ⟨k, f, t, mi, l, p, g, a, m⟩, pid, dead, memo, legs, llen, lcap, acc, amt⟩ : Opr).cells 104)) := ⟨_, rfl⟩
 have hbW : Below w.heap.size w W1 := by rw [hW1]; exact (Below.refl w.heap.size w).alloc (Nat.le_refl _) _
 have hlW : w.heap.size < W1.heap.size := by rw [hW1]; simp
 have I1 := I.below hbW
 have H1 := MemInv.at hi I1
 have e0 : W1.cell? ⟨hb, 0, none⟩ = some (.pointer (some ⟨xb, 0, none⟩)) := cell_at H1.blk 0
 have hlb : hb < W1.heap.size := by omega
 have hX := hide (eTick_any W1 xb node ⟨hn1, hn7⟩ ac ls va vll H1.x hR.lok' (fun x hx => (hR.lok x hx).2) (by have := hR.llen; omega))
 replace I1 := hide I1
 replace hok := hide hok
 clear H H1 F0 I hv
 simp only [Opr.v, Opr.cells] at *
 replace hW1 := hide hW1
 go_enter Tryz.func51, Tryz.ntmps51
 go_wp2_with fail
 rw [← hW1.out]
 refine (hX.out).mono ?_
 rintro e w2 ⟨⟨lv, rfl, hlv⟩, hb2⟩
 have I2 := I1.out.below4 hb2
 have hlo2 : ∀ g, lv.ownBlock = some g → (fun k => if k < W1.heap.size then own k else 4) g = 4 := fun g hg => by have := hlv.2 g hg; simp only [if_neg (Nat.not_lt.2 this)]
 have hap := hide (I1.out.apartL hlv.2)
 have H2 := MemInv.at hi I2
 have hX2 := hide (refTick_any w2 rb node (by omega) evs v H2.r hR.eok (by omega) (heldK ls) hR.helds (by have h1 := heldK_length ls; have h2 := hR.llen; omega))
 rw [tick_same] at hX2
 have htl : (tickL node ls).length ≤ 128 := Nat.le_trans (tickL_length _ _) hR.llen
 have hc2 : ∀ o, w2.cell? ⟨hb, o, none⟩ = (#[.pointer (some ⟨xb, 0, none⟩), .pointer (some ⟨rb, 0, none⟩), vg] : Array Value)[o]? := fun o => cell_at H2.blk o
 replace I2 := hide I2
 replace hlv := hide hlv
 replace hlo2 := hide hlo2
 clear hX hc hcr e0 H2 hb2 I1
 go_wp2_with fail
 refine (hX2.out).mono ?_
 rintro e w3 ⟨⟨mv, rfl, hmv, _⟩, hb3⟩
 have I3 := hide (I2.out.below hb3)
 have hlv3 : RowOf w3 9 1 txtCell lv (tickL node ls) := hlv.out.1.below hb3
 have hS := hide (sameList_any (tickL node ls) lv mv (by omega) w3 hlv3 hmv)
 replace hlv3 := hide hlv3
 clear hX2 hc2 hmv hb3 I2
 go_wp2_with fail
 refine (hS.out).mono ?_
 rintro e w4 ⟨rfl, hb4⟩
 have I4 := I3.out.below hb4
 have hlv4 := hlv3.out.below hb4
 have sp := I4.sep hlo2.out
 have hK := hide (keep4_any w4 Wb w0.lg vb w0.vd vl ll I4.wblk I4.lrow hlen lv (tickL node ls) (by omega) hlv4 sp.1 sp.2.1 sp.2.2)
 have hG := hide (fun w5 (hB : Booked w4 w5 Wb w0.lg vb w0.vd vl ll lv (tickL node ls).length) => I4.keeps lv (tickL node ls) (by omega) hlv4 hlo2.out hap.out hB)
 clear hS I3 hlv3 I4 hlv4 sp hb4
 go_wp2_with fail
 refine (hK.out).mono ?_
 rintro e w5 ⟨rfl, hB⟩
 obtain ⟨own5, ll5, vl5, I5, h5⟩ := hG.out w5 hB
 replace I5 := hide I5
 clear hK hG hB
 go_wp2
 go_ret
 exact ⟨rfl, goes_of I5.out hok.out ⟨hR, hn1, hn7, hlg⟩ (by omega)⟩
theorem ptrInfo : (Tryz.prog.info? 124).map (fun i => (i.zero, i.size, i.bytes)) = some (some (.pointer none), 1, 8) := by kernel_rfl
theorem ptr_one (h : House) : ∀ u ∈ ptrCell h, u.oneCell' = true := by
 intro u hu
 simp only [ptrCell, List.mem_cons, List.not_mem_nil, or_false] at hu
 subst hu
 rfl
def MadeSays (w0 : Base) (Wb : Nat) (hs : List House) (ll : List (Value × Nat)) (b : Bool) (e : Ending) (w' : World) : Prop :=
 e = .returned (.bool true) ∧ ∃ own' hs' vb' vl', MemInv w0 w' Wb own' hs' ll vb' vl' ∧ (∀ h, h ∈ hs' → h.ok) ∧ hs'.length = hs.length + (if b then 1 else 0)
theorem pickN_lt (c : Int) : pickN c 256 < 256 := Nat.mod_lt _ (by decide)
theorem made_new (w0 : Base) (w : World) (Wb : Nat) (own : Nat → Nat) (hs : List House) (ll : List (Value × Nat)) (vb vl : Value) (I : MemInv w0 w Wb own hs ll vb vl) (hok : ∀ h, h ∈ hs → h.ok) (hlen : hs.length ≤ 1000000000000)
  (kind at_ n : Int) (hk8 : (kind == 8) = false) (hn : i64ok n) (s : List UInt8) (k f t mi l p g a : Nat) (m : List UInt8) (pid dead : Int) (memo : List UInt8) (legs : Option Addr) (llen lcap acc amt : Nat) (hno : bankB (pickN n 256) = true) :
  Calls Tryz.prog 50 #[.pointer (some ⟨Wb, 0, none⟩), (⟨kind, at_, n, s, ⟨k, f, t, mi, l, p, g, a, m⟩, pid, dead, memo, legs, llen, lcap, acc, amt⟩ : Opr).v] w (MadeSays w0 Wb hs ll true) := by
 have hP := hide (fun u => pick_any n hn 256 (by decide) (by decide) u)
 have hpl := pickN_lt n
 have hN := hide (fun u => newBank_any (pickN n 256) hpl u)
 rw [hno] at hN
 simp only [if_true] at hN
 have hno' : 1 ≤ pickN n 256 ∧ pickN n 256 ≤ 7 := by
  simp only [bankB, Bool.and_eq_true, decide_eq_true_eq] at hno;exact hno
 generalize pickN n 256 = pn at *
 obtain ⟨W1, hW1⟩ : ∃ W1, W1 = (w.alloc (.cells (⟨kind, at_, n, s, ⟨k, f, t, mi, l, p, g, a, m⟩, pid, dead, memo, legs, llen, lcap, acc, amt⟩ : Opr).cells 104)) := ⟨_, rfl⟩
 have hbW : Below w.heap.size w W1 := by rw [hW1]; exact (Below.refl w.heap.size w).alloc (Nat.le_refl _) _
 have I1 := hide (I.below hbW)
 have hc : ∀ o, W1.cell? ⟨Wb, o, none⟩ = (#[.bool w0.lg, vb, w0.vd, vl] : Array Value)[o]? := fun o => cell_at I1.out.wblk o
 have hWl : Wb < W1.heap.size := block_lt I1.out.wblk
 replace hok := hide hok
 clear I hno
 simp only [Opr.v, Opr.cells] at *
 replace hW1 := hide hW1
 obtain ⟨i0, hi0, y0, y1, y2⟩ := info_parts ptrInfo
 go_enter Tryz.func50, Tryz.ntmps50
 go_wp2_with fail
 rw [← hW1.out]
 refine (hP.out W1).mono ?_
 rintro e w2 ⟨rfl, rfl⟩
 have hW8 : IntKind.u8.wrap (pn : Int) = (pn : Int) := by rw [IntKind.wrap_u8]; omega
 clear hP
 go_wp2_with fail
 refine (hN.out _).mono ?_
 rintro e w3 ⟨⟨B, hB, rfl, hXB⟩, hb3⟩
 have I3 := hide (I1.out.below hb3)
 have hc3 : ∀ o, w3.cell? ⟨Wb, o, none⟩ = (#[.bool w0.lg, vb, w0.vd, vl] : Array Value)[o]? := fun o => cell_at I3.out.wblk o
 have hWl3 : Wb < w3.heap.size := block_lt I3.out.wblk
 have d1 : decide ((pn : Int) < 1) = false := by simp; omega
 have d2 : decide ((pn : Int) > 7) = false := by simp; omega
 have d2' : decide ((7 : Int) < (pn : Int)) = false := by simp; omega
 have hWl2 : Wb < w2.heap.size := hWl
 have hBl : B < w3.heap.size := hXB.lt
 have hvb2 : ∀ g, vb.ownBlock = some g → g < w2.heap.size := fun g hg => I1.out.brow.lt hg
 have hWb2 : vb.ownBlock ≠ some Wb := fun e => by have h1 := I1.out.bown _ e; rw [I1.out.wown] at h1; omega
 have hbu : Below w3.heap.size w3 ((w3.alloc (.cells #[.int .u8 (pn : Int), .slice none 0 0] 163)).alloc (.cells #[.pointer (some ⟨B, 0, none⟩), .pointer (some ⟨w3.heap.size, 0, none⟩), .slice none 0 0] 165)) := ((Below.refl _ _).alloc (Nat.le_refl _) _).alloc (by simp) _
 have hu1 : ((w3.alloc (.cells #[.int .u8 (pn : Int), .slice none 0 0] 163)).alloc (.cells #[.pointer (some ⟨B, 0, none⟩), .pointer (some ⟨w3.heap.size, 0, none⟩), .slice none 0 0] 165)).heap[w3.heap.size]? = some (.cells #[.int .u8 (pn : Int), .slice none 0 0] 163 (0, 0)) := by
  rw [Below.heap_alloc _ _ _ (by simp)];exact heap_alloc_self _ _
 have hu2 : ((w3.alloc (.cells #[.int .u8 (pn : Int), .slice none 0 0] 163)).alloc (.cells #[.pointer (some ⟨B, 0, none⟩), .pointer (some ⟨w3.heap.size, 0, none⟩), .slice none 0 0] 165)).heap[w3.heap.size + 1]? = some (.cells #[.pointer (some ⟨B, 0, none⟩), .pointer (some ⟨w3.heap.size, 0, none⟩), .slice none 0 0] 165 (0, 0)) := by
  have e : w3.heap.size + 1 = (w3.alloc (.cells #[.int .u8 (pn : Int), .slice none 0 0] 163)).heap.size := by simp
  rw [e];exact heap_alloc_self _ _
 have hus : ((w3.alloc (.cells #[.int .u8 (pn : Int), .slice none 0 0] 163)).alloc (.cells #[.pointer (some ⟨B, 0, none⟩), .pointer (some ⟨w3.heap.size, 0, none⟩), .slice none 0 0] 165)).heap.size = w3.heap.size + 1 + 1 := by simp
 replace hbu := hide hbu
 replace hu1 := hide hu1
 replace hu2 := hide hu2
 replace hus := hide hus
 replace hXB := hide hXB
 replace hb3 := hide hb3
 clear hc hN
 go_wp2_with (first | (at_builtin; refine stopAt ?_))
 refine hide ?_
 refine wpList_moreH ptrCell_length _ (by rfl) _ _ 94 (by rfl) 124 i0 _ 8 Tryz.underlying94 hi0 y0 y1 y2 rfl (by decide) vb hs (by rfl) (I3.out.brow.below hbu.out) 1 [(⟨w3.heap.size + 1, B, w3.heap.size, pn, [], [], [], .slice none 0 0, .slice none 0 0, .slice none 0 0, [], .slice none 0 0⟩ : House)] (by simp) 1 _ (by rfl) (by rfl) (by first | rfl | simp) (fun y hy => ptr_one y) (by unfold maxLen; simp only [List.length_singleton]; omega) (by simp only [List.length_singleton]; omega) ?_ _ (by rfl)
 intro g5 c5 u5 ro5 _ kp5 at5 lt5
 generalize hU : World.alloc (World.alloc w3 _) _ = U at *
 have kU : Kept (fun k => vb.ownBlock = some k) w2 u5 := ((Kept.of_below hb3.out).trans (Kept.of_below (S := fun _ => False) hbu.out) (fun i h => h.elim)).trans kp5 (fun i h => .inl h)
 have hb5 : u5.heap[Wb]? = some (.cells #[.bool w0.lg, vb, w0.vd, vl] 98 (0, 0)) := by rw [kU.block Wb hWl2 hWb2]; exact I1.out.wblk
 have hc5 := fun o => cell_at hb5 o
 have hf5 := fun o => frozen_at hb5 o
 have hWl5 := block_lt hb5
 have g5W : g5 ≠ Wb := by
  rcases at5 with h | h
  ·intro e; subst e; exact hWb2 h
  ·have h1 := hus.out; have h2 := hb3.out.size; omega
 have one : ∀ g', (Value.slice (some ⟨g5, 0, none⟩) (hs.length + 1) c5).ownBlock = some g' → g' = g5 := fun g' h' => by simpa [Value.ownBlock] using h'.symm
 have far : ∀ k, w2.heap.size ≤ k → vb.ownBlock ≠ some k := fun k hk e => by have := hvb2 k e; omega
 have nW : ∀ k, w2.heap.size ≤ k → k ≠ Wb := fun k hk e => by omega
 have h23 := hb3.out.size
 have hsz := hus.out
 have keepB : ∀ (v : Value) k o, w2.heap.size ≤ k → U.heap[k]? = some o → (u5.setCell ⟨Wb, 1, none⟩ v).heap[k]? = some o := fun v k o hk ho => by
  rw [(Kept.of_setCell u5 ⟨Wb, 1, none⟩ v).block k (Nat.lt_of_lt_of_le (block_lt ho) kp5.size) (nW k hk), kp5.block k (block_lt ho) (far k hk)];exact ho
 have fin := I1.out.more (w' := u5.setCell ⟨Wb, 1, none⟩ (.slice (some ⟨g5, 0, none⟩) (hs.length + 1) c5)) ⟨w3.heap.size + 1, B, w3.heap.size, pn, [], [], [], .slice none 0 0, .slice none 0 0, .slice none 0 0, [], .slice none 0 0⟩ (.slice (some ⟨g5, 0, none⟩) (hs.length + 1) c5)
  ((kU.mono (fun i _ h => .inr h)).trans (Kept.of_setCell _ _ _) (fun i h => .inl (.inl h))) (heap_set_self hb5 1 _) (ro5.kept (Kept.of_setCell _ _ _) (fun g' h' => by rw [one g' h']; exact g5W))
  (fun g' h' => by
   rw [one g' h'];rcases at5 with h | h
   ·exact .inl h
   ·exact .inr (by omega))
  (by show w2.heap.size ≤ w3.heap.size + 1; omega) hB (by show w2.heap.size ≤ w3.heap.size; omega) (by show w3.heap.size + 1 ≠ B; omega) (by show w3.heap.size + 1 ≠ w3.heap.size; omega) (by show B ≠ w3.heap.size; omega)
  (by
   have hg : g5 < w2.heap.size ∨ w3.heap.size + 1 + 1 ≤ g5 := by
    rcases at5 with h | h
    ·exact .inl (hvb2 _ h)
    ·exact .inr (by omega)
   refine ⟨fun e => ?_, fun e => ?_, fun e => ?_⟩
   ·have : w3.heap.size + 1 = g5 := one _ e;omega
   ·have : B = g5 := one _ e;omega
   ·have : w3.heap.size = g5 := one _ e
    omega)
  (keepB _ (w3.heap.size + 1) _ (by omega) hu2.out) ⟨ty_of (keepB _ _ _ hB (by rw [hbu.out.block B hBl]; exact hXB.out.blk)), RowOf.nil _ _, RowOf.nil _ _⟩ ⟨keepB _ w3.heap.size _ (by omega) hu1.out, RowOf.nil _ _⟩ ⟨rfl, rfl, rfl, rfl, rfl, rfl, rfl, rfl⟩
 obtain ⟨own', I9⟩ := fin
 have fin2 : Hid (MadeSays w0 Wb hs ll true (.returned (.bool true)) (u5.setCell ⟨Wb, 1, none⟩ (.slice (some ⟨g5, 0, none⟩) (hs.length + 1) c5))) := hide ⟨rfl, own', _, _, vl, I9, fun h hh => by
  rcases List.mem_append.1 hh with hh | hh
  ·exact hok.out h hh
  ·rw [List.mem_singleton] at hh;subst hh
   exact ⟨Rel.zero, hno'.1, hno'.2, ⟨rfl, BHist.nil _⟩⟩, by simp⟩
 clear I9 keepB far nW one kU kp5 at5 lt5 ro5 hb5 I1 I3 hXB hb3 hbu hu1 hu2 hus hsz
 go_wp2_with fail
 refine (num_any _ _).mono ?_
 rintro e w9 ⟨rfl, rfl⟩
 go_wp2
 go_ret
 exact fin2.out
theorem bank_any (w0 : Base) (w : World) (Wb : Nat) (own : Nat → Nat) (hs : List House) (ll : List (Value × Nat)) (vb vl : Value) (I : MemInv w0 w Wb own hs ll vb vl) (hok : ∀ h, h ∈ hs → h.ok) (i : Nat) (hi : i < hs.length) (o : Opr) (ho : o.ok) (hk : 2 ≤ o.kind ∧ o.kind ≤ 6) (hlen : ll.length ≤ 3999999999000) :
  Calls Tryz.prog 51 #[.pointer (some ⟨Wb, 0, none⟩), .pointer (some ⟨hs[i].hb, 0, none⟩), o.v] w (BankSays w0 Wb hs ll vb i hs[i].hb) := by
 obtain ⟨hR, hn1, hn7, hlg⟩ := hok hs[i] (List.getElem_mem hi)
 have e : hs = hs.set i hs[i] := (List.set_getElem_self hi).symm
 rw [e] at I
 generalize hs[i] = h at *
 obtain ⟨hb, xb, rb, node, evs, ac, ls, va, vll, v, lgs, vg⟩ := h
 simp only at hR hn1 hn7 hlg
 have hoo := ho
 obtain ⟨kind, at_, n, s, ⟨k, f, t, mi, l, p, g, a, m⟩, pid, dead, memo, legs, llen, lcap, acc, amt⟩ := o
 obtain ⟨_, _, _, hs1, hm, hm1, hacc, hamt⟩ := ho
 simp only at hk hacc hamt
 have hk5 : kind = 2 ∨ kind = 3 ∨ kind = 4 ∨ kind = 5 ∨ kind = 6 := by omega
 rcases hk5 with rfl | rfl | rfl | rfl | rfl
 ·exact bank_open w0 w Wb own hs ll vb vl i hi hb xb rb node evs ac ls va vll v lgs vg I hok hR hn1 hn7 hlg at_ n s k f t mi l p g a m pid dead memo legs llen lcap acc amt hacc hamt
 ·cases hB : hasB acc ac with
  | true => exact bank_funds_there w0 w Wb own hs ll vb vl i hi hb xb rb node evs ac ls va vll v lgs vg I hok hR hn1 hn7 hlg at_ n s k f t mi l p g a m pid dead memo legs llen lcap acc amt hacc hB
  | false => exact bank_funds_none w0 w Wb own hs ll vb vl i hi hb xb rb node evs ac ls va vll v lgs vg I hok hR hn1 hn7 hlg at_ n s k f t mi l p g a m pid dead memo legs llen lcap acc amt hacc hB
 ·have hmi : mi < 4294967296 := hm.2.2.2.1;have hml : l < 256 := hm.2.2.2.2.1;by_cases hj : findB mi l ls < ls.length
  ·have hT := hR.at mi l hj;exact bank_leg w0 w Wb own hs ll vb vl i hi hb xb rb node evs ac ls va vll v lgs vg I hok hR hn1 hn7 hlg at_ n s k f t mi l p g a m pid dead memo legs llen lcap acc amt hmi hml 0 (ls[findB mi l ls]).st (.inr ⟨ls[findB mi l ls], by simp [hj], rfl, rfl⟩) hT.1 (.inr ⟨hT.2.1, hT.2.2.1, rfl⟩)
  ·have hj' : ls.length ≤ findB mi l ls := by omega
   have hT := hR.no mi l hj';exact bank_leg w0 w Wb own hs ll vb vl i hi hb xb rb node evs ac ls va vll v lgs vg I hok hR hn1 hn7 hlg at_ n s k f t mi l p g a m pid dead memo legs llen lcap acc amt hmi hml 13 0 (.inl ⟨by simp [hj'], rfl, rfl⟩) (by rw [hT]) (.inl ⟨rfl, rfl⟩)
 ·exact bank_handle w0 w Wb own hs ll vb vl i hi hb xb rb node evs ac ls va vll v lgs vg I hok hR hn1 hn7 hlg at_ n s k f t mi l p g a m pid dead memo legs llen lcap acc amt hoo hlen
 ·exact bank_tick w0 w Wb own hs ll vb vl i hi hb xb rb node evs ac ls va vll v lgs vg I hok hR hn1 hn7 hlg at_ n s k f t mi l p g a m pid dead memo legs llen lcap acc amt hlen
theorem MemInv.below0 {w0 : Base} {w w' : World} {Wb : Nat} {own : Nat → Nat} {hs : List House} {ll : List (Value × Nat)} {vb vl : Value} (I : MemInv w0 w Wb own hs ll vb vl) (hb : Below w.heap.size w w') : MemInv w0 w' Wb (fun k => if k < w.heap.size then own k else 0) hs ll vb vl :=
 have hA : ∀ k, k < w.heap.size → (fun k => if k < w.heap.size then own k else 0) k = own k := fun k hk => by simp [hk]
 I.rest (S := fun _ => False) (Kept.of_below hb) (fun _ h => h.elim) hA I.far (I.brow.below hb) (fun i hi => (I.house i hi).kept (S := fun _ => False) (Kept.of_below hb) (fun _ _ h => h.elim) hA)
def baseUp (w0 : Base) (w : World) (b : Nat) (hs : w0.w.heap.size ≤ w.heap.size) (hb : b < w.heap.size) : Base := ⟨w, fun k => w0.F k ∨ k = b, fun k hk => by
 rcases hk with hk | rfl
 ·exact Nat.lt_of_lt_of_le (w0.lt k hk) hs
 ·exact hb, w0.lg, w0.vd, w0.Q, w0.loc⟩
theorem MemInv.up {w0 : Base} {w : World} {Wb : Nat} {own : Nat → Nat} {hs : List House} {ll : List (Value × Nat)} {vb vl : Value} (I : MemInv w0 w Wb own hs ll vb vl) (b : Nat) (hb : b < w.heap.size) (h0 : own b = 0) : MemInv (baseUp w0 w b I.bel.size hb) w Wb own hs ll vb vl :=
 ⟨⟨rfl, rfl, rfl, Nat.le_refl _, fun _ _ => rfl⟩, fun k hk hF => by
  rcases hF with hF | rfl
  ·exact I.old k hk hF
  ·exact hk h0, I.wblk, I.wown, I.brow, I.bown, I.lrow, I.lown, I.full, I.fown, I.four, I.house, I.oth⟩
theorem MemInv.down {w0 : Base} {w w' : World} {Wb : Nat} {own : Nat → Nat} {hs : List House} {ll : List (Value × Nat)} {vb vl : Value} {b : Nat} {h1 : w0.w.heap.size ≤ w.heap.size} {h2 : b < w.heap.size} (hB : BelF w0 w) (I : MemInv (baseUp w0 w b h1 h2) w' Wb own hs ll vb vl) : MemInv w0 w' Wb own hs ll vb vl :=
 ⟨⟨I.bel.os.trans hB.os, I.bel.tape.trans hB.tape, I.bel.output.trans hB.output, Nat.le_trans hB.size I.bel.size, fun k hF => (I.bel.block k (.inl hF)).trans (hB.block k hF)⟩, fun k hk hF => I.old k hk (.inl hF), I.wblk, I.wown, I.brow, I.bown, I.lrow, I.lown, I.full, I.fown, I.four, I.house, I.oth⟩
def Goes1 (w0 : Base) (w' : World) (Wb : Nat) (hs : List House) (ll : List (Value × Nat)) : Prop :=
 ∃ own' hs' ll' vb' vl', MemInv w0 w' Wb own' hs' ll' vb' vl' ∧ (∀ h, h ∈ hs' → h.ok) ∧ hs'.length ≤ hs.length + 1 ∧ hs.length ≤ hs'.length ∧ ll'.length ≤ ll.length + 4
structure Behind (w0 : Base) (u w' : World) (Wb b : Nat) (hs : List House) (ll : List (Value × Nat)) (vb : Value) : Prop where
 goes : Goes1 w0 w' Wb hs ll
 box : w'.heap[b]? = u.heap[b]?
 bank : w'.cell? ⟨Wb, 1, none⟩ = some vb
 row : ∀ j (hj : j < hs.length) g, vb.ownBlock = some g → w'.cell? ⟨g, j, none⟩ = some (.pointer (some ⟨hs[j].hb, 0, none⟩))
theorem bank_behind (w0 : Base) (w : World) (Wb : Nat) (own : Nat → Nat) (hs : List House) (ll : List (Value × Nat)) (vb vl : Value) (I : MemInv w0 w Wb own hs ll vb vl) (i : Nat) (hi : i < hs.length) (o : Opr)
  (hB : ∀ (w1 : Base) (u : World) (own1 : Nat → Nat), MemInv w1 u Wb own1 hs ll vb vl → Calls Tryz.prog 51 #[.pointer (some ⟨Wb, 0, none⟩), .pointer (some ⟨hs[i].hb, 0, none⟩), o.v] u (BankSays w1 Wb hs ll vb i hs[i].hb))
  (u : World) (hu : Below w.heap.size w u) (hlt : w.heap.size < u.heap.size) :
  Calls Tryz.prog 51 #[.pointer (some ⟨Wb, 0, none⟩), .pointer (some ⟨hs[i].hb, 0, none⟩), o.v] u fun e w' => e = .returned (.bool true) ∧ Behind w0 u w' Wb w.heap.size hs ll vb := by
 have I0 := I.below0 hu
 have I1 := I0.up w.heap.size hlt (by simp)
 refine (hB _ u _ I1).mono ?_
 rintro e w' ⟨rfl, own', hs', ll', vl', J, hok', hhb, hll⟩
 have hhb' : hs'.map House.hb = hs.map House.hb := by
  rw [hhb, show hs[i].hb = (hs.map House.hb)[i]'(by simpa using hi) by simp];exact List.set_getElem_self _
 have hl' : hs'.length = hs.length := by have := congrArg List.length hhb'; simpa using this
 refine ⟨rfl, ⟨own', hs', ll', vb, vl', MemInv.down I0.bel J, hok', by omega, by omega, hll⟩, J.bel.block _ (.inr rfl), cell_at J.wblk 1, ?_⟩
 intro j hj g hg
 obtain ⟨ad, cap, hv, hev⟩ := J.brow.form ptrCell_length
 obtain ⟨g', rfl, hcell, _⟩ := hev j (by omega)
 have c0 := hcell 0 (by decide)
 obtain rfl : g' = g := by rw [hv] at hg; simpa [Value.ownBlock] using hg
 simp only [ptrCell, List.getElem?_cons_zero, Nat.add_zero, Nat.mul_one] at c0
 rw [c0]
 have : (hs'.map House.hb)[j]'(by simp; omega) = (hs.map House.hb)[j]'(by simpa using hj) := by simp only [hhb']
 simp only [List.getElem_map] at this
 rw [this]
theorem range_of {u u' : World} {b : Nat} {cs : List Value} (h : u.rangeAt b 0 cs) (hb : u'.heap[b]? = u.heap[b]?) : u'.rangeAt b 0 cs := fun j v hj => (World.cell?_of_block (w := u) (a := ⟨b, 0 + j, none⟩) hb).trans (h j v hj)
theorem step_bank_gen (w0 : Base) (w : World) (Wb : Nat) (own : Nat → Nat) (hs : List House) (ll : List (Value × Nat)) (vb vl : Value) (I : MemInv w0 w Wb own hs ll vb vl) (hl1 : 0 < hs.length) (hl2 : hs.length ≤ 1000000000000)
  (kind at_ n : Int) (s : List UInt8) (k f t mi l p g a : Nat) (m : List UInt8) (pid dead : Int) (memo : List UInt8) (legs : Option Addr) (llen lcap acc amt : Nat) (ho : (⟨kind, at_, n, s, ⟨k, f, t, mi, l, p, g, a, m⟩, pid, dead, memo, legs, llen, lcap, acc, amt⟩ : Opr).ok) (hk : 2 ≤ kind ∧ kind ≤ 7)
  (hB : ∀ (i : Nat) (hi : i < hs.length) (w1 : Base) (u : World) (own1 : Nat → Nat), MemInv w1 u Wb own1 hs ll vb vl → Calls Tryz.prog 51 #[.pointer (some ⟨Wb, 0, none⟩), .pointer (some ⟨hs[i].hb, 0, none⟩), (⟨kind, at_, n, s, ⟨k, f, t, mi, l, p, g, a, m⟩, pid, dead, memo, legs, llen, lcap, acc, amt⟩ : Opr).v] u (BankSays w1 Wb hs ll vb i hs[i].hb)) :
  Calls Tryz.prog 34 #[.pointer (some ⟨Wb, 0, none⟩), (⟨kind, at_, n, s, ⟨k, f, t, mi, l, p, g, a, m⟩, pid, dead, memo, legs, llen, lcap, acc, amt⟩ : Opr).v] w fun e w' => e = .returned (.bool true) ∧ Goes1 w0 w' Wb hs ll := by
 have hP := hide (fun u => pick_any at_ ho.2.1 hs.length hl1 (by omega) u)
 have hpl : pickN at_ hs.length < hs.length := Nat.mod_lt _ hl1
 obtain ⟨W1, hW1⟩ : ∃ W1, W1 = (w.alloc (.cells (⟨kind, at_, n, s, ⟨k, f, t, mi, l, p, g, a, m⟩, pid, dead, memo, legs, llen, lcap, acc, amt⟩ : Opr).cells 104)).drew := ⟨_, rfl⟩
 have hbW : Below w.heap.size w W1 := by rw [hW1]; exact ((Below.refl w.heap.size w).alloc (Nat.le_refl _) _).drew
 have hlW : w.heap.size < W1.heap.size := by rw [hW1]; simp
 have hrg : W1.rangeAt w.heap.size 0 (⟨kind, at_, n, s, ⟨k, f, t, mi, l, p, g, a, m⟩, pid, dead, memo, legs, llen, lcap, acc, amt⟩ : Opr).cells.toList := by rw [hW1]; exact op_range (⟨kind, at_, n, s, ⟨k, f, t, mi, l, p, g, a, m⟩, pid, dead, memo, legs, llen, lcap, acc, amt⟩ : Opr) w
 have hBk := bank_behind w0 w Wb own hs ll vb vl I (pickN at_ hs.length) hpl (⟨kind, at_, n, s, ⟨k, f, t, mi, l, p, g, a, m⟩, pid, dead, memo, legs, llen, lcap, acc, amt⟩ : Opr) (hB _ hpl) W1 hbW hlW
 clear hB
 obtain ⟨bad, bcap, hv, hev⟩ := I.brow.form ptrCell_length
 obtain ⟨bg, hbg, hcell, _⟩ := hev _ hpl
 subst hbg
 have cg := hcell 0 (by decide)
 simp only [ptrCell, List.getElem?_cons_zero, Nat.add_zero, Nat.mul_one] at cg
 have hbgl : bg < w.heap.size := I.brow.lt (by rw [hv]; rfl)
 have hrw := hide (fun (w' : World) (h : Behind w0 W1 w' Wb w.heap.size hs ll vb) => h.row _ hpl bg (by rw [hv]; rfl))
 generalize hs[pickN at_ hs.length].hb = hb at *
 generalize pickN at_ hs.length = pn at *
 subst hv
 have hc : ∀ o, w.cell? ⟨Wb, o, none⟩ = (#[.bool w0.lg, .slice (some ⟨bg, 0, none⟩) hs.length bcap, w0.vd, vl] : Array Value)[o]? := fun o => cell_at I.wblk o
 have hWl : Wb < w.heap.size := block_lt I.wblk
 have e0 : W1.cell? ⟨Wb, 1, none⟩ = some (.slice (some ⟨bg, 0, none⟩) hs.length bcap) := (hbW.cell (p := ⟨Wb, 1, none⟩) hWl).trans (hc 1)
 have e1 : W1.cell? ⟨w.heap.size, 1, none⟩ = some (.int .i64 at_) := by rw [hW1]; simp [Opr.cells]
 have e2 : W1.cell? ⟨bg, pn, none⟩ = some (.pointer (some ⟨hb, 0, none⟩)) := (hbW.cell (p := ⟨bg, pn, none⟩) hbgl).trans cg
 have d15 : (kind == 15) = false := by simp; omega
 have d1 : (kind == 1) = false := by simp; omega
 have d8 : (kind == 8) = false := by simp; omega
 have d2 : decide (kind ≥ 2) = true := by simp; omega
 have d2' : decide (2 ≤ kind) = true := by simp; omega
 have d7 : decide (kind ≤ 7) = true := by simp; omega
 have dl : decide ((0 : Int) < (hs.length : Int)) = true := by simp; omega
 have hpn : (pn : Int) < (hs.length : Int) := by omega
 have hsz : (Tryz.prog.info? 104).map (·.size) = some (List.length ([.int .i64 kind, .int .i64 at_, .int .i64 n, .string (bs s), .int .u8 (k : Int), .int .u8 (f : Int), .int .u8 (t : Int), .int .u32 (mi : Int), .int .u8 (l : Int), .int .u16 (p : Int), .int .u16 (g : Int), .int .u32 (a : Int), .string (bs m), .int .u32 pid, .int .u64 dead, .string (bs memo), .slice legs llen lcap, .int .u16 (acc : Int), .int .u32 (amt : Int)] : List Value)) := opSize
 have hun := Tryz.underlying104
 clear I hev hcell
 simp only [Opr.v, Opr.cells] at *
 have hS0 : Hid (W1.cell? ⟨Wb, 1, none⟩ = some (.slice (some ⟨bg, 0, none⟩) hs.length bcap) ∧ W1.cell? ⟨w.heap.size, 1, none⟩ = some (.int .i64 at_) ∧ W1.cell? ⟨bg, pn, none⟩ = some (.pointer (some ⟨hb, 0, none⟩)) ∧ W1.rangeAt w.heap.size 0 [.int .i64 kind, .int .i64 at_, .int .i64 n, .string (bs s), .int .u8 (k : Int), .int .u8 (f : Int), .int .u8 (t : Int), .int .u32 (mi : Int), .int .u8 (l : Int), .int .u16 (p : Int), .int .u16 (g : Int), .int .u32 (a : Int), .string (bs m), .int .u32 pid, .int .u64 dead, .string (bs memo), .slice legs llen lcap, .int .u16 (acc : Int), .int .u32 (amt : Int)]) := hide ⟨e0, e1, e2, hrg⟩
 replace hsz := hide hsz
 replace hun := hide hun
 replace hrg := hide hrg
 replace hBk := hide hBk
 replace hW1 := hide hW1
 go_enter Tryz.func34, Tryz.ntmps34
 go_wp2_with fail
 refine wp_region_held_drew (S := (fun u => u.cell? ⟨Wb, 1, none⟩ = some (.slice (some ⟨bg, 0, none⟩) hs.length bcap) ∧ u.cell? ⟨w.heap.size, 1, none⟩ = some (.int .i64 at_) ∧ u.cell? ⟨bg, pn, none⟩ = some (.pointer (some ⟨hb, 0, none⟩)) ∧ u.rangeAt w.heap.size 0 [.int .i64 kind, .int .i64 at_, .int .i64 n, .string (bs s), .int .u8 (k : Int), .int .u8 (f : Int), .int .u8 (t : Int), .int .u32 (mi : Int), .int .u8 (l : Int), .int .u16 (p : Int), .int .u16 (g : Int), .int .u32 (a : Int), .string (bs m), .int .u32 pid, .int .u64 dead, .string (bs memo), .slice legs llen lcap, .int .u16 (acc : Int), .int .u32 (amt : Int)])) (by kernel_rfl) ?_ (fun _ => ?_)
 ·rw [← hW1.out];exact hS0.out
 rw [← hW1.out]
 refine wpAnyH_take (i := 15) (oi := _) (v := .agg (List.toArray [.int .i64 kind, .int .i64 at_, .int .i64 n, .string (bs s), .int .u8 (k : Int), .int .u8 (f : Int), .int .u8 (t : Int), .int .u32 (mi : Int), .int .u8 (l : Int), .int .u16 (p : Int), .int .u16 (g : Int), .int .u32 (a : Int), .string (bs m), .int .u32 pid, .int .u64 dead, .string (bs memo), .slice legs llen lcap, .int .u16 (acc : Int), .int .u32 (amt : Int)])) rfl (by kernel_rfl) (by kernel_rfl) (by kernel_rfl) (fun _ _ _ h => h) (yieldsIf_load_mid (by rfl) 104 (.tmp 3) rfl w.heap.size 0 rfl [.int .i64 kind, .int .i64 at_, .int .i64 n, .string (bs s), .int .u8 (k : Int), .int .u8 (f : Int), .int .u8 (t : Int), .int .u32 (mi : Int), .int .u8 (l : Int), .int .u16 (p : Int), .int .u16 (g : Int), .int .u32 (a : Int), .string (bs m), .int .u32 pid, .int .u64 dead, .string (bs memo), .slice legs llen lcap, .int .u16 (acc : Int), .int .u32 (amt : Int)] _ (fun u hu => hu.2.2.2) hun.out rfl hsz.out) hS0.out ?_
 simp only [Act.put, List.setIfInBounds_toArray, List.set_cons_zero, List.set_cons_succ]
 refine wpAnyH_take (i := 0) (oi := _) (v := .pointer (some ⟨Wb, 0, none⟩)) rfl (by kernel_rfl) (by kernel_rfl) (by kernel_rfl) (fun _ _ _ h => h) (Or.inl ⟨by rfl, ?_⟩) hS0.out ?_
 ·intro u hu;obtain ⟨h1, h2, h3, h4⟩ := hu;clear h4
  go_simp
 simp only [Act.put, List.setIfInBounds_toArray, List.set_cons_zero, List.set_cons_succ]
 refine wpAnyH_take (i := 1) (oi := _) (v := .pointer (some ⟨Wb, 0, none⟩)) rfl (by kernel_rfl) (by kernel_rfl) (by kernel_rfl) (fun _ _ _ h => h) (Or.inl ⟨by rfl, ?_⟩) hS0.out ?_
 ·intro u hu;obtain ⟨h1, h2, h3, h4⟩ := hu;clear h4
  go_simp
 simp only [Act.put, List.setIfInBounds_toArray, List.set_cons_zero, List.set_cons_succ]
 refine wpAnyH_take (i := 2) (oi := _) (v := .pointer (some ⟨Wb, 0, none⟩)) rfl (by kernel_rfl) (by kernel_rfl) (by kernel_rfl) (fun _ _ _ h => h) (Or.inl ⟨by rfl, ?_⟩) hS0.out ?_
 ·intro u hu;obtain ⟨h1, h2, h3, h4⟩ := hu;clear h4
  go_simp
 simp only [Act.put, List.setIfInBounds_toArray, List.set_cons_zero, List.set_cons_succ]
 refine wpAnyH_take (i := 3) (oi := _) (v := .pointer (some ⟨Wb, 1, none⟩)) rfl (by kernel_rfl) (by kernel_rfl) (by kernel_rfl) (fun _ _ _ h => h) (Or.inl ⟨by rfl, ?_⟩) hS0.out ?_
 ·intro u hu;obtain ⟨h1, h2, h3, h4⟩ := hu;clear h4
  go_simp
 simp only [Act.put, List.setIfInBounds_toArray, List.set_cons_zero, List.set_cons_succ]
 refine wpAnyH_take (i := 4) (oi := _) (v := .slice (some ⟨bg, 0, none⟩) hs.length bcap) rfl (by kernel_rfl) (by kernel_rfl) (by kernel_rfl) (fun _ _ _ h => h) (Or.inl ⟨by rfl, ?_⟩) hS0.out ?_
 ·intro u hu;obtain ⟨h1, h2, h3, h4⟩ := hu;clear h4
  go_simp
 simp only [Act.put, List.setIfInBounds_toArray, List.set_cons_zero, List.set_cons_succ]
 refine wpAnyH_take (i := 5) (oi := _) (v := .pointer (some ⟨w.heap.size, 1, none⟩)) rfl (by kernel_rfl) (by kernel_rfl) (by kernel_rfl) (fun _ _ _ h => h) (Or.inl ⟨by rfl, ?_⟩) hS0.out ?_
 ·intro u hu;obtain ⟨h1, h2, h3, h4⟩ := hu;clear h4
  go_simp
 simp only [Act.put, List.setIfInBounds_toArray, List.set_cons_zero, List.set_cons_succ]
 refine wpAnyH_take (i := 6) (oi := _) (v := .int .i64 at_) rfl (by kernel_rfl) (by kernel_rfl) (by kernel_rfl) (fun _ _ _ h => h) (Or.inl ⟨by rfl, ?_⟩) hS0.out ?_
 ·intro u hu;obtain ⟨h1, h2, h3, h4⟩ := hu;clear h4
  go_simp
 simp only [Act.put, List.setIfInBounds_toArray, List.set_cons_zero, List.set_cons_succ]
 refine wpAnyH_take (i := 7) (oi := _) (v := .pointer (some ⟨Wb, 0, none⟩)) rfl (by kernel_rfl) (by kernel_rfl) (by kernel_rfl) (fun _ _ _ h => h) (Or.inl ⟨by rfl, ?_⟩) hS0.out ?_
 ·intro u hu;obtain ⟨h1, h2, h3, h4⟩ := hu;clear h4
  go_simp
 simp only [Act.put, List.setIfInBounds_toArray, List.set_cons_zero, List.set_cons_succ]
 refine wpAnyH_take (i := 8) (oi := _) (v := .pointer (some ⟨Wb, 0, none⟩)) rfl (by kernel_rfl) (by kernel_rfl) (by kernel_rfl) (fun _ _ _ h => h) (Or.inl ⟨by rfl, ?_⟩) hS0.out ?_
 ·intro u hu;obtain ⟨h1, h2, h3, h4⟩ := hu;clear h4
  go_simp
 simp only [Act.put, List.setIfInBounds_toArray, List.set_cons_zero, List.set_cons_succ]
 refine wpAnyH_take (i := 9) (oi := _) (v := .pointer (some ⟨Wb, 1, none⟩)) rfl (by kernel_rfl) (by kernel_rfl) (by kernel_rfl) (fun _ _ _ h => h) (Or.inl ⟨by rfl, ?_⟩) hS0.out ?_
 ·intro u hu;obtain ⟨h1, h2, h3, h4⟩ := hu;clear h4
  go_simp
 simp only [Act.put, List.setIfInBounds_toArray, List.set_cons_zero, List.set_cons_succ]
 refine wpAnyH_take (i := 10) (oi := _) (v := .slice (some ⟨bg, 0, none⟩) hs.length bcap) rfl (by kernel_rfl) (by kernel_rfl) (by kernel_rfl) (fun _ _ _ h => h) (Or.inl ⟨by rfl, ?_⟩) hS0.out ?_
 ·intro u hu;obtain ⟨h1, h2, h3, h4⟩ := hu;clear h4
  go_simp
 simp only [Act.put, List.setIfInBounds_toArray, List.set_cons_zero, List.set_cons_succ]
 refine wpAnyH_take (i := 11) (oi := _) (v := .int .i64 (hs.length : Int)) rfl (by kernel_rfl) (by kernel_rfl) (by kernel_rfl) (fun _ _ _ h => h) (Or.inl ⟨by rfl, ?_⟩) hS0.out ?_
 ·intro u hu;obtain ⟨h1, h2, h3, h4⟩ := hu;clear h4
  go_simp
 simp only [Act.put, List.setIfInBounds_toArray, List.set_cons_zero, List.set_cons_succ]
 refine wpAnyH_ready (rs := [12]) (by kernel_rfl) (by simp) ?_
 refine AllReadyH.cons (o := { dst := some 60, op := Op.call { callee := Callee.value (Operand.func 55), args := #[Operand.tmp 54, Operand.tmp 59], argTypes := #[3, 3] }, type := 3, pos := "law.go:344", after := #[{ on := 6, ground := Ground.data }, { on := 11, ground := Ground.data }], guard := none }) rfl (fun K hK => ?_) AllReadyH.nil
 go_simp
 refine (hP.out _).mono ?_
 rintro e u2 ⟨rfl, rfl⟩
 go_wp2_with fail
 refine hK.out _ _ hS0.out (fun _ => ?_)
 clear hK K
 try simp only [Act.put, List.setIfInBounds_toArray, List.set_cons_zero, List.set_cons_succ]
 refine wpAnyH_take (i := 13) (oi := _) (v := .pointer (some ⟨bg, pn, none⟩)) rfl (by kernel_rfl) (by kernel_rfl) (by kernel_rfl) (fun _ _ _ h => h) (Or.inl ⟨by rfl, ?_⟩) hS0.out ?_
 ·intro u hu;obtain ⟨h1, h2, h3, h4⟩ := hu;clear h4
  go_simp
 simp only [Act.put, List.setIfInBounds_toArray, List.set_cons_zero, List.set_cons_succ]
 refine wpAnyH_take (i := 14) (oi := _) (v := .pointer (some ⟨hb, 0, none⟩)) rfl (by kernel_rfl) (by kernel_rfl) (by kernel_rfl) (fun _ _ _ h => h) (Or.inl ⟨by rfl, ?_⟩) hS0.out ?_
 ·intro u hu;obtain ⟨h1, h2, h3, h4⟩ := hu;clear h4
  go_simp
 simp only [Act.put, List.setIfInBounds_toArray, List.set_cons_zero, List.set_cons_succ]
 refine wpAnyH_ready (rs := [16]) (by kernel_rfl) (by simp) ?_
 refine AllReadyH.cons (o := { dst := some 64, op := Op.call { callee := Callee.value (Operand.func 51), args := #[Operand.tmp 48, Operand.tmp 62, Operand.tmp 63], argTypes := #[93, 124, 104] }, type := 4, pos := "law.go:344", after := #[{ on := 0, ground := Ground.data }, { on := 14, ground := Ground.data }, { on := 15, ground := Ground.data }, { on := 12, ground := Ground.chain }], guard := none }) rfl (fun K hK => ?_) AllReadyH.nil
 go_simp
 refine (hBk.out).mono ?_
 rintro e w2 ⟨rfl, hBe⟩
 have hS2 : Hid (w2.cell? ⟨Wb, 1, none⟩ = some (.slice (some ⟨bg, 0, none⟩) hs.length bcap) ∧ w2.cell? ⟨w.heap.size, 1, none⟩ = some (.int .i64 at_) ∧ w2.cell? ⟨bg, pn, none⟩ = some (.pointer (some ⟨hb, 0, none⟩)) ∧ w2.rangeAt w.heap.size 0 [.int .i64 kind, .int .i64 at_, .int .i64 n, .string (bs s), .int .u8 (k : Int), .int .u8 (f : Int), .int .u8 (t : Int), .int .u32 (mi : Int), .int .u8 (l : Int), .int .u16 (p : Int), .int .u16 (g : Int), .int .u32 (a : Int), .string (bs m), .int .u32 pid, .int .u64 dead, .string (bs memo), .slice legs llen lcap, .int .u16 (acc : Int), .int .u32 (amt : Int)]) := hide ⟨hBe.bank, (World.cell?_of_block (a := ⟨w.heap.size, 1, none⟩) hBe.box).trans hS0.out.2.1, hrw.out _ hBe, range_of hS0.out.2.2.2 hBe.box⟩
 replace hBe := hide hBe
 go_wp2_with fail
 refine hK.out _ _ hS2.out (fun _ => ?_)
 clear hK K
 try simp only [Act.put, List.setIfInBounds_toArray, List.set_cons_zero, List.set_cons_succ]
 refine wpAnyH_take (i := 17) (oi := { dst := some 4, op := Op.assign (Operand.tmp 64), type := 4, pos := "law.go:344", after := #[{ on := 16, ground := Ground.data }, { on := 16, ground := Ground.chain }, { on := 0, ground := Ground.phase }, { on := 1, ground := Ground.phase }, { on := 2, ground := Ground.phase }, { on := 3, ground := Ground.phase }, { on := 4, ground := Ground.phase }, { on := 5, ground := Ground.phase }, { on := 6, ground := Ground.phase }, { on := 7, ground := Ground.phase }, { on := 8, ground := Ground.phase }, { on := 9, ground := Ground.phase }, { on := 10, ground := Ground.phase }, { on := 11, ground := Ground.phase }, { on := 12, ground := Ground.phase }, { on := 13, ground := Ground.phase }, { on := 14, ground := Ground.phase }, { on := 15, ground := Ground.phase }, { on := 16, ground := Ground.phase }], guard := none }) (v := .bool true) rfl (by kernel_rfl) (by kernel_rfl) (by kernel_rfl) (fun _ _ _ h => h) (Or.inl ⟨by rfl, ?_⟩) hS2.out ?_
 ·intro u hu;clear hu
  go_simp
 try simp only [Act.put, List.setIfInBounds_toArray, List.set_cons_zero, List.set_cons_succ]
 refine wpAnyH_done (by kernel_rfl) ?_ _
 go_wp2
 go_ret
 exact ⟨rfl, hBe.out.goes⟩
end Go.Proofs.YtjkhbjgfoopomabGreat
