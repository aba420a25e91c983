import Derived.Test.YtjkhbjgfoopomabGreatA47
import Derived.Test.YtjkhbjgfoopomabGreatA48
import Derived.Test.YtjkhbjgfoopomabGreatA46
namespace Go.Proofs.YtjkhbjgfoopomabGreat
open Go.RowKit
set_option maxRecDepth 100000
set_option maxHeartbeats 2000000
set_option linter.unusedVariables false
set_option linter.unusedSimpArgs false
theorem deed_submit (w0 : DBase) (N : Nat) (hN : N ≤ 999999999999) (w : World) (Wb : Nat) (own : Nat → Nat) (hs : List Office) (ll : List (Value × Nat)) (vd vl : Value) (i : Nat) (hi : i < hs.length) (hb xb rb ck : Nat) (acts : List Dt) (ps : List Xp) (xv v : Value) (lgs : List (List UInt8 × Nat)) (vg : Value)
  (I : DInv w0 w Wb own (hs.set i ⟨hb, xb, rb, ck, acts, ps, xv, v, lgs, vg⟩) ll vd vl) (hok : ∀ h, h ∈ hs → h.ok N) (hR : DRel acts ck ps) (hlg : LgD acts lgs) (hlen : acts.length ≤ N)
  (at_ n : Int) (s : List UInt8) (k f t mi l p g a : Nat) (m : List UInt8) (pi pd : Nat) (memo : List UInt8) (la : Option Addr) (legs : List Pl) (lcap acc amt : Nat) (hll : ll.length ≤ 3999999999000)
  (hpok : (⟨pi, pd, memo, legs, la, lcap⟩ : Pm).ok) (hmm : memo.length ≤ 140737488351232) (hlgs : legs.length ≤ 11728124029269) (hSt : Stays w0 la legs) :
  Calls Tryz.prog 52 #[.pointer (some ⟨Wb, 0, none⟩), .pointer (some ⟨hb, 0, none⟩), (⟨9, at_, n, s, ⟨k, f, t, mi, l, p, g, a, m⟩, (pi : Int), (pd : Int), memo, la, legs.length, lcap, acc, amt⟩ : Opr).v] w (DeedSays w0 N Wb hs ll vd i hb) := by
 have H := DInv.at hi I
 have hc : ∀ o, w.cell? ⟨hb, o, none⟩ = (#[.pointer (some ⟨xb, 0, none⟩), .pointer (some ⟨rb, 0, none⟩), vg] : Array Value)[o]? := fun o => cell_at H.blk o
 have hl1 : hb < w.heap.size := block_lt H.blk
 have hl2 : rb < w.heap.size := H.r.lt
 obtain ⟨rad, rcap, hv, _⟩ := H.r.row.form Dt.cells_length
 have hcr : ∀ o, w.cell? ⟨rb, o, none⟩ = (#[.slice rad acts.length rcap] : Array Value)[o]? := fun o => by rw [← (show v = _ from hv)]; exact cell_at H.r.blk o
 obtain ⟨W1, hW1⟩ : ∃ W1, W1 = (w.alloc (.cells (⟨9, at_, n, s, ⟨k, f, t, mi, l, p, g, a, m⟩, (pi : Int), (pd : Int), memo, la, legs.length, lcap, acc, amt⟩ : Opr).cells 104)) := ⟨_, rfl⟩
 have hbW : Below w.heap.size w W1 := by rw [hW1]; exact (Below.refl w.heap.size w).alloc (Nat.le_refl _) _
 have hS := hide (submit_any w0 N hN W1 Wb own hs ll vd vl i hi hb xb rb ck acts ps xv v lgs vg (I.below hbW) hok hR hlg hlen 9 at_ n s k f t mi l p g a m pi pd memo la legs lcap acc amt hll hpok hmm hlgs hSt)
 have hrg := hide (op_range (⟨9, at_, n, s, ⟨k, f, t, mi, l, p, g, a, m⟩, (pi : Int), (pd : Int), memo, la, legs.length, lcap, acc, amt⟩ : Opr) w)
 clear H I hv hok hR hlg hSt hpok
 simp only [Opr.v, Opr.cells] at *
 replace hW1 := hide hW1
 go_enter Tryz.func52, Tryz.ntmps52
 go_wp2_with (first
  | (refine wpList_load_mid (by rfl) 104 _ (by rfl) w.heap.size 0 (by rfl) [.int .i64 9, .int .i64 at_, .int .i64 n, .string (bs s), .int .u8 (k : Int), .int .u8 (f : Int), .int .u8 (t : Int), .int .u32 (mi : Int), .int .u8 (l : Int), .int .u16 (p : Int), .int .u16 (g : Int), .int .u32 (a : Int), .string (bs m), .int .u32 (pi : Int), .int .u64 (pd : Int), .string (bs memo), .slice la legs.length lcap, .int .u16 (acc : Int), .int .u32 (amt : Int)] _ hrg.out Tryz.underlying104 rfl opSize ?_)
  | (go_at_call 90; refine stopAt ?_))
 refine hide ?_
 rw [← hW1.out]
 refine (hS.out).mono ?_
 rintro e w2 ⟨rfl, hG⟩
 replace hG := hide hG
 clear hS hrg hc hcr
 go_wp2
 go_ret
 exact ⟨rfl, hG.out⟩
def Opr.paid (w0 : DBase) (o : Opr) : Prop := ∃ (pi pd : Nat) (legs : List Pl), o.pid = (pi : Int) ∧ o.dead = (pd : Int) ∧ o.llen = legs.length ∧ (⟨pi, pd, o.memo, legs, o.legs, o.lcap⟩ : Pm).ok ∧ o.memo.length ≤ 140737488351232 ∧ legs.length ≤ 11728124029269 ∧ Stays w0 o.legs legs
theorem deed_any (w0 : DBase) (N : Nat) (hN : N ≤ 999999999999) (w : World) (Wb : Nat) (own : Nat → Nat) (hs : List Office) (ll : List (Value × Nat)) (vd vl : Value) (I : DInv w0 w Wb own hs ll vd vl) (hok : ∀ h, h ∈ hs → h.ok N) (i : Nat) (hi : i < hs.length) (o : Opr) (ho : o.ok) (hp : o.paid w0) (hk : 9 ≤ o.kind ∧ o.kind ≤ 13) (hll : ll.length ≤ 3999999999000) :
  Calls Tryz.prog 52 #[.pointer (some ⟨Wb, 0, none⟩), .pointer (some ⟨hs[i].hb, 0, none⟩), o.v] w (DeedSays w0 N Wb hs ll vd i hs[i].hb) := by
 obtain ⟨hR, hlg, hlen⟩ := hok hs[i] (List.getElem_mem hi)
 have e : hs = hs.set i hs[i] := (List.set_getElem_self hi).symm
 rw [e] at I
 generalize hs[i] = h at *
 obtain ⟨hb, xb, rb, ck, acts, ps, xv, v, lgs, vg⟩ := h
 simp only at hR hlg hlen
 have hoo := ho
 obtain ⟨kind, at_, n, s, ⟨k, f, t, mi, l, p, g, a, m⟩, pid, dead, memo, legs, llen, lcap, acc, amt⟩ := o
 obtain ⟨_, _, _, hs1, hm, hm1, hacc, hamt⟩ := ho
 simp only at hk hacc hamt
 have hk5 : kind = 9 ∨ kind = 10 ∨ kind = 11 ∨ kind = 12 ∨ kind = 13 := by omega
 rcases hk5 with rfl | rfl | rfl | rfl | rfl
 ·obtain ⟨pi, pd, lgl, e1, e2, e3, h1, h2, h3, h4⟩ := hp;simp only at e1 e2 e3 h1 h2 h3 h4;subst e1 e2 e3;exact deed_submit w0 N hN w Wb own hs ll vd vl i hi hb xb rb ck acts ps xv v lgs vg I hok hR hlg hlen at_ n s k f t mi l p g a m pi pd memo legs lgl lcap acc amt hll h1 h2 h3 h4
 ·exact deed_taken w0 N hN w Wb own hs ll vd vl i hi hb xb rb ck acts ps xv v lgs vg I hok hR hlg hlen at_ n s k f t mi l p g a m pid dead memo legs llen lcap acc amt hoo hll
 ·exact deed_tick w0 N hN w Wb own hs ll vd vl i hi hb xb rb ck acts ps xv v lgs vg I hok hR hlg hlen at_ n s k f t mi l p g a m pid dead memo legs llen lcap acc amt hll
 ·exact deed_status w0 N hN w Wb own hs ll vd vl i hi hb xb rb ck acts ps xv v lgs vg I hok hR hlg hlen at_ n s k f t mi l p g a m pid dead memo legs llen lcap acc amt hm.2.2.2.1
 ·exact deed_clock w0 N hN w Wb own hs ll vd vl i hi hb xb rb ck acts ps xv v lgs vg I hok hR hlg hlen at_ n s k f t mi l p g a m pid dead memo legs llen lcap acc amt
theorem offInfo : (Tryz.prog.info? 126).map (fun i => (i.zero, i.size, i.bytes)) = some (some (.pointer none), 1, 8) := by kernel_rfl
theorem off_one (h : Office) : ∀ u ∈ offCell h, u.oneCell' = true := by
 intro u hu
 simp only [offCell, List.mem_cons, List.not_mem_nil, or_false] at hu
 subst hu
 rfl
def DMadeSays (w0 : DBase) (N Wb : Nat) (hs : List Office) (ll : List (Value × Nat)) (e : Ending) (w' : World) : Prop :=
 e = .returned (.bool true) ∧ ∃ own' hs' vd' vl', DInv w0 w' Wb own' hs' ll vd' vl' ∧ (∀ h, h ∈ hs' → h.ok N) ∧ hs'.length = hs.length + 1
theorem made_deed (w0 : DBase) (N : Nat) (w : World) (Wb : Nat) (own : Nat → Nat) (hs : List Office) (ll : List (Value × Nat)) (vd vl : Value) (I : DInv w0 w Wb own hs ll vd vl) (hok : ∀ h, h ∈ hs → h.ok N) (hlen : hs.length ≤ 1000000000000)
  (at_ n : Int) (s : List UInt8) (k f t mi l p g a : Nat) (m : List UInt8) (pid dead : Int) (memo : List UInt8) (legs : Option Addr) (llen lcap acc amt : Nat) :
  Calls Tryz.prog 50 #[.pointer (some ⟨Wb, 0, none⟩), (⟨8, at_, n, s, ⟨k, f, t, mi, l, p, g, a, m⟩, pid, dead, memo, legs, llen, lcap, acc, amt⟩ : Opr).v] w (DMadeSays w0 N Wb hs ll) := by
 have hN := hide (fun u => newDeed_any u)
 obtain ⟨W1, hW1⟩ : ∃ W1, W1 = (w.alloc (.cells (⟨8, at_, n, s, ⟨k, f, t, mi, l, p, g, a, m⟩, pid, dead, memo, legs, llen, lcap, acc, amt⟩ : Opr).cells 104)) := ⟨_, rfl⟩
 have hbW : Below w.heap.size w W1 := by rw [hW1]; exact (Below.refl w.heap.size w).alloc (Nat.le_refl _) _
 have I1 := hide (I.below hbW)
 have hc : ∀ o, W1.cell? ⟨Wb, o, none⟩ = (#[.bool w0.lg, w0.vb, vd, vl] : Array Value)[o]? := fun o => cell_at I1.out.wblk o
 have hWl : Wb < W1.heap.size := block_lt I1.out.wblk
 replace hok := hide hok
 clear I
 simp only [Opr.v, Opr.cells] at *
 replace hW1 := hide hW1
 obtain ⟨i0, hi0, y0, y1, y2⟩ := info_parts offInfo
 go_enter Tryz.func50, Tryz.ntmps50
 go_wp2_with fail
 rw [← hW1.out]
 refine (hN.out _).mono ?_
 rintro e w3 ⟨⟨B, hB, rfl, hXB⟩, hb3⟩
 have I3 := hide (I1.out.below hb3)
 have hc3 : ∀ o, w3.cell? ⟨Wb, o, none⟩ = (#[.bool w0.lg, w0.vb, vd, vl] : Array Value)[o]? := fun o => cell_at I3.out.wblk o
 have hWl3 : Wb < w3.heap.size := block_lt I3.out.wblk
 have hBl : B < w3.heap.size := hXB.lt
 have hvb2 : ∀ g, vd.ownBlock = some g → g < W1.heap.size := fun g hg => I1.out.drow.lt hg
 have hWb2 : vd.ownBlock ≠ some Wb := fun e => by have h1 := I1.out.down _ e; rw [I1.out.wown] at h1; omega
 have hbu : Below w3.heap.size w3 ((w3.alloc (.cells #[.slice none 0 0] 155)).alloc (.cells #[.pointer (some ⟨B, 0, none⟩), .pointer (some ⟨w3.heap.size, 0, none⟩), .slice none 0 0] 158)) := ((Below.refl _ _).alloc (Nat.le_refl _) _).alloc (by simp) _
 have hu1 : ((w3.alloc (.cells #[.slice none 0 0] 155)).alloc (.cells #[.pointer (some ⟨B, 0, none⟩), .pointer (some ⟨w3.heap.size, 0, none⟩), .slice none 0 0] 158)).heap[w3.heap.size]? = some (.cells #[.slice none 0 0] 155 (0, 0)) := by
  rw [Below.heap_alloc _ _ _ (by simp)];exact heap_alloc_self _ _
 have hu2 : ((w3.alloc (.cells #[.slice none 0 0] 155)).alloc (.cells #[.pointer (some ⟨B, 0, none⟩), .pointer (some ⟨w3.heap.size, 0, none⟩), .slice none 0 0] 158)).heap[w3.heap.size + 1]? = some (.cells #[.pointer (some ⟨B, 0, none⟩), .pointer (some ⟨w3.heap.size, 0, none⟩), .slice none 0 0] 158 (0, 0)) := by
  have e : w3.heap.size + 1 = (w3.alloc (.cells #[.slice none 0 0] 155)).heap.size := by simp
  rw [e];exact heap_alloc_self _ _
 have hus : ((w3.alloc (.cells #[.slice none 0 0] 155)).alloc (.cells #[.pointer (some ⟨B, 0, none⟩), .pointer (some ⟨w3.heap.size, 0, none⟩), .slice none 0 0] 158)).heap.size = w3.heap.size + 1 + 1 := by simp
 replace hbu := hide hbu
 replace hu1 := hide hu1
 replace hu2 := hide hu2
 replace hus := hide hus
 replace hXB := hide hXB
 replace hb3 := hide hb3
 clear hc hN
 go_wp2_with (first | (at_builtin; refine stopAt ?_))
 refine hide ?_
 refine wpList_moreH offCell_length _ (by rfl) _ _ 95 (by rfl) 126 i0 _ 8 Tryz.underlying95 hi0 y0 y1 y2 rfl (by decide) vd hs (by rfl) (I3.out.drow.below hbu.out) 1 [(⟨w3.heap.size + 1, B, w3.heap.size, 0, [], [], .slice none 0 0, .slice none 0 0, [], .slice none 0 0⟩ : Office)] (by simp) 1 _ (by rfl) (by rfl) (by first | rfl | simp) (fun y hy => off_one y) (by unfold maxLen; simp only [List.length_singleton]; omega) (by simp only [List.length_singleton]; omega) ?_ _ (by rfl)
 intro g5 c5 u5 ro5 _ kp5 at5 lt5
 generalize hU : World.alloc (World.alloc w3 _) _ = U at *
 have kU : Kept (fun k => vd.ownBlock = some k) W1 u5 := ((Kept.of_below hb3.out).trans (Kept.of_below (S := fun _ => False) hbu.out) (fun i h => h.elim)).trans kp5 (fun i h => .inl h)
 have hb5 : u5.heap[Wb]? = some (.cells #[.bool w0.lg, w0.vb, vd, vl] 98 (0, 0)) := by rw [kU.block Wb hWl hWb2]; exact I1.out.wblk
 have hc5 := fun o => cell_at hb5 o
 have hf5 := fun o => frozen_at hb5 o
 have hWl5 := block_lt hb5
 have g5W : g5 ≠ Wb := by
  rcases at5 with h | h
  ·intro e; subst e; exact hWb2 h
  ·have h1 := hus.out; have h2 := hb3.out.size; omega
 have one : ∀ g', (Value.slice (some ⟨g5, 0, none⟩) (hs.length + 1) c5).ownBlock = some g' → g' = g5 := fun g' h' => by simpa [Value.ownBlock] using h'.symm
 have far : ∀ k, W1.heap.size ≤ k → vd.ownBlock ≠ some k := fun k hk e => by have := hvb2 k e; omega
 have nW : ∀ k, W1.heap.size ≤ k → k ≠ Wb := fun k hk e => by omega
 have h23 := hb3.out.size
 have hsz := hus.out
 have keepB : ∀ (v : Value) k o, W1.heap.size ≤ k → U.heap[k]? = some o → (u5.setCell ⟨Wb, 2, none⟩ v).heap[k]? = some o := fun v k o hk ho => by
  rw [(Kept.of_setCell u5 ⟨Wb, 2, none⟩ v).block k (Nat.lt_of_lt_of_le (block_lt ho) kp5.size) (nW k hk), kp5.block k (block_lt ho) (far k hk)];exact ho
 have fin := I1.out.more (w' := u5.setCell ⟨Wb, 2, none⟩ (.slice (some ⟨g5, 0, none⟩) (hs.length + 1) c5)) ⟨w3.heap.size + 1, B, w3.heap.size, 0, [], [], .slice none 0 0, .slice none 0 0, [], .slice none 0 0⟩ (.slice (some ⟨g5, 0, none⟩) (hs.length + 1) c5)
  ((kU.mono (fun i _ h => .inr h)).trans (Kept.of_setCell _ _ _) (fun i h => .inl (.inl h))) (heap_set_self hb5 2 _) (ro5.kept (Kept.of_setCell _ _ _) (fun g' h' => by rw [one g' h']; exact g5W))
  (fun g' h' => by
   rw [one g' h'];rcases at5 with h | h
   ·exact .inl h
   ·exact .inr (by omega))
  (by show W1.heap.size ≤ w3.heap.size + 1; omega) hB (by show W1.heap.size ≤ w3.heap.size; omega) (by show w3.heap.size + 1 ≠ B; omega) (by show w3.heap.size + 1 ≠ w3.heap.size; omega) (by show B ≠ w3.heap.size; omega)
  (by
   have hg : g5 < W1.heap.size ∨ w3.heap.size + 1 + 1 ≤ g5 := by
    rcases at5 with h | h
    ·exact .inl (hvb2 _ h)
    ·exact .inr (by omega)
   refine ⟨fun e => ?_, fun e => ?_, fun e => ?_⟩
   ·have : w3.heap.size + 1 = g5 := one _ e;omega
   ·have : B = g5 := one _ e;omega
   ·have : w3.heap.size = g5 := one _ e
    omega)
  (keepB _ (w3.heap.size + 1) _ (by omega) hu2.out) ⟨ty_of (keepB _ _ _ hB (by rw [hbu.out.block B hBl]; exact hXB.out.blk)), RowOf.nil _ _, fun x hx => by cases hx⟩ ⟨keepB _ w3.heap.size _ (by omega) hu1.out, RowOf.nil _ _, fun x hx => by cases hx⟩ ⟨rfl, rfl, rfl, rfl, rfl, rfl, rfl⟩
 obtain ⟨own', I9⟩ := fin
 have fin2 : Hid (DMadeSays w0 N Wb hs ll (.returned (.bool true)) (u5.setCell ⟨Wb, 2, none⟩ (.slice (some ⟨g5, 0, none⟩) (hs.length + 1) c5))) := hide ⟨rfl, own', _, _, vl, I9, fun h hh => by
  rcases List.mem_append.1 hh with hh | hh
  ·exact hok.out h hh
  ·rw [List.mem_singleton] at hh;subst hh
   exact ⟨DRel.start, ⟨rfl, DHist.nil⟩, Nat.zero_le _⟩, by simp⟩
 clear I9 keepB far nW one kU kp5 at5 lt5 ro5 hb5 I1 I3 hXB hb3 hbu hu1 hu2 hus hsz
 go_wp2
 go_ret
 exact fin2.out
def dbaseUp (w0 : DBase) (w : World) (b : Nat) (hs : w0.w.heap.size ≤ w.heap.size) (hb : b < w.heap.size) : DBase := ⟨w, fun k => w0.F k ∨ k = b, fun k hk => by
 rcases hk with hk | rfl
 ·exact Nat.lt_of_lt_of_le (w0.lt k hk) hs
 ·exact hb, w0.lg, w0.vb, w0.Q, w0.loc⟩
section
variable {w0 : DBase} {w w' : World} {Wb : Nat} {own : Nat → Nat} {hs : List Office} {ll : List (Value × Nat)} {vd vl : Value}
theorem DInv.up (I : DInv w0 w Wb own hs ll vd vl) (b : Nat) (hb : b < w.heap.size) (h0 : own b = 0) : DInv (dbaseUp w0 w b I.bel.size hb) w Wb own hs ll vd vl :=
 ⟨⟨rfl, rfl, rfl, Nat.le_refl _, fun _ _ => rfl⟩, fun k hk hF => by
  rcases hF with hF | rfl
  ·exact I.old k hk hF
  ·exact hk h0, I.wblk, I.wown, I.drow, I.down, I.lrow, I.lown, I.full, I.fown, I.four, I.house, I.oth⟩
theorem DInv.lower {b : Nat} {h1 : w0.w.heap.size ≤ w.heap.size} {h2 : b < w.heap.size} (hB : BelF w0.bs w) (I : DInv (dbaseUp w0 w b h1 h2) w' Wb own hs ll vd vl) : DInv w0 w' Wb own hs ll vd vl :=
 ⟨⟨I.bel.os.trans hB.os, I.bel.tape.trans hB.tape, I.bel.output.trans hB.output, Nat.le_trans hB.size I.bel.size, fun k hF => (I.bel.block k (.inl hF)).trans (hB.block k hF)⟩, fun k hk hF => I.old k hk (.inl hF), I.wblk, I.wown, I.drow, I.down, I.lrow, I.lown, I.full, I.fown, I.four, I.house, I.oth⟩
theorem Stays.up {la : Option Addr} {legs : List Pl} (h : Stays w0 la legs) (hB : BelF w0.bs w) (b : Nat) (h1 : w0.w.heap.size ≤ w.heap.size) (h2 : b < w.heap.size) : Stays (dbaseUp w0 w b h1 h2) la legs := ⟨h.legsAt hB, fun a e hl => .inl (h.own a e hl)⟩
theorem Opr.paid.up {o : Opr} (h : o.paid w0) (hB : BelF w0.bs w) (b : Nat) (h1 : w0.w.heap.size ≤ w.heap.size) (h2 : b < w.heap.size) : o.paid (dbaseUp w0 w b h1 h2) := by
 obtain ⟨pi, pd, legs, e1, e2, e3, e4, e5, e6, e7⟩ := h
 exact ⟨pi, pd, legs, e1, e2, e3, e4, e5, e6, e7.up hB b h1 h2⟩
end
def DGoes1 (w0 : DBase) (N : Nat) (w' : World) (Wb : Nat) (hs : List Office) (ll : List (Value × Nat)) : Prop :=
 ∃ own' hs' ll' vd' vl', DInv w0 w' Wb own' hs' ll' vd' vl' ∧ (∀ h, h ∈ hs' → h.ok (N + 1)) ∧ hs'.length ≤ hs.length + 1 ∧ hs.length ≤ hs'.length ∧ ll'.length ≤ ll.length + 4
structure DBehind (w0 : DBase) (N : Nat) (u w' : World) (Wb b : Nat) (hs : List Office) (ll : List (Value × Nat)) (vd : Value) : Prop where
 goes : DGoes1 w0 N w' Wb hs ll
 box : w'.heap[b]? = u.heap[b]?
 bank : w'.cell? ⟨Wb, 2, none⟩ = some vd
 row : ∀ j (hj : j < hs.length) g, vd.ownBlock = some g → w'.cell? ⟨g, j, none⟩ = some (.pointer (some ⟨hs[j].hb, 0, none⟩))
theorem deed_behind (w0 : DBase) (N : Nat) (w : World) (Wb : Nat) (own : Nat → Nat) (hs : List Office) (ll : List (Value × Nat)) (vd vl : Value) (I : DInv w0 w Wb own hs ll vd vl) (i : Nat) (hi : i < hs.length) (o : Opr) (hp : o.paid w0)
  (hB : ∀ (w1 : DBase) (u : World) (own1 : Nat → Nat), o.paid w1 → DInv w1 u Wb own1 hs ll vd vl → Calls Tryz.prog 52 #[.pointer (some ⟨Wb, 0, none⟩), .pointer (some ⟨hs[i].hb, 0, none⟩), o.v] u (DeedSays w1 N Wb hs ll vd i hs[i].hb))
  (u : World) (hu : Below w.heap.size w u) (hlt : w.heap.size < u.heap.size) :
  Calls Tryz.prog 52 #[.pointer (some ⟨Wb, 0, none⟩), .pointer (some ⟨hs[i].hb, 0, none⟩), o.v] u fun e w' => e = .returned (.bool true) ∧ DBehind w0 N u w' Wb w.heap.size hs ll vd := by
 have I0 := I.below0 hu
 have I1 := I0.up w.heap.size hlt (by simp)
 refine (hB _ u _ (hp.up I0.bel _ _ _) I1).mono ?_
 rintro e w' ⟨rfl, own', hs', ll', vl', J, hok', hhb, hll⟩
 have hhb' : hs'.map Office.hb = hs.map Office.hb := by
  rw [hhb, show hs[i].hb = (hs.map Office.hb)[i]'(by simpa using hi) by simp];exact List.set_getElem_self _
 have hl' : hs'.length = hs.length := by have := congrArg List.length hhb'; simpa using this
 refine ⟨rfl, ⟨own', hs', ll', vd, vl', DInv.lower I0.bel J, hok', by omega, by omega, hll⟩, J.bel.block _ (.inr rfl), cell_at J.wblk 2, ?_⟩
 intro j hj g hg
 obtain ⟨ad, cap, hv, hev⟩ := J.drow.form offCell_length
 obtain ⟨g', rfl, hcell, _⟩ := hev j (by omega)
 have c0 := hcell 0 (by decide)
 obtain rfl : g' = g := by rw [hv] at hg; simpa [Value.ownBlock] using hg
 simp only [offCell, List.getElem?_cons_zero, Nat.add_zero, Nat.mul_one] at c0
 rw [c0]
 have : (hs'.map Office.hb)[j]'(by simp; omega) = (hs.map Office.hb)[j]'(by simpa using hj) := by simp only [hhb']
 simp only [List.getElem_map] at this
 rw [this]
theorem step_deed_gen (w0 : DBase) (N : Nat) (w : World) (Wb : Nat) (own : Nat → Nat) (hs : List Office) (ll : List (Value × Nat)) (vd vl : Value) (I : DInv w0 w Wb own hs ll vd vl) (hl1 : 0 < hs.length) (hl2 : hs.length ≤ 1000000000000)
  (kind at_ n : Int) (s : List UInt8) (k f t mi l p g a : Nat) (m : List UInt8) (pid dead : Int) (memo : List UInt8) (legs : Option Addr) (llen lcap acc amt : Nat) (ho : (⟨kind, at_, n, s, ⟨k, f, t, mi, l, p, g, a, m⟩, pid, dead, memo, legs, llen, lcap, acc, amt⟩ : Opr).ok) (hp : (⟨kind, at_, n, s, ⟨k, f, t, mi, l, p, g, a, m⟩, pid, dead, memo, legs, llen, lcap, acc, amt⟩ : Opr).paid w0) (hk : 9 ≤ kind ∧ kind ≤ 14)
  (hB : ∀ (i : Nat) (hi : i < hs.length) (w1 : DBase) (u : World) (own1 : Nat → Nat), (⟨kind, at_, n, s, ⟨k, f, t, mi, l, p, g, a, m⟩, pid, dead, memo, legs, llen, lcap, acc, amt⟩ : Opr).paid w1 → DInv w1 u Wb own1 hs ll vd vl → Calls Tryz.prog 52 #[.pointer (some ⟨Wb, 0, none⟩), .pointer (some ⟨hs[i].hb, 0, none⟩), (⟨kind, at_, n, s, ⟨k, f, t, mi, l, p, g, a, m⟩, pid, dead, memo, legs, llen, lcap, acc, amt⟩ : Opr).v] u (DeedSays w1 N Wb hs ll vd i hs[i].hb)) :
  Calls Tryz.prog 34 #[.pointer (some ⟨Wb, 0, none⟩), (⟨kind, at_, n, s, ⟨k, f, t, mi, l, p, g, a, m⟩, pid, dead, memo, legs, llen, lcap, acc, amt⟩ : Opr).v] w fun e w' => e = .returned (.bool true) ∧ DGoes1 w0 N w' Wb hs ll := by
 have hP := hide (fun u => pick_any at_ ho.2.1 hs.length hl1 (by omega) u)
 have hpl : pickN at_ hs.length < hs.length := Nat.mod_lt _ hl1
 obtain ⟨W1, hW1⟩ : ∃ W1, W1 = (w.alloc (.cells (⟨kind, at_, n, s, ⟨k, f, t, mi, l, p, g, a, m⟩, pid, dead, memo, legs, llen, lcap, acc, amt⟩ : Opr).cells 104)).drew := ⟨_, rfl⟩
 have hbW : Below w.heap.size w W1 := by rw [hW1]; exact ((Below.refl w.heap.size w).alloc (Nat.le_refl _) _).drew
 have hlW : w.heap.size < W1.heap.size := by rw [hW1]; simp
 have hrg : W1.rangeAt w.heap.size 0 (⟨kind, at_, n, s, ⟨k, f, t, mi, l, p, g, a, m⟩, pid, dead, memo, legs, llen, lcap, acc, amt⟩ : Opr).cells.toList := by rw [hW1]; exact op_range (⟨kind, at_, n, s, ⟨k, f, t, mi, l, p, g, a, m⟩, pid, dead, memo, legs, llen, lcap, acc, amt⟩ : Opr) w
 have hBk := deed_behind w0 N w Wb own hs ll vd vl I (pickN at_ hs.length) hpl (⟨kind, at_, n, s, ⟨k, f, t, mi, l, p, g, a, m⟩, pid, dead, memo, legs, llen, lcap, acc, amt⟩ : Opr) hp (hB _ hpl) W1 hbW hlW
 clear hB
 obtain ⟨bad, bcap, hv, hev⟩ := I.drow.form offCell_length
 obtain ⟨bg, hbg, hcell, _⟩ := hev _ hpl
 subst hbg
 have cg := hcell 0 (by decide)
 simp only [offCell, List.getElem?_cons_zero, Nat.add_zero, Nat.mul_one] at cg
 have hbgl : bg < w.heap.size := I.drow.lt (by rw [hv]; rfl)
 have hrw := hide (fun (w' : World) (h : DBehind w0 N W1 w' Wb w.heap.size hs ll vd) => h.row _ hpl bg (by rw [hv]; rfl))
 generalize hs[pickN at_ hs.length].hb = hb at *
 generalize pickN at_ hs.length = pn at *
 subst hv
 have hc : ∀ o, w.cell? ⟨Wb, o, none⟩ = (#[.bool w0.lg, w0.vb, .slice (some ⟨bg, 0, none⟩) hs.length bcap, vl] : Array Value)[o]? := fun o => cell_at I.wblk o
 have hWl : Wb < w.heap.size := block_lt I.wblk
 have e0 : W1.cell? ⟨Wb, 2, none⟩ = some (.slice (some ⟨bg, 0, none⟩) hs.length bcap) := (hbW.cell (p := ⟨Wb, 2, none⟩) hWl).trans (hc 2)
 have e1 : W1.cell? ⟨w.heap.size, 1, none⟩ = some (.int .i64 at_) := by rw [hW1]; simp [Opr.cells]
 have e2 : W1.cell? ⟨bg, pn, none⟩ = some (.pointer (some ⟨hb, 0, none⟩)) := (hbW.cell (p := ⟨bg, pn, none⟩) hbgl).trans cg
 have d15 : (kind == 15) = false := by simp; omega
 have d1 : (kind == 1) = false := by simp; omega
 have d8 : (kind == 8) = false := by simp; omega
 have d2 : decide (kind ≥ 2) = true := by simp; omega
 have d2' : decide (2 ≤ kind) = true := by simp; omega
 have d7 : decide (kind ≤ 7) = false := by simp; omega
 have d9 : decide (kind ≥ 9) = true := by simp; omega
 have d9' : decide (9 ≤ kind) = true := by simp; omega
 have d14 : decide (kind ≤ 14) = true := by simp; omega
 have dl : decide ((0 : Int) < (hs.length : Int)) = true := by simp; omega
 have hpn : (pn : Int) < (hs.length : Int) := by omega
 have hsz : (Tryz.prog.info? 104).map (·.size) = some (List.length ([.int .i64 kind, .int .i64 at_, .int .i64 n, .string (bs s), .int .u8 (k : Int), .int .u8 (f : Int), .int .u8 (t : Int), .int .u32 (mi : Int), .int .u8 (l : Int), .int .u16 (p : Int), .int .u16 (g : Int), .int .u32 (a : Int), .string (bs m), .int .u32 pid, .int .u64 dead, .string (bs memo), .slice legs llen lcap, .int .u16 (acc : Int), .int .u32 (amt : Int)] : List Value)) := opSize
 have hun := Tryz.underlying104
 clear I hev hcell
 simp only [Opr.v, Opr.cells] at *
 have hS0 : Hid (W1.cell? ⟨Wb, 2, none⟩ = some (.slice (some ⟨bg, 0, none⟩) hs.length bcap) ∧ W1.cell? ⟨w.heap.size, 1, none⟩ = some (.int .i64 at_) ∧ W1.cell? ⟨bg, pn, none⟩ = some (.pointer (some ⟨hb, 0, none⟩)) ∧ W1.rangeAt w.heap.size 0 [.int .i64 kind, .int .i64 at_, .int .i64 n, .string (bs s), .int .u8 (k : Int), .int .u8 (f : Int), .int .u8 (t : Int), .int .u32 (mi : Int), .int .u8 (l : Int), .int .u16 (p : Int), .int .u16 (g : Int), .int .u32 (a : Int), .string (bs m), .int .u32 pid, .int .u64 dead, .string (bs memo), .slice legs llen lcap, .int .u16 (acc : Int), .int .u32 (amt : Int)]) := hide ⟨e0, e1, e2, hrg⟩
 replace hsz := hide hsz
 replace hun := hide hun
 replace hrg := hide hrg
 replace hBk := hide hBk
 replace hW1 := hide hW1
 go_enter Tryz.func34, Tryz.ntmps34
 go_wp2_with fail
 refine wp_region_held_drew (S := (fun u => u.cell? ⟨Wb, 2, none⟩ = some (.slice (some ⟨bg, 0, none⟩) hs.length bcap) ∧ u.cell? ⟨w.heap.size, 1, none⟩ = some (.int .i64 at_) ∧ u.cell? ⟨bg, pn, none⟩ = some (.pointer (some ⟨hb, 0, none⟩)) ∧ u.rangeAt w.heap.size 0 [.int .i64 kind, .int .i64 at_, .int .i64 n, .string (bs s), .int .u8 (k : Int), .int .u8 (f : Int), .int .u8 (t : Int), .int .u32 (mi : Int), .int .u8 (l : Int), .int .u16 (p : Int), .int .u16 (g : Int), .int .u32 (a : Int), .string (bs m), .int .u32 pid, .int .u64 dead, .string (bs memo), .slice legs llen lcap, .int .u16 (acc : Int), .int .u32 (amt : Int)])) (by kernel_rfl) ?_ (fun _ => ?_)
 ·rw [← hW1.out];exact hS0.out
 rw [← hW1.out]
 refine wpAnyH_take (i := 15) (oi := _) (v := .agg (List.toArray [.int .i64 kind, .int .i64 at_, .int .i64 n, .string (bs s), .int .u8 (k : Int), .int .u8 (f : Int), .int .u8 (t : Int), .int .u32 (mi : Int), .int .u8 (l : Int), .int .u16 (p : Int), .int .u16 (g : Int), .int .u32 (a : Int), .string (bs m), .int .u32 pid, .int .u64 dead, .string (bs memo), .slice legs llen lcap, .int .u16 (acc : Int), .int .u32 (amt : Int)])) rfl (by kernel_rfl) (by kernel_rfl) (by kernel_rfl) (fun _ _ _ h => h) (yieldsIf_load_mid (by rfl) 104 (.tmp 3) rfl w.heap.size 0 rfl [.int .i64 kind, .int .i64 at_, .int .i64 n, .string (bs s), .int .u8 (k : Int), .int .u8 (f : Int), .int .u8 (t : Int), .int .u32 (mi : Int), .int .u8 (l : Int), .int .u16 (p : Int), .int .u16 (g : Int), .int .u32 (a : Int), .string (bs m), .int .u32 pid, .int .u64 dead, .string (bs memo), .slice legs llen lcap, .int .u16 (acc : Int), .int .u32 (amt : Int)] _ (fun u hu => hu.2.2.2) hun.out rfl hsz.out) hS0.out ?_
 simp only [Act.put, List.setIfInBounds_toArray, List.set_cons_zero, List.set_cons_succ]
 refine wpAnyH_take (i := 0) (oi := _) (v := .pointer (some ⟨Wb, 0, none⟩)) rfl (by kernel_rfl) (by kernel_rfl) (by kernel_rfl) (fun _ _ _ h => h) (Or.inl ⟨by rfl, ?_⟩) hS0.out ?_
 ·intro u hu;obtain ⟨h1, h2, h3, h4⟩ := hu;clear h4
  go_simp
 simp only [Act.put, List.setIfInBounds_toArray, List.set_cons_zero, List.set_cons_succ]
 refine wpAnyH_take (i := 1) (oi := _) (v := .pointer (some ⟨Wb, 0, none⟩)) rfl (by kernel_rfl) (by kernel_rfl) (by kernel_rfl) (fun _ _ _ h => h) (Or.inl ⟨by rfl, ?_⟩) hS0.out ?_
 ·intro u hu;obtain ⟨h1, h2, h3, h4⟩ := hu;clear h4
  go_simp
 simp only [Act.put, List.setIfInBounds_toArray, List.set_cons_zero, List.set_cons_succ]
 refine wpAnyH_take (i := 2) (oi := _) (v := .pointer (some ⟨Wb, 0, none⟩)) rfl (by kernel_rfl) (by kernel_rfl) (by kernel_rfl) (fun _ _ _ h => h) (Or.inl ⟨by rfl, ?_⟩) hS0.out ?_
 ·intro u hu;obtain ⟨h1, h2, h3, h4⟩ := hu;clear h4
  go_simp
 simp only [Act.put, List.setIfInBounds_toArray, List.set_cons_zero, List.set_cons_succ]
 refine wpAnyH_take (i := 3) (oi := _) (v := .pointer (some ⟨Wb, 2, none⟩)) rfl (by kernel_rfl) (by kernel_rfl) (by kernel_rfl) (fun _ _ _ h => h) (Or.inl ⟨by rfl, ?_⟩) hS0.out ?_
 ·intro u hu;obtain ⟨h1, h2, h3, h4⟩ := hu;clear h4
  go_simp
 simp only [Act.put, List.setIfInBounds_toArray, List.set_cons_zero, List.set_cons_succ]
 refine wpAnyH_take (i := 4) (oi := _) (v := .slice (some ⟨bg, 0, none⟩) hs.length bcap) rfl (by kernel_rfl) (by kernel_rfl) (by kernel_rfl) (fun _ _ _ h => h) (Or.inl ⟨by rfl, ?_⟩) hS0.out ?_
 ·intro u hu;obtain ⟨h1, h2, h3, h4⟩ := hu;clear h4
  go_simp
 simp only [Act.put, List.setIfInBounds_toArray, List.set_cons_zero, List.set_cons_succ]
 refine wpAnyH_take (i := 5) (oi := _) (v := .pointer (some ⟨w.heap.size, 1, none⟩)) rfl (by kernel_rfl) (by kernel_rfl) (by kernel_rfl) (fun _ _ _ h => h) (Or.inl ⟨by rfl, ?_⟩) hS0.out ?_
 ·intro u hu;obtain ⟨h1, h2, h3, h4⟩ := hu;clear h4
  go_simp
 simp only [Act.put, List.setIfInBounds_toArray, List.set_cons_zero, List.set_cons_succ]
 refine wpAnyH_take (i := 6) (oi := _) (v := .int .i64 at_) rfl (by kernel_rfl) (by kernel_rfl) (by kernel_rfl) (fun _ _ _ h => h) (Or.inl ⟨by rfl, ?_⟩) hS0.out ?_
 ·intro u hu;obtain ⟨h1, h2, h3, h4⟩ := hu;clear h4
  go_simp
 simp only [Act.put, List.setIfInBounds_toArray, List.set_cons_zero, List.set_cons_succ]
 refine wpAnyH_take (i := 7) (oi := _) (v := .pointer (some ⟨Wb, 0, none⟩)) rfl (by kernel_rfl) (by kernel_rfl) (by kernel_rfl) (fun _ _ _ h => h) (Or.inl ⟨by rfl, ?_⟩) hS0.out ?_
 ·intro u hu;obtain ⟨h1, h2, h3, h4⟩ := hu;clear h4
  go_simp
 simp only [Act.put, List.setIfInBounds_toArray, List.set_cons_zero, List.set_cons_succ]
 refine wpAnyH_take (i := 8) (oi := _) (v := .pointer (some ⟨Wb, 0, none⟩)) rfl (by kernel_rfl) (by kernel_rfl) (by kernel_rfl) (fun _ _ _ h => h) (Or.inl ⟨by rfl, ?_⟩) hS0.out ?_
 ·intro u hu;obtain ⟨h1, h2, h3, h4⟩ := hu;clear h4
  go_simp
 simp only [Act.put, List.setIfInBounds_toArray, List.set_cons_zero, List.set_cons_succ]
 refine wpAnyH_take (i := 9) (oi := _) (v := .pointer (some ⟨Wb, 2, none⟩)) rfl (by kernel_rfl) (by kernel_rfl) (by kernel_rfl) (fun _ _ _ h => h) (Or.inl ⟨by rfl, ?_⟩) hS0.out ?_
 ·intro u hu;obtain ⟨h1, h2, h3, h4⟩ := hu;clear h4
  go_simp
 simp only [Act.put, List.setIfInBounds_toArray, List.set_cons_zero, List.set_cons_succ]
 refine wpAnyH_take (i := 10) (oi := _) (v := .slice (some ⟨bg, 0, none⟩) hs.length bcap) rfl (by kernel_rfl) (by kernel_rfl) (by kernel_rfl) (fun _ _ _ h => h) (Or.inl ⟨by rfl, ?_⟩) hS0.out ?_
 ·intro u hu;obtain ⟨h1, h2, h3, h4⟩ := hu;clear h4
  go_simp
 simp only [Act.put, List.setIfInBounds_toArray, List.set_cons_zero, List.set_cons_succ]
 refine wpAnyH_take (i := 11) (oi := _) (v := .int .i64 (hs.length : Int)) rfl (by kernel_rfl) (by kernel_rfl) (by kernel_rfl) (fun _ _ _ h => h) (Or.inl ⟨by rfl, ?_⟩) hS0.out ?_
 ·intro u hu;obtain ⟨h1, h2, h3, h4⟩ := hu;clear h4
  go_simp
 simp only [Act.put, List.setIfInBounds_toArray, List.set_cons_zero, List.set_cons_succ]
 refine wpAnyH_ready (rs := [12]) (by kernel_rfl) (by simp) ?_
 refine AllReadyH.cons (o := { dst := some 94, op := Op.call { callee := Callee.value (Operand.func 55), args := #[Operand.tmp 88, Operand.tmp 93], argTypes := #[3, 3] }, type := 3, pos := "law.go:346", after := #[{ on := 6, ground := Ground.data }, { on := 11, ground := Ground.data }], guard := none }) rfl (fun K hK => ?_) AllReadyH.nil
 go_simp
 refine (hP.out _).mono ?_
 rintro e u2 ⟨rfl, rfl⟩
 go_wp2_with fail
 refine hK.out _ _ hS0.out (fun _ => ?_)
 clear hK K
 try simp only [Act.put, List.setIfInBounds_toArray, List.set_cons_zero, List.set_cons_succ]
 refine wpAnyH_take (i := 13) (oi := _) (v := .pointer (some ⟨bg, pn, none⟩)) rfl (by kernel_rfl) (by kernel_rfl) (by kernel_rfl) (fun _ _ _ h => h) (Or.inl ⟨by rfl, ?_⟩) hS0.out ?_
 ·intro u hu;obtain ⟨h1, h2, h3, h4⟩ := hu;clear h4
  go_simp
 simp only [Act.put, List.setIfInBounds_toArray, List.set_cons_zero, List.set_cons_succ]
 refine wpAnyH_take (i := 14) (oi := _) (v := .pointer (some ⟨hb, 0, none⟩)) rfl (by kernel_rfl) (by kernel_rfl) (by kernel_rfl) (fun _ _ _ h => h) (Or.inl ⟨by rfl, ?_⟩) hS0.out ?_
 ·intro u hu;obtain ⟨h1, h2, h3, h4⟩ := hu;clear h4
  go_simp
 simp only [Act.put, List.setIfInBounds_toArray, List.set_cons_zero, List.set_cons_succ]
 refine wpAnyH_ready (rs := [16]) (by kernel_rfl) (by simp) ?_
 refine AllReadyH.cons (o := { dst := some 98, op := Op.call { callee := Callee.value (Operand.func 52), args := #[Operand.tmp 82, Operand.tmp 96, Operand.tmp 97], argTypes := #[93, 126, 104] }, type := 4, pos := "law.go:346", after := #[{ on := 0, ground := Ground.data }, { on := 14, ground := Ground.data }, { on := 15, ground := Ground.data }, { on := 12, ground := Ground.chain }], guard := none }) rfl (fun K hK => ?_) AllReadyH.nil
 go_simp
 refine (hBk.out).mono ?_
 rintro e w2 ⟨rfl, hBe⟩
 have hS2 : Hid (w2.cell? ⟨Wb, 2, none⟩ = some (.slice (some ⟨bg, 0, none⟩) hs.length bcap) ∧ w2.cell? ⟨w.heap.size, 1, none⟩ = some (.int .i64 at_) ∧ w2.cell? ⟨bg, pn, none⟩ = some (.pointer (some ⟨hb, 0, none⟩)) ∧ w2.rangeAt w.heap.size 0 [.int .i64 kind, .int .i64 at_, .int .i64 n, .string (bs s), .int .u8 (k : Int), .int .u8 (f : Int), .int .u8 (t : Int), .int .u32 (mi : Int), .int .u8 (l : Int), .int .u16 (p : Int), .int .u16 (g : Int), .int .u32 (a : Int), .string (bs m), .int .u32 pid, .int .u64 dead, .string (bs memo), .slice legs llen lcap, .int .u16 (acc : Int), .int .u32 (amt : Int)]) := hide ⟨hBe.bank, (World.cell?_of_block (a := ⟨w.heap.size, 1, none⟩) hBe.box).trans hS0.out.2.1, hrw.out _ hBe, range_of hS0.out.2.2.2 hBe.box⟩
 replace hBe := hide hBe
 go_wp2_with fail
 refine hK.out _ _ hS2.out (fun _ => ?_)
 clear hK K
 try simp only [Act.put, List.setIfInBounds_toArray, List.set_cons_zero, List.set_cons_succ]
 refine wpAnyH_take (i := 17) (oi := { dst := some 4, op := Op.assign (Operand.tmp 98), type := 4, pos := "law.go:346", after := #[{ on := 16, ground := Ground.data }, { on := 16, ground := Ground.chain }, { on := 0, ground := Ground.phase }, { on := 1, ground := Ground.phase }, { on := 2, ground := Ground.phase }, { on := 3, ground := Ground.phase }, { on := 4, ground := Ground.phase }, { on := 5, ground := Ground.phase }, { on := 6, ground := Ground.phase }, { on := 7, ground := Ground.phase }, { on := 8, ground := Ground.phase }, { on := 9, ground := Ground.phase }, { on := 10, ground := Ground.phase }, { on := 11, ground := Ground.phase }, { on := 12, ground := Ground.phase }, { on := 13, ground := Ground.phase }, { on := 14, ground := Ground.phase }, { on := 15, ground := Ground.phase }, { on := 16, ground := Ground.phase }], guard := none }) (v := .bool true) rfl (by kernel_rfl) (by kernel_rfl) (by kernel_rfl) (fun _ _ _ h => h) (Or.inl ⟨by rfl, ?_⟩) hS2.out ?_
 ·intro u hu;clear hu
  go_simp
 try simp only [Act.put, List.setIfInBounds_toArray, List.set_cons_zero, List.set_cons_succ]
 refine wpAnyH_done (by kernel_rfl) ?_ _
 go_wp2
 go_ret
 exact ⟨rfl, hBe.out.goes⟩
theorem dstep_made (w0 : DBase) (N : Nat) (w : World) (Wb : Nat) (own : Nat → Nat) (hs : List Office) (ll : List (Value × Nat)) (vd vl : Value) (I : DInv w0 w Wb own hs ll vd vl) (hok : ∀ h, h ∈ hs → h.ok N) (hl2 : hs.length ≤ 1000000000000)
  (at_ n : Int) (s : List UInt8) (k f t mi l p g a : Nat) (m : List UInt8) (pid dead : Int) (memo : List UInt8) (legs : Option Addr) (llen lcap acc amt : Nat) :
  Calls Tryz.prog 34 #[.pointer (some ⟨Wb, 0, none⟩), (⟨8, at_, n, s, ⟨k, f, t, mi, l, p, g, a, m⟩, pid, dead, memo, legs, llen, lcap, acc, amt⟩ : Opr).v] w fun e w' => e = .returned (.bool true) ∧ DGoes1 w0 N w' Wb hs ll := by
 obtain ⟨W1, hW1⟩ : ∃ W1, W1 = (w.alloc (.cells (⟨8, at_, n, s, ⟨k, f, t, mi, l, p, g, a, m⟩, pid, dead, memo, legs, llen, lcap, acc, amt⟩ : Opr).cells 104)) := ⟨_, rfl⟩
 have hbW : Below w.heap.size w W1 := by rw [hW1]; exact (Below.refl w.heap.size w).alloc (Nat.le_refl _) _
 have hrg := hide (op_range (⟨8, at_, n, s, ⟨k, f, t, mi, l, p, g, a, m⟩, pid, dead, memo, legs, llen, lcap, acc, amt⟩ : Opr) w)
 have hM := hide (made_deed w0 N W1 Wb own hs ll vd vl (I.below hbW) hok hl2 at_ n s k f t mi l p g a m pid dead memo legs llen lcap acc amt)
 clear I
 simp only [Opr.v, Opr.cells] at *
 replace hW1 := hide hW1
 go_enter Tryz.func34, Tryz.ntmps34
 go_wp2_with (first
  | (refine wpList_load_mid (by rfl) 104 _ (by rfl) w.heap.size 0 (by rfl) [.int .i64 8, .int .i64 at_, .int .i64 n, .string (bs s), .int .u8 (k : Int), .int .u8 (f : Int), .int .u8 (t : Int), .int .u32 (mi : Int), .int .u8 (l : Int), .int .u16 (p : Int), .int .u16 (g : Int), .int .u32 (a : Int), .string (bs m), .int .u32 pid, .int .u64 dead, .string (bs memo), .slice legs llen lcap, .int .u16 (acc : Int), .int .u32 (amt : Int)] _ hrg.out Tryz.underlying104 rfl opSize ?_)
  | (go_at_call 50; refine stopAt ?_))
 refine hide ?_
 rw [← hW1.out]
 refine (hM.out).mono ?_
 rintro e w2 ⟨rfl, own', hs', vd', vl', J, hok', hl'⟩
 have hG : Hid (DGoes1 w0 N w2 Wb hs ll) := hide ⟨own', hs', ll, vd', vl', J, fun h hh => ⟨(hok' h hh).1, (hok' h hh).2.1, Nat.le_succ_of_le (hok' h hh).2.2⟩, by omega, by omega, by omega⟩
 clear J hM hrg hok'
 go_wp2
 go_ret
 exact ⟨rfl, hG.out⟩
end Go.Proofs.YtjkhbjgfoopomabGreat
