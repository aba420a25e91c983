import Derived.Test.YtjkhbjgfoopomabGreatA36
namespace Go.Proofs.YtjkhbjgfoopomabGreat
open Go.RowKit
set_option linter.unusedVariables false
set_option linter.unusedSimpArgs false
set_option maxRecDepth 100000
set_option maxHeartbeats 1000000
section
variable {w0 : Base} {w w' : World} {Wb : Nat} {own own' : Nat → Nat} {hs : List House} {ll : List (Value × Nat)} {vb vl : Value} {S : Nat → Prop}
theorem MemInv.keeps (I : MemInv w0 w Wb own hs ll vb vl) (lv : Value) (xs : List (List UInt8)) (hx : xs.length ≤ 1000) (hlv : RowOf w 9 1 txtCell lv xs) (hlo : ∀ g, lv.ownBlock = some g → own g = 4) (hn : ∀ i (hi : i < ll.length), ∀ g, ll[i].1.ownBlock = some g → lv.ownBlock ≠ some g)
  (hB : Booked w w' Wb w0.lg vb w0.vd vl ll lv xs.length) : ∃ own' ll' vl', MemInv w0 w' Wb own' hs ll' vb vl' ∧ ll'.length = ll.length + 4 := by
 obtain ⟨vl', vf, vg, vh, B⟩ := hB
 have hcl : ∀ k, (k = Wb ∨ vl.ownBlock = some k ∨ lv.ownBlock = some k) → own k = 1 ∨ own k = 3 ∨ own k = 4 := by
  rintro k (rfl | h | h)
  ·exact .inl I.wown
  ·exact .inr (.inl (I.lown k h))
  ·exact .inr (.inr (hlo k h))
 have hA : ∀ k, k < w.heap.size → (fun k => if k < w.heap.size then own k else if vl'.ownBlock = some k then 3 else 4) k = own k := fun k hk => by simp [hk]
 have hll : ll ++ [(lv, xs.length)] ++ [(vf, xs.length + 1)] ++ [(vg, xs.length + 2)] ++ [(vh, xs.length + 3)] = ll ++ [(lv, xs.length), (vf, xs.length + 1), (vg, xs.length + 2), (vh, xs.length + 3)] := by simp
 rw [hll] at B
 refine ⟨fun k => if k < w.heap.size then own k else if vl'.ownBlock = some k then 3 else 4, ll ++ [(lv, xs.length), (vf, xs.length + 1), (vg, xs.length + 2), (vh, xs.length + 3)], vl', ?_, by simp⟩
 have hin : ∀ i (hi : i < (ll ++ [(lv, xs.length), (vf, xs.length + 1), (vg, xs.length + 2), (vh, xs.length + 3)]).length), (∃ hi' : i < ll.length, (ll ++ [(lv, xs.length), (vf, xs.length + 1), (vg, xs.length + 2), (vh, xs.length + 3)])[i] = ll[i]) ∨ ((ll ++ [(lv, xs.length), (vf, xs.length + 1), (vg, xs.length + 2), (vh, xs.length + 3)])[i] ∈ [(lv, xs.length), (vf, xs.length + 1), (vg, xs.length + 2), (vh, xs.length + 3)] ∧ i / 4 = ll.length / 4) := by
  intro i hi;by_cases h : i < ll.length
  ·exact .inl ⟨h, List.getElem_append_left h⟩
  ·right;have h4 := I.four;refine ⟨?_, by simp at hi; omega⟩;rw [List.getElem_append_right (by omega)];exact List.getElem_mem _
 refine ⟨?_, ?_, B.blk, (hA _ (block_lt I.wblk)).trans I.wown, ?_, part_own I.brow I.bown hA, B.lst, ?_, ?_, ?_, by have := I.four; simp; omega, ?_, w0.loc _ _ _ _ _ I.oth B.kept (fun k _ hk h => by have := hcl k hk; unfold offCls at h; omega) hA⟩
 ·exact I.bel.kept B.kept (fun k hF hk => I.old k (by have := hcl k hk; omega) hF)
 ·intro k hk;rcases I.far k with h | h
  ·exact I.old k (by rw [← hA k h]; exact hk)
  ·exact h
 ·exact part_row I.brow I.bown B.kept (fun k _ hk => by have := hcl k hk; omega)
 ·intro g hg;rcases B.lown g hg with h | h
  ·exact (hA g (I.lrow.lt h)).trans (I.lown g h)
  ·show (if g < w.heap.size then own g else if vl'.ownBlock = some g then 3 else 4) = 3;rw [if_neg (by omega), if_pos hg]
 ·intro i hi;rcases hin i hi with ⟨hi', e⟩ | ⟨hm, e⟩
  ·rw [e];refine ⟨(I.full i hi').1, (I.full i hi').2.kept B.kept ?_⟩;intro g hg hk;have h4 := I.fown i hi' g hg;rcases hk with rfl | h | h
   ·rw [I.wown] at h4; omega
   ·rw [I.lown g h] at h4; omega
   ·exact hn i hi' g hg h
  ·refine ⟨?_, by rw [e]; exact B.full _ hm⟩;simp only [List.mem_cons, List.not_mem_nil, or_false] at hm;rcases hm with h | h | h | h <;> rw [h] <;> simp <;> omega
 ·intro i hi g hg;rcases hin i hi with ⟨hi', e⟩ | ⟨hm, e⟩
  ·rw [e] at hg;exact (hA g ((I.full i hi').2.lt hg)).trans (I.fown i hi' g hg)
  ·rcases B.rown _ hm g hg with h | h
   ·exact (hA g (hlv.lt h)).trans (hlo g h)
   ·show (if g < w.heap.size then own g else if vl'.ownBlock = some g then 3 else 4) = 4;rw [if_neg (by omega), if_neg (B.apart _ hm g hg).1]
 ·intro i hi;exact (I.house i hi).kept B.kept (fun k hk' hk => by have := hcl k hk; omega) hA
theorem MemInv.more (I : MemInv w0 w Wb own hs ll vb vl) (h : House) (vb' : Value) (hk : Kept (fun k => k = Wb ∨ vb.ownBlock = some k) w w')
  (hblk : w'.heap[Wb]? = some (.cells #[.bool w0.lg, vb', w0.vd, vl] 98 (0, 0))) (hrow : RowOf w' 124 1 ptrCell vb' (hs ++ [h])) (hb : ∀ g, vb'.ownBlock = some g → vb.ownBlock = some g ∨ w.heap.size ≤ g)
  (hn1 : w.heap.size ≤ h.hb) (hn2 : w.heap.size ≤ h.xb) (hn3 : w.heap.size ≤ h.rb) (hd1 : h.hb ≠ h.xb) (hd2 : h.hb ≠ h.rb) (hd3 : h.xb ≠ h.rb) (hd4 : vb'.ownBlock ≠ some h.hb ∧ vb'.ownBlock ≠ some h.xb ∧ vb'.ownBlock ≠ some h.rb)
  (hhb : w'.heap[h.hb]? = some (.cells #[.pointer (some ⟨h.xb, 0, none⟩), .pointer (some ⟨h.rb, 0, none⟩), .slice none 0 0] 165 (0, 0))) (hX : XB w' h.xb h.node [] [] (.slice none 0 0) (.slice none 0 0)) (hR : RB w' h.rb h.node [] (.slice none 0 0))
  (he : h.evs = [] ∧ h.ac = [] ∧ h.ls = [] ∧ h.va = .slice none 0 0 ∧ h.vl = .slice none 0 0 ∧ h.v = .slice none 0 0 ∧ h.lg = [] ∧ h.vg = .slice none 0 0) : ∃ own', MemInv w0 w' Wb own' (hs ++ [h]) ll vb' vl := by
 have hcl : ∀ k, (k = Wb ∨ vb.ownBlock = some k) → own k = 1 ∨ own k = 2 := by
  rintro k (rfl | h)
  ·exact .inl I.wown
  ·exact .inr (I.bown k h)
 have hA : ∀ k, k < w.heap.size → (fun k => if k < w.heap.size then own k else if k = h.hb then 6 + 8 * hs.length else if k = h.xb then 7 + 8 * hs.length else if k = h.rb then 8 + 8 * hs.length else 2) k = own k := fun k hk => by simp [hk]
 refine ⟨fun k => if k < w.heap.size then own k else if k = h.hb then 6 + 8 * hs.length else if k = h.xb then 7 + 8 * hs.length else if k = h.rb then 8 + 8 * hs.length else 2, ?_⟩
 refine ⟨?_, ?_, hblk, (hA _ (block_lt I.wblk)).trans I.wown, hrow, ?_, ?_, part_own I.lrow I.lown hA, ?_, ?_, I.four, ?_, w0.loc _ _ _ _ _ I.oth hk (fun k _ hk h => by have := hcl k hk; unfold offCls at h; omega) hA⟩
 ·exact I.bel.kept hk (fun k hF hk => I.old k (by have := hcl k hk; omega) hF)
 ·intro k hk';rcases I.far k with h | h
  ·exact I.old k (by rw [← hA k h]; exact hk')
  ·exact h
 ·intro g hg;rcases hb g hg with h' | h'
  ·exact (hA g (I.brow.lt h')).trans (I.bown g h')
  ·show (if g < w.heap.size then own g else if g = h.hb then 6 + 8 * hs.length else if g = h.xb then 7 + 8 * hs.length else if g = h.rb then 8 + 8 * hs.length else 2) = 2;rw [if_neg (by omega), if_neg (fun e => hd4.1 (by rw [← e]; exact hg)), if_neg (fun e => hd4.2.1 (by rw [← e]; exact hg)), if_neg (fun e => hd4.2.2 (by rw [← e]; exact hg))]
 ·exact part_row I.lrow I.lown hk (fun k _ hk => by have := hcl k hk; omega)
 ·intro i hi;exact ⟨(I.full i hi).1, part_row (I.full i hi).2 (I.fown i hi) hk (fun k _ hk => by have := hcl k hk; omega)⟩
 ·intro i hi;exact part_own (I.full i hi).2 (I.fown i hi) hA
 ·intro i hi;by_cases e : i < hs.length
  ·rw [List.getElem_append_left e];exact (I.house i e).kept hk (fun k _ hk => by have := hcl k hk; omega) hA
  ·obtain rfl : i = hs.length := by simp at hi; omega
   rw [List.getElem_append_right (Nat.le_refl _)];simp only [Nat.sub_self, List.getElem_cons_zero];obtain ⟨e1, e2, e3, e4, e5, e6, e7, e8⟩ := he;refine ⟨by rw [e8]; exact hhb, ?_, by rw [e2, e3, e4, e5]; exact hX, ?_, ?_, by rw [e1, e6]; exact hR, by rw [e6]; simp [Value.ownBlock], ?_, by rw [e7, e8]; exact RowOf.nil _ _, by rw [e8]; intro g hg; simp [Value.ownBlock] at hg⟩
   ·show (if h.hb < w.heap.size then own h.hb else if h.hb = h.hb then 6 + 8 * hs.length else if h.hb = h.xb then 7 + 8 * hs.length else if h.hb = h.rb then 8 + 8 * hs.length else 2) = _;rw [if_neg (by omega), if_pos rfl]
   ·rw [e4, e5];exact ⟨by simp [Value.ownBlock], by simp [Value.ownBlock], fun g hg => by simp [Value.ownBlock] at hg⟩
   ·rw [e4, e5];rintro k (rfl | hk | hk)
    ·show (if h.xb < w.heap.size then own h.xb else if h.xb = h.hb then 6 + 8 * hs.length else if h.xb = h.xb then 7 + 8 * hs.length else if h.xb = h.rb then 8 + 8 * hs.length else 2) = _;rw [if_neg (by omega), if_neg (fun e => hd1 e.symm), if_pos rfl];omega
    ·simp [Value.ownBlock] at hk
    ·simp [Value.ownBlock] at hk
   ·rw [e6];rintro k (rfl | hk)
    ·show (if h.rb < w.heap.size then own h.rb else if h.rb = h.hb then 6 + 8 * hs.length else if h.rb = h.xb then 7 + 8 * hs.length else if h.rb = h.rb then 8 + 8 * hs.length else 2) = _;rw [if_neg (by omega), if_neg (fun e => hd2 e.symm), if_neg (fun e => hd3 e.symm), if_pos rfl];omega
    ·simp [Value.ownBlock] at hk
end
structure Opr where
 kind : Int
 at_ : Int
 n : Int
 s : List UInt8
 msg : Msg
 pid : Int
 dead : Int
 memo : List UInt8
 legs : Option Addr
 llen : Nat
 lcap : Nat
 acc : Nat
 amt : Nat
def i64ok (x : Int) : Prop := -9223372036854775808 ≤ x ∧ x ≤ 9223372036854775807
def Opr.ok (o : Opr) : Prop := i64ok o.kind ∧ i64ok o.at_ ∧ i64ok o.n ∧ o.s.length ≤ 140737488351232 ∧ o.msg.ok ∧ o.msg.m.length ≤ 140737488351232 ∧ o.acc < 65536 ∧ o.amt < 4294967296
def Opr.cells (o : Opr) : Array Value := #[.int .i64 o.kind, .int .i64 o.at_, .int .i64 o.n, .string (bs o.s), .int .u8 (o.msg.k : Int), .int .u8 (o.msg.f : Int), .int .u8 (o.msg.t : Int), .int .u32 (o.msg.i : Int), .int .u8 (o.msg.l : Int), .int .u16 (o.msg.p : Int), .int .u16 (o.msg.g : Int), .int .u32 (o.msg.a : Int), .string (bs o.msg.m),
 .int .u32 o.pid, .int .u64 o.dead, .string (bs o.memo), .slice o.legs o.llen o.lcap, .int .u16 (o.acc : Int), .int .u32 (o.amt : Int)]
def Opr.v (o : Opr) : Value := .agg o.cells
def Opr.frame (o : Opr) : List UInt8 := if o.s = [] then encOf o.msg else o.s
theorem frame_any (o : Opr) (ho : o.ok) (w : World) : Calls Tryz.prog 83 #[o.v] w fun e w' => e = .returned (.string (bs o.frame)) ∧ Below w.heap.size w w' := by
 have hz : Hid (o.frame = if o.s = [] then encOf o.msg else o.s) := hide rfl
 have hE := hide (refEncode_any o.msg ho.2.2.2.2.1 ho.2.2.2.2.2.1)
 generalize o.frame = F at *
 obtain ⟨kind, at_, n, s, ⟨k, f, t, i, l, p, g, a, m⟩, pid, dead, memo, legs, llen, lcap, acc, amt⟩ := o
 simp only [Opr.v, Opr.cells, Msg.v, Msg.cells] at *
 generalize encOf _ = E at *
 generalize faultOf _ = fv at *
 by_cases h0 : s = []
 ·subst h0;have hq : Hid (F = E) := hide (by rw [hz.out]; simp);have d0 : (bs []).toList.isEmpty = true := by rw [bs_toList]; rfl
  clear hz ho;go_enter Tryz.func83, Tryz.ntmps83;go_wp2_with fail
  refine (hE.out _).mono ?_;rintro e w1 ⟨rfl, hb⟩;clear hE;go_wp2;go_ret;exact ⟨by rw [hq.out]; rfl, all_kept hb⟩
 ·have hq : Hid (F = s) := hide (by rw [hz.out]; simp [h0]);have d0 : (bs s).toList.isEmpty = false := by rw [bs_toList]; simpa using h0
  clear hz ho;go_enter Tryz.func83, Tryz.ntmps83;go_wp2;go_ret;exact ⟨by rw [hq.out]; rfl, (Below.refl _ _).alloc (Nat.le_refl _) _⟩
theorem eHandle_any (s : ByteArray) (hs : s.size ≤ 140737488351232) (w : World) (B node : Nat) (hnode : 1 ≤ node ∧ node ≤ 7) (evs : List Ev) (ac : List Ac) (ls : List Lg) (va vl : Value) (hr : Rel evs ac ls) (hX : XB w B node ac ls va vl) (hap : Apart B va vl) :
  Calls Tryz.prog 74 #[.pointer (some ⟨B, 0, none⟩), .string s] w (XDone w B node evs s.data.toList va vl) := by
 have hT := hide (xHandle_any s hs w B node hnode evs ac ls va vl hr hX hap)
 have hc : ∀ o, _ = _ := fun o => cell_at hX.blk o
 go_enter Tryz.func74, Tryz.ntmps74
 go_wp2_with fail
 refine hT.out.mono ?_
 rintro e w1 ⟨lv, ac', ls', va', vl', rfl, h1, h2⟩
 have H : Hid (XDone w B node evs s.data.toList va vl (.returned (.tuple #[lv, .string (bs (rLog node s.data.toList evs)), .int .i64 (rErr node s.data.toList evs : Int)])) w1) := hide ⟨lv, ac', ls', va', vl', rfl, h1, h2⟩
 clear h1 h2 hT hc
 go_wp2
 go_ret3
 exact H.out
def Goes (w0 : Base) (w' : World) (Wb : Nat) (hs : List House) (ll : List (Value × Nat)) (vb : Value) (i hb : Nat) : Prop :=
 ∃ own' hs' ll' vl', MemInv w0 w' Wb own' hs' ll' vb vl' ∧ (∀ h, h ∈ hs' → h.ok) ∧ hs'.map House.hb = (hs.map House.hb).set i hb ∧ ll'.length ≤ ll.length + 4
theorem hs_set_ok {hs : List House} (hok : ∀ h, h ∈ hs → h.ok) (i : Nat) (x : House) (hx : x.ok) : ∀ h, h ∈ hs.set i x → h.ok := by
 intro h hh
 rcases List.mem_or_eq_of_mem_set hh with h' | h'
 ·exact hok h h'
 ·rw [h']; exact hx
theorem MemInv.at {w0 : Base} {w : World} {Wb : Nat} {own : Nat → Nat} {hs : List House} {ll : List (Value × Nat)} {vb vl : Value} {i : Nat} {x : House} (hi : i < hs.length) (I : MemInv w0 w Wb own (hs.set i x) ll vb vl) : HouseMem w own (6 + 8 * i) x := by
 have h := I.house i (by simpa using hi)
 rw [List.getElem_set_self] at h
 exact h
theorem foot_lt {w : World} {own : Nat → Nat} {o : Nat} {h : House} (H : HouseMem w own o h) : (∀ k, xfoot h.xb h.va h.vl k → k < w.heap.size) ∧ ∀ k, (k = h.rb ∨ h.v.ownBlock = some k) → k < w.heap.size := by
 constructor
 ·rintro k (rfl | hk | hk)
  ·exact H.x.lt
  ·exact H.x.arow.lt hk
  ·exact H.x.lrow.lt hk
 ·rintro k (rfl | hk)
  ·exact H.r.lt
  ·exact H.r.row.lt hk
theorem three_kept {S : Nat → Prop} {w u : World} {p q r : Addr} {x y z : Value} (hk : Kept S w u) (hp : p.block < w.heap.size ∧ ¬ S p.block) (hq : q.block < w.heap.size ∧ ¬ S q.block) (hr : r.block < w.heap.size ∧ ¬ S r.block)
  (h : w.cell? p = some x ∧ w.cell? q = some y ∧ w.cell? r = some z) : u.cell? p = some x ∧ u.cell? q = some y ∧ u.cell? r = some z :=
 ⟨(hk.cell hp.1 hp.2).trans h.1, (hk.cell hq.1 hq.2).trans h.2.1, (hk.cell hr.1 hr.2).trans h.2.2⟩
theorem MemInv.xstepS {w0 : Base} {w w' : World} {Wb : Nat} {own : Nat → Nat} {hs : List House} {ll : List (Value × Nat)} {vb vl : Value} {i : Nat} {x : House} (I : MemInv w0 w Wb own (hs.set i x) ll vb vl) (hi : i < hs.length) (lv : Value) (ac' : List Ac) (ls' : List Lg) (va' vl' : Value) (hT : XBTo w w' x.xb x.node ac' ls' x.va x.vl va' vl') (hf : ∀ g, lv.ownBlock = some g → w.heap.size ≤ g ∧ va'.ownBlock ≠ some g ∧ vl'.ownBlock ≠ some g) :
  MemInv w0 w' Wb (fun k => if k < w.heap.size then own k else if lv.ownBlock = some k then 4 else 7 + 8 * i) (hs.set i { x with ac := ac', ls := ls', va := va', vl := vl' }) ll vb vl := by
 have h := I.xstep (w' := w') i (by simpa using hi) lv ac' ls' va' vl'
 simp only [List.getElem_set_self, List.set_set] at h
 exact h hT hf
theorem MemInv.rstepS {w0 : Base} {w w' : World} {Wb : Nat} {own : Nat → Nat} {hs : List House} {ll : List (Value × Nat)} {vb vl : Value} {i : Nat} {x : House} (I : MemInv w0 w Wb own (hs.set i x) ll vb vl) (hi : i < hs.length) (evs' : List Ev) (v' : Value) (hT : RBTo w w' x.rb x.node evs' x.v v') :
  MemInv w0 w' Wb (fun k => if k < w.heap.size then own k else 8 + 8 * i) (hs.set i { x with evs := evs', v := v' }) ll vb vl := by
 have h := I.rstep (w' := w') i (by simpa using hi) evs' v'
 simp only [List.getElem_set_self, List.set_set] at h
 exact h hT
theorem MemInv.gstepS {w0 : Base} {w w' : World} {Wb : Nat} {own : Nat → Nat} {hs : List House} {ll : List (Value × Nat)} {vb vl : Value} {i : Nat} {x : House} (I : MemInv w0 w Wb own (hs.set i x) ll vb vl) (hi : i < hs.length) (lg' : List (List UInt8 × Nat)) (vg' : Value) (hk : Kept (fun k => k = x.hb ∨ x.vg.ownBlock = some k) w w')
  (hblk : w'.heap[x.hb]? = some (.cells #[.pointer (some ⟨x.xb, 0, none⟩), .pointer (some ⟨x.rb, 0, none⟩), vg'] 165 (0, 0))) (hrow : RowOf w' 209 2 logCell vg' lg') (hown : ∀ g, vg'.ownBlock = some g → x.vg.ownBlock = some g ∨ w.heap.size ≤ g) :
  MemInv w0 w' Wb (fun k => if k < w.heap.size then own k else 9 + 8 * i) (hs.set i { x with lg := lg', vg := vg' }) ll vb vl := by
 have h := I.gstep (w' := w') i (by simpa using hi) lg' vg'
 simp only [List.getElem_set_self, List.set_set] at h
 exact h hk hblk hrow hown
theorem MemInv.log {w0 : Base} {w w1 : World} {Wb : Nat} {own : Nat → Nat} {hs : List House} {ll : List (Value × Nat)} {vb vl : Value} {i : Nat} {x : House} (I : MemInv w0 w Wb own (hs.set i x) ll vb vl) (hi : i < hs.length) (lg' : List (List UInt8 × Nat)) (vg' : Value) (hk : Kept (fun k => x.vg.ownBlock = some k) w w1)
  (hrow : RowOf w1 209 2 logCell vg' lg') (hown : ∀ g, vg'.ownBlock = some g → x.vg.ownBlock = some g ∨ w.heap.size ≤ g) :
  w1.heap[x.hb]? = some (.cells #[.pointer (some ⟨x.xb, 0, none⟩), .pointer (some ⟨x.rb, 0, none⟩), x.vg] 165 (0, 0)) ∧ MemInv w0 (w1.setCell ⟨x.hb, 2, none⟩ vg') Wb (fun k => if k < w.heap.size then own k else 9 + 8 * i) (hs.set i { x with lg := lg', vg := vg' }) ll vb vl := by
 have H := MemInv.at hi I
 have hnb : x.vg.ownBlock ≠ some x.hb := fun e => by have h1 := H.gown _ e; rw [H.hown] at h1; omega
 have hb1 : w1.heap[x.hb]? = some (.cells #[.pointer (some ⟨x.xb, 0, none⟩), .pointer (some ⟨x.rb, 0, none⟩), x.vg] 165 (0, 0)) := by rw [hk.block _ (block_lt H.blk) hnb]; exact H.blk
 refine ⟨hb1, I.gstepS hi lg' vg' ((hk.mono (fun i _ h => .inr h)).trans (Kept.of_setCell _ _ _) (fun i h => .inl (.inl h))) (heap_set_self hb1 2 _) (hrow.kept (Kept.of_setCell _ _ _) (fun g hg e => ?_)) hown⟩
 have e' : g = x.hb := e
 subst e'
 rcases hown _ hg with h | h
 ·exact hnb h
 ·have := block_lt H.blk; omega
def BankSays (w0 : Base) (Wb : Nat) (hs : List House) (ll : List (Value × Nat)) (vb : Value) (i hb : Nat) (e : Ending) (w' : World) : Prop := e = .returned (.bool true) ∧ Goes w0 w' Wb hs ll vb i hb
theorem goes_of {w0 : Base} {w' : World} {Wb : Nat} {own : Nat → Nat} {hs : List House} {ll ll' : List (Value × Nat)} {vb vl : Value} {i : Nat} {x : House} (I : MemInv w0 w' Wb own (hs.set i x) ll' vb vl) (hok : ∀ h, h ∈ hs → h.ok) (hx : x.ok) (hl : ll'.length ≤ ll.length + 4) : Goes w0 w' Wb hs ll vb i x.hb :=
 ⟨own, hs.set i x, ll', vl, I, hs_set_ok hok i x hx, by rw [List.map_set], hl⟩
def ownAgain (w w1 w2 : World) (o : Nat) (own : Nat → Nat) (k : Nat) : Nat :=
 if k < w.heap.size then own k else if k < w1.heap.size then o + 3 else if k < w2.heap.size then o + 1 else o + 2
theorem MemInv.again {w0 : Base} {w w' : World} {Wb : Nat} {own : Nat → Nat} {hs : List House} {ll : List (Value × Nat)} {vb vl : Value} {i : Nat} {x : House} (I : MemInv w0 w Wb own (hs.set i x) ll vb vl) (hi : i < hs.length) (w1 w2 : World) (y : House) (hy : y.hb = x.hb)
  (hk : Kept (fun k => k = x.hb) w w') (H : HouseMem w' (ownAgain w w1 w2 (6 + 8 * i) own) (6 + 8 * i) y) : MemInv w0 w' Wb (ownAgain w w1 w2 (6 + 8 * i) own) (hs.set i y) ll vb vl := by
 have hX := MemInv.at hi I
 have hA : ∀ k, k < w.heap.size → ownAgain w w1 w2 (6 + 8 * i) own k = own k := fun k hk => if_pos hk
 have hown : own x.hb = 6 + 8 * i := hX.hown
 have hset : (hs.set i x).set i y = hs.set i y := List.set_set ..
 have hrow : RowOf w' 124 1 ptrCell vb (hs.set i y) := by
  rw [← hset];refine row_set (part_row I.brow I.bown hk (fun k _ hs e => by rw [hs, hown] at e; omega)) i (by simpa using hi) y ?_;rw [hy];simp
 refine I.rest (S := fun k => k = x.hb) hk (fun k hs => by rw [hs, hown]; omega) hA I.far hrow (fun j hj => ?_)
 have hj' : j < (hs.set i x).length := by simpa using hj
 by_cases e : j = i
 ·subst e;have : (hs.set j y)[j] = y := by simp
  rw [this];exact H
 ·have h1 : (hs.set i y)[j] = (hs.set i x)[j] := by simp [List.getElem_set, Ne.symm e]
  rw [h1];refine (I.house j hj').kept (S := fun k => k = x.hb) hk (fun k _ hs => ?_) hA;rw [hs, hown];omega
structure Office where
 hb : Nat
 xb : Nat
 rb : Nat
 ck : Nat
 acts : List Dt
 ps : List Xp
 xv : Value
 v : Value
 lg : List (List UInt8 × Nat)
 vg : Value
structure LgD (acts : List Dt) (lg : List (List UInt8 × Nat)) : Prop where
 eq : lg = dlogOf acts
 hist : DHist acts
def Office.ok (N : Nat) (h : Office) : Prop := DRel h.acts h.ck h.ps ∧ LgD h.acts h.lg ∧ h.acts.length ≤ N
structure OffMem (w : World) (own : Nat → Nat) (o : Nat) (h : Office) : Prop where
 blk : w.heap[h.hb]? = some (.cells #[.pointer (some ⟨h.xb, 0, none⟩), .pointer (some ⟨h.rb, 0, none⟩), h.vg] 158 (0, 0))
 hown : own h.hb = o
 x : XD w h.xb h.ck h.ps h.xv
 xap : XDap h.xb h.ps h.xv
 xown : ∀ k, xdfoot h.xb h.ps h.xv k → own k = o + 1
 r : RD w h.rb h.acts h.v
 rap : RDap h.rb h.acts h.v
 rown : ∀ k, rdfoot h.rb h.acts h.v k → own k = o + 2
 grow : RowOf w 209 2 logCell h.vg h.lg
 gown : ∀ g, h.vg.ownBlock = some g → own g = o + 3
def offCell (h : Office) : List Value := [.pointer (some ⟨h.hb, 0, none⟩)]
theorem offCell_length (h : Office) : (offCell h).length = 1 := rfl
def bankCls (c : Nat) : Prop := c = 2 ∨ (6 ≤ c ∧ (c - 6) % 8 < 4)
structure DBase where
 w : World
 F : Nat → Prop
 lt : ∀ k, F k → k < w.heap.size
 lg : Bool
 vb : Value
 Q : World → (Nat → Nat) → Prop
 loc : ∀ (u u' : World) (own own' : Nat → Nat) (S : Nat → Prop), Q u own → Kept S u u' → (∀ k, k < u.heap.size → S k → ¬ bankCls (own k)) → (∀ k, k < u.heap.size → own' k = own k) → Q u' own'
def DBase.bs (b : DBase) : Base := ⟨b.w, b.F, b.lt, b.lg, .slice none 0 0, fun _ _ => True, fun _ _ _ _ _ _ _ _ _ => trivial⟩
structure DInv (w0 : DBase) (w : World) (Wb : Nat) (own : Nat → Nat) (hs : List Office) (ll : List (Value × Nat)) (vd vl : Value) : Prop where
 bel : BelF w0.bs w
 old : ∀ k, own k ≠ 0 → ¬ w0.F k
 wblk : w.heap[Wb]? = some (.cells #[.bool w0.lg, w0.vb, vd, vl] 98 (0, 0))
 wown : own Wb = 1
 drow : RowOf w 126 1 offCell vd hs
 down : ∀ g, vd.ownBlock = some g → own g = 5
 lrow : RowOf w 38 1 lstCell vl ll
 lown : ∀ g, vl.ownBlock = some g → own g = 3
 full : ∀ i (hi : i < ll.length), ll[i].2 ≤ 1000000 ∧ RowOf w 9 1 txtCell ll[i].1 (List.replicate ll[i].2 (markB (i / 4 + 1)))
 fown : ∀ i (hi : i < ll.length), ∀ g, ll[i].1.ownBlock = some g → own g = 4
 four : ll.length % 4 = 0
 house : ∀ i (hi : i < hs.length), OffMem w own (10 + 8 * i) hs[i]
 oth : w0.Q w own
theorem XD.kept {w w' : World} {S : Nat → Prop} {B ck : Nat} {ps : List Xp} {v : Value} (h : XD w B ck ps v) (hk : Kept S w w') (hS : ∀ k, xdfoot B ps v k → ¬ S k) : XD w' B ck ps v :=
 ⟨ty_of (by rw [hk.block _ h.lt (hS _ (.inl rfl))]; exact h.blk), h.row.kept hk (fun g hg => hS g (.inr (.inl hg))), fun x hx => (h.legs x hx).kept hk (fun g hg => hS g (.inr (.inr ⟨x, hx, hg⟩)))⟩
theorem RD.kept {w w' : World} {S : Nat → Prop} {B : Nat} {acts : List Dt} {v : Value} (h : RD w B acts v) (hk : Kept S w w') (hS : ∀ k, rdfoot B acts v k → ¬ S k) : RD w' B acts v :=
 ⟨by rw [hk.block _ h.lt (hS _ (.inl rfl))]; exact h.blk, h.row.kept hk (fun g hg => hS g (.inr (.inl hg))), fun x hx => (h.legs x hx).kept hk (fun g hg => hS g (.inr (.inr ⟨x, hx, hg⟩)))⟩
section
variable {w0 : DBase} {w w' : World} {Wb : Nat} {own own' : Nat → Nat} {hs : List Office} {ll : List (Value × Nat)} {vd vl : Value} {S : Nat → Prop}
theorem OffMem.kept {o : Nat} {h : Office} (H : OffMem w own o h) (hk : Kept S w w') (hS : ∀ k, k < w.heap.size → S k → own k ≠ o ∧ own k ≠ o + 1 ∧ own k ≠ o + 2 ∧ own k ≠ o + 3) (hA : ∀ k, k < w.heap.size → own' k = own k) : OffMem w' own' o h := by
 have h1 := block_lt H.blk
 refine ⟨by rw [hk.block _ h1 (fun hs => (hS _ h1 hs).1 H.hown)]; exact H.blk, (hA _ h1).trans H.hown, H.x.kept hk (fun k hk' hs => (hS k (H.x.foot_lt hk') hs).2.1 (H.xown k hk')), H.xap, fun k hk' => (hA k (H.x.foot_lt hk')).trans (H.xown k hk'), H.r.kept hk (fun k hk' hs => (hS k (H.r.foot_lt hk') hs).2.2.1 (H.rown k hk')), H.rap, fun k hk' => (hA k (H.r.foot_lt hk')).trans (H.rown k hk'), part_row H.grow H.gown hk (fun k hk' hs => (hS k hk' hs).2.2.2), part_own H.grow H.gown hA⟩
theorem DInv.rest (I : DInv w0 w Wb own hs ll vd vl) (hk : Kept S w w') (hS : ∀ k, S k → 10 ≤ own k ∧ 4 ≤ (own k - 6) % 8) (hA : ∀ k, k < w.heap.size → own' k = own k) (hO : ∀ k, k < w.heap.size ∨ ¬ w0.F k)
  {hs' : List Office} (hr : RowOf w' 126 1 offCell vd hs') (hh : ∀ i (hi : i < hs'.length), OffMem w' own' (10 + 8 * i) hs'[i]) : DInv w0 w' Wb own' hs' ll vd vl := by
 have hWl := block_lt I.wblk
 refine ⟨I.bel.kept hk (fun k hF hs => I.old k (by have := hS k hs; omega) hF), ?_, ?_, (hA _ hWl).trans I.wown, hr, part_own I.drow I.down hA, ?_, part_own I.lrow I.lown hA, ?_, ?_, I.four, hh, w0.loc _ _ _ _ S I.oth hk (fun k _ hs h => by have := hS k hs; unfold bankCls at h; omega) hA⟩
 ·intro k hk';rcases hO k with h | h
  ·exact I.old k (by rw [← hA k h]; exact hk')
  ·exact h
 ·rw [hk.block _ hWl (fun hs => by have := hS _ hs; rw [I.wown] at this; omega)];exact I.wblk
 ·exact part_row I.lrow I.lown hk (fun k _ hs => by have := hS k hs; omega)
 ·intro i hi;exact ⟨(I.full i hi).1, part_row (I.full i hi).2 (I.fown i hi) hk (fun k _ hs => by have := hS k hs; omega)⟩
 ·intro i hi;exact part_own (I.full i hi).2 (I.fown i hi) hA
theorem DInv.far (I : DInv w0 w Wb own hs ll vd vl) : ∀ k, k < w.heap.size ∨ ¬ w0.F k := fun k => by
 rcases Nat.lt_or_ge k w.heap.size with h | h
 ·exact .inl h
 ·exact .inr (fun hF => by have h1 := w0.lt k hF; have h2 : w0.w.heap.size ≤ w.heap.size := I.bel.size; omega)
theorem DInv.below (I : DInv w0 w Wb own hs ll vd vl) (hb : Below w.heap.size w w') : DInv w0 w' Wb own hs ll vd vl :=
 I.rest (S := fun _ => False) (Kept.of_below hb) (fun _ h => h.elim) (fun _ _ => rfl) I.far (I.drow.below hb) (fun i hi => (I.house i hi).kept (S := fun _ => False) (Kept.of_below hb) (fun _ _ h => h.elim) (fun _ _ => rfl))
theorem orow_set (h : RowOf w 126 1 offCell vd hs) (i : Nat) (hi : i < hs.length) (x : Office) (hx : x.hb = hs[i].hb) : RowOf w 126 1 offCell vd (hs.set i x) := by
 have e : (hs.set i x).flatMap offCell = hs.flatMap offCell := by
  have : ∀ l : List Office, l.flatMap offCell = (l.map Office.hb).map fun b => Value.pointer (some ⟨b, 0, none⟩) := fun l => by
   induction l with
   | nil => rfl
   | cons y r ih => rw [List.flatMap_cons, ih]; rfl
  rw [this, this, List.map_set, hx]
  congr 1
  rw [show hs[i].hb = (hs.map Office.hb)[i]'(by simpa using hi) by simp];exact List.set_getElem_self _
 unfold RowOf
 rw [List.length_set, e]
 exact h
theorem DInv.xstep (I : DInv w0 w Wb own hs ll vd vl) (i : Nat) (hi : i < hs.length) (lv : Value) (ck' : Nat) (ps' : List Xp) (xv' : Value) (hT : XDTo w w' hs[i].xb ck' hs[i].ps ps' hs[i].xv xv') (hf : ∀ g, lv.ownBlock = some g → w.heap.size ≤ g ∧ ¬ xdfoot hs[i].xb ps' xv' g) :
  DInv w0 w' Wb (fun k => if k < w.heap.size then own k else if lv.ownBlock = some k then 4 else 11 + 8 * i) (hs.set i { hs[i] with ck := ck', ps := ps', xv := xv' }) ll vd vl := by
 have H := I.house i hi
 have hA : ∀ k, k < w.heap.size → (fun k => if k < w.heap.size then own k else if lv.ownBlock = some k then 4 else 11 + 8 * i) k = own k := fun k hk => by simp [hk]
 have hSx : ∀ k, (k = hs[i].xb ∨ hs[i].xv.ownBlock = some k) → own k = 11 + 8 * i := fun k hk => by
  have hk' : xdfoot hs[i].xb hs[i].ps hs[i].xv k := hk.imp_right .inl;rw [H.xown k hk']; omega
 have hr := I.rest (S := fun k => k = hs[i].xb ∨ hs[i].xv.ownBlock = some k) hT.kept (fun k hk => by rw [hSx k hk]; omega) hA I.far (hs' := hs.set i { hs[i] with ck := ck', ps := ps', xv := xv' })
 refine hr (orow_set (part_row I.drow I.down hT.kept (fun k _ hk => by rw [hSx k hk]; omega)) i hi _ rfl) ?_
 intro j hj
 rw [List.length_set] at hj
 by_cases e : i = j
 ·subst e;rw [List.getElem_set_self];have h1 := block_lt H.blk;refine ⟨?_, (hA _ h1).trans H.hown, hT.xd, hT.ap, ?_, H.r.kept hT.kept (fun k hk' hx => by have h2 := hSx k hx; rw [H.rown k hk'] at h2; omega), H.rap, fun k hk' => (hA k (H.r.foot_lt hk')).trans (H.rown k hk'), part_row H.grow H.gown hT.kept (fun k _ hk => by rw [hSx k hk]; omega), part_own H.grow H.gown hA⟩
  ·show w'.heap[hs[i].hb]? = _;rw [hT.kept.block _ h1 (fun hx => by have := hSx _ hx; rw [H.hown] at this; omega)];exact H.blk
  ·intro k hk;rcases hT.own k hk with h | h
   ·exact (hA k (H.x.foot_lt h)).trans (H.xown k h)
   ·show (if k < w.heap.size then own k else if lv.ownBlock = some k then 4 else 11 + 8 * i) = 10 + 8 * i + 1;rw [if_neg (by omega), if_neg (fun e => (hf k e).2 hk)];omega
 ·rw [List.getElem_set_ne e];exact (I.house j hj).kept hT.kept (fun k hk hx => by rw [hSx k hx]; omega) hA
theorem DInv.rstep (I : DInv w0 w Wb own hs ll vd vl) (i : Nat) (hi : i < hs.length) (acts' : List Dt) (v' : Value) (hT : RDTo w w' hs[i].rb hs[i].acts acts' hs[i].v v') :
  DInv w0 w' Wb (fun k => if k < w.heap.size then own k else 12 + 8 * i) (hs.set i { hs[i] with acts := acts', v := v' }) ll vd vl := by
 have H := I.house i hi
 have hA : ∀ k, k < w.heap.size → (fun k => if k < w.heap.size then own k else 12 + 8 * i) k = own k := fun k hk => by simp [hk]
 have hSx : ∀ k, (k = hs[i].rb ∨ hs[i].v.ownBlock = some k) → own k = 12 + 8 * i := fun k hk => by
  have hk' : rdfoot hs[i].rb hs[i].acts hs[i].v k := hk.imp_right .inl;rw [H.rown k hk']; omega
 have hr := I.rest (S := fun k => k = hs[i].rb ∨ hs[i].v.ownBlock = some k) hT.kept (fun k hk => by rw [hSx k hk]; omega) hA I.far (hs' := hs.set i { hs[i] with acts := acts', v := v' })
 refine hr (orow_set (part_row I.drow I.down hT.kept (fun k _ hk => by rw [hSx k hk]; omega)) i hi _ rfl) ?_
 intro j hj
 rw [List.length_set] at hj
 by_cases e : i = j
 ·subst e;rw [List.getElem_set_self];have h1 := block_lt H.blk;refine ⟨?_, (hA _ h1).trans H.hown, H.x.kept hT.kept (fun k hk' hx => by have h2 := hSx k hx; rw [H.xown k hk'] at h2; omega), H.xap, fun k hk' => (hA k (H.x.foot_lt hk')).trans (H.xown k hk'), hT.rd, hT.ap, ?_, part_row H.grow H.gown hT.kept (fun k _ hk => by rw [hSx k hk]; omega), part_own H.grow H.gown hA⟩
  ·show w'.heap[hs[i].hb]? = _;rw [hT.kept.block _ h1 (fun hx => by have := hSx _ hx; rw [H.hown] at this; omega)];exact H.blk
  ·intro k hk;rcases hT.own k hk with h | h
   ·exact (hA k (H.r.foot_lt h)).trans (H.rown k h)
   ·show (if k < w.heap.size then own k else 12 + 8 * i) = 10 + 8 * i + 2;rw [if_neg (by omega)];omega
 ·rw [List.getElem_set_ne e];exact (I.house j hj).kept hT.kept (fun k hk hx => by rw [hSx k hx]; omega) hA
theorem DInv.gstep (I : DInv w0 w Wb own hs ll vd vl) (i : Nat) (hi : i < hs.length) (lg' : List (List UInt8 × Nat)) (vg' : Value) (hk : Kept (fun k => k = hs[i].hb ∨ hs[i].vg.ownBlock = some k) w w')
  (hblk : w'.heap[hs[i].hb]? = some (.cells #[.pointer (some ⟨hs[i].xb, 0, none⟩), .pointer (some ⟨hs[i].rb, 0, none⟩), vg'] 158 (0, 0))) (hrow : RowOf w' 209 2 logCell vg' lg') (hown : ∀ g, vg'.ownBlock = some g → hs[i].vg.ownBlock = some g ∨ w.heap.size ≤ g) :
  DInv w0 w' Wb (fun k => if k < w.heap.size then own k else 13 + 8 * i) (hs.set i { hs[i] with lg := lg', vg := vg' }) ll vd vl := by
 have H := I.house i hi
 have hA : ∀ k, k < w.heap.size → (fun k => if k < w.heap.size then own k else 13 + 8 * i) k = own k := fun k hk => by simp [hk]
 have hSx : ∀ k, (k = hs[i].hb ∨ hs[i].vg.ownBlock = some k) → own k = 10 + 8 * i ∨ own k = 13 + 8 * i := by
  rintro k (rfl | h)
  ·exact .inl H.hown
  ·exact .inr (by rw [H.gown k h]; omega)
 have hr := I.rest (S := fun k => k = hs[i].hb ∨ hs[i].vg.ownBlock = some k) hk (fun k hk => by have := hSx k hk; omega) hA I.far (hs' := hs.set i { hs[i] with lg := lg', vg := vg' })
 refine hr (orow_set (part_row I.drow I.down hk (fun k _ hk => by have := hSx k hk; omega)) i hi _ rfl) ?_
 intro j hj
 rw [List.length_set] at hj
 by_cases e : i = j
 ·subst e;rw [List.getElem_set_self];have h1 := block_lt H.blk;refine ⟨hblk, (hA _ h1).trans H.hown, H.x.kept hk (fun k hk' hx => by have h2 := hSx k hx; rw [H.xown k hk'] at h2; omega), H.xap, fun k hk' => (hA k (H.x.foot_lt hk')).trans (H.xown k hk'), H.r.kept hk (fun k hk' hx => by have h2 := hSx k hx; rw [H.rown k hk'] at h2; omega), H.rap, fun k hk' => (hA k (H.r.foot_lt hk')).trans (H.rown k hk'), hrow, ?_⟩;intro g hg;rcases hown g hg with h | h
  ·exact (hA _ (H.grow.lt h)).trans (H.gown g h)
  ·show (if g < w.heap.size then own g else 13 + 8 * i) = 10 + 8 * i + 3;rw [if_neg (by omega)];omega
 ·rw [List.getElem_set_ne e];exact (I.house j hj).kept hk (fun k hk hx => by have := hSx k hx; omega) hA
end
theorem opSize : (Tryz.prog.info? 104).map (·.size) = some 19 := by kernel_rfl
theorem op_range (o : Opr) (w : World) : (w.alloc (.cells o.cells 104)).rangeAt w.heap.size 0 o.cells.toList := by
 intro j v hj
 rw [Nat.zero_add, World.cell?_alloc_new]
 simpa using hj
theorem MemInv.below4 {w0 : Base} {w w' : World} {Wb : Nat} {own : Nat → Nat} {hs : List House} {ll : List (Value × Nat)} {vb vl : Value} (I : MemInv w0 w Wb own hs ll vb vl) (hb : Below w.heap.size w w') : MemInv w0 w' Wb (fun k => if k < w.heap.size then own k else 4) hs ll vb vl :=
 have hA : ∀ k, k < w.heap.size → (fun k => if k < w.heap.size then own k else 4) k = own k := fun k hk => by simp [hk]
 I.rest (S := fun _ => False) (Kept.of_below hb) (fun _ h => h.elim) hA I.far (I.brow.below hb) (fun i hi => (I.house i hi).kept (S := fun _ => False) (Kept.of_below hb) (fun _ _ h => h.elim) hA)
theorem MemInv.apartL {w0 : Base} {w : World} {Wb : Nat} {own : Nat → Nat} {hs : List House} {ll : List (Value × Nat)} {vb vl : Value} (I : MemInv w0 w Wb own hs ll vb vl) {lv : Value} (hf : ∀ g, lv.ownBlock = some g → w.heap.size ≤ g) : ∀ i (hi : i < ll.length), ∀ g, ll[i].1.ownBlock = some g → lv.ownBlock ≠ some g := by
 intro i hi g hg e
 have h1 := (I.full i hi).2.lt hg
 have h2 := hf g e
 omega
theorem MemInv.sep {w0 : Base} {w : World} {Wb : Nat} {own : Nat → Nat} {hs : List House} {ll : List (Value × Nat)} {vb vl : Value} (I : MemInv w0 w Wb own hs ll vb vl) {lv : Value} (hlo : ∀ g, lv.ownBlock = some g → own g = 4) : vl.ownBlock ≠ some Wb ∧ lv.ownBlock ≠ some Wb ∧ ∀ g, lv.ownBlock = some g → vl.ownBlock ≠ some g := by
 refine ⟨fun e => ?_, fun e => ?_, fun g hg e => ?_⟩
 ·have h1 := I.lown _ e; rw [I.wown] at h1; omega
 ·have h1 := hlo _ e; rw [I.wown] at h1; omega
 ·have h1 := I.lown _ e; rw [hlo g hg] at h1; omega
structure MB where
 b : Nat
 ac : List Ac
 ls : List Lg
 va : Value
 vl : Value
structure NM where
 bk : Nat → MB
 db : Nat
 ck : Nat
 ps : List Xp
 xv : Value
 wv : Value
section
variable {w w' : World} {own own' : Nat → Nat} {nb j : Nat} {M : NM} {P : PN} {S : Nat → Prop}
end
theorem wpList_spread_at {P : Program} {ops : Array Oper} {rest : List Oper} {o : Oper} {a : Act} {Q : Exit → Act → World → Prop} {α : Type} {f : α → List Value} {sz : Nat} (hf : ∀ x, (f x).length = sz) (w : World) (hgd : o.guard = none) (s x : Operand) (t : TypeId)
  (ho : o.op = .call { callee := .builtin .append, args := #[s, x], argTypes := #[t, t] }) (e : TypeId) (i : TypeInfo) (z : Value) (bytes : Nat) (ht : P.underlying t = some (.slice e)) (hi : P.info? e = some i) (hz : i.zero = some z)
  (hsize : i.size = sz) (hby : i.bytes = bytes) (hzs : z.cells.size = sz) (hsz : 0 < sz) (v : Value) (ad : Addr) (cap : Nat) (xs ys : List α) (hs : a.eval s = v) (hx : a.eval x = .slice (some ad) ys.length cap) (hrow : RowOf w e sz f v xs) (hc : ∀ j u, (ys.flatMap f)[j]? = some u → w.cell? (ad.add j) = some u)
  (h1 : ∀ y, y ∈ ys → ∀ u ∈ f y, u.oneCell' = true) (h63 : xs.length + ys.length ≤ maxLen) (hbytes : (xs.length + ys.length) * bytes ≤ 140737488355328)
  (h : ∀ v' w', RowOf w' e sz f v' (xs ++ ys) → Kept (fun k => v.ownBlock = some k) w w' → (∀ g, v'.ownBlock = some g → v.ownBlock = some g ∨ w.heap.size ≤ g) → wpList P ops Q rest (a.put o.dst v') w') :
  wpList P ops Q (o :: rest) a w := by
 obtain ⟨v', w', hr, h5, h6, _, h8⟩ := run_append_own_at (P := P) w 0 t o.type e i z sz bytes ht hi hz hsize hby hzs hsz v xs.length (xs.flatMap f) hrow ad ys.length cap (ys.flatMap f) (flat_length hf ys) hc (fun u hu => by
  obtain ⟨y, hy, hu'⟩ := List.mem_flatMap.1 hu
  exact h1 y hy u hu') h63 hbytes (Nat.zero_le _)
 have h2 : RowOf w' e sz f v' (xs ++ ys) := RowOf.to (xs := xs) hf h5 (by simp) (by simp)
 have h4 : ∀ g, v'.ownBlock = some g → v.ownBlock = some g ∨ w.heap.size ≤ g := fun g' hg' => by
  rcases h8 with h8 | h8
  ·exact .inl (by rw [← h8]; exact hg')
  ·right;rw [h8] at hg';injection hg' with hg'
   omega
 refine wpList_plain hgd fun K hK => ?_
 unfold Oper.wp execOp
 simp only [ho, resolve, invoke, builtin, Sem.run_bind, Sem.run_pure, Result.andThen_ok, List.map_toArray, List.map_cons, List.map_nil, hs, hx, hr]
 exact hK _ _ (h v' w' h2 (Kept.of_grown h6) h4)
end Go.Proofs.YtjkhbjgfoopomabGreat
