import Derived.Test.YtjkhbjgfoopomabGreatA8
namespace Go.Proofs.YtjkhbjgfoopomabGreat
open Go.RowKit
set_option maxRecDepth 100000
set_option maxHeartbeats 1000000
set_option linter.unusedVariables false
set_option linter.unusedSimpArgs false
theorem XBTo.drew {w u : World} {B node : Nat} {ac' : List Ac} {ls' : List Lg} {va vl va' vl' : Value} (h : XBTo w u B node ac' ls' va vl va' vl') : XBTo w u.drew B node ac' ls' va vl va' vl' := h.then ((Below.refl _ _).drew)
def Like (u u' : World) : Prop := u'.heap = u.heap ∧ u'.os = u.os ∧ u'.tape = u.tape ∧ u'.output = u.output
theorem Like.below {u u' : World} (h : Like u u') : Below u.heap.size u u' := ⟨h.2.1, h.2.2.1, h.2.2.2, by rw [h.1]; exact Nat.le_refl _, fun k _ => by rw [h.1]⟩
theorem XBTo.like {w u u' : World} {B node : Nat} {ac' : List Ac} {ls' : List Lg} {va vl va' vl' : Value} (h : XBTo w u B node ac' ls' va vl va' vl') (hl : Like u u') : XBTo w u' B node ac' ls' va vl va' vl' := h.then hl.below
theorem XBTo.rowA {w u u' : World} {B node : Nat} {ac1 ac2 : List Ac} {ls : List Lg} {va vl : Value} (h : XBTo w u B node ac1 ls va vl va vl) (hk : Kept (fun k => va.ownBlock = some k) u u') (hrow : RowOf u' 130 2 Ac.cells va ac2) : XBTo w u' B node ac2 ls va vl va vl :=
 ⟨⟨ty_of (by rw [hk.block B h.xb.lt h.ap.a]; exact h.xb.blk), hrow, h.xb.lrow.kept hk (fun g h' e => h.ap.al g e h')⟩, h.kept.trans hk (fun i hi => .inl (.inr (.inl hi))), h.owna, h.ownl, h.ap⟩
theorem XBTo.setA {w u : World} {B node : Nat} {ac1 : List Ac} {ls : List Lg} {vl : Value} {g n cap : Nat} (h : XBTo w u B node ac1 ls (.slice (some ⟨g, 0, none⟩) n cap) vl (.slice (some ⟨g, 0, none⟩) n cap) vl) (k : Nat) (hk : k < ac1.length) (b : Nat) :
  XBTo w (u.setCell ⟨g, k * 2 + 1, none⟩ (.int .u32 (b : Int))) B node (ac1.set k ⟨ac1[k].n, b⟩) ls (.slice (some ⟨g, 0, none⟩) n cap) vl (.slice (some ⟨g, 0, none⟩) n cap) vl :=
 h.rowA ((Kept.of_setCell u ⟨g, k * 2 + 1, none⟩ _).mono (fun i _ e => by simp at e; subst e; rfl)) (h.xb.arow.set Ac.cells_length rfl k 1 hk (by decide) _ _ rfl)
def move1 (p g a : Nat) (x : Ac) : Ac := ⟨x.n, (if x.n = p then x.b - a else x.b) + (if x.n = g then a else 0)⟩
def movedL (p g a : Nat) (ac : List Ac) : List Ac := ac.map (move1 p g a)
def movedTo (p g a k : Nat) (ac : List Ac) : List Ac := movedL p g a (ac.take k) ++ ac.drop k
theorem movedTo_length (p g a k : Nat) (ac : List Ac) : (movedTo p g a k ac).length = ac.length := by
 simp [movedTo, movedL]
 omega
theorem movedTo_get (p g a k : Nat) (ac : List Ac) (h : k < ac.length) : (movedTo p g a k ac)[k]'(by rw [movedTo_length]; exact h) = ac[k] := by
 have hl : (movedL p g a (ac.take k)).length = k := by simp [movedL]; omega
 simp only [movedTo]
 rw [List.getElem_append_right (by omega)]
 simp [hl]
theorem movedTo_succ (p g a k : Nat) (ac : List Ac) (h : k < ac.length) : movedTo p g a (k + 1) ac = (movedTo p g a k ac).set k (move1 p g a ac[k]) := by
 have hl : (movedL p g a (ac.take k)).length = k := by simp [movedL]; omega
 have hd : ac.drop k = ac[k] :: ac.drop (k + 1) := List.drop_eq_getElem_cons h
 unfold movedTo
 rw [List.set_append_right _ _ (by omega), hl, Nat.sub_self, hd, List.set_cons_zero, List.take_succ_eq_append_getElem h]
 simp only [movedL, List.map_append, List.map_cons, List.map_nil, List.append_assoc, List.singleton_append]
theorem movedTo_all (p g a : Nat) (ac : List Ac) : movedTo p g a ac.length ac = movedL p g a ac := by simp [movedTo]
theorem carryOut_any (p g a : Nat) (m : List UInt8) (hp : p < 65536) (hg : g < 65536) (ha : a < 4294967296) (w : World) (B node : Nat) (ac : List Ac) (ls : List Lg) (va vl : Value) (hX : XB w B node ac ls va vl) (hap : Apart B va vl) (hoka : ∀ x, x ∈ ac → x.ok) (hlena : ac.length ≤ 1000000)
  (hout : ∀ x, x ∈ ac → x.n = p → a ≤ x.b) (hin : ∀ x, x ∈ ac → x.n = g → x.b + a < 4294967296) :
  Calls Tryz.prog 169 #[.pointer (some ⟨B, 0, none⟩), .agg #[.int .u16 (p : Int), .int .u16 (g : Int), .int .u32 (a : Int), .string (bs m)]] w fun e w' => e = .returned (.tuple #[]) ∧ XBTo w w' B node (movedL p g a ac) ls va vl va vl := by
 obtain ⟨ad, cap, hv, hev⟩ := hX.arow.form Ac.cells_length
 subst hv
 clear hev
 have hc : ∀ o, _ = _ := fun o => cell_at hX.blk o
 have hBl := hX.lt
 go_enter Tryz.func169, Tryz.ntmps169
 go_wp2
 go_loopw [10] (fun c u => ∃ k : Nat, k ≤ ac.length ∧ c = .int .i64 k ∧ XBTo w u B node (movedTo p g a k ac) ls (.slice ad ac.length cap) vl (.slice ad ac.length cap) vl ∧ u.heap[w.heap.size]? = some (.cells #[.int .u16 (p : Int), .int .u16 (g : Int), .int .u32 (a : Int), .string (bs m)] 149 (0, 0))) (fun c _ => ac.length - (intOf c).toNat)
 case atStart => exact ⟨0, Nat.zero_le _, rfl, XBTo.same hX hap ((Below.refl _ _).alloc (Nat.le_refl _) _), heap_alloc_self _ _⟩
 case round =>
  obtain ⟨k, hk, rfl, hT, hbox⟩ := hrel;clear hc;have hc : ∀ o, _ = _ := fun o => cell_at hT.xb.blk o;have hcb : ∀ o, _ = _ := fun o => cell_at hbox o;have hBu := hT.xb.lt;by_cases hlt : k < ac.length
  ·obtain ⟨ad', cap', hv', hev'⟩ := hT.xb.arow.form Ac.cells_length;obtain ⟨gg, hgg, hcell, hfro⟩ := hev' k (by rw [movedTo_length]; exact hlt);have ead : ad = ad' := by injection hv'
   subst ead;subst hgg;rw [movedTo_get p g a k ac hlt] at hcell;have hgl : gg < w.heap.size := hX.arow.lt rfl;have hgB : gg ≠ B := fun e => hap.a (by rw [e]; rfl);have hs : Hid (movedTo p g a (k + 1) ac = (movedTo p g a k ac).set k (move1 p g a ac[k])) := hide (movedTo_succ p g a k ac hlt);have c0 := hcell 0 (by decide);have c1 := hcell 1 (by decide);have hek := hoka ac[k] (List.getElem_mem hlt);have ho := hout ac[k] (List.getElem_mem hlt);have hi := hin ac[k] (List.getElem_mem hlt);have hne1 : gg ≠ w.heap.size := by omega
   have hne2 : w.heap.size ≠ gg := by omega
   have hgB' : B ≠ gg := fun e => hgB e.symm;have hS1 := hide (fun b => hT.setA k (by rw [movedTo_length]; exact hlt) b);have hS2 := hide (fun b b2 => (hT.setA k (by rw [movedTo_length]; exact hlt) b).setA k (by rw [List.length_set, movedTo_length]; exact hlt) b2);have hgk := movedTo_get p g a k ac hlt;simp only [List.getElem_set_self, List.set_set, hgk] at hS1 hS2;clear hgk;have hself : Hid ((movedTo p g a k ac).set k ⟨ac[k].n, ac[k].b⟩ = movedTo p g a k ac) := hide (by have := movedTo_get p g a k ac hlt; rw [show (⟨ac[k].n, ac[k].b⟩ : Ac) = ac[k] from rfl, ← this, List.set_getElem_self]);clear hcell hev' hv';generalize ac[k] = E at *;obtain ⟨en, eb⟩ := E;obtain ⟨h1, h2⟩ := hek;simp only [Ac.cells, List.getElem?_cons_zero, List.getElem?_cons_succ, Nat.add_zero] at c0 c1 h1 h2 ho hi;by_cases hpp : en = p
   ·have d1 : ((en : Int) == (p : Int)) = true := by simp; omega
    have h3 := ho hpp;by_cases hgq : en = g
    ·have d2 : ((en : Int) == (g : Int)) = true := by simp; omega
     have hq : Hid (movedTo p g a (k + 1) ac = (movedTo p g a k ac).set k ⟨en, eb⟩) := hide (by rw [hs.out]; simp only [move1]; rw [if_pos hpp, if_pos hgq]; rw [show eb - a + a = eb by omega]);have W1 : IntKind.u32.wrap ((eb : Int) - (a : Int)) = ((eb - a : Nat) : Int) := by rw [IntKind.wrap_u32]; omega
     have W2 : IntKind.u32.wrap (((eb - a : Nat) : Int) + (a : Int)) = (eb : Int) := by rw [IntKind.wrap_u32]; omega
     clear hs hpp hgq ho hi;go_wp2;go_quiet (fail)
     go_wp2
     go_region
     go_wp2;go_quiet (fail)
     go_wp2
     go_region
     go_wp2;exact ⟨⟨k + 1, hlt, by go_num, by rw [hq.out]; exact (hS2.out (eb - a) eb).like ⟨rfl, rfl, rfl, rfl⟩, by simp [World.setCell, World.drewN, Array.getElem?_modify, hne1, hbox]⟩, by simp [intOf]; omega⟩
    ·have d2 : ((en : Int) == (g : Int)) = false := by simp; omega
     have hq : Hid (movedTo p g a (k + 1) ac = (movedTo p g a k ac).set k ⟨en, eb - a⟩) := hide (by rw [hs.out]; simp only [move1]; rw [if_pos hpp, if_neg hgq]; rw [Nat.add_zero]);have W1 : IntKind.u32.wrap ((eb : Int) - (a : Int)) = ((eb - a : Nat) : Int) := by rw [IntKind.wrap_u32]; omega
     clear hs hpp hgq ho hi;go_wp2;go_quiet (fail)
     go_wp2
     go_region
     go_wp2;go_quiet (fail)
     go_wp2;exact ⟨⟨k + 1, hlt, by go_num, by rw [hq.out]; exact (hS1.out (eb - a)).like ⟨rfl, rfl, rfl, rfl⟩, by simp [World.setCell, World.drewN, Array.getElem?_modify, hne1, hbox]⟩, by simp [intOf]; omega⟩
   ·have d1 : ((en : Int) == (p : Int)) = false := by simp; omega
    by_cases hgq : en = g
    ·have d2 : ((en : Int) == (g : Int)) = true := by simp; omega
     have hq : Hid (movedTo p g a (k + 1) ac = (movedTo p g a k ac).set k ⟨en, eb + a⟩) := hide (by rw [hs.out]; simp only [move1]; rw [if_neg hpp, if_pos hgq]);have W2 : IntKind.u32.wrap ((eb : Int) + (a : Int)) = ((eb + a : Nat) : Int) := by have := hi hgq; rw [IntKind.wrap_u32]; omega
     clear hs hpp hgq ho hi;go_wp2;go_quiet (fail)
     go_wp2;go_quiet (fail)
     go_wp2
     go_region
     go_wp2;exact ⟨⟨k + 1, hlt, by go_num, by rw [hq.out]; exact (by have h := hS1.out (eb + a); rw [Int.natCast_add] at h; exact h.like ⟨rfl, rfl, rfl, rfl⟩), by simp [World.setCell, World.drewN, Array.getElem?_modify, hne1, hbox]⟩, by simp [intOf]; omega⟩
    ·have d2 : ((en : Int) == (g : Int)) = false := by simp; omega
     have hq : Hid (movedTo p g a (k + 1) ac = (movedTo p g a k ac).set k ⟨en, eb⟩) := hide (by rw [hs.out]; simp only [move1]; rw [if_neg hpp, if_neg hgq]; rw [Nat.add_zero]);clear hs hpp hgq ho hi;go_wp2;go_quiet (fail)
     go_wp2;go_quiet (fail)
     go_wp2;exact ⟨⟨k + 1, hlt, by go_num, by rw [hq.out]; exact (by have e : (movedTo p g a k ac).set k ⟨en, eb⟩ = movedTo p g a k ac := hself.out; rw [e]; exact hT.like ⟨rfl, rfl, rfl, rfl⟩), by simp [World.setCell, World.drewN, Array.getElem?_modify, hne1, hbox]⟩, by simp [intOf]; omega⟩
  ·obtain rfl : k = ac.length := by omega
   rw [movedTo_all] at hT;go_wp2;exact bodyPost_end (results_none rfl _ _ _) rfl ⟨rfl, hT⟩
theorem wrap_nat (n : Nat) (h : n < 1000) : IntKind.i64.wrap (n : Int) = (n : Int) := by rw [IntKind.wrap_i64]; omega
theorem lgInfo : (Tryz.prog.info? 151).map (fun i => (i.zero, i.size, i.bytes)) = some (some (.agg #[.int .u32 0, .int .u8 0, .int .u8 0, .int .u16 0, .int .u16 0, .int .u32 0, .string ByteArray.empty]), 7, 32) := by kernel_rfl
theorem lg_one (e : Lg) : ∀ u ∈ e.cells, u.oneCell' = true := by
 intro u hu
 simp only [Lg.cells, List.mem_cons, List.not_mem_nil, or_false] at hu
 rcases hu with h | h | h | h | h | h | h <;> subst h <;> rfl
theorem XB.growL {w w2 : World} {B node g n cap : Nat} {ac : List Ac} {ls : List Lg} {e : Lg} {va vl : Value} (hX : XB w B node ac ls va vl) (hap : Apart B va vl) (hrow : RowOf w2 151 7 Lg.cells (.slice (some ⟨g, 0, none⟩) n cap) (ls ++ [e]))
  (hk : Kept (fun k => vl.ownBlock = some k) w w2) (hg : vl.ownBlock = some g ∨ w.heap.size ≤ g) : XBTo w (w2.setCell ⟨B, 2, none⟩ (.slice (some ⟨g, 0, none⟩) n cap)) B node ac (ls ++ [e]) va vl va (.slice (some ⟨g, 0, none⟩) n cap) := by
 have hB : w2.heap[B]? = some (.cells #[.int .u8 (node : Int), va, vl] (tyAt w B) (0, 0)) := by rw [hk.block B hX.lt hap.l]; exact hX.blk
 have one : ∀ g', (Value.slice (some ⟨g, 0, none⟩) n cap).ownBlock = some g' → g' = g := fun g' h' => by simpa [Value.ownBlock] using h'.symm
 have hgB : g ≠ B := by
  rcases hg with h | h
  ·intro e; subst e; exact hap.l h
  ·have := hX.lt; omega
 have hga : ∀ g', va.ownBlock = some g' → g' ≠ g := fun g' h' e => by
  subst e;rcases hg with h | h
  ·exact hap.al _ h' h
  ·have := hX.arow.lt h'; omega
 refine ⟨⟨ty_of (heap_set_self hB 2 _), ?_, hrow.kept (Kept.of_setCell _ _ _) ?_⟩, ?_, fun g h => .inl h, ?_, ⟨hap.a, ?_, ?_⟩⟩
 ·refine (hX.arow.kept hk (fun g' h' e => hap.al g' h' e)).kept (Kept.of_setCell _ _ _) (fun g' h' e => hap.a ?_);rw [h', e]
 ·intro g' h'; rw [one g' h']; exact hgB
 ·exact (hk.mono (fun i _ h => .inr (.inr h))).trans (Kept.of_setCell _ _ _) (fun i h => .inl (.inl h))
 ·intro g' h'; rw [one g' h']; exact hg
 ·intro h'; exact hgB (one _ h').symm
 ·intro g' h' h2; exact hga g' h' (one g' h2)
theorem XBTo.rowL {w u u' : World} {B node : Nat} {ac : List Ac} {ls1 ls2 : List Lg} {va vl vl1 : Value} (h : XBTo w u B node ac ls1 va vl va vl1) (hk : Kept (fun k => vl1.ownBlock = some k) u u') (hrow : RowOf u' 151 7 Lg.cells vl1 ls2) : XBTo w u' B node ac ls2 va vl va vl1 :=
 ⟨⟨ty_of (by rw [hk.block B h.xb.lt h.ap.l]; exact h.xb.blk), h.xb.arow.kept hk (fun g h' e => h.ap.al g h' e), hrow⟩, h.kept.trans hk (fun i hi => (h.ownl i hi).imp_left (fun x => .inr (.inr x))), h.owna, h.ownl, h.ap⟩
theorem XBTo.putL {w u : World} {B node : Nat} {ac : List Ac} {ls1 : List Lg} {va vl : Value} {g n cap : Nat} (h : XBTo w u B node ac ls1 va vl va (.slice (some ⟨g, 0, none⟩) n cap)) (k : Nat) (hk : k < ls1.length) (x : Lg) :
  XBTo w (putL u g (k * 7) x.cells) B node ac (ls1.set k x) va vl va (.slice (some ⟨g, 0, none⟩) n cap) :=
 h.rowL ((putL_kept x.cells u g (k * 7)).mono (fun i _ e => by subst e; rfl)) (h.xb.lrow.put Lg.cells_length rfl k hk x)
def aheadB (x y : Lg) : Bool := decide (x.id < y.id ∨ (x.id = y.id ∧ x.l < y.l))
theorem ahead_any (x y : Lg) (hx : x.ok) (hy : y.ok) (w : World) :
  Calls Tryz.prog 170 #[.agg #[.int .u32 (x.id : Int), .int .u8 (x.l : Int), .int .u8 (x.st : Int), .int .u16 (x.p : Int), .int .u16 (x.g : Int), .int .u32 (x.a : Int), .string (bs x.m)], .agg #[.int .u32 (y.id : Int), .int .u8 (y.l : Int), .int .u8 (y.st : Int), .int .u16 (y.p : Int), .int .u16 (y.g : Int), .int .u32 (y.a : Int), .string (bs y.m)]] w fun e w' => e = .returned (.bool (aheadB x y)) ∧ Below w.heap.size w w' := isAhead_any x y hx hy w
def insAt (x : Lg) (k : Nat) (ls : List Lg) : List Lg := ls.take k ++ x :: ls.drop k
theorem insAt_length (x : Lg) (k : Nat) (ls : List Lg) : (insAt x k ls).length = ls.length + 1 := by simp [insAt]; omega
theorem insAt_end (x : Lg) (ls : List Lg) : insAt x ls.length ls = ls ++ [x] := by simp [insAt]
theorem insAt_get (x : Lg) (k : Nat) (ls : List Lg) (hk : k < ls.length) : (insAt x (k + 1) ls)[k]? = some ls[k] := by
 have h : k < (ls.take (k + 1)).length := by simp; omega
 unfold insAt
 rw [List.getElem?_append_left h, List.getElem?_take_of_lt (by omega), List.getElem?_eq_getElem hk]
theorem insAt_self (x : Lg) (k : Nat) (ls : List Lg) (hk : k ≤ ls.length) : (insAt x k ls)[k]'(by rw [insAt_length]; omega) = x := by
 have h4 : (ls.take k).length = k := by simp; omega
 simp only [insAt]
 rw [List.getElem_append_right (by omega)]
 simp [h4]
theorem insAt_step (x : Lg) (k : Nat) (ls : List Lg) (hk : k < ls.length) : insAt x k ls = ((insAt x (k + 1) ls).set (k + 1) ls[k]).set k x := by
 have h1 : (ls.take (k + 1)).length = k + 1 := by simp; omega
 have h2 : ls.drop k = ls[k] :: ls.drop (k + 1) := List.drop_eq_getElem_cons hk
 have h3 : ls.take (k + 1) = ls.take k ++ [ls[k]] := List.take_succ_eq_append_getElem hk
 have h4 : (ls.take k).length = k := by simp; omega
 unfold insAt
 rw [List.set_append_right _ _ (by omega), h1, Nat.sub_self, List.set_cons_zero, h3, List.append_assoc, List.set_append_right _ _ (by omega), h4, Nat.sub_self, h2]
 rfl
theorem keep_any (x : Lg) (hx : x.ok) (w : World) (B node : Nat) (ac : List Ac) (ls : List Lg) (va vl : Value) (hX : XB w B node ac ls va vl) (hap : Apart B va vl) (hok : ∀ y, y ∈ ls → y.ok) (hlen : ls.length < 128) :
  Calls Tryz.prog 168 #[.pointer (some ⟨B, 0, none⟩), .agg #[.int .u32 (x.id : Int), .int .u8 (x.l : Int), .int .u8 (x.st : Int), .int .u16 (x.p : Int), .int .u16 (x.g : Int), .int .u32 (x.a : Int), .string (bs x.m)]] w fun e w' =>
   e = .returned (.int .i64 0) ∧ ∃ k vl', k ≤ ls.length ∧ (∀ q (hq : q < ls.length), k ≤ q → aheadB x ls[q] = true) ∧ (∀ j (hj : j < ls.length), k = j + 1 → aheadB x ls[j] = false) ∧ XBTo w w' B node ac (insAt x k ls) va vl va vl' := by
 have hA := hide (fun (y : Lg) (hy : y.ok) u => ahead_any x y hx hy u)
 obtain ⟨i0, hi, y0, y1, y2⟩ := info_parts lgInfo
 obtain ⟨ad, cap, hv, hev⟩ := hX.lrow.form Lg.cells_length
 subst hv
 clear hev
 have hxk := hide hx
 obtain ⟨xi, xl, xs, xp, xg, xa, xm⟩ := x
 obtain ⟨hx1, hx2, hx3, hx4, hx5, hx6⟩ := hx
 simp only at hx1 hx2 hx3 hx4 hx5 hx6 hA
 have hc : ∀ o, _ = _ := fun o => cell_at hX.blk o
 have hBl := hX.lt
 have d1 : decide ((ls.length : Int) ≥ 128) = false := by simp; omega
 have d2 : decide ((128 : Int) ≤ (ls.length : Int)) = false := by simp; omega
 go_enter Tryz.func168, Tryz.ntmps168
 go_wp2_with fail
 have B1 := Box.mk0 w #[.int .u32 (xi : Int), .int .u8 (xl : Int), .int .u8 (xs : Int), .int .u16 (xp : Int), .int .u16 (xg : Int), .int .u32 (xa : Int), .string (bs xm)] 151
 have hblk1 := heap_alloc_self w (.cells #[.int .u32 (xi : Int), .int .u8 (xl : Int), .int .u8 (xs : Int), .int .u16 (xp : Int), .int .u16 (xg : Int), .int .u32 (xa : Int), .string (bs xm)] 151)
 generalize World.alloc _ _ = w1 at B1 hblk1 ⊢
 have hX1 := hX.below B1.bel
 have hcm := B1.cell
 have hltm := B1.lt
 clear hc
 have hc : ∀ o, _ = _ := fun o => cell_at hX1.blk o
 have hf : ∀ o, _ = _ := fun o => frozen_at hX1.blk o
 have hBl1 := hX1.lt
 have hrow1 := hX1.lrow
 have hneB : w.heap.size ≠ B := by omega
 have hneB' : B ≠ w.heap.size := by omega
 have hown : ∀ k, (Value.slice ad ls.length cap).ownBlock = some k → k < w.heap.size := fun k hk => hX.lrow.lt hk
 have hWb : Below w1.heap.size w1 (w1.alloc (.cells (Lg.cells ⟨xi, xl, xs, xp, xg, xa, xm⟩).toArray 151)).drew := ((Below.refl _ _).alloc (Nat.le_refl _) _).drew
 have hWr := hide (hrow1.below hWb)
 have hWa : Hid ((w1.alloc (.cells (Lg.cells ⟨xi, xl, xs, xp, xg, xa, xm⟩).toArray 151)).drew.heap[w1.heap.size]? = some (.cells (Lg.cells ⟨xi, xl, xs, xp, xg, xa, xm⟩).toArray 151 (0, 0))) := hide (heap_alloc_self w1 _)
 have hWk : Hid (Kept (fun k => (Value.slice ad ls.length cap).ownBlock = some k) w1 (w1.alloc (.cells (Lg.cells ⟨xi, xl, xs, xp, xg, xa, xm⟩).toArray 151)).drew) := hide (Kept.of_below hWb)
 go_region_law (refine step_row Lg.cells_length (by rfl) _ _ 88 (by rfl) 151 i0 _ 32 Tryz.underlying88 hi y0 y1 y2 rfl (by decide) (.slice ad ls.length cap) ls w1.heap.size 1 ⟨xi, xl, xs, xp, xg, xa, xm⟩ (lg_one _) (by unfold maxLen; omega) (by omega) (by first | rfl | simp [Act.eval, Act.put]) (by first | rfl | simp [Act.eval, Act.put]) (by exact hWr.out) (by exact hWa.out) ?_; intro g' cap' w6 hrow2 hk2 hg2 hlt2; replace hk2 := hWk.out.trans hk2 (fun i hi => .inl hi); replace hg2 := hg2.imp_right (fun h => Nat.le_trans hWb.size h); have hblk : w6.heap[B]? = some (.cells #[.int .u8 (node : Int), va, .slice ad ls.length cap] (tyAt w1 B) (0, 0)) := (by rw [hk2.block B hBl1 hap.l]; exact hX1.blk); have hc2 := fun o => cell_at hblk o; have hf2 := fun o => frozen_at hblk o; have hlt6 := Nat.lt_of_lt_of_le B1.lt hk2.size; have X : Hid (RowOf w6 151 7 Lg.cells (.slice (some ⟨g', 0, none⟩) (ls.length + 1) cap') (ls ++ [⟨xi, xl, xs, xp, xg, xa, xm⟩]) ∧ Kept (fun k => (Value.slice ad ls.length cap).ownBlock = some k) w1 w6 ∧ ((Value.slice ad ls.length cap).ownBlock = some g' ∨ w1.heap.size ≤ g')) := hide ⟨hrow2, hk2, hg2⟩; clear hrow2 hk2 hg2 hblk)
 all_goals (
  have hto := (XB.growL hX1 hap X.out.1 X.out.2.1 X.out.2.2)
  have hbox : (w6.setCell ⟨B, 2, none⟩ (.slice (some ⟨g', 0, none⟩) (ls.length + 1) cap')).heap[w.heap.size]? = w1.heap[w.heap.size]? := hto.kept.block _ B1.lt (fun h => by
   rcases h with h | h | h
   ·exact hneB h
   ·have := hX.arow.lt h; omega
   ·have := hown _ h; omega)
  replace hto := XBTo.from B1.bel hto
  have hgw : g' ≠ w.heap.size := by
   rcases X.out.2.2 with h | h
   ·have := hown _ h; omega
   ·have := B1.lt; omega
  clear hcm hWb hWr hWa hWk hc hf hc2 hf2 X;generalize World.setCell _ _ _ = u0 at *;generalize hn1 : ls.length + 1 = n1 at *;have hn2 : n1 ≤ 128 := by omega
  have hn3 : 1 ≤ n1 := by omega
  replace hn1 := hide hn1;have hc : ∀ o, _ = _ := fun o => cell_at hto.xb.blk o;have hbx : u0.heap[w.heap.size]? = some (.cells #[.int .u32 (xi : Int), .int .u8 (xl : Int), .int .u8 (xs : Int), .int .u16 (xp : Int), .int .u16 (xg : Int), .int .u32 (xa : Int), .string (bs xm)] 151 (0, 0)) := by rw [hbox]; exact hblk1
  clear hbox;go_wp2_with fail
  go_loopw [5] (fun c u => ∃ k : Nat, k ≤ ls.length ∧ c = .int .i64 k ∧ (∀ q (hq : q < ls.length), k ≤ q → aheadB ⟨xi, xl, xs, xp, xg, xa, xm⟩ ls[q] = true) ∧ u.heap[w.heap.size]? = some (.cells #[.int .u32 (xi : Int), .int .u8 (xl : Int), .int .u8 (xs : Int), .int .u16 (xp : Int), .int .u16 (xg : Int), .int .u32 (xa : Int), .string (bs xm)] 151 (0, 0)) ∧ XBTo w u B node ac (insAt ⟨xi, xl, xs, xp, xg, xa, xm⟩ k ls) va (.slice ad ls.length cap) va (.slice (some ⟨g', 0, none⟩) n1 cap')) (fun c _ => (intOf c).toNat)
  case atStart => exact ⟨ls.length, Nat.le_refl _, by rw [show ((n1 : Int) - 1) = (ls.length : Int) by have := hn1.out; omega], fun q h1 h2 => by omega, hbx, by rw [insAt_end]; exact hto⟩
  case round =>
   obtain ⟨k, hk, rfl, hah, hbx2, hT⟩ := hrel;clear hc hto hbx;replace hah := hide hah;have hc : ∀ o, _ = _ := fun o => cell_at hT.xb.blk o;have hcb : ∀ o, _ = _ := fun o => cell_at hbx2 o;have hBu := hT.xb.lt;have hbl := block_lt hbx2;cases k with
   | zero =>
    go_wp2;go_quiet (fail)
    go_wp2;go_ret;exact ⟨rfl, 0, _, Nat.zero_le _, hah.out, fun jj hj e => by omega, hT.like ⟨rfl, rfl, rfl, rfl⟩⟩
   | succ j =>
    obtain ⟨adx, capx, hvx, hevx⟩ := hT.xb.lrow.form Lg.cells_length;have hjl : j < ls.length := by omega
    have hgi : j < (insAt ⟨xi, xl, xs, xp, xg, xa, xm⟩ (j + 1) ls).length := by rw [insAt_length]; omega
    obtain ⟨gx, hgx, hcell, hfro⟩ := hevx j hgi;have ead : some ⟨g', 0, none⟩ = adx := by injection hvx
    subst ead;obtain rfl : g' = gx := by injection hgx with h; injection h
    have hge : (insAt ⟨xi, xl, xs, xp, xg, xa, xm⟩ (j + 1) ls)[j] = ls[j] := by
     have h := insAt_get ⟨xi, xl, xs, xp, xg, xa, xm⟩ j ls hjl;rw [List.getElem?_eq_getElem hgi] at h;injection h
    rw [hge] at hcell;have hst : Hid (insAt ⟨xi, xl, xs, xp, xg, xa, xm⟩ j ls = ((insAt ⟨xi, xl, xs, xp, xg, xa, xm⟩ (j + 1) ls).set (j + 1) ls[j]).set j ⟨xi, xl, xs, xp, xg, xa, xm⟩) := hide (insAt_step ⟨xi, xl, xs, xp, xg, xa, xm⟩ j ls hjl);have hen := hok ls[j] (List.getElem_mem hjl);have hAj := hide (hA.out ls[j] hen);have hstop : Hid (aheadB ⟨xi, xl, xs, xp, xg, xa, xm⟩ ls[j] = false → ∀ jj (hj : jj < ls.length), j + 1 = jj + 1 → aheadB ⟨xi, xl, xs, xp, xg, xa, xm⟩ ls[jj] = false) := hide (fun h jj hj e => by obtain rfl : j = jj := (by omega); exact h)
    have hgo : Hid (aheadB ⟨xi, xl, xs, xp, xg, xa, xm⟩ ls[j] = true → ∀ q (hq : q < ls.length), j ≤ q → aheadB ⟨xi, xl, xs, xp, xg, xa, xm⟩ ls[q] = true) := hide (fun h q hq hjq => by
     by_cases e : q = j
     ·subst e; exact h
     ·exact hah.out q hq (by omega))
    have hgB : g' ≠ B := fun e => hT.ap.l (by rw [e]; rfl);have hgu : g' < wr.heap.size := hT.xb.lrow.lt rfl;clear hvx hevx hgx;have e0 := hcell 0 (by decide);have e1 := hcell 1 (by decide);have e2 := hcell 2 (by decide);have e3 := hcell 3 (by decide);have e4 := hcell 4 (by decide);have e5 := hcell 5 (by decide);have e6 := hcell 6 (by decide);clear hcell;generalize hE : ls[j] = E at *;obtain ⟨ei, el, es, ep, eg, ea, em⟩ := E;obtain ⟨q1, q2, q3, q4, q5, q6⟩ := hen;simp only [Lg.cells, List.getElem?_cons_zero, List.getElem?_cons_succ, Nat.add_zero] at e0 e1 e2 e3 e4 e5 e6 q1 q2 q3 q4 q5 q6;simp only at hAj;generalize aheadB ⟨xi, xl, xs, xp, xg, xa, xm⟩ ⟨ei, el, es, ep, eg, ea, em⟩ = ab at *;have hW6 := wrap_nat j (by omega);have hj0 : (0 : Int) ≤ (j : Int) := by omega
    have hj1 : (j : Int) < (n1 : Int) := by have := hn1.out; omega
    have hj2 : (j : Int) + 1 < (n1 : Int) := by have := hn1.out; omega
    have hpos : decide ((0 : Int) < (j : Int) + 1) = true := decide_eq_true (by omega);have hpos2 : decide ((j : Int) + 1 > 0) = true := decide_eq_true (by omega);have hS0 : ((∀ o, wr.drew.cell? ⟨w.heap.size, o, none⟩ = (#[Value.int .u32 (xi : Int), .int .u8 (xl : Int), .int .u8 (xs : Int), .int .u16 (xp : Int), .int .u16 (xg : Int), .int .u32 (xa : Int), .string (bs xm)] : Array Value)[o]?) ∧ (∀ o, wr.drew.cell? ⟨B, o, none⟩ = (#[.int .u8 (node : Int), va, .slice (some ⟨g', 0, none⟩) n1 cap'] : Array Value)[o]?) ∧ wr.drew.cell? ⟨g', j * 7, none⟩ = some (.int .u32 (ei : Int)) ∧ wr.drew.cell? ⟨g', j * 7 + 1, none⟩ = some (.int .u8 (el : Int)) ∧ wr.drew.cell? ⟨g', j * 7 + 2, none⟩ = some (.int .u8 (es : Int)) ∧ wr.drew.cell? ⟨g', j * 7 + 3, none⟩ = some (.int .u16 (ep : Int)) ∧ wr.drew.cell? ⟨g', j * 7 + 4, none⟩ = some (.int .u16 (eg : Int)) ∧ wr.drew.cell? ⟨g', j * 7 + 5, none⟩ = some (.int .u32 (ea : Int)) ∧ wr.drew.cell? ⟨g', j * 7 + 6, none⟩ = some (.string (bs em))) ∧ Below wr.heap.size wr wr.drew := ⟨⟨hcb, hc, e0, e1, e2, e3, e4, e5, e6⟩, (Below.refl _ _).drew⟩
    have hkeep : Hid (∀ u u' : World, (((∀ o, u.cell? ⟨w.heap.size, o, none⟩ = (#[Value.int .u32 (xi : Int), .int .u8 (xl : Int), .int .u8 (xs : Int), .int .u16 (xp : Int), .int .u16 (xg : Int), .int .u32 (xa : Int), .string (bs xm)] : Array Value)[o]?) ∧ (∀ o, u.cell? ⟨B, o, none⟩ = (#[.int .u8 (node : Int), va, .slice (some ⟨g', 0, none⟩) n1 cap'] : Array Value)[o]?) ∧ u.cell? ⟨g', j * 7, none⟩ = some (.int .u32 (ei : Int)) ∧ u.cell? ⟨g', j * 7 + 1, none⟩ = some (.int .u8 (el : Int)) ∧ u.cell? ⟨g', j * 7 + 2, none⟩ = some (.int .u8 (es : Int)) ∧ u.cell? ⟨g', j * 7 + 3, none⟩ = some (.int .u16 (ep : Int)) ∧ u.cell? ⟨g', j * 7 + 4, none⟩ = some (.int .u16 (eg : Int)) ∧ u.cell? ⟨g', j * 7 + 5, none⟩ = some (.int .u32 (ea : Int)) ∧ u.cell? ⟨g', j * 7 + 6, none⟩ = some (.string (bs em))) ∧ Below wr.heap.size wr u) → Below u.heap.size u u' → ((∀ o, u'.cell? ⟨w.heap.size, o, none⟩ = (#[Value.int .u32 (xi : Int), .int .u8 (xl : Int), .int .u8 (xs : Int), .int .u16 (xp : Int), .int .u16 (xg : Int), .int .u32 (xa : Int), .string (bs xm)] : Array Value)[o]?) ∧ (∀ o, u'.cell? ⟨B, o, none⟩ = (#[.int .u8 (node : Int), va, .slice (some ⟨g', 0, none⟩) n1 cap'] : Array Value)[o]?) ∧ u'.cell? ⟨g', j * 7, none⟩ = some (.int .u32 (ei : Int)) ∧ u'.cell? ⟨g', j * 7 + 1, none⟩ = some (.int .u8 (el : Int)) ∧ u'.cell? ⟨g', j * 7 + 2, none⟩ = some (.int .u8 (es : Int)) ∧ u'.cell? ⟨g', j * 7 + 3, none⟩ = some (.int .u16 (ep : Int)) ∧ u'.cell? ⟨g', j * 7 + 4, none⟩ = some (.int .u16 (eg : Int)) ∧ u'.cell? ⟨g', j * 7 + 5, none⟩ = some (.int .u32 (ea : Int)) ∧ u'.cell? ⟨g', j * 7 + 6, none⟩ = some (.string (bs em))) ∧ Below wr.heap.size wr u') := hide (fun u u' h hb => by
     obtain ⟨⟨h1, h2, h3, h4, h5, h6, h7, h8, h9⟩, hbb⟩ := h;have s1 : w.heap.size < u.heap.size := Nat.lt_of_lt_of_le hbl hbb.size;have s2 : B < u.heap.size := Nat.lt_of_lt_of_le hBu hbb.size;have s3 : g' < u.heap.size := Nat.lt_of_lt_of_le hgu hbb.size
     exact ⟨⟨fun o => by rw [hb.cell (p := ⟨w.heap.size, o, none⟩) s1]; exact h1 o, fun o => by rw [hb.cell (p := ⟨B, o, none⟩) s2]; exact h2 o, by rw [hb.cell s3]; exact h3, by rw [hb.cell s3]; exact h4, by rw [hb.cell s3]; exact h5, by rw [hb.cell s3]; exact h6, by rw [hb.cell s3]; exact h7, by rw [hb.cell s3]; exact h8, by rw [hb.cell s3]; exact h9⟩, hbb.trans (hb.mono hbb.size)⟩)
    replace hS0 := hide hS0;go_wp2_with fail
    go_region_held3 (fun u => ((∀ o, u.cell? ⟨w.heap.size, o, none⟩ = (#[Value.int .u32 (xi : Int), .int .u8 (xl : Int), .int .u8 (xs : Int), .int .u16 (xp : Int), .int .u16 (xg : Int), .int .u32 (xa : Int), .string (bs xm)] : Array Value)[o]?) ∧ (∀ o, u.cell? ⟨B, o, none⟩ = (#[.int .u8 (node : Int), va, .slice (some ⟨g', 0, none⟩) n1 cap'] : Array Value)[o]?) ∧ u.cell? ⟨g', j * 7, none⟩ = some (.int .u32 (ei : Int)) ∧ u.cell? ⟨g', j * 7 + 1, none⟩ = some (.int .u8 (el : Int)) ∧ u.cell? ⟨g', j * 7 + 2, none⟩ = some (.int .u8 (es : Int)) ∧ u.cell? ⟨g', j * 7 + 3, none⟩ = some (.int .u16 (ep : Int)) ∧ u.cell? ⟨g', j * 7 + 4, none⟩ = some (.int .u16 (eg : Int)) ∧ u.cell? ⟨g', j * 7 + 5, none⟩ = some (.int .u32 (ea : Int)) ∧ u.cell? ⟨g', j * 7 + 6, none⟩ = some (.string (bs em))) ∧ Below wr.heap.size wr u)
     (first
      | with_reducible exact hS0.out
      | with_reducible exact hkeep.out _ _ (by assumption) hb9)
     (first
      | (go_at_call 170; refine (hAj.out _).mono ?_; rintro e u2 ⟨rfl, hb9⟩))
    have hT2 := hT.then (undrew hb9);have hbx3 : u2.heap[w.heap.size]? = _ := (undrew hb9).block _ hbl;rw [hbx2] at hbx3;clear hkeep hS0 hAj hcb hc e0 e1 e2 e3 e4 e5 e6 hfro;cases ab with
    | false =>
     go_wp2;go_ret
     first
      | exact ⟨rfl, j + 1, hk, hah.out, hstop.out trivial, _, hT2⟩
      | exact ⟨rfl, j + 1, _, hk, hah.out, hstop.out rfl, hT2⟩
    | true =>
     obtain ⟨adx, capx, hvx, hevx⟩ := hT2.xb.lrow.form Lg.cells_length;obtain ⟨gx, hgx, hcell, hfro⟩ := hevx j hgi;have hgi2 : j + 1 < (insAt ⟨xi, xl, xs, xp, xg, xa, xm⟩ (j + 1) ls).length := by rw [insAt_length]; omega
     obtain ⟨gy, hgy, hcell2, _⟩ := hevx (j + 1) hgi2;have ead : some ⟨g', 0, none⟩ = adx := by injection hvx
     subst ead;obtain rfl : g' = gx := by injection hgx with h; injection h
     obtain rfl : g' = gy := by injection hgy with h; injection h
     rw [hge] at hcell;rw [insAt_self _ _ _ hk] at hcell2;have e0 := hcell 0 (by decide);have e1 := hcell 1 (by decide);have e2 := hcell 2 (by decide);have e3 := hcell 3 (by decide);have e4 := hcell 4 (by decide);have e5 := hcell 5 (by decide);have e6 := hcell 6 (by decide);have f0 := hcell2 0 (by decide);have f1 := hcell2 1 (by decide);have f2 := hcell2 2 (by decide);have f3 := hcell2 3 (by decide);have f4 := hcell2 4 (by decide);have f5 := hcell2 5 (by decide);have f6 := hcell2 6 (by decide);have hput := hide ((hT2.putL (j + 1) hgi2 ⟨ei, el, es, ep, eg, ea, em⟩).putL j (by rw [List.length_set]; exact hgi) ⟨xi, xl, xs, xp, xg, xa, xm⟩);have hc2 : ∀ o, _ = _ := fun o => cell_at hT2.xb.blk o;have hcb2 : ∀ o, _ = _ := fun o => cell_at hbx3 o;have hj3 : (j : Int) + 1 < (n1 : Int) := hj2;have hgB2 : B ≠ g' := fun e => hgB e.symm;have hgw2 : w.heap.size ≠ g' := fun e => hgw e.symm;clear hcell hcell2 hvx hevx hgx hgy;simp only [Lg.cells, List.getElem?_cons_zero, List.getElem?_cons_succ, Nat.add_zero] at e0 e1 e2 e3 e4 e5 e6 f0 f1 f2 f3 f4 f5 f6
     have hbx4 : (putL (putL u2 g' ((j + 1) * 7) (Lg.cells ⟨ei, el, es, ep, eg, ea, em⟩)) g' (j * 7) (Lg.cells ⟨xi, xl, xs, xp, xg, xa, xm⟩)).heap[w.heap.size]? = u2.heap[w.heap.size]? := by
      have k1 := putL_kept (Lg.cells ⟨ei, el, es, ep, eg, ea, em⟩) u2 g' ((j + 1) * 7);have k2 := putL_kept (Lg.cells ⟨xi, xl, xs, xp, xg, xa, xm⟩) (putL u2 g' ((j + 1) * 7) (Lg.cells ⟨ei, el, es, ep, eg, ea, em⟩)) g' (j * 7);rw [k2.block _ (Nat.lt_of_lt_of_le (block_lt hbx3) k1.size) (fun e => hgw e.symm), k1.block _ (block_lt hbx3) (fun e => hgw e.symm)]
     rw [hbx3] at hbx4;simp only [putL, Lg.cells, Nat.add_assoc, Nat.reduceAdd] at hbx4;replace hbx4 := hide hbx4;go_wp2
     go_region
     go_wp2
     go_region
     go_wp2;refine ⟨⟨j, by omega, rfl, ?_, ?_, ?_⟩, by simp [intOf]⟩
     ·first | exact hgo.out trivial | exact hgo.out rfl
     ·have hb5 := hbx4.out;generalize World.setCell _ _ _ = z at hb5 ⊢;exact hb5
     ·rw [hst.out];have hp := hput.out;simp only [putL, Lg.cells, Nat.add_assoc, Nat.reduceAdd] at hp
      exact hp.drew.drew)
end Go.Proofs.YtjkhbjgfoopomabGreat
