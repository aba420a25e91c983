import Derived.Test.YtjkhbjgfoopomabGreatA7
namespace Go.Proofs.YtjkhbjgfoopomabGreat
open Go.RowKit
set_option linter.unusedVariables false
set_option maxRecDepth 100000
set_option maxHeartbeats 2000000
set_option linter.unusedSimpArgs false
theorem stopLd {P : Program} {ops : Array Oper} {rest : List Oper} {a : Act} {w : World} {Q : Exit → Act → World → Prop} {d : Option Tmp} {ty : TypeId} {p : String} {af : Array Edge} {gd : Option (Nat × Bool)} {x : Operand} (T : TypeId) (h : Hid (wpList P ops Q ({ dst := d, op := Op.load T x, type := ty, pos := p, after := af, guard := gd } :: rest) a w)) : wpList P ops Q ({ dst := d, op := Op.load T x, type := ty, pos := p, after := af, guard := gd } :: rest) a w := h
theorem stopSt {P : Program} {ops : Array Oper} {rest : List Oper} {a : Act} {w : World} {Q : Exit → Act → World → Prop} {d : Option Tmp} {ty : TypeId} {p : String} {af : Array Edge} {gd : Option (Nat × Bool)} {x y : Operand} (T : TypeId) (h : Hid (wpList P ops Q ({ dst := d, op := Op.store T x y, type := ty, pos := p, after := af, guard := gd } :: rest) a w)) : wpList P ops Q ({ dst := d, op := Op.store T x y, type := ty, pos := p, after := af, guard := gd } :: rest) a w := h
theorem longPut (b : Nat) : ∀ (vs : List Value) (o : Nat) (w : World), w.setCells b o vs = putL w b o vs
 | [], _, _ => rfl
 | v :: r, o, w => longPut b r (o + 1) (w.setCell ⟨b, o, none⟩ v)
theorem longThere (w : World) (Z : Array Value) (T : TypeId) (n : Nat) (h : n ≤ Z.size) : (w.alloc (.cells Z T)).there w.heap.size 0 n := by
 intro j hj
 rw [Nat.zero_add, World.cell?_alloc_new]
 exact ⟨by rw [Array.getElem?_eq_getElem (by omega)]; rfl, by simp⟩
theorem longBox {w U : World} {Z : Array Value} {T : TypeId} {cs : List Value} (hU : (w.alloc (.cells Z T)).setCells w.heap.size 0 cs = U) (hz : Z.size = cs.length) : U.heap[w.heap.size]? = some (.cells cs.toArray T (0, 0)) ∧ Below w.heap.size w U := by
 subst hU
 rw [longPut]
 refine ⟨putL_whole cs (heap_alloc_self _ _) hz, ((Below.refl _ _).alloc (Nat.le_refl _) _).trans ((putL_kept cs _ _ _).below (by simp) (fun k e => by omega))⟩
theorem longAt {P : Program} {ops : Array Oper} {rest : List Oper} {op : Oper} {a : Act} {w : World} {Q : Exit → Act → World → Prop} (hgd : op.guard = none) (ty : TypeId) (x : Operand) (ho : op.op = .load ty x)
  (ad : Addr) (hx : a.eval x = .pointer (some ad)) (cs : List Value) (fs : Array Field) (hc : ∀ j v, cs[j]? = some v → w.cell? (ad.add j) = some v) (hu : P.underlying ty = some (.struct fs)) (hi : (P.info? ty).map (·.size) = some cs.length)
  (h : wpList P ops Q rest (a.put op.dst (.agg cs.toArray)) w) : wpList P ops Q (op :: rest) a w := by
 have hl : (loadCells ad cs.length).run P w = .ok cs.toArray w := run_loadCells_list (P := P) w ad cs hc
 have hv : (loadVar ty ad).run P w = .ok (.agg cs.toArray) w := by
  cases hq : P.info? ty with
  | none => simp [hq] at hi
  | some i =>
   have hs : i.size = cs.length := by simpa [hq] using hi
   have hagg : (isAgg ty).run P w = .ok true w := by
    unfold isAgg;rw [Sem.run_bind, run_underlying hu w];simp
   simp [loadVar, Sem.run_bind, hagg, sizeOf, typeInfo, hq, hs, hl]
 refine wpList_plain hgd fun K hK => ?_
 unfold Oper.wp execOp
 simp only [ho, hx, Instr.loadAt, Instr.sureAddr, Sem.run_bind, Sem.run_pure, Result.andThen_ok, hv]
 exact hK _ _ h
theorem RowOf.range {α : Type} {f : α → List Value} {sz : Nat} (hf : ∀ x, (f x).length = sz) {w : World} {e : TypeId} {g n cap : Nat} {xs : List α} (h : RowOf w e sz f (.slice (some ⟨g, 0, none⟩) n cap) xs) (k : Nat) (hk : k < xs.length) : w.rangeAt g (k * sz) (f xs[k]) := by
 obtain ⟨ad, cap', hv, hev⟩ := h.form hf
 obtain ⟨g', hg, hcell, _⟩ := hev k hk
 subst hg
 have : g' = g := by injection hv with h1; injection h1 with h1; injection h1 with h1; exact h1.symm
 subst this
 intro j v hj
 have hjl := (List.getElem?_eq_some_iff.1 hj).1
 rw [hf] at hjl
 rw [hcell j hjl]
 exact hj
def plErr (l : Pl) : Nat := if l.b < 1 ∨ 7 < l.b then 4 else if l.a < 1 then 6 else 0
def legsErr : List Pl → Nat
 | [] => 0
 | l :: r => if plErr l = 0 then legsErr r else plErr l
theorem legsErr_append (a b : List Pl) : legsErr (a ++ b) = if legsErr a = 0 then legsErr b else legsErr a := by
 induction a with
 | nil => simp [legsErr]
 | cons l r ih =>
  simp only [List.cons_append, legsErr];by_cases h : plErr l = 0
  ·simp [h, ih]
  ·simp [h]
def wrongOf (p : Pm) : Nat := if p.legs.length = 0 ∨ 4 < p.legs.length then 5 else if legsErr p.legs = 0 then (if memoB p.memo then 0 else 7) else legsErr p.legs
theorem legsErr_at {l : List Pl} {k : Nat} (hk : k < l.length) (h0 : legsErr (l.take k) = 0) (h1 : plErr l[k] ≠ 0) : legsErr l = plErr l[k] := by
 have e : l = l.take k ++ (l[k] :: l.drop (k + 1)) := by
  rw [List.getElem_cons_drop hk, List.take_append_drop]
 have e2 := legsErr_append (l.take k) (l[k] :: l.drop (k + 1))
 rw [← e, h0] at e2
 rw [e2]
 simp [legsErr, h1]
theorem legsErr_next {l : List Pl} {k : Nat} (hk : k < l.length) (h0 : legsErr (l.take k) = 0) (h1 : plErr l[k] = 0) : legsErr (l.take (k + 1)) = 0 := by
 rw [take_snoc_dt l k hk, legsErr_append, h0]
 simp [legsErr, h1]
theorem wrong_any (p : Pm) (hp : p.ok) (hm : p.memo.length ≤ 140737488351232) (hll : p.legs.length ≤ 11728124029269) (w : World) (hR : LegsAt w p.la p.legs) :
  Calls Tryz.prog 148 #[p.v] w fun e w' => e = .returned (.int .i64 (wrongOf p : Int)) ∧ Below w.heap.size w w' := by
 obtain ⟨pi, pd, pm, pl, pa, pc⟩ := p
 obtain ⟨hpi, hpd, hpl⟩ := hp
 simp only [Pm.v, Pm.lv] at *
 have hms : (bs pm).size ≤ 140737488351232 := by simpa [bs_size] using hm
 go_enter Tryz.func148, Tryz.ntmps148
 by_cases hz : pl.length = 0
 ·have hq : Hid (wrongOf ⟨pi, pd, pm, pl, pa, pc⟩ = 5) := hide (by simp [wrongOf, hz]);have dz : ((pl.length : Int) == 0) = true := by simp [hz]
  go_wp2;go_ret;refine ⟨by rw [hq.out]; rfl, ?_⟩;exact (Below.refl _ _).alloc (Nat.le_refl _) _
 by_cases h4 : 4 < pl.length
 ·have hq : Hid (wrongOf ⟨pi, pd, pm, pl, pa, pc⟩ = 5) := hide (by simp [wrongOf, h4]);have dz : ((pl.length : Int) == 0) = false := by simp [hz]
  have dz4 : decide ((pl.length : Int) > 4) = true := by simp; omega
  go_wp2;go_ret;refine ⟨by rw [hq.out]; rfl, ?_⟩;exact (Below.refl _ _).alloc (Nat.le_refl _) _
 have dz : ((pl.length : Int) == 0) = false := by simp [hz]
 have dz4 : decide ((pl.length : Int) > 4) = false := by simp; omega
 have hw : Hid (wrongOf ⟨pi, pd, pm, pl, pa, pc⟩ = if legsErr pl = 0 then (if memoB pm then 0 else 7) else legsErr pl) := hide (by simp [wrongOf, hz, h4])
 go_wp2
 go_loopw [3] (fun c u => ∃ k : Nat, k ≤ pl.length ∧ c = .int .i64 k ∧ legsErr (pl.take k) = 0 ∧ u = w.alloc (.cells #[.int .u32 (pi : Int), .int .u64 (pd : Int), .string (bs pm), .slice pa pl.length pc] 69)) (fun c _ => pl.length - (intOf c).toNat)
 case atStart => exact ⟨0, Nat.zero_le _, rfl, rfl, rfl⟩
 case round =>
  obtain ⟨k, hk, rfl, he, rfl⟩ := hrel;have hb : Hid (Below w.heap.size w (w.alloc (.cells #[.int .u32 (pi : Int), .int .u64 (pd : Int), .string (bs pm), .slice pa pl.length pc] 69))) := hide ((Below.refl _ _).alloc (Nat.le_refl _) _);by_cases hlt : k < pl.length
  ·obtain ⟨ga, hg, hgl, hcell⟩ := (hR.below hb.out) k hlt;subst hg;have c0 := hcell 0 _ rfl;rw [show (ga.add (k * 4)).add 0 = ga.add (k * 4) from rfl] at c0;have c3 : World.cell? _ ⟨(ga.add (k * 4)).block, (ga.add (k * 4)).off + 3, none⟩ = _ := hcell 3 _ rfl;have hek := hpl pl[k] (List.getElem_mem hlt);have hat := hide (legsErr_at hlt he);have hnx := hide (legsErr_next hlt he);clear hcell hpl hR;generalize pl[k] = E at *;obtain ⟨lb, lp, lg, la⟩ := E;obtain ⟨hlb, hlp, hlg, hla⟩ := hek;simp only at c0 c3;simp only at hlb hlp hlg hla;by_cases h1 : lb < 1
   ·have d1 : decide ((lb : Int) < 1) = true := by simp; omega
    have hq : Hid (wrongOf ⟨pi, pd, pm, pl, some ga, pc⟩ = 4) := hide (by
     have e : plErr ⟨lb, lp, lg, la⟩ = 4 := by simp [plErr, h1]
     rw [hw.out, hat.out (by rw [e]; decide), e]; rfl)
    clear hat hnx hw h1;go_wp2;go_ret;exact ⟨by rw [hq.out]; rfl, hb.out⟩
   by_cases h7 : 7 < lb
   ·have d1 : decide ((lb : Int) < 1) = false := by simp; omega
    have d7 : decide ((lb : Int) > 7) = true := by simp; omega
    have hq : Hid (wrongOf ⟨pi, pd, pm, pl, some ga, pc⟩ = 4) := hide (by
     have e : plErr ⟨lb, lp, lg, la⟩ = 4 := by simp [plErr, h7]
     rw [hw.out, hat.out (by rw [e]; decide), e]; rfl)
    clear hat hnx hw h1 h7;go_wp2;go_ret;exact ⟨by rw [hq.out]; rfl, hb.out⟩
   have d1 : decide ((lb : Int) < 1) = false := by simp; omega
   have d7 : decide ((lb : Int) > 7) = false := by simp; omega
   by_cases ha : la < 1
   ·have da : decide ((la : Int) < 1) = true := by simp; omega
    have hq : Hid (wrongOf ⟨pi, pd, pm, pl, some ga, pc⟩ = 6) := hide (by
     have e : plErr ⟨lb, lp, lg, la⟩ = 6 := by simp only [plErr, if_neg (show ¬ (lb < 1 ∨ 7 < lb) by omega), if_pos ha]
     rw [hw.out, hat.out (by rw [e]; decide), e]; rfl)
    clear hat hnx hw h1 h7 ha;go_wp2;go_ret;exact ⟨by rw [hq.out]; rfl, hb.out⟩
   ·have da : decide ((la : Int) < 1) = false := by simp; omega
    have hq := hide (hnx.out (by simp only [plErr, if_neg (show ¬ (lb < 1 ∨ 7 < lb) by omega), if_neg ha]));clear hat hnx hw h1 h7 ha;go_wp2;exact ⟨⟨k + 1, hlt, by go_num, hq.out, trivial⟩, by simp [intOf]; omega⟩
  ·obtain rfl : k = pl.length := by omega
   rw [List.take_length] at he;have hq : Hid (wrongOf ⟨pi, pd, pm, pl, pa, pc⟩ = if memoB pm then 0 else 7) := hide (by rw [hw.out]; simp [he]);have hmd := hide (bs_data pm);clear hw he;go_wp2_with fail
   refine (refMemo_any (bs pm) hms _).mono ?_;rintro e w1 ⟨rfl, rfl⟩;rw [hmd.out];cases hbb : memoB pm with
   | true =>
    rw [hbb] at hq;clear hbb;go_wp2;go_ret;exact ⟨by rw [hq.out]; rfl, hb.out⟩
   | false =>
    rw [hbb] at hq;clear hbb;go_wp2;go_ret;exact ⟨by rw [hq.out]; rfl, hb.out⟩
def askMsg (p : Pm) (x : Pl) (leg kind : Nat) : Msg := if kind = 1 then ⟨1, 0, x.b, p.id, leg, x.p, x.g, x.a, p.memo⟩ else ⟨kind, 0, x.b, p.id, leg, 0, 0, 0, []⟩
def askOf (p : Pm) (x : Pl) (leg kind : Nat) : List UInt8 := encOf (askMsg p x leg kind)
theorem askMsg_ok {p : Pm} {x : Pl} {leg kind : Nat} (hp : p.ok) (hx : x.ok) (hl : leg < 256) (hk : kind < 256) : (askMsg p x leg kind).ok := by
 unfold askMsg
 split
 ·exact ⟨by show (1 : Nat) < 256; omega, by show (0 : Nat) < 256; omega, hx.1, hp.1, hl, hx.2.1, hx.2.2.1, hx.2.2.2⟩
 ·exact ⟨hk, by show (0 : Nat) < 256; omega, hx.1, hp.1, hl, by show (0 : Nat) < 65536; omega, by show (0 : Nat) < 65536; omega, by show (0 : Nat) < 4294967296; omega⟩
theorem ask_any (p : Pm) (hp : p.ok) (hm : p.memo.length ≤ 140737488351232) (leg kind : Nat) (hk : kind < 256) (w : World) (hR : RowOf w 67 4 Pl.cells p.lv p.legs) (hl : leg < p.legs.length) (hl4 : p.legs.length ≤ 4) :
  Calls Tryz.prog 127 #[p.v, .int .i64 (leg : Int), .int .i64 (kind : Int)] w fun e w' => e = .returned (.string (bs (askOf p p.legs[leg] leg kind))) ∧ Below w.heap.size w w' := by
 have hE := hide (fun u => refEncode_any (askMsg p p.legs[leg] leg kind) (askMsg_ok hp (hp.2.2 _ (List.getElem_mem hl)) (by omega) hk) (by unfold askMsg; split; exact hm; exact Nat.zero_le _) u)
 have hox := hp.2.2 _ (List.getElem_mem hl)
 have hgo : Hid (bs (askOf p p.legs[leg] leg kind) = bs (encOf (askMsg p p.legs[leg] leg kind))) := hide rfl
 obtain ⟨pi, pd, pm, pl, pa, pc⟩ := p
 obtain ⟨hpi, hpd, hpl⟩ := hp
 simp only [Pm.v, Pm.lv] at *
 obtain ⟨ad, cap, hv, hev⟩ := hR.form Pl.cells_length
 obtain ⟨g, hg, hcell, _⟩ := hev leg hl
 have ead : pa = ad := by injection hv
 subst ead
 subst hg
 have hgl : g < w.heap.size := hR.lt rfl
 have c0 := hcell 0 (by decide)
 have c1 := hcell 1 (by decide)
 have c2 := hcell 2 (by decide)
 have c3 := hcell 3 (by decide)
 clear hcell hev hv hpl hR
 generalize pl[leg] = E at *
 obtain ⟨lb, lp, lg, la⟩ := E
 obtain ⟨hlb, hlp, hlg, hla⟩ := hox
 simp only [Pl.cells, List.getElem?_cons_zero, List.getElem?_cons_succ, Nat.add_zero] at c0 c1 c2 c3
 simp only at hlb hlp hlg hla hl
 have hleg : (leg : Int) % 256 = (leg : Int) := by omega
 have hkk : (kind : Int) % 256 = (kind : Int) := by omega
 by_cases h1 : kind = 1
 ·subst h1;have hE2 : Hid (∀ u, Calls Tryz.prog 98 #[.agg #[.int .u8 1, .int .u8 0, .int .u8 (lb : Int), .int .u32 (pi : Int), .int .u8 (leg : Int), .int .u16 (lp : Int), .int .u16 (lg : Int), .int .u32 (la : Int), .string (bs pm)]] u fun e w' => e = .returned (.tuple #[.string (bs (askOf ⟨pi, pd, pm, pl, some ⟨g, 0, none⟩, pc⟩ ⟨lb, lp, lg, la⟩ leg 1)), .int .i64 ((faultOf (askMsg ⟨pi, pd, pm, pl, some ⟨g, 0, none⟩, pc⟩ ⟨lb, lp, lg, la⟩ leg 1) : Nat) : Int)]) ∧ Below u.heap.size u w') := hide (fun u => hE.out u);clear hE hgo;generalize askOf _ _ _ _ = A at *;generalize faultOf _ = fv at *;go_enter Tryz.func127, Tryz.ntmps127;go_wp2_with fail
  try rw [hleg]
  refine (hE2.out _).mono ?_;rintro e u2 ⟨rfl, hb9⟩;replace hb9 := hide hb9;go_wp2;go_ret;refine ⟨rfl, Below.trans ?_ (Below.mono hb9.out ?_)⟩
  ·repeat' (first | exact Below.refl _ _ | refine Below.setCell ?_ (by first | (simp; done) | (simp; omega)) _ | refine Below.alloc ?_ (by first | (simp; done) | (simp; omega)) _)
  ·simp; try omega
 ·have d1 : ((kind : Int) == 1) = false := by simp; omega
  have hE2 : Hid (∀ u, Calls Tryz.prog 98 #[.agg #[.int .u8 (kind : Int), .int .u8 0, .int .u8 (lb : Int), .int .u32 (pi : Int), .int .u8 (leg : Int), .int .u16 0, .int .u16 0, .int .u32 0, .string ⟨#[]⟩]] u fun e w' => e = .returned (.tuple #[.string (bs (askOf ⟨pi, pd, pm, pl, some ⟨g, 0, none⟩, pc⟩ ⟨lb, lp, lg, la⟩ leg kind)), .int .i64 ((faultOf (askMsg ⟨pi, pd, pm, pl, some ⟨g, 0, none⟩, pc⟩ ⟨lb, lp, lg, la⟩ leg kind) : Nat) : Int)]) ∧ Below u.heap.size u w') := hide (fun u => by
   have h := hE.out u
   have e : (askMsg ⟨pi, pd, pm, pl, some ⟨g, 0, none⟩, pc⟩ ⟨lb, lp, lg, la⟩ leg kind).v = .agg #[.int .u8 (kind : Int), .int .u8 0, .int .u8 (lb : Int), .int .u32 (pi : Int), .int .u8 (leg : Int), .int .u16 0, .int .u16 0, .int .u32 0, .string ⟨#[]⟩] := by
    simp only [askMsg, if_neg h1];rfl
   rw [e] at h
   exact h)
  clear hE hgo h1;generalize askOf _ _ _ _ = A at *;generalize faultOf _ = fv at *;go_enter Tryz.func127, Tryz.ntmps127;go_wp2_with fail
  try rw [hleg]
  refine (hE2.out _).mono ?_;rintro e u2 ⟨rfl, hb9⟩;replace hb9 := hide hb9;go_wp2;go_ret;refine ⟨rfl, Below.trans ?_ (Below.mono hb9.out ?_)⟩
  ·repeat' (first | exact Below.refl _ _ | refine Below.setCell ?_ (by first | (simp; done) | (simp; omega)) _ | refine Below.alloc ?_ (by first | (simp; done) | (simp; omega)) _)
  ·simp; try omega
def stStep (p : Pm) (s : Nat × Nat × Nat × Nat) (x : Dt) : Nat × Nat × Nat × Nat :=
 if x.kind = 0 then (if s.1 = 1 ∧ p.dl ≤ s.2.2.2 + 1 then 3 else s.1, s.2.1, s.2.2.1, s.2.2.2 + 1)
 else if x.kind = -1 then (if x.pay.id = p.id then 1 else s.1, s.2.1, s.2.2.1, s.2.2.2)
 else if x.msg.i ≠ p.id then s
 else if x.kind = 4 ∧ s.1 = 1 then (if withOf s.2.1 x.msg.l = fullOf p.legs.length then 2 else 1, withOf s.2.1 x.msg.l, s.2.2.1, s.2.2.2)
 else if x.kind = 5 ∧ s.1 = 1 then (3, s.2.1, s.2.2.1, s.2.2.2)
 else if x.kind = 6 then (s.1, s.2.1, withOf s.2.2.1 x.msg.l, s.2.2.2) else s
def stOf (p : Pm) (acts : List Dt) : Nat × Nat × Nat × Nat := acts.foldl (stStep p) (0, 0, 0, 0)
theorem stOf_snoc (p : Pm) (acts : List Dt) (x : Dt) : stOf p (acts ++ [x]) = stStep p (stOf p acts) x := by simp [stOf, List.foldl_append]
theorem withOf_lt (b l : Nat) (hb : b < 16) (hl : l < 4) : withOf b l < 16 := by
 have h : ∀ b : Fin 16, ∀ l : Fin 4, withOf b.1 l.1 < 16 := by decide
 exact h ⟨b, hb⟩ ⟨l, hl⟩
def few4 (x : Dt) : Prop := 4 ≤ x.kind → x.msg.l < 4
theorem stFold_bd (p : Pm) (acts : List Dt) (h4 : ∀ x, x ∈ acts → few4 x) : ∀ s : Nat × Nat × Nat × Nat, s.1 < 4 ∧ s.2.1 < 16 ∧ s.2.2.1 < 16 → (acts.foldl (stStep p) s).1 < 4 ∧ (acts.foldl (stStep p) s).2.1 < 16 ∧ (acts.foldl (stStep p) s).2.2.1 < 16 ∧ (acts.foldl (stStep p) s).2.2.2 ≤ s.2.2.2 + acts.length := by
 induction acts with
 | nil => intro s h; exact ⟨h.1, h.2.1, h.2.2, Nat.le_refl _⟩
 | cons x r ih =>
  intro s h;have hx := h4 x (by simp)
  have h1 : ((stStep p s x).1 < 4 ∧ (stStep p s x).2.1 < 16 ∧ (stStep p s x).2.2.1 < 16) ∧ (stStep p s x).2.2.2 ≤ s.2.2.2 + 1 := by
   unfold stStep;split
   ·refine ⟨⟨?_, h.2.1, h.2.2⟩, Nat.le_refl _⟩;show (if _ then 3 else s.1) < 4;split <;> omega
   ·split
    ·refine ⟨⟨?_, h.2.1, h.2.2⟩, Nat.le_succ _⟩;show (if _ then 1 else s.1) < 4;split <;> omega
    ·split
     ·exact ⟨h, Nat.le_succ _⟩
     ·split
      ·rename_i hk;refine ⟨⟨?_, withOf_lt _ _ h.2.1 (hx (by omega)), h.2.2⟩, Nat.le_succ _⟩;show (if _ then 2 else 1) < 4;split <;> omega
      ·split
       ·exact ⟨⟨by show (3 : Nat) < 4; omega, h.2.1, h.2.2⟩, Nat.le_succ _⟩
       ·split
        ·rename_i hk;exact ⟨⟨h.1, h.2.1, withOf_lt _ _ h.2.2 (hx (by omega))⟩, Nat.le_succ _⟩
        ·exact ⟨h, Nat.le_succ _⟩
  have h2 := ih (fun y hy => h4 y (by simp [hy])) _ h1.1;refine ⟨h2.1, h2.2.1, h2.2.2.1, ?_⟩;have h3 := h2.2.2.2;simp only [List.foldl_cons, List.length_cons];omega
theorem stOf_bd (p : Pm) (acts : List Dt) (h4 : ∀ x, x ∈ acts → few4 x) : (stOf p acts).1 < 4 ∧ (stOf p acts).2.1 < 16 ∧ (stOf p acts).2.2.1 < 16 ∧ (stOf p acts).2.2.2 ≤ acts.length := by
 have := stFold_bd p acts h4 (0, 0, 0, 0) ⟨by decide, by decide, by decide⟩
 simpa [stOf] using this
theorem dtSize : (Tryz.prog.info? 216).map (·.size) = some 14 := by kernel_rfl
theorem dt_one (x : Dt) : x.cells.toArray.all (·.oneCell') = true := by
 refine Array.all_eq_true_iff_forall_mem.2 (fun v hv => ?_)
 simp only [Dt.cells, Pm.lv, List.mem_toArray, List.mem_cons, List.not_mem_nil, or_false] at hv
 rcases hv with h | h | h | h | h | h | h | h | h | h | h | h | h | h <;> subst h <;> rfl
theorem status_any (p : Pm) (hp : p.ok) (hpl : p.legs.length ≤ 4) (w : World) (B : Nat) (acts : List Dt) (v : Value) (hR : RD w B acts v) (hok : ∀ x, x ∈ acts → x.ok) (h4 : ∀ x, x ∈ acts → few4 x) (hlen : acts.length ≤ 1000000000000) :
  Calls Tryz.prog 94 #[.pointer (some ⟨B, 0, none⟩), p.v] w fun e w' => e = .returned (.tuple #[.int .i64 ((stOf p acts).1 : Int), .int .i64 ((stOf p acts).2.1 : Int), .int .i64 ((stOf p acts).2.2.1 : Int)]) ∧ Below w.heap.size w w' := by
 obtain ⟨ad, cap, hv, hev⟩ := hR.row.form Dt.cells_length
 subst hv
 clear hev
 obtain ⟨pi, pd, pm, pl, pa, pc⟩ := p
 obtain ⟨hpi, hpd, _⟩ := hp
 simp only [Pm.v, Pm.lv] at *
 go_enter Tryz.func94, Tryz.ntmps94
 go_wp2
 go_loopw [7, 8, 9, 10, 11] (fun a b c d j u => ∃ k : Nat, k ≤ acts.length ∧ j = .int .i64 k ∧ a = .int .i64 ((stOf ⟨pi, pd, pm, pl, pa, pc⟩ (acts.take k)).1 : Int) ∧ b = .int .i64 ((stOf ⟨pi, pd, pm, pl, pa, pc⟩ (acts.take k)).2.1 : Int) ∧ c = .int .i64 ((stOf ⟨pi, pd, pm, pl, pa, pc⟩ (acts.take k)).2.2.1 : Int) ∧ d = .int .u64 ((stOf ⟨pi, pd, pm, pl, pa, pc⟩ (acts.take k)).2.2.2 : Int) ∧ Below (w.alloc (.cells #[.int .u32 (pi : Int), .int .u64 (pd : Int), .string (bs pm), .slice pa pl.length pc] 69)).heap.size (w.alloc (.cells #[.int .u32 (pi : Int), .int .u64 (pd : Int), .string (bs pm), .slice pa pl.length pc] 69)) u) (fun _ _ _ _ j _ => acts.length - (intOf j).toNat)
 case atStart => exact ⟨0, Nat.zero_le _, rfl, rfl, rfl, rfl, rfl, Below.refl _ _⟩
 case round =>
  obtain ⟨k, hk, rfl, rfl, rfl, rfl, rfl, hb⟩ := hrel;have hbw := all_kept hb;have hRu := hR.below hbw;have hpw : w.heap.size < wr.heap.size := lt_kept hb;have hpc := hide (fun o => cel_kept hb o);have hc : ∀ o, wr.cell? ⟨B, o, none⟩ = (#[.slice ad acts.length cap] : Array Value)[o]? := fun o => cell_at hRu.blk o;have hBl := hRu.lt;have hbd := stOf_bd ⟨pi, pd, pm, pl, pa, pc⟩ (acts.take k) (fun x hx => h4 x (List.mem_of_mem_take hx));have hkl : (acts.take k).length ≤ k := List.length_take_le _ _;by_cases hlt : k < acts.length
  ·obtain ⟨ad', cap', hv', hev'⟩ := hRu.row.form Dt.cells_length;obtain ⟨g, hg, hcell, _⟩ := hev' k hlt;have ead : ad = ad' := by injection hv'
   subst ead;subst hg;have hrng := hRu.row.range Dt.cells_length k hlt;have hs : Hid (stOf ⟨pi, pd, pm, pl, pa, pc⟩ (acts.take (k + 1)) = stStep ⟨pi, pd, pm, pl, pa, pc⟩ (stOf ⟨pi, pd, pm, pl, pa, pc⟩ (acts.take k)) acts[k]) := hide (by rw [take_snoc_dt acts k hlt, stOf_snoc]);have hek := hok acts[k] (List.getElem_mem hlt);have hf4 := h4 acts[k] (List.getElem_mem hlt);have hone := dt_one acts[k];clear hcell hev' hv' hRu;generalize stOf ⟨pi, pd, pm, pl, pa, pc⟩ (acts.take k) = S at *;generalize acts[k] = E at *;obtain ⟨kind, ⟨ai, adl, am, al, aa, ac⟩, ⟨mk, mf, mt, mi, ml, mp, mg, ma, mm⟩⟩ := E;obtain ⟨s1, s2, s3, s4⟩ := S;obtain ⟨k1, k2, ⟨hai, hadl, _⟩, hmk, hmf, hmt, hmi, hml, hmp, hmg, hma⟩ := hek;simp only [Dt.cells, Pm.lv] at hrng hone;simp only [few4] at hf4;simp only at hbd k1 k2 hai hadl hmi hml;replace hrng := hide hrng;replace hone := hide hone;go_wp2_with (first | (with_reducible refine stopLd 216 ?_))
   refine hide ?_;refine wpList_load_mid (by rfl) 216 _ (by rfl) g (k * 14) (by rfl) [.int .i64 kind, .int .u32 (ai : Int), .int .u64 (adl : Int), .string (bs am), .slice aa al.length ac, .int .u8 (mk : Int), .int .u8 (mf : Int), .int .u8 (mt : Int), .int .u32 (mi : Int), .int .u8 (ml : Int), .int .u16 (mp : Int), .int .u16 (mg : Int), .int .u32 (ma : Int), .string (bs mm)] _ hrng.out Tryz.underlying216 rfl dtSize ?_;go_wp2_with (first | (with_reducible refine stopSt 216 ?_))
   refine hide ?_;refine wpList_store_mid (by rfl) 216 _ _ (by rfl) wr.heap.size 0 (List.toArray [.int .i64 kind, .int .u32 (ai : Int), .int .u64 (adl : Int), .string (bs am), .slice aa al.length ac, .int .u8 (mk : Int), .int .u8 (mf : Int), .int .u8 (mt : Int), .int .u32 (mi : Int), .int .u8 (ml : Int), .int .u16 (mp : Int), .int .u16 (mg : Int), .int .u32 (ma : Int), .string (bs mm)]) (by rfl) (by rfl) (longThere _ _ _ _ (by simp)) dtSize hone.out ?_;generalize hU' : World.setCells _ _ _ _ = U';obtain ⟨hUb, hUw⟩ := longBox hU' rfl;have hcU : ∀ o, U'.cell? ⟨wr.heap.size, o, none⟩ = (#[.int .i64 kind, .int .u32 (ai : Int), .int .u64 (adl : Int), .string (bs am), .slice aa al.length ac, .int .u8 (mk : Int), .int .u8 (mf : Int), .int .u8 (mt : Int), .int .u32 (mi : Int), .int .u8 (ml : Int), .int .u16 (mp : Int), .int .u16 (mg : Int), .int .u32 (ma : Int), .string (bs mm)] : Array Value)[o]? := fun o => cell_at hUb o;have hcp : ∀ o, U'.cell? ⟨w.heap.size, o, none⟩ = (#[.int .u32 (pi : Int), .int .u64 (pd : Int), .string (bs pm), .slice pa pl.length pc] : Array Value)[o]? := fun o => by rw [hUw.cell (p := ⟨w.heap.size, o, none⟩) hpw]; exact hpc.out o
   have hUl := block_lt hUb;have hpU : w.heap.size < U'.heap.size := Nat.lt_of_lt_of_le hpw hUw.size;have hB2 := hide (hb.trans (hUw.mono hb.size));clear hU' hUb hrng hpc hUw hone hc;by_cases hz : kind = 0
   ·subst hz;by_cases h1 : s1 = 1
    ·subst h1;by_cases h2 : pd ≤ s4 + 1
     ·have d2 : decide ((pd : Int) ≤ (s4 : Int) + 1) = true := by simp; omega
      have d2' : decide ((s4 : Int) + 1 ≥ (pd : Int)) = true := by simp; omega
      have hq : Hid (stOf ⟨pi, pd, pm, pl, pa, pc⟩ (acts.take (k + 1)) = (3, s2, s3, s4 + 1)) := hide (by rw [hs.out]; simp [stStep, h2]);clear hs h2;go_wp2;refine ⟨⟨k + 1, hlt, by go_num, ?_, ?_, ?_, ?_, hB2.out⟩, by simp [intOf]; omega⟩ <;> rw [hq.out] <;> first | rfl | go_num
     ·have d2 : decide ((pd : Int) ≤ (s4 : Int) + 1) = false := by simp; omega
      have d2' : decide ((s4 : Int) + 1 ≥ (pd : Int)) = false := by simp; omega
      have hq : Hid (stOf ⟨pi, pd, pm, pl, pa, pc⟩ (acts.take (k + 1)) = (1, s2, s3, s4 + 1)) := hide (by rw [hs.out]; simp [stStep, h2]);clear hs h2;go_wp2;refine ⟨⟨k + 1, hlt, by go_num, ?_, ?_, ?_, ?_, hB2.out⟩, by simp [intOf]; omega⟩ <;> rw [hq.out] <;> first | rfl | go_num
    ·have d1 : ((s1 : Int) == 1) = false := by simp; omega
     have hq : Hid (stOf ⟨pi, pd, pm, pl, pa, pc⟩ (acts.take (k + 1)) = (s1, s2, s3, s4 + 1)) := hide (by rw [hs.out]; simp [stStep, h1]);clear hs h1;go_wp2;refine ⟨⟨k + 1, hlt, by go_num, ?_, ?_, ?_, ?_, hB2.out⟩, by simp [intOf]; omega⟩ <;> rw [hq.out] <;> first | rfl | go_num
   ·by_cases hm : kind = -1
    ·subst hm;by_cases h1 : ai = pi
     ·have d1 : ((ai : Int) == (pi : Int)) = true := by simp; omega
      have hq : Hid (stOf ⟨pi, pd, pm, pl, pa, pc⟩ (acts.take (k + 1)) = (1, s2, s3, s4)) := hide (by rw [hs.out]; simp [stStep, h1]);clear hs h1 hz;go_wp2;refine ⟨⟨k + 1, hlt, by go_num, ?_, ?_, ?_, ?_, hB2.out⟩, by simp [intOf]; omega⟩ <;> rw [hq.out] <;> first | rfl | go_num
     ·have d1 : ((ai : Int) == (pi : Int)) = false := by simp; omega
      have hq : Hid (stOf ⟨pi, pd, pm, pl, pa, pc⟩ (acts.take (k + 1)) = (s1, s2, s3, s4)) := hide (by rw [hs.out]; simp [stStep, h1]);clear hs h1 hz;go_wp2;refine ⟨⟨k + 1, hlt, by go_num, ?_, ?_, ?_, ?_, hB2.out⟩, by simp [intOf]; omega⟩ <;> rw [hq.out] <;> first | rfl | go_num
    ·have dz : (kind == 0) = false := by simp [hz]
     have dm : (kind == -1) = false := by simp [hm]
     by_cases h1 : mi = pi
     ·have d1 : ((mi : Int) != (pi : Int)) = false := by simp; omega
      by_cases h4k : kind = 4
      ·subst h4k;have hml4 : ml < 4 := hf4 (by omega);by_cases h2 : s1 = 1
       ·subst h2;by_cases h3 : withOf s2 ml = fullOf pl.length
        ·have d3 : ((withOf s2 ml : Int) == (fullOf pl.length : Int)) = true := by simp [h3]
         have hq : Hid (stOf ⟨pi, pd, pm, pl, pa, pc⟩ (acts.take (k + 1)) = (2, withOf s2 ml, s3, s4)) := hide (by rw [hs.out]; simp [stStep, h1, h3]);clear hs h1 h3 hz hm;go_wp2_with fail
         refine (with_any s2 ml (by omega) (by omega) _).mono ?_;rintro e u9 ⟨rfl, rfl⟩;go_wp2_with fail
         refine (full_any pl.length (by omega) _).mono ?_;rintro e u8 ⟨rfl, rfl⟩;go_wp2;refine ⟨⟨k + 1, hlt, by go_num, ?_, ?_, ?_, ?_, hB2.out⟩, by simp [intOf]; omega⟩ <;> rw [hq.out] <;> first | rfl | go_num
        ·have d3 : ((withOf s2 ml : Int) == (fullOf pl.length : Int)) = false := by simp; omega
         have hq : Hid (stOf ⟨pi, pd, pm, pl, pa, pc⟩ (acts.take (k + 1)) = (1, withOf s2 ml, s3, s4)) := hide (by rw [hs.out]; simp [stStep, h1, h3]);clear hs h1 h3 hz hm;go_wp2_with fail
         refine (with_any s2 ml (by omega) (by omega) _).mono ?_;rintro e u9 ⟨rfl, rfl⟩;go_wp2_with fail
         refine (full_any pl.length (by omega) _).mono ?_;rintro e u8 ⟨rfl, rfl⟩;go_wp2;refine ⟨⟨k + 1, hlt, by go_num, ?_, ?_, ?_, ?_, hB2.out⟩, by simp [intOf]; omega⟩ <;> rw [hq.out] <;> first | rfl | go_num
       ·have d2 : ((s1 : Int) == 1) = false := by simp; omega
        have hq : Hid (stOf ⟨pi, pd, pm, pl, pa, pc⟩ (acts.take (k + 1)) = (s1, s2, s3, s4)) := hide (by rw [hs.out]; simp [stStep, h1, h2]);clear hs h1 h2 hz hm;go_wp2;refine ⟨⟨k + 1, hlt, by go_num, ?_, ?_, ?_, ?_, hB2.out⟩, by simp [intOf]; omega⟩ <;> rw [hq.out] <;> first | rfl | go_num
      ·by_cases h5k : kind = 5
       ·subst h5k;by_cases h2 : s1 = 1
        ·subst h2;have hq : Hid (stOf ⟨pi, pd, pm, pl, pa, pc⟩ (acts.take (k + 1)) = (3, s2, s3, s4)) := hide (by rw [hs.out]; simp [stStep, h1]);clear hs h1 hz hm;go_wp2;refine ⟨⟨k + 1, hlt, by go_num, ?_, ?_, ?_, ?_, hB2.out⟩, by simp [intOf]; omega⟩ <;> rw [hq.out] <;> first | rfl | go_num
        ·have d2 : ((s1 : Int) == 1) = false := by simp; omega
         have hq : Hid (stOf ⟨pi, pd, pm, pl, pa, pc⟩ (acts.take (k + 1)) = (s1, s2, s3, s4)) := hide (by rw [hs.out]; simp [stStep, h1, h2]);clear hs h1 h2 hz hm;go_wp2;refine ⟨⟨k + 1, hlt, by go_num, ?_, ?_, ?_, ?_, hB2.out⟩, by simp [intOf]; omega⟩ <;> rw [hq.out] <;> first | rfl | go_num
       ·by_cases h6k : kind = 6
        ·subst h6k;have hml4 : ml < 4 := hf4 (by omega);have hq : Hid (stOf ⟨pi, pd, pm, pl, pa, pc⟩ (acts.take (k + 1)) = (s1, s2, withOf s3 ml, s4)) := hide (by rw [hs.out]; simp [stStep, h1]);clear hs h1 hz hm;go_wp2_with fail
         refine (with_any s3 ml (by omega) (by omega) _).mono ?_;rintro e u9 ⟨rfl, rfl⟩;go_wp2;refine ⟨⟨k + 1, hlt, by go_num, ?_, ?_, ?_, ?_, hB2.out⟩, by simp [intOf]; omega⟩ <;> rw [hq.out] <;> first | rfl | go_num
        ·have hq : Hid (stOf ⟨pi, pd, pm, pl, pa, pc⟩ (acts.take (k + 1)) = (s1, s2, s3, s4)) := hide (by rw [hs.out]; simp [stStep, hz, hm, h1, h4k, h5k, h6k]);have d4 : (kind == 4) = false := by simp [h4k]
         have d5 : (kind == 5) = false := by simp [h5k]
         have d6 : (kind == 6) = false := by simp [h6k]
         clear hs h1 hz hm h4k h5k h6k;go_wp2;refine ⟨⟨k + 1, hlt, by go_num, ?_, ?_, ?_, ?_, hB2.out⟩, by simp [intOf]; omega⟩ <;> rw [hq.out] <;> first | rfl | go_num
     ·have d1 : ((mi : Int) != (pi : Int)) = true := by simp; omega
      have hq : Hid (stOf ⟨pi, pd, pm, pl, pa, pc⟩ (acts.take (k + 1)) = (s1, s2, s3, s4)) := hide (by rw [hs.out]; simp [stStep, hz, hm, h1]);clear hs h1;go_wp2;refine ⟨⟨k + 1, hlt, by go_num, ?_, ?_, ?_, ?_, hB2.out⟩, by simp [intOf]; omega⟩ <;> rw [hq.out] <;> first | rfl | go_num
  ·obtain rfl : k = acts.length := by omega
   simp only [List.take_length] at hbd ⊢;generalize hS : stOf ⟨pi, pd, pm, pl, pa, pc⟩ acts = S at *;have HS := hide hS;clear hS hRu;obtain ⟨s1, s2, s3, s4⟩ := S;go_wp2;go_ret3;exact ⟨by rw [HS.out]; rfl, hbw⟩
end Go.Proofs.YtjkhbjgfoopomabGreat
