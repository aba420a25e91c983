import Derived.Test.YtjkhbjgfoopomabGreatA20
namespace Go.Proofs.YtjkhbjgfoopomabGreat
open Go.RowKit
set_option maxRecDepth 100000
set_option maxHeartbeats 2000000
set_option linter.unusedVariables false
set_option linter.unusedSimpArgs false
def goodD (nx : Nat) (x : Dt) : Prop := x.kind = -1 ∧ nx ≤ x.pay.id
structure Pays (acts : List Dt) (ps : List Pm) : Prop where
 sort : ps.Pairwise fun a b => a.id < b.id
 mem : ∀ p, p ∈ ps ↔ ∃ x, x ∈ acts ∧ x.kind = -1 ∧ x.pay = p
def nextP (ps : List Pm) : Nat → Nat
 | 0 => 0
 | n + 1 => match ps[n]? with
  | none => 0
  | some p => p.id + 1
theorem Pays.below {acts : List Dt} {ps : List Pm} (h : Pays acts ps) (n : Nat) (hn : n ≤ ps.length) (q : Nat) (hq : q < ps.length) : nextP ps n ≤ ps[q].id ↔ n ≤ q := by
 have hp := List.pairwise_iff_getElem.1 h.sort
 cases n with
 | zero => simp [nextP]
 | succ n =>
  have hn' : n < ps.length := hn;simp only [nextP, List.getElem?_eq_getElem hn'];constructor
  ·intro h1;rcases Nat.lt_or_ge n q with x | x
   ·omega
   ·rcases Nat.lt_or_ge q n with y | y
    ·have := hp q n hq hn' y;omega
    ·obtain rfl : q = n := by omega
     omega
  ·intro h1;have := hp n q hn' hq h1;omega
theorem Pays.ofAct {acts : List Dt} {ps : List Pm} (h : Pays acts ps) (n : Nat) (hn : n ≤ ps.length) (x : Dt) (hx : x ∈ acts) (hg : goodD (nextP ps n) x) : ∃ q, ∃ hq : q < ps.length, ps[q] = x.pay ∧ n ≤ q := by
 obtain ⟨q, hq, hk⟩ := List.getElem_of_mem ((h.mem x.pay).2 ⟨x, hx, hg.1, rfl⟩)
 exact ⟨q, hq, hk, (h.below n hn q hq).1 (by rw [hk]; exact hg.2)⟩
theorem Pays.toAct {acts : List Dt} {ps : List Pm} (h : Pays acts ps) (n : Nat) (hn : n < ps.length) : ∃ j, ∃ hj : j < acts.length, goodD (nextP ps n) acts[j] ∧ acts[j].pay = ps[n] := by
 obtain ⟨x, hx, h0, hk⟩ := (h.mem ps[n]).1 (List.getElem_mem hn)
 obtain ⟨j, hj, rfl⟩ := List.getElem_of_mem hx
 refine ⟨j, hj, ⟨h0, ?_⟩, hk⟩
 rw [hk]; exact (h.below n (by omega) n hn).2 (Nat.le_refl _)
theorem Pays.done {acts : List Dt} {ps : List Pm} (h : Pays acts ps) (n : Nat) (hn : n ≤ ps.length) (hno : ∀ j (hj : j < acts.length), ¬ goodD (nextP ps n) acts[j]) : n = ps.length := by
 rcases Nat.lt_or_ge n ps.length with x | x
 ·obtain ⟨j, hj, hg, _⟩ := h.toAct n x;exact absurd hg (hno j hj)
 ·omega
theorem Pays.next {acts : List Dt} {ps : List Pm} (h : Pays acts ps) (n : Nat) (hn : n ≤ ps.length) (j : Nat) (hj : j < acts.length) (hg : goodD (nextP ps n) acts[j]) (hmin : ∀ i (hi : i < acts.length), goodD (nextP ps n) acts[i] → acts[j].pay.id ≤ acts[i].pay.id) : ∃ hn' : n < ps.length, ps[n] = acts[j].pay := by
 obtain ⟨q, hq, hk, hnq⟩ := h.ofAct n hn acts[j] (List.getElem_mem hj) hg
 have hn' : n < ps.length := by omega
 refine ⟨hn', ?_⟩
 obtain ⟨i, hi, hgi, hki⟩ := h.toAct n hn'
 have h1 := hmin i hi hgi
 rw [hki, ← hk] at h1
 rcases Nat.lt_or_ge n q with x | x
 ·have := List.pairwise_iff_getElem.1 h.sort n q hn' hq x;omega
 ·obtain rfl : q = n := by omega
  exact hk
def LeastTo (acts : List Dt) (nx k : Nat) (best at_ : Int) : Prop :=
 (best = -1 ∧ at_ = -1 ∧ ∀ j (hj : j < acts.length), j < k → ¬ goodD nx acts[j]) ∨
 ∃ j, ∃ hj : j < acts.length, j < k ∧ at_ = (j : Int) ∧ best = (acts[j].pay.id : Int) ∧ goodD nx acts[j] ∧ ∀ i (hi : i < acts.length), i < k → goodD nx acts[i] → acts[j].pay.id ≤ acts[i].pay.id
theorem LeastTo.stay {acts : List Dt} {nx k : Nat} {b a : Int} (h : LeastTo acts nx k b a) (hk : k < acts.length) (hn : ¬ goodD nx acts[k] ∨ (0 ≤ b ∧ b ≤ (acts[k].pay.id : Int))) : LeastTo acts nx (k + 1) b a := by
 rcases h with ⟨h1, h2, h3⟩ | ⟨j, hj, h1, h2, h3, h4, h5⟩
 ·left;refine ⟨h1, h2, fun j hj hj2 => ?_⟩;rcases Nat.lt_or_ge j k with x | x
  ·exact h3 j hj x
  ·obtain rfl : j = k := by omega
   rcases hn with hn | hn
   ·exact hn
   ·omega
 ·right;refine ⟨j, hj, by omega, h2, h3, h4, fun i hi hi2 hg => ?_⟩;rcases Nat.lt_or_ge i k with x | x
  ·exact h5 i hi x hg
  ·obtain rfl : i = k := by omega
   rcases hn with hn | hn
   ·exact absurd hg hn
   ·omega
theorem LeastTo.take {acts : List Dt} {nx k : Nat} {b a : Int} (h : LeastTo acts nx k b a) (hk : k < acts.length) (hg : goodD nx acts[k]) (hb : b < 0 ∨ (acts[k].pay.id : Int) < b) : LeastTo acts nx (k + 1) (acts[k].pay.id : Int) (k : Int) := by
 right
 refine ⟨k, hk, by omega, rfl, rfl, hg, fun i hi hi2 hgi => ?_⟩
 rcases Nat.lt_or_ge i k with x | x
 ·rcases h with ⟨h1, h2, h3⟩ | ⟨j, hj, h1, h2, h3, h4, h5⟩
  ·exact absurd hgi (h3 i hi x)
  ·have := h5 i hi x hgi;omega
 ·obtain rfl : i = k := by omega
  exact Nat.le_refl _
def tickAct : Dt := ⟨0, noPm, zeroMsg⟩
def saysOf (ps : List Pm) (acts : List Dt) : List (List UInt8) := ps.flatMap fun p => remindsOf p acts
theorem remindsOf_le (p : Pm) (acts : List Dt) (h : p.legs.length ≤ 4) : (remindsOf p acts).length ≤ 4 := by
 unfold remindsOf
 split
 ·exact Nat.le_trans (asksTo_le _ _ _ _) h
 ·exact Nat.le_trans (asksTo_le _ _ _ _) h
theorem saysOf_le (acts : List Dt) : ∀ ps : List Pm, (∀ p, p ∈ ps → p.legs.length ≤ 4) → (saysOf ps acts).length ≤ 4 * ps.length
 | [], _ => by simp [saysOf]
 | p :: r, h => by
  have h1 := saysOf_le acts r (fun q hq => h q (by simp [hq]));have h2 := remindsOf_le p acts (h p (by simp));simp only [saysOf, List.flatMap_cons, List.length_append, List.length_cons] at *;omega
theorem deedTick_end (w : World) (B : Nat) (acts : List Dt) (v : Value) (hR : RD w B acts v) (hok : ∀ x, x ∈ acts → x.ok) (hlen : acts.length ≤ 999999999999) (hck : 1000000 ≤ clockOf acts) :
  Calls Tryz.prog 92 #[.pointer (some ⟨B, 0, none⟩)] w fun e w' => e = .returned (.tuple #[.slice none 0 0, .int .i64 15]) ∧ Below w.heap.size w w' := by
 have hC := hide (clock_any w B acts v hR hok (by omega))
 have hcl := clockOf_le acts
 generalize clockOf acts = ck at *
 have d1 : decide ((ck : Int) ≥ 1000000) = true := by simp; omega
 have d1' : decide ((1000000 : Int) ≤ (ck : Int)) = true := by simp; omega
 go_enter Tryz.func92, Tryz.ntmps92
 go_wp2_with fail
 refine (hC.out).mono ?_
 rintro e w1 ⟨rfl, rfl⟩
 clear hC
 go_wp2
 go_ret2
 exact ⟨rfl, Below.refl _ _⟩
theorem deedTick_any (w : World) (B : Nat) (acts : List Dt) (v : Value) (hR : RD w B acts v) (hap : RDap B acts v) (hok : ∀ x, x ∈ acts → x.ok) (h4 : ∀ x, x ∈ acts → few4 x) (hpay : ∀ x, x ∈ acts → PayOk x) (hlen : acts.length ≤ 999999999999) (ps : List Pm) (hP : Pays acts ps) (hpl : ps.length ≤ 1000) (hck : clockOf acts < 1000000) :
  Calls Tryz.prog 92 #[.pointer (some ⟨B, 0, none⟩)] w fun e w' => ∃ lv v', e = .returned (.tuple #[lv, .int .i64 0]) ∧ DHanded w w' B acts (acts ++ [tickAct]) v v' lv (saysOf ps (acts ++ [tickAct])) := by
 have hC := hide (clock_any w B acts v hR hok (by omega))
 obtain ⟨i0, hi0, y0, y1, y2⟩ := info_parts txtInfo
 obtain ⟨ri, rz, hri, hrz, hrs, hrb, hrc⟩ := dt_parts
 generalize clockOf acts = ck at *
 have d1 : decide ((ck : Int) ≥ 1000000) = false := by simp; omega
 have d1' : decide ((1000000 : Int) ≤ (ck : Int)) = false := by simp; omega
 obtain ⟨ad, cap, hv, _⟩ := hR.row.form Dt.cells_length
 subst hv
 have hrow1 := hR.row
 have hWb : Below w.heap.size w (w.alloc (.cells (Dt.cells tickAct).toArray 216)).drew := ((Below.refl _ _).alloc (Nat.le_refl _) _).drew
 have hWr := hide (hrow1.below hWb)
 have hWa : Hid ((w.alloc (.cells (Dt.cells tickAct).toArray 216)).drew.heap[w.heap.size]? = some (.cells (Dt.cells tickAct).toArray 216 (0, 0))) := hide (heap_alloc_self w _)
 have hWk : Hid (Kept (fun k => (Value.slice ad acts.length cap).ownBlock = some k) w (w.alloc (.cells (Dt.cells tickAct).toArray 216)).drew) := hide (Kept.of_below hWb)
 have hBl := hR.lt
 have hcB : ∀ o, w.cell? ⟨B, o, none⟩ = (#[.slice ad acts.length cap] : Array Value)[o]? := fun o => cell_at hR.blk o
 have hfB : ∀ o, w.frozen? ⟨B, o, none⟩ = false := fun o => frozen_at hR.blk o
 simp only [Dt.cells, tickAct, noPm, zeroMsg, Pm.lv] at hWb hWr hWa hWk
 go_enter Tryz.func92, Tryz.ntmps92
 go_wp2_with fail
 refine (hC.out).mono ?_
 rintro e w1 ⟨rfl, rfl⟩
 clear hC
 have h0f : ∀ h, (Value.slice none 0 0).ownBlock = some h → w1.heap.size ≤ h := fun h hh => by simp [Value.ownBlock] at hh
 go_wp2_with (first
  | (at_builtin; refine wpList_row Dt.cells_length w1 (by rfl) _ _ 153 (by rfl) 216 ri rz 104 Tryz.underlying153 hri hrz hrs hrb hrc (by decide) (.slice ad acts.length cap) acts (by rfl) hrow1 1 tickAct (by rfl) (dt_each _) (by unfold maxLen; omega) (by omega) ?_ _ (by rfl); intro g' cap' w8 hrow2 hk2 hg2 hlt2; have hblk : w8.heap[B]? = some (.cells #[.slice ad acts.length cap] 155 (0, 0)) := (by rw [hk2.block B hBl hap.a]; exact hR.blk); have hc2 := fun o => cell_at hblk o; have hf2 := fun o => frozen_at hblk o; have hto := hide (RD.grow hR hap (Below.refl _ _) hrow2 hk2 hg2 (RowOf.nil _ _) h0f); clear hrow2 hk2 hg2 hblk))
 clear hWb hWr hWa hWk hcB hfB hc2 hf2
 have hokA : ∀ x, x ∈ acts ++ [tickAct] → x.ok := fun y hy => by
  rcases List.mem_append.1 hy with h | h
  ·exact hok y h
  ·rw [List.mem_singleton.1 h];exact ⟨by show (-1 : Int) ≤ 0; decide, by show (0 : Int) ≤ 6; decide, ⟨by show (0 : Nat) < 4294967296; decide, by show (0 : Nat) < 18446744073709551616; decide, fun l hl => by simp [tickAct, noPm] at hl⟩, ⟨by decide, by decide, by decide, by decide, by decide, by decide, by decide, by decide⟩⟩
 have h4A : ∀ x, x ∈ acts ++ [tickAct] → few4 x := fun y hy => by
  rcases List.mem_append.1 hy with h | h
  ·exact h4 y h
  ·rw [List.mem_singleton.1 h];intro h9;exact absurd h9 (by decide)
 have hpayA : ∀ x, x ∈ acts ++ [tickAct] → PayOk x := fun y hy => by
  rcases List.mem_append.1 hy with h | h
  ·exact hpay y h
  ·rw [List.mem_singleton.1 h];exact ⟨by decide, by decide⟩
 have hPA : Pays (acts ++ [tickAct]) ps := ⟨hP.sort, fun p => by
  rw [hP.mem];constructor
  ·rintro ⟨x, hx, h1, h2⟩;exact ⟨x, List.mem_append_left _ hx, h1, h2⟩
  ·rintro ⟨x, hx, h1, h2⟩;rcases List.mem_append.1 hx with h | h
   ·exact ⟨x, h, h1, h2⟩
   ·rw [List.mem_singleton.1 h] at h1
    exact absurd h1 (by decide)⟩
 have hlenA : (acts ++ [tickAct]).length ≤ 1000000000000 := by simp; omega
 have hsay : ∀ n, (saysOf (ps.take n) (acts ++ [tickAct])).length ≤ 4000 := fun n => by
  have h1 := saysOf_le (acts ++ [tickAct]) (ps.take n) (fun p hp => by
   obtain ⟨x, hx, _, e⟩ := (hPA.mem p).1 (List.mem_of_mem_take hp);rw [← e]
   exact (hpayA x hx).1)
  have h2 : (ps.take n).length ≤ ps.length := List.length_take_le' _ _;omega
 have hrd := hto.out.rd
 generalize hAA : acts ++ [tickAct] = A at *
 rw [show acts.length + 1 = A.length from by rw [← hAA]; simp] at *
 replace hAA := hide hAA
 generalize World.setCell _ _ _ = U at *
 clear hok h4 hpay hP hck
 go_wp2
 go_loopw [5, 6] (fun x l u => ∃ n : Nat, n ≤ ps.length ∧ l = .int .i64 ((nextP ps n : Int) - 1) ∧ RowOf u 9 1 txtCell x (saysOf (ps.take n) A) ∧ (∀ g, x.ownBlock = some g → U.heap.size ≤ g) ∧ Below U.heap.size U u) (fun _ l _ => 4294967296 - (intOf l + 1).toNat)
 case atStart => exact ⟨0, Nat.zero_le _, rfl, RowOf.nil _ _, fun g hg => by simp [Value.ownBlock] at hg, Below.refl _ _⟩
 case round =>
  obtain ⟨n, hn, rfl, hrow, hxown, hb⟩ := hrel;have hsl := hsay n;obtain ⟨adx, capx, rfl⟩ := hrow.slice;have hRu := hrd.below hb;have hc : ∀ o, _ = _ := fun o => cell_at hRu.blk o;have hdone := hide (hPA.done n hn);have hnext := hide (hPA.next n hn);go_wp2
  go_loopw [7, 8, 9] (fun b a c u => ∃ (k : Nat) (bi ai : Int), k ≤ A.length ∧ c = .int .i64 k ∧ b = .int .i64 bi ∧ a = .int .i64 ai ∧ LeastTo A (nextP ps n) k bi ai ∧ u = wr) (fun _ _ c _ => A.length - (intOf c).toNat)
  case atStart => exact ⟨0, -1, -1, Nat.zero_le _, rfl, rfl, rfl, .inl ⟨rfl, rfl, fun j hj h => by omega⟩, rfl⟩
  case round =>
   obtain ⟨k, bi, ai, hk, rfl, rfl, rfl, hbest, rfl⟩ := hrel;have hBl2 := hRu.lt;clear hc;have hc : ∀ o, wr.cell? ⟨B, o, none⟩ = (#[.slice (some ⟨g', 0, none⟩) A.length cap'] : Array Value)[o]? := fun o => cell_at hRu.blk o;replace hbest := hide hbest;by_cases hlt : k < A.length
   ·obtain ⟨ad', cap2, hv', hev'⟩ := hRu.row.form Dt.cells_length;obtain ⟨g, hg, hcell, _⟩ := hev' k hlt;have eg : g' = g := by rw [hg] at hv'; injection hv' with h1; injection h1 with h1; injection h1 with h1
    subst eg;have hst := hide (fun h => hbest.out.stay hlt h);have htk := hide (fun h1 h2 => hbest.out.take hlt h1 h2);have hgd : Hid (goodD (nextP ps n) A[k] ↔ (A[k].kind = -1 ∧ nextP ps n ≤ A[k].pay.id)) := hide Iff.rfl
    have hbb : bi = -1 ∨ 0 ≤ bi := by
     rcases hbest.out with h | ⟨j, hj, _, _, h, _⟩
     ·exact .inl h.1
     ·exact .inr (by rw [h]; omega)
    have c0 := hcell 0 (by decide);have c1 := hcell 1 (by decide);have hek := hokA A[k] (List.getElem_mem hlt);clear hcell hev' hbest hv' hg;generalize goodD (nextP ps n) A[k] = GD at *;generalize A[k] = E at *;obtain ⟨kind, ⟨pi, pd, pm, pl, pa, pc⟩, msg⟩ := E;obtain ⟨hk1, hk2, ⟨hpi, _, _⟩, _⟩ := hek;simp only [Dt.cells, List.getElem?_cons_zero, List.getElem?_cons_succ, Nat.add_zero] at c0 c1 hk1 hk2 hpi hgd hst htk;generalize nextP ps n = nx at *;have W1 : IntKind.i64.wrap (pi : Int) = (pi : Int) := by rw [IntKind.wrap_i64]; omega
    by_cases hz : kind = -1
    ·subst hz;by_cases h2 : nx ≤ pi
     ·have d2 : decide ((nx : Int) - 1 < (pi : Int)) = true := by simp; omega
      have hG := hgd.out.2 ⟨rfl, h2⟩;by_cases h3 : bi < 0
      ·have d3 : decide (bi < 0) = true := by simp [h3]
       have hq := hide (htk.out hG (.inl h3));clear hst htk hgd;go_wp2;exact ⟨⟨k + 1, pi, k, hlt, by go_num, by go_num, rfl, hq.out, trivial⟩, by simp [intOf]; omega⟩
      ·have d3 : decide (bi < 0) = false := by simp [h3]
       by_cases h4 : (pi : Int) < bi
       ·have d4 : decide ((pi : Int) < bi) = true := by simp; omega
        have hq := hide (htk.out hG (.inr h4));clear hst htk hgd;go_wp2;exact ⟨⟨k + 1, pi, k, hlt, by go_num, by go_num, rfl, hq.out, trivial⟩, by simp [intOf]; omega⟩
       ·have d4 : decide ((pi : Int) < bi) = false := by simp; omega
        have hq := hide (hst.out (.inr ⟨by omega, by omega⟩));clear hst htk hgd;go_wp2;exact ⟨⟨k + 1, bi, ai, hlt, by go_num, rfl, rfl, hq.out, trivial⟩, by simp [intOf]; omega⟩
     ·have d2 : decide ((nx : Int) - 1 < (pi : Int)) = false := by simp; omega
      have hq := hide (hst.out (.inl (fun h => h2 (hgd.out.1 h).2)));clear hst htk hgd;go_wp2;exact ⟨⟨k + 1, bi, ai, hlt, by go_num, rfl, rfl, hq.out, trivial⟩, by simp [intOf]; omega⟩
    ·have dz : (kind == -1) = false := by simp [hz]
     have hq := hide (hst.out (.inl (fun h => hz (hgd.out.1 h).1)));clear hst htk hgd;go_wp2;exact ⟨⟨k + 1, bi, ai, hlt, by go_num, rfl, rfl, hq.out, trivial⟩, by simp [intOf]; omega⟩
   ·obtain rfl : k = A.length := by omega
    rcases hbest.out with ⟨rfl, rfl, hno⟩ | ⟨j, hj, _, rfl, rfl, hg, hmin⟩
    ·have hq : Hid (n = ps.length) := hide (hdone.out (fun j hj => hno j hj hj));clear hbest hno hdone hnext;have hall : Hid (ps.take n = ps) := hide (by rw [hq.out, List.take_length]);replace hrow := hide hrow;replace hxown := hide hxown;replace hb := hide hb;go_wp2;go_ret2
     exact ⟨_, _, rfl, by
      have h9 := DHanded.from hto.out hb.out hrow.out hxown.out;rw [hAA.out];rw [hall.out] at h9 ⊢
      exact h9⟩
    ·obtain ⟨hn', hkey⟩ := hnext.out j hj hg (fun i hi h => hmin i hi hi h)
     have hsn : Hid (saysOf (ps.take (n + 1)) A = saysOf (ps.take n) A ++ remindsOf A[j].pay A) := hide (by
      unfold saysOf;rw [List.take_succ_eq_append_getElem hn', List.flatMap_append, hkey]
      simp)
     have hnx : Hid (nextP ps (n + 1) = A[j].pay.id + 1) := hide (by simp only [nextP, List.getElem?_eq_getElem hn', hkey]);have hAj := List.getElem_mem hj;have hle4 := hsay (n + 1);rw [hsn.out] at hle4;have hnx2 := hg.2;have hRm := hide (fun u hu => reminds_any A[j].pay (hokA A[j] hAj).2.2.1 (by have := (hpayA A[j] hAj).2; omega) (hpayA A[j] hAj).1 u B A (.slice (some ⟨g', 0, none⟩) A.length cap') hu hokA h4A hlenA);have hlg := hide (hRu.legs A[j] hAj);obtain ⟨ad', cap2, hv', hev'⟩ := hRu.row.form Dt.cells_length;obtain ⟨g, hgg, hcell, _⟩ := hev' j hj;have eg : g' = g := by rw [hgg] at hv'; injection hv' with h1; injection h1 with h1; injection h1 with h1
     subst eg;have c1 := hcell 1 (by decide);have c2 := hcell 2 (by decide);have c3 := hcell 3 (by decide);have c4 := hcell 4 (by decide);have hek := hokA A[j] hAj;have hji : (j : Int) < (A.length : Int) := by omega
     clear hcell hev' hbest hmin hdone hnext hkey hg hv' hgg;generalize remindsOf A[j].pay A = RM at *;generalize A[j] = E at *;obtain ⟨kind, ⟨pi, pd, pm, pl, pa, pc⟩, msg⟩ := E;obtain ⟨_, _, ⟨hpi, _, _⟩, _⟩ := hek;simp only [Dt.cells, Pm.v, Pm.lv, List.getElem?_cons_zero, List.getElem?_cons_succ, Nat.add_zero] at c1 c2 c3 c4 hRm hlg hnx hpi hnx2;generalize hnn : nextP ps n = nx at *;replace hnn := hide hnn;generalize hL0 : saysOf (ps.take n) A = L at *;have dj : decide ((j : Int) < 0) = false := by simp
     replace hxown := hide hxown;replace hb := hide hb;go_wp2_with fail
     refine (hRm.out _ hRu hlg.out).mono ?_;rintro e w2 ⟨⟨lv, rfl, hlr, hlo⟩, hbt⟩;have hrow2 := hrow.below hbt;have hb3 := hide (hb.out.trans (hbt.mono hb.out.size));rw [List.length_append] at hle4;obtain ⟨lad, lcap, hlv⟩ := hlr.slice;subst hlv;clear hRm hc c1 c2 c3 c4 hlg hrow hRu
     go_wp2_with (first
      | (at_builtin; refine wpList_spread txtCell_length w2 (by rfl) _ _ 38 (by rfl) 9 i0 _ 16 Tryz.underlying38 hi0 y0 y1 y2 rfl (by decide) (.slice adx L.length capx) (.slice lad RM.length lcap) L RM (by rfl) (by rfl) hrow2 hlr (fun y _ => txt_one y) (by unfold maxLen; omega) (by omega) ?_; intro v9 w9 hr9 hk9 ho9; have X : Hid (RowOf w9 9 1 txtCell v9 (L ++ RM) ∧ Kept (fun k => (Value.slice adx L.length capx).ownBlock = some k) w2 w9 ∧ ∀ g, v9.ownBlock = some g → (Value.slice adx L.length capx).ownBlock = some g ∨ w2.heap.size ≤ g) := hide ⟨hr9, hk9, ho9⟩; clear hr9 hk9 ho9))
     have hb9 := hb3.out.trans (X.out.2.1.below hb3.out.size (fun k hk => hxown.out k hk));refine ⟨⟨n + 1, hn', by rw [hnx.out]; go_num, by rw [hsn.out]; exact X.out.1, fun g hg => ?_, hb9⟩, by have h9 := hnn.out; simp [intOf]; omega⟩;rcases X.out.2.2 g hg with h | h
     ·exact hxown.out g h
     ·exact Nat.le_trans hb3.out.size h
end Go.Proofs.YtjkhbjgfoopomabGreat
