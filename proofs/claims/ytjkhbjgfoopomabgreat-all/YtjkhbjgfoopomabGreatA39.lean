import Derived.Test.YtjkhbjgfoopomabGreatA36
namespace Go.Proofs.YtjkhbjgfoopomabGreat
set_option linter.unusedVariables false
set_option linter.unusedSimpArgs false
theorem snoc_ind {α : Type} {P : List α → Prop} (h0 : P []) (h1 : ∀ l x, P l → P (l ++ [x])) (l : List α) : P l := by
 have h : ∀ r : List α, P r.reverse := fun r => by
  induction r with
  | nil => exact h0
  | cons x r ih => rw [List.reverse_cons]; exact h1 _ _ ih
 have h := h l.reverse
 rwa [List.reverse_reverse] at h
def flatLg (lg : List (List UInt8 × Nat)) : List UInt8 := lg.flatMap (·.1)
theorem flatLg_snoc (lg : List (List UInt8 × Nat)) (x : List UInt8 × Nat) : flatLg (lg ++ [x]) = flatLg lg ++ x.1 := by simp [flatLg]
theorem flat_logOf (E : List Ev) : flatLg (logOf E) = bankTexts E := by
 refine snoc_ind (P := fun E => flatLg (logOf E) = bankTexts E) rfl (fun l x ih => ?_) E
 rw [logOf_snoc, flatLg_snoc, ih, bankTexts_snoc]
 rfl
theorem flat_dlogOf (A : List Dt) : flatLg (dlogOf A) = noteTexts A := by
 refine snoc_ind (P := fun A => flatLg (dlogOf A) = noteTexts A) rfl (fun l x ih => ?_) A
 rw [dlogOf_snoc, noteTexts_snoc, ← ih]
 unfold heardOf
 split
 ·rename_i h; rw [h, List.append_nil]
 ·rw [flatLg_snoc]
def partOf (lg : List (List UInt8 × Nat)) (many : Nat) (c : Int) : List UInt8 × Nat × List (List UInt8 × Nat) :=
 match lg.getLast? with
 | none => (flatLg lg, many, lg)
 | some x => if pickN c (x.1.length + 1) = x.1.length then (flatLg lg, many, lg) else (flatLg lg.dropLast ++ x.1.take (pickN c (x.1.length + 1)), x.2, lg.dropLast)
theorem pick_lt (c : Int) (n : Nat) : pickN c (n + 1) < n + 1 := Nat.mod_lt _ (by omega)
theorem bank_part {node : Nat} {E : List Ev} (h : BHist node E) (c : Int) : (partOf (logOf E) E.length c).2.1 ≤ E.length ∧ (partOf (logOf E) E.length c).2.2 = logOf (E.take (partOf (logOf E) E.length c).2.1) ∧ restB node (partOf (logOf E) E.length c).1 = some (E.take (partOf (logOf E) E.length c).2.1) ∧ BHist node (E.take (partOf (logOf E) E.length c).2.1) := by
 have hw : restB node (flatLg (logOf E)) = some E := by
  have := rest_texts h (c := []) (.inl rfl)
  rwa [List.append_nil, ← flat_logOf] at this
 have hall : E.take E.length = E := List.take_length
 rcases List.eq_nil_or_concat E with rfl | ⟨F, e, hE⟩
 ·exact ⟨Nat.le_refl _, rfl, hw, h⟩
 ·rw [List.concat_eq_append] at hE;subst hE
  have hp : partOf (logOf (F ++ [e])) (F ++ [e]).length c = if pickN c ((textOf e).length + 1) = (textOf e).length then (flatLg (logOf (F ++ [e])), (F ++ [e]).length, logOf (F ++ [e])) else (flatLg (logOf F) ++ (textOf e).take (pickN c ((textOf e).length + 1)), F.length, logOf F) := by
   unfold partOf;rw [logOf_snoc, List.getLast?_concat, List.dropLast_concat]
  rw [hp];split
  ·exact ⟨Nat.le_refl _, by rw [hall], by rw [hall]; exact hw, by rw [hall]; exact h⟩
  ·rename_i hn;have hlt := pick_lt c (textOf e).length;have hT : (F ++ [e]).take F.length = F := by rw [List.take_append_of_le_length (Nat.le_refl _), List.take_length]
   refine ⟨by simp, by rw [hT], ?_, by rw [hT]; exact h.left⟩;rw [hT, flat_logOf];exact rest_texts h.left (evText_cut (h F e [] rfl) _ (by show pickN c _ < (textOf e).length; omega))
theorem dlog_last (A : List Dt) : dlogOf A = [] ∨ ∃ pre x suf, A = pre ++ x :: suf ∧ dlogOf A = dlogOf pre ++ [(actText pre x, pre.length)] := by
 refine snoc_ind (P := fun A => dlogOf A = [] ∨ ∃ pre x suf, A = pre ++ x :: suf ∧ dlogOf A = dlogOf pre ++ [(actText pre x, pre.length)]) (.inl rfl) (fun l x ih => ?_) A
 rw [dlogOf_snoc]
 unfold heardOf
 split
 ·rcases ih with h | ⟨pre, y, suf, h1, h2⟩
  ·exact .inl h
  ·exact .inr ⟨pre, y, suf ++ [x], by rw [h1]; simp, h2⟩
 ·exact .inr ⟨l, x, [], rfl, rfl⟩
theorem note_part {A : List Dt} (h : DHist A) (c : Int) : (partOf (dlogOf A) A.length c).2.1 ≤ A.length ∧ (partOf (dlogOf A) A.length c).2.2 = dlogOf (A.take (partOf (dlogOf A) A.length c).2.1) ∧ (∃ B', restD (partOf (dlogOf A) A.length c).1 = some B' ∧ AlikeD (A.take (partOf (dlogOf A) A.length c).2.1) B') ∧ DHist (A.take (partOf (dlogOf A) A.length c).2.1) := by
 have hw : ∃ B', restD (flatLg (dlogOf A)) = some B' ∧ AlikeD A B' := by
  have := rest_acts h (c := []) (.inl rfl)
  rwa [List.append_nil, ← flat_dlogOf] at this
 have hall : A.take A.length = A := List.take_length
 rcases dlog_last A with h0 | ⟨F, e, suf, rfl, h1⟩
 ·have hp : partOf (dlogOf A) A.length c = (flatLg (dlogOf A), A.length, dlogOf A) := by unfold partOf; rw [h0]; rfl
  rw [hp];exact ⟨Nat.le_refl _, by rw [hall], by rw [hall]; exact hw, by rw [hall]; exact h⟩
 ·have hp : partOf (dlogOf (F ++ e :: suf)) (F ++ e :: suf).length c = if pickN c ((actText F e).length + 1) = (actText F e).length then (flatLg (dlogOf (F ++ e :: suf)), (F ++ e :: suf).length, dlogOf (F ++ e :: suf)) else (flatLg (dlogOf F) ++ (actText F e).take (pickN c ((actText F e).length + 1)), F.length, dlogOf F) := by
   unfold partOf;rw [h1, List.getLast?_concat, List.dropLast_concat]
  rw [hp];split
  ·exact ⟨Nat.le_refl _, by rw [hall], by rw [hall]; exact hw, by rw [hall]; exact h⟩
  ·rename_i hn;have hlt := pick_lt c (actText F e).length;have hT : (F ++ e :: suf).take F.length = F := by rw [List.take_append_of_le_length (Nat.le_refl _), List.take_length]
   refine ⟨by simp, by rw [hT], ?_, by rw [hT]; exact h.left⟩;rw [hT, flat_dlogOf];exact rest_acts h.left (act_cut (h F e suf rfl) _ (by omega))
end Go.Proofs.YtjkhbjgfoopomabGreat
namespace Go.Proofs.YtjkhbjgfoopomabGreat
open Go.RowKit
set_option maxRecDepth 100000
set_option maxHeartbeats 1000000
set_option linter.unusedVariables false
set_option linter.unusedSimpArgs false
theorem flat_take {lg : List (List UInt8 × Nat)} {k : Nat} (h : k < lg.length) : flatLg (lg.take (k + 1)) = flatLg (lg.take k) ++ lg[k].1 := by
 rw [← List.take_append_getElem h, flatLg_snoc]
theorem flat_take_le (lg : List (List UInt8 × Nat)) (k : Nat) : (flatLg (lg.take k)).length ≤ (flatLg lg).length := by
 have h : flatLg lg = flatLg (lg.take k) ++ flatLg (lg.drop k) := by unfold flatLg; rw [← List.flatMap_append, List.take_append_drop]
 rw [h, List.length_append]
 omega
theorem whole_any (w : World) (lg : List (List UInt8 × Nat)) (vg : Value) (hR : RowOf w 209 2 logCell vg lg) (hfl : (flatLg lg).length ≤ 140737488351232) (hl : lg.length ≤ 1000000000000) (m : Nat) :
  Calls Tryz.prog 121 #[vg, .int .i64 (m : Int)] w fun e w' => e = .returned (.tuple #[.string (bs (flatLg lg)), .int .i64 (m : Int), vg]) ∧ Below w.heap.size w w' := by
 obtain ⟨ad, cap, hv, hev⟩ := hR.form logCell_length
 subst hv
 have hcell := hide (fun u (hu : Below w.heap.size w u) k (hk : k < lg.length) => show ∃ g, ad = some ⟨g, 0, none⟩ ∧ g < w.heap.size ∧ u.cell? ⟨g, k * 2, none⟩ = some (.string (bs lg[k].1)) from by
  obtain ⟨g, eg, hc, _⟩ := hev k hk;have hgl : g < w.heap.size := hR.lt (by rw [eg]; rfl);have h0 := hc 0 (by decide);simp only [logCell, List.getElem?_cons_zero, Nat.add_zero] at h0
  exact ⟨g, eg, hgl, by rw [hu.cell (p := ⟨g, k * 2, none⟩) hgl]; exact h0⟩)
 have hfull : Hid (flatLg (lg.take lg.length) = flatLg lg) := hide (by rw [List.take_length])
 clear hev hR
 go_enter Tryz.func121, Tryz.ntmps121
 go_wp2
 go_loopw [7, 8] (fun sv c u => ∃ k : Nat, k ≤ lg.length ∧ c = .int .i64 (k : Int) ∧ sv = .string (bs (flatLg (lg.take k))) ∧ Below w.heap.size w u) (fun _ c _ => lg.length + 1 - (intOf c).toNat)
 case atStart => exact ⟨0, Nat.zero_le _, rfl, rfl, Below.refl _ _⟩
 case round =>
  obtain ⟨k, hk, rfl, rfl, hb⟩ := hrel;by_cases hlt : k < lg.length
  ·have hki : (k : Int) < (lg.length : Int) := by omega
   have dk : decide ((k : Int) < (lg.length : Int)) = true := by simp; omega
   obtain ⟨g, eg, hgl, hc⟩ := hcell.out wr hb k hlt;subst eg;have hgr : g < wr.heap.size := Nat.lt_of_lt_of_le hgl hb.size;have hs1 := flat_take hlt;have hz := flat_take_le lg (k + 1);rw [hs1, List.length_append] at hz
   have hadd : ∀ (u : World), (Op.stringOp .add (bs (flatLg (lg.take k))) (bs lg[k].1)).run Tryz.prog u = .ok (.string (bs (flatLg (lg.take (k + 1))))) u := fun u => by
    rw [run_string_add_sum u _ _ (by rw [bs_size, bs_size]; omega), bs_append, hs1]
   clear hs1 hfull;generalize lg[k].1 = X at *;generalize flatLg (lg.take k) = Y at *;have hZ : Hid (∃ Z, Z = flatLg (lg.take (k + 1))) := hide ⟨_, rfl⟩;obtain ⟨Z, hZ⟩ := hZ.out;rw [← hZ] at hadd;replace hZ := hide hZ;replace hb := hide hb;clear hcell;go_wp2;exact ⟨⟨k + 1, hlt, by go_num, by rw [hZ.out], hb.out⟩, by simp [intOf]; omega⟩
  ·obtain rfl : k = lg.length := by omega
   have dk : decide ((lg.length : Int) < (lg.length : Int)) = false := by simp
   rw [hfull.out];replace hb := hide hb;clear hcell hfull;go_wp2;go_ret3;exact ⟨by simp, hb.out⟩
theorem list_empty {s : ByteArray} (h : s.size = 0) : s.data.toList = [] := by
 rw [← List.length_eq_zero_iff, Array.length_toList]
 exact h
theorem list_size (s : ByteArray) : s.data.toList.length = s.size := by rw [Array.length_toList]; rfl
theorem text_none {s : ByteArray} (h : s.size = 0) : (s.toList == []) = true ∧ s.toList.isEmpty = true := by
 rw [ByteArray.toList_eq, list_empty h]
 exact ⟨rfl, rfl⟩
theorem text_some {s : ByteArray} (h : s.size ≠ 0) : (s.toList == []) = false ∧ s.toList.isEmpty = false := by
 rw [ByteArray.toList_eq]
 have : s.data.toList ≠ [] := fun e => h (by rw [← list_size, e]; rfl)
 exact ⟨by simpa using this, by simpa using this⟩
theorem text_same (s t : ByteArray) : (s.toList == t.toList) = decide (s.data.toList = t.data.toList) := by
 rw [ByteArray.toList_eq, ByteArray.toList_eq]
 by_cases h : s.data.toList = t.data.toList
 ·rw [h]; simp
 ·rw [decide_eq_false h]; exact beq_false_of_ne h
theorem frSize_any (s : ByteArray) (hs : s.size ≤ maxLen) (w : World) :
  Calls Tryz.prog 139 #[.string s] w fun e w' => e = .returned (.int .i64 (frSize s.data.toList : Int)) ∧ w' = w := by
 by_cases h : s.size ≤ 17
 ·refine (size_short s h w).mono ?_;rintro e w' ⟨rfl, rfl⟩;unfold frSize;rw [if_pos (by rw [list_size]; exact h)];exact ⟨rfl, rfl⟩
 ·refine (size_at s hs (by omega) w).mono ?_;rintro e w' ⟨rfl, rfl⟩;unfold frSize;rw [if_neg (by rw [list_size]; exact h), at8_of s 17 (by omega)];exact ⟨rfl, rfl⟩
theorem at8_zero {s : ByteArray} (p0 : 0 < s.size) : at8 s.data.toList 0 = s[0].toNat := at8_of s 0 p0
theorem tsizeB_any (s : ByteArray) (hs : s.size ≤ maxLen) (w : World) :
  Calls Tryz.prog 110 #[.string s] w fun e w' => e = .returned (.int .i64 (tsizeB s.data.toList : Int)) ∧ w' = w := by
 by_cases h0 : s.size = 0
 ·have hq : Hid (tsizeB s.data.toList = 0) := hide (by rw [list_empty h0]; rfl);obtain ⟨d1, d2⟩ := text_none h0;go_enter Tryz.func110, Tryz.ntmps110;go_wp2;go_ret;exact ⟨ret_int (by rw [hq.out]; rfl), rfl⟩
 ·obtain ⟨d1, d2⟩ := text_some h0;have p0 : 0 < s.size := by omega
  have i0 : (0 : Int) < (s.size : Int) := by omega
  have hne : s.data.toList ≠ [] := fun e => h0 (by rw [← list_size, e]; rfl);have e0 := at8_zero p0;have hF := hide (frSize_any s hs w);have hb := byte_lt s[0];by_cases h79 : s[0].toNat = 79
  ·have hq : Hid (tsizeB s.data.toList = 7) := hide (by unfold tsizeB; rw [if_neg hne, if_pos (by rw [e0, h79])]);have d3 : ((s[0].toNat : Int) == 79) = true := by simp; omega
   clear hF hne e0;go_enter Tryz.func110, Tryz.ntmps110;go_wp2;go_ret;exact ⟨ret_int (by rw [hq.out]; rfl), rfl⟩
  ·have d3 : ((s[0].toNat : Int) == 79) = false := by simp; omega
   by_cases h69 : s[0].toNat = 69
   ·have hq : Hid (tsizeB s.data.toList = frSize s.data.toList) := hide (by unfold tsizeB; rw [if_neg hne, if_neg (by rw [e0]; exact h79), if_pos (by rw [e0, h69])]);have d4 : ((s[0].toNat : Int) == 69) = true := by simp; omega
    clear hne e0;go_enter Tryz.func110, Tryz.ntmps110;go_wp2_with fail
    refine hF.out.mono ?_;rintro e w1 ⟨rfl, rfl⟩;clear hF;go_wp2;go_ret;exact ⟨ret_int (by rw [hq.out]), rfl⟩
   ·have hq : Hid (tsizeB s.data.toList = 0) := hide (by unfold tsizeB; rw [if_neg hne, if_neg (by rw [e0]; exact h79), if_neg (by rw [e0]; exact h69)]);have d4 : ((s[0].toNat : Int) == 69) = false := by simp; omega
    clear hF hne e0;go_enter Tryz.func110, Tryz.ntmps110;go_wp2;go_ret;exact ⟨ret_int (by rw [hq.out]; rfl), rfl⟩
def RedoneB (w w' : World) (B node : Nat) (t : List UInt8) (E : List Ev) (va vl : Value) (e : Ending) : Prop :=
 ∃ ac' ls' va' vl', e = .returned (.bool (redoB node t E).isSome) ∧ XBTo w w' B node ac' ls' va vl va' vl' ∧ ∀ E', redoB node t E = some E' → Rel E' ac' ls'
theorem redoB_any (s : ByteArray) (hs : s.size ≤ 140737488351232) (w : World) (B node : Nat) (hnode : 1 ≤ node ∧ node ≤ 7) (E : List Ev) (ac : List Ac) (ls : List Lg) (va vl : Value) (hr : Rel E ac ls) (hX : XB w B node ac ls va vl) (hap : Apart B va vl) :
  Calls Tryz.prog 111 #[.pointer (some ⟨B, 0, none⟩), .string s] w fun e w' => RedoneB w w' B node s.data.toList E va vl e := by
 by_cases h7 : s.size = 7
 ·have z1 : (s.extract 1 3).size = 2 := by rw [ByteArray.size_extract]; omega
  have z2 : (s.extract 3 7).size = 4 := by rw [ByteArray.size_extract]; omega
  have N1 := fun u => number_any (s.extract 1 3) (by omega) u;have N2 := fun u => number_any (s.extract 3 7) (by omega) u;rw [cut_of] at N1 N2;have l1 : (cut s.data.toList 1 3).length = 2 := by rw [cut_length (by rw [list_size]; omega)]
  have l2 : (cut s.data.toList 3 7).length = 4 := by rw [cut_length (by rw [list_size]; omega)]
  have b1 : val (cut s.data.toList 1 3) < 65536 := by have := val_lt (cut s.data.toList 1 3); rw [l1] at this; omega
  have b2 : val (cut s.data.toList 3 7) < 4294967296 := by have := val_lt (cut s.data.toList 3 7); rw [l2] at this; omega
  have hlen : s.data.toList.length = 7 := by rw [list_size]; exact h7
  have hR : redoB node s.data.toList E = if openErr (val (cut s.data.toList 1 3)) E = 0 ∧ openTextOf (val (cut s.data.toList 1 3)) (val (cut s.data.toList 3 7)) = s.data.toList then some (openEvs (val (cut s.data.toList 1 3)) (val (cut s.data.toList 3 7)) E) else none := by
   unfold redoB;rw [if_pos hlen]
  rw [hr.openE] at hR;have hO := xOpen_any (val (cut s.data.toList 1 3)) (val (cut s.data.toList 3 7)) b1 b2 w B node ac ls va vl hX hap (fun x hx => hr.aok x hx) (by have := hr.alen; omega);have hop := hr.opens (val (cut s.data.toList 1 3)) (val (cut s.data.toList 3 7)) b1 b2;have hsm := text_same (bs (openTextOf (val (cut s.data.toList 1 3)) (val (cut s.data.toList 3 7)))) s;rw [bs_data] at hsm;have m1 : ((val (cut s.data.toList 1 3) : Nat) : Int) % 65536 = (val (cut s.data.toList 1 3) : Nat) := by omega
  have m2 : ((val (cut s.data.toList 3 7) : Nat) : Int) % 4294967296 = (val (cut s.data.toList 3 7) : Nat) := by omega
  have i7 : ((s.size : Int) == 7) = true := by simp; omega
  replace N1 := hide N1;replace N2 := hide N2;generalize val (cut s.data.toList 1 3) = a at *;generalize val (cut s.data.toList 3 7) = b at *;replace hO := hide hO;replace hR := hide hR;replace hop := hide hop;go_enter Tryz.func111, Tryz.ntmps111;go_wp2_with fail
  refine (N1.out _).mono ?_;rintro e w1 ⟨rfl, rfl⟩;clear N1;go_wp2_with fail
  refine (N2.out _).mono ?_;rintro e w1 ⟨rfl, rfl⟩;clear N2;go_wp2_with fail
  refine hO.out.mono ?_;rintro e w1 ⟨va', h⟩;clear hO;by_cases h1 : hasB a ac = true
  ·rw [if_pos h1] at h;obtain ⟨rfl, h⟩ := h;have hR' : Hid (redoB node s.data.toList E = none) := hide (by rw [hR.out, if_neg (fun h => by have := h.1; simp [openX, h1] at this)]);replace h := hide h;clear hR hop h1;go_wp2;go_ret;exact ⟨ac, ls, va', vl, by rw [hR'.out]; rfl, h.out, fun E' e => by rw [hR'.out] at e; cases e⟩
  ·rw [if_neg h1] at h;by_cases h2 : 16 ≤ ac.length
   ·rw [if_pos h2] at h;obtain ⟨rfl, h⟩ := h;have hR' : Hid (redoB node s.data.toList E = none) := hide (by rw [hR.out, if_neg (fun h => by have := h.1; simp [openX, h1, h2] at this)]);replace h := hide h;clear hR hop h1 h2;go_wp2;go_ret;exact ⟨ac, ls, va', vl, by rw [hR'.out]; rfl, h.out, fun E' e => by rw [hR'.out] at e; cases e⟩
   ·rw [if_neg h2] at h;obtain ⟨rfl, h⟩ := h;have ox : openX a ac = 0 := by simp [openX, h1, h2]
    have oa : openAc a b ac = ac ++ [⟨a, b⟩] := by simp [openAc, ox]
    have hop' := hop.out;rw [oa] at hop';replace h := hide h;by_cases he : openTextOf a b = s.data.toList
    ·have hR' : Hid (redoB node s.data.toList E = some (openEvs a b E)) := hide (by rw [hR.out, if_pos ⟨ox, he⟩]);rw [decide_eq_true he] at hsm;replace hop' := hide hop';clear hR hop h1 h2 ox oa he;go_wp2;go_ret;exact ⟨_, ls, va', vl, by rw [hR'.out]; rfl, h.out, fun E' e => by rw [hR'.out] at e; injection e with e; rw [← e]; exact hop'.out⟩
    ·have hR' : Hid (redoB node s.data.toList E = none) := hide (by rw [hR.out, if_neg (fun h => he h.2)]);rw [decide_eq_false he] at hsm;clear hR hop h1 h2 ox oa he hop';go_wp2;go_ret;exact ⟨_, ls, va', vl, by rw [hR'.out]; rfl, h.out, fun E' e => by rw [hR'.out] at e; cases e⟩
 ·have hlen : s.data.toList.length ≠ 7 := by rw [list_size]; exact h7
  have hR : redoB node s.data.toList E = if rErr node s.data.toList E = 0 ∧ rLog node s.data.toList E = s.data.toList then some (rEvs node s.data.toList E) else none := by
   unfold redoB;rw [if_neg hlen]
  have hH := hide (xHandle_any s hs w B node hnode E ac ls va vl hr hX hap);have hsm := text_same (bs (rLog node s.data.toList E)) s;rw [bs_data] at hsm;have i7 : ((s.size : Int) == 7) = false := by simp; omega
  replace hR := hide hR;go_enter Tryz.func111, Tryz.ntmps111;go_wp2_with fail
  refine hH.out.mono ?_;rintro e w1 ⟨lv, ac', ls', va', vl', rfl, hrel, hX'⟩;clear hH;replace hX' := hide hX'.to;replace hrel := hide hrel;generalize rErr node s.data.toList E = er at *;generalize rLog node s.data.toList E = lg at *;by_cases h0 : er = 0
  ·subst h0;by_cases he : lg = s.data.toList
   ·have hR' : Hid (redoB node s.data.toList E = some (rEvs node s.data.toList E)) := hide (by rw [hR.out, if_pos ⟨rfl, he⟩]);rw [decide_eq_true he] at hsm;clear hR he;go_wp2;go_ret;exact ⟨ac', ls', va', vl', by rw [hR'.out]; rfl, hX'.out, fun E' e => by rw [hR'.out] at e; injection e with e; rw [← e]; exact hrel.out⟩
   ·have hR' : Hid (redoB node s.data.toList E = none) := hide (by rw [hR.out, if_neg (fun h => he h.2)]);rw [decide_eq_false he] at hsm;clear hR he;go_wp2;go_ret;exact ⟨ac', ls', va', vl', by rw [hR'.out]; rfl, hX'.out, fun E' e => by rw [hR'.out] at e; cases e⟩
  ·have hR' : Hid (redoB node s.data.toList E = none) := hide (by rw [hR.out, if_neg (fun h => h0 h.1)]);have d0 : ((er : Int) == 0) = false := by simp; omega
   clear hR;go_wp2;go_ret;exact ⟨ac', ls', va', vl', by rw [hR'.out]; rfl, hX'.out, fun E' e => by rw [hR'.out] at e; cases e⟩
def strLen : Value → Nat
 | .string s => s.size
 | _ => 0
def BankOf (w : World) (n : Nat) (E : List Ev) (v : Value) (w' : World) : Prop :=
 ∃ ac ls va vl, v = .agg #[.int .u8 (n : Int), va, vl] ∧ Rel E ac ls ∧ RowOf w' 130 2 Ac.cells va ac ∧ RowOf w' 151 7 Lg.cells vl ls ∧ (∀ g, va.ownBlock = some g → w.heap.size ≤ g) ∧ (∀ g, vl.ownBlock = some g → w.heap.size ≤ g) ∧ ∀ g, va.ownBlock = some g → vl.ownBlock ≠ some g
def RestSays (w : World) (n : Nat) (R : Option (List Ev)) (e : Ending) (w' : World) : Prop :=
 match R with
 | none => e = .returned (.tuple #[.agg #[.int .u8 0, .slice none 0 0, .slice none 0 0], .int .i64 16])
 | some E => ∃ v, e = .returned (.tuple #[v, .int .i64 0]) ∧ BankOf w n E v w'
theorem bs_cut (l : List UInt8) (a b : Nat) : (bs l).extract a b = bs (cut l a b) := by rw [← bs_of ((bs l).extract a b), cut_of, bs_data]
theorem cut_take (l : List UInt8) (k : Nat) : cut l 0 k = l.take k := by simp [cut]
theorem cut_drop (l : List UInt8) (k n : Nat) (h : l.length ≤ n) : cut l k n = l.drop k := by
 unfold cut
 exact List.take_of_length_le (by rw [List.length_drop]; omega)
theorem BankOf.of {w u u' : World} {B n : Nat} {E : List Ev} {ac : List Ac} {ls : List Lg} {va vl : Value} (hX : XB u B n ac ls va vl) (hap : Apart B va vl) (hr : Rel E ac ls) (hB : w.heap.size < B) (hva : ∀ g, va.ownBlock = some g → B < g) (hvl : ∀ g, vl.ownBlock = some g → B < g) (hk : Kept (fun k => k = w.heap.size) u u') : BankOf w n E (.agg #[.int .u8 (n : Int), va, vl]) u' :=
 ⟨ac, ls, va, vl, rfl, hr, hX.arow.kept hk (fun g hg e => by have := hva g hg; omega), hX.lrow.kept hk (fun g hg e => by have := hvl g hg; omega), fun g hg => by have := hva g hg; omega, fun g hg => by have := hvl g hg; omega, hap.al⟩
def RInvB (w : World) (B n N : Nat) (R : Option (List Ev)) (c : Value) (u : World) : Prop :=
 ∃ l E ac ls va vl, c = .string (bs l) ∧ l.length ≤ N ∧ XB u B n ac ls va vl ∧ Apart B va vl ∧ Rel E ac ls ∧ replayB n l.length l E = R ∧ u.heap[w.heap.size]? = some (.cells #[.int .u8 0, .slice none 0 0, .slice none 0 0] 90 (0, 0)) ∧ Below w.heap.size w u ∧ (∀ g, va.ownBlock = some g → B < g) ∧ (∀ g, vl.ownBlock = some g → B < g)
theorem restoreB_any (n : Nat) (hn : 1 ≤ n ∧ n ≤ 7) (s : ByteArray) (hs : s.size ≤ 140737488351232) (w : World) :
  Calls Tryz.prog 71 #[.int .u8 (n : Int), .string s] w fun e w' => RestSays w n (restB n s.data.toList) e w' ∧ Below w.heap.size w w' := by
 have hN := hide (fun u => new_any n (by omega) u)
 have hb : bankB n = true := by unfold bankB; simp; omega
 rw [hb] at hN
 simp only [if_true] at hN
 obtain ⟨R, hR⟩ : ∃ R, R = restB n s.data.toList := ⟨_, rfl⟩
 rw [← hR]
 replace hR := hide hR
 have hb0 := (Below.refl w.heap.size w).alloc (Nat.le_refl _) (.cells #[.int .u8 0, .slice none 0 0, .slice none 0 0] 90)
 have hk0 := heap_alloc_self w (.cells #[.int .u8 0, .slice none 0 0, .slice none 0 0] 90)
 have hs0 : (w.alloc (.cells #[.int .u8 0, .slice none 0 0, .slice none 0 0] 90)).heap.size = w.heap.size + 1 := by simp
 go_enter Tryz.func71, Tryz.ntmps71
 go_wp2_with fail
 refine (hN.out _).mono ?_
 rintro e w1 ⟨rfl, hb1⟩
 clear hN
 generalize World.alloc w _ = w0 at *
 have hsz := hb1.size
 have hst : Hid (RInvB w w1.heap.size n s.size R (.string s) (w1.alloc (.cells #[.int .u8 (n : Int), .slice none 0 0, .slice none 0 0] 90))) := hide (by
  have hb2 := hb1.alloc hb1.size (.cells #[.int .u8 (n : Int), .slice none 0 0, .slice none 0 0] 90);refine ⟨s.data.toList, [], [], [], .slice none 0 0, .slice none 0 0, by rw [bs_of], by rw [list_size]; exact Nat.le_refl _, ⟨ty_of (heap_alloc_self _ _), RowOf.nil _ _, RowOf.nil _ _⟩, ⟨by simp [Value.ownBlock], by simp [Value.ownBlock], fun g hg => by simp [Value.ownBlock] at hg⟩, Rel.zero, hR.out.symm, ?_, hb0.trans (hb2.mono (by omega)), fun g hg => by simp [Value.ownBlock] at hg, fun g hg => by simp [Value.ownBlock] at hg⟩;rw [hb2.block _ (by omega)]
  exact hk0)
 clear hb0 hk0 hb1 hR
 go_wp2_with fail
 go_loopw [1] (fun c u => RInvB w w1.heap.size n s.size R c u) (fun c _ => strLen c)
 case atStart => exact hst.out
 case round =>
  clear hst;obtain ⟨l, E, ac, ls, va, vl, rfl, hl, hX, hap, hr, hre, hbx, hbl, hva, hvl⟩ := hrel;have hBl := hX.lt;have hw1 : w.heap.size < w1.heap.size := by omega
  obtain ⟨aa, ca, ea, _⟩ := hX.arow.form Ac.cells_length;obtain ⟨al, cl, el, _⟩ := hX.lrow.form Lg.cells_length;have hBk := hide (fun u' hk => BankOf.of (w := w) (u' := u') hX hap hr hw1 hva hvl hk);have hcB : ∀ o, _ = _ := fun o => cell_at hX.blk o;have hc0 : ∀ o, _ = _ := fun o => cell_at hbx o;have hf0 : ∀ o, _ = _ := fun o => frozen_at hbx o;have hl0 := block_lt hbx;have hP := putL_whole [.int .u8 (n : Int), va, vl] hbx rfl;have hPk := hide (putL_kept [.int .u8 (n : Int), va, vl] wr w.heap.size 0);have hZ := putL_whole [.int .u8 0, .slice none 0 0, .slice none 0 0] hbx rfl;have hZk := hide (putL_kept [.int .u8 0, .slice none 0 0, .slice none 0 0] wr w.heap.size 0);subst ea;subst el;by_cases h0 : l = []
  ·subst h0;have hRe : R = some E := hre.symm;have d0 : (bs []).toList.isEmpty = true := by rw [bs_toList]; rfl
   have d1 : ((bs []).toList == []) = true := by rw [bs_toList]; rfl
   clear hZ hZk;go_wp2;have hc3 := fun o => cell_at hP o;have hB := hbl.trans (hPk.out.below hbl.size (fun k e => by omega));have hK := hBk.out _ hPk.out;simp only [putL] at hc3 hB hK;generalize World.setCell _ _ _ = u at *;rw [hRe];exact bodyPost_ret (v := .tuple #[.agg #[.int .u8 (n : Int), .slice aa ac.length ca, .slice al ls.length cl], .int .i64 0]) (by simp [results, Tryz.results71, go_sem, hc3]) rfl ⟨⟨_, rfl, hK⟩, hB⟩
  ·have d0 : (bs l).toList.isEmpty = false := by rw [bs_toList]; simpa using h0
   have d1 : ((bs l).toList == []) = false := by rw [bs_toList]; simpa using h0
   have hT := tsizeB_any (bs l) (by rw [bs_size]; unfold maxLen; omega) wr;rw [bs_data] at hT;obtain ⟨m, hm⟩ : ∃ m, l.length = m + 1 := ⟨l.length - 1, by have : l.length ≠ 0 := fun e => h0 (List.length_eq_zero_iff.1 e); omega⟩;rw [hm] at hre;simp only [replayB] at hre;rw [if_neg h0] at hre;have hsz' := bs_size l;by_cases h1 : tsizeB l = 0
   ·rw [if_pos h1] at hre;rw [h1] at hT;replace hT := hide hT;subst hre;clear h1 hP hPk hBk hm;go_wp2_with fail
    refine hT.out.mono ?_;rintro e w9 ⟨rfl, rfl⟩;clear hT;go_wp2;have hc3 := fun o => cell_at hZ o;have hB := hbl.trans (hZk.out.below hbl.size (fun k e => by omega));simp only [putL] at hc3 hB;generalize World.setCell _ _ _ = u at *;exact bodyPost_ret (v := .tuple #[.agg #[.int .u8 0, .slice none 0 0, .slice none 0 0], .int .i64 16]) (by simp [results, Tryz.results71, go_sem, hc3]) rfl ⟨rfl, hB⟩
   ·rw [if_neg h1] at hre;have e1 : ((tsizeB l : Int) == 0) = false := by simp; omega
    by_cases h2 : l.length < tsizeB l
    ·rw [if_pos h2] at hre;have e2 : decide ((tsizeB l : Int) > (l.length : Int)) = true := by simp; omega
     have e3 : decide ((l.length : Int) < (tsizeB l : Int)) = true := by simp; omega
     replace hT := hide hT;subst hre;generalize tsizeB l = z at *;clear hm hZ hZk;go_wp2_with fail
     refine hT.out.mono ?_;rintro e w9 ⟨rfl, rfl⟩;clear hT;go_wp2;have hc3 := fun o => cell_at hP o;have hB := hbl.trans (hPk.out.below hbl.size (fun k e => by omega));have hK := hBk.out _ hPk.out;simp only [putL] at hc3 hB hK;generalize World.setCell _ _ _ = u at *;exact bodyPost_ret (v := .tuple #[.agg #[.int .u8 (n : Int), .slice aa ac.length ca, .slice al ls.length cl], .int .i64 0]) (by simp [results, Tryz.results71, go_sem, hc3]) rfl ⟨⟨_, rfl, hK⟩, hB⟩
    ·rw [if_neg h2] at hre;have e2 : decide ((tsizeB l : Int) > (l.length : Int)) = false := by simp; omega
     have e3 : decide ((l.length : Int) < (tsizeB l : Int)) = false := by simp; omega
     have hRd := redoB_any ((bs l).extract 0 (tsizeB l)) (by rw [ByteArray.size_extract, bs_size]; omega) wr w1.heap.size n hn E ac ls _ _ hr hX hap;rw [cut_of, bs_data, cut_take] at hRd;have hd : (l.drop (tsizeB l)).length = l.length - tsizeB l := List.length_drop;have h7 := tsizeB_pos h1;have hx2 : (bs l).extract (tsizeB l) (m + 1) = bs (l.drop (tsizeB l)) := by rw [bs_cut, cut_drop _ _ _ (by omega)]
     have z1 : tsizeB l ≤ l.length := by omega
     replace hT := hide hT;replace hre := hide hre;generalize tsizeB l = z at *;generalize l.take z = t at *;replace hRd := hide hRd;clear hP hPk hBk hX;replace hbx := hide hbx;go_wp2_with fail
     refine hT.out.mono ?_;rintro e w9 ⟨rfl, rfl⟩;clear hT;go_wp2_with fail
     refine hRd.out.mono ?_;rintro e w10 ⟨ac', ls', va', vl', rfl, hX', hE'⟩;clear hRd
     have hbx' : w10.heap[w.heap.size]? = some (.cells #[.int .u8 0, .slice none 0 0, .slice none 0 0] 90 (0, 0)) := by
      rw [hX'.kept.block _ hl0 (fun h => by
       rcases h with h | h | h
       ·omega
       ·have := hva _ h; omega
       ·have := hvl _ h; omega)]
      exact hbx.out
     have hbl' : Below w.heap.size w w10 := hbl.trans (hX'.kept.below hbl.size (fun k h => by
       rcases h with h | h | h
       ·omega
       ·have := hva _ h; omega
       ·have := hvl _ h; omega))
     cases hrd : redoB n t E with
     | none =>
      rw [hrd] at hre;have hR := hre.out;subst hR;have hc0' : ∀ o, _ = _ := fun o => cell_at hbx' o;have hf0' : ∀ o, _ = _ := fun o => frozen_at hbx' o;have hl0' := block_lt hbx';have hZ' := putL_whole [.int .u8 0, .slice none 0 0, .slice none 0 0] hbx' rfl;have hZk' := hide (putL_kept [.int .u8 0, .slice none 0 0, .slice none 0 0] w10 w.heap.size 0);clear hc0 hf0 hcB hZ hZk hre hX' hE';go_wp2;have hc3 := fun o => cell_at hZ' o;have hB := hbl'.trans (hZk'.out.below hbl'.size (fun k e => by omega));simp only [putL] at hc3 hB;generalize World.setCell _ _ _ = u at *;exact bodyPost_ret (v := .tuple #[.agg #[.int .u8 0, .slice none 0 0, .slice none 0 0], .int .i64 16]) (by simp [results, Tryz.results71, go_sem, hc3]) rfl ⟨rfl, hB⟩
     | some E2 =>
      rw [hrd] at hre
      have hI : Hid (RInvB w w1.heap.size n s.size R (.string (bs (l.drop z))) w10) := hide (by
       refine ⟨l.drop z, E2, ac', ls', va', vl', rfl, by omega, hX'.xb, hX'.ap, hE' _ hrd, ?_, hbx', hbl', fun g hg => ?_, fun g hg => ?_⟩
       ·rw [← hre.out];exact (replayB_more n m (l.drop z) E2 (by omega)).symm
       ·rcases hX'.owna g hg with h | h
        ·exact hva g h
        ·omega
       ·rcases hX'.ownl g hg with h | h
        ·exact hvl g h
        ·omega)
      clear hc0 hf0 hcB hZ hZk hre hX' hE' hva hvl hap hr hbx' hbl' hbl hbx;go_wp2;exact ⟨hI.out, by simp [strLen, bs_size]; omega⟩
end Go.Proofs.YtjkhbjgfoopomabGreat
