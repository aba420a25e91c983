import Derived.Test.YtjkhbjgfoopomabGreatA23
import Derived.Test.YtjkhbjgfoopomabGreatA25
import Derived.Test.YtjkhbjgfoopomabGreatA32
namespace Go.Proofs.YtjkhbjgfoopomabGreat
open Go.RowKit
set_option maxHeartbeats 1000000
set_option linter.unusedVariables false
set_option linter.unusedSimpArgs false
theorem fault_lt (x : Msg) : faultOf x < 100 := by
 unfold faultOf termsOf
 (repeat' split) <;> omega
theorem decErr_lt (l : List UInt8) : decErr l < 100 := by
 unfold decErr
 split
 ·omega
 ·split
  ·omega
  ·exact fault_lt _
def rLog (node : Nat) (l : List UInt8) (evs : List Ev) : List UInt8 := if (rEvs node l evs).length = evs.length then [] else frameOf (decMsg l)
def XDone (w : World) (B node : Nat) (evs : List Ev) (l : List UInt8) (va vl : Value) (e : Ending) (w' : World) : Prop :=
 ∃ lv ac' ls' va' vl', e = .returned (.tuple #[lv, .string (bs (rLog node l evs)), .int .i64 (rErr node l evs : Int)]) ∧ Rel (rEvs node l evs) ac' ls' ∧ XHanded w w' B node ac' ls' va vl va' vl' lv (rOuts node l evs)
theorem Rel.lok' {evs : List Ev} {ac : List Ac} {ls : List Lg} (h : Rel evs ac ls) : ∀ x, x ∈ ls → x.ok := fun x hx => (h.lok x hx).1
theorem Rel.due {evs : List Ev} {ac : List Ac} {ls : List Lg} (h : Rel evs ac ls) : ∀ a, dueL a ls < 4294967296 := fun a => by have := h.bd a; omega
theorem Rel.one {evs : List Ev} {ac : List Ac} {ls : List Lg} (h : Rel evs ac ls) (x : Ac) (hx : x ∈ ac) : balL x.n ac = x.b := bal_mem ac h.nod x hx 0
theorem Rel.outs {evs : List Ev} {ac : List Ac} {ls : List Lg} (h : Rel evs ac ls) (j : Nat) (hj : j < ls.length) (h1 : ls[j].st = 1) : (∀ x, x ∈ ac → x.n = ls[j].p → ls[j].a ≤ x.b) ∧ ∀ x, x ∈ ac → x.n = ls[j].g → x.b + ls[j].a < 4294967296 := by
 constructor
 ·intro x hx hp;have h2 := h.one x hx;have h3 := h.hb x.n;have h4 := sumL_ge (payL ls[j].p) ls j hj;rw [hp] at h2 h3;have h5 : payL ls[j].p ls[j] = ls[j].a := by simp [payL, h1]
  have h6 : heldL ls[j].p ls = sumL (payL ls[j].p) ls := rfl;omega
 ·intro x hx hp;have h2 := h.one x hx;have h3 := h.bd x.n;have h4 := sumL_ge (getL ls[j].g) ls j hj;rw [hp] at h2 h3;have h5 : getL ls[j].g ls[j] = ls[j].a := by simp [getL, h1]
  have h6 : dueL ls[j].g ls = sumL (getL ls[j].g) ls := rfl;omega
theorem set_same (ls : List Lg) (j : Nat) (hj : j < ls.length) (h4 : ls[j].st = 4) : ls.set j { ls[j] with st := 4 } = ls := by
 have : ({ ls[j] with st := 4 } : Lg) = ls[j] := by rw [← h4]
 rw [this, List.set_getElem_self]
theorem xHandle_any (s : ByteArray) (hs : s.size ≤ 140737488351232) (w : World) (B node : Nat) (hnode : 1 ≤ node ∧ node ≤ 7) (evs : List Ev) (ac : List Ac) (ls : List Lg) (va vl : Value) (hr : Rel evs ac ls) (hX : XB w B node ac ls va vl) (hap : Apart B va vl) :
  Calls Tryz.prog 114 #[.pointer (some ⟨B, 0, none⟩), .string s] w (XDone w B node evs s.data.toList va vl) := by
 have hs' : s.size ≤ maxLen := by unfold maxLen; omega
 have hla : ac.length ≤ 1000000 := by have := hr.alen; omega
 have hll : ls.length ≤ 1000000 := by have := hr.llen; omega
 have bad : ∀ er : Nat, er ≠ 0 → rErr node s.data.toList evs = er → (Calls Tryz.prog 114 #[.pointer (some ⟨B, 0, none⟩), .string s] w fun e w' => e = .returned (.tuple #[.slice none 0 0, .string ⟨#[]⟩, .int .i64 (er : Int)]) ∧ XBTo w w' B node ac ls va vl va vl) → Calls Tryz.prog 114 #[.pointer (some ⟨B, 0, none⟩), .string s] w (XDone w B node evs s.data.toList va vl) := by
  intro er h0 he hC;refine Calls.mono hC ?_;rintro e w' ⟨rfl, hto⟩;have h1 : rEvs node s.data.toList evs = evs := by unfold rEvs; rw [he, if_neg h0]
  have h2 : rOuts node s.data.toList evs = [] := by unfold rOuts; rw [he, if_neg h0]
  refine ⟨_, ac, ls, va, vl, by unfold rLog; rw [he, h1, if_pos rfl]; rfl, by rw [h1]; exact hr, ?_⟩;rw [h2];exact XHanded.nil hto
 by_cases he0 : decErr s.data.toList = 0
 ·by_cases hto : (decMsg s.data.toList).t = node
  ·have hx : rErr node s.data.toList evs = hErrOf (decMsg s.data.toList) evs := by unfold rErr; rw [if_neg (by simp [he0]), if_neg (by simp [hto])]
   have good : ∀ (x : Msg) (new : List Ev) (st : Nat) (ac' : List Ac), decMsg s.data.toList = x → hErrOf x evs = 0 → hEvsOf x evs = evs ++ new → (legOf x.i x.l (evs ++ new)).1 = st → (st = stL x.i x.l ls ↔ new = []) → (Calls Tryz.prog 114 #[.pointer (some ⟨B, 0, none⟩), .string s] w fun e w' => ∃ lv, e = .returned (.tuple #[lv, .string (bs (if st = stL x.i x.l ls then [] else frameOf x)), .int .i64 0]) ∧ ∃ ls' vl', Rel (evs ++ new) ac' ls' ∧ XHanded w w' B node ac' ls' va vl va vl' lv [ansOf node x.i x.l st]) → Calls Tryz.prog 114 #[.pointer (some ⟨B, 0, none⟩), .string s] w (XDone w B node evs s.data.toList va vl) := by
    intro x new st ac' hxx h0 hn hst hlg hC;have he : rErr node s.data.toList evs = 0 := by rw [hx, hxx, h0]
    have h1 : rEvs node s.data.toList evs = evs ++ new := by unfold rEvs; rw [if_pos he, hxx, hn]
    have h2 : rOuts node s.data.toList evs = [ansOf node x.i x.l st] := by unfold rOuts; rw [if_pos he, hxx, hn, hst]
    refine Calls.mono hC ?_;rintro e w' ⟨lv, rfl, ls', vl', hR, hH⟩
    have hl9 : (if st = stL x.i x.l ls then [] else frameOf x) = rLog node s.data.toList evs := by
     unfold rLog;rw [h1, hxx];by_cases hnew : new = []
     ·rw [if_pos (hlg.2 hnew), if_pos (by rw [hnew, List.append_nil])]
     ·rw [if_neg (fun e => hnew (hlg.1 e)), if_neg (by rw [List.length_append]; have : new.length ≠ 0 := fun e => hnew (List.length_eq_zero_iff.1 e); omega)]
    refine ⟨lv, ac', ls', va, vl', by rw [he, hl9]; rfl, by rw [h1]; exact hR, ?_⟩;rw [h2];exact hH
   have hfk := fault_kind _ (decMsg_fault _ he0) (by omega);have hfm := fault_zero_memo (decMsg_fault _ he0);have hxok := decMsg_ok s.data.toList;have herr : ∀ er, er ≠ 0 → hErrOf (decMsg s.data.toList) evs = er → _ := fun er h0 h => bad er h0 (by rw [hx, h]);generalize hxx : decMsg s.data.toList = x at *;obtain ⟨k, f, t, i, l, p, g, a, m⟩ := x;simp only at hfk hto hfm;subst hto;have hE : hErrOf ⟨k, f, t, i, l, p, g, a, m⟩ evs = hErrT ⟨k, f, t, i, l, p, g, a, m⟩ (legOf i l evs) (keysOf evs).length := rfl;have hN : hEvsOf ⟨k, f, t, i, l, p, g, a, m⟩ evs = evs ++ hNewT ⟨k, f, t, i, l, p, g, a, m⟩ (legOf i l evs) (keysOf evs).length (canB ⟨k, f, t, i, l, p, g, a, m⟩ evs) := rfl;rw [hr.kept] at hE hN;have ecan : canB ⟨k, f, t, i, l, p, g, a, m⟩ evs = canX p g a ac ls := hr.can _;rw [ecan] at hN;obtain ⟨k1, k3, hl4, ha0⟩ := hfk;have hi : i < 4294967296 := hxok.2.2.2.1;have hp : p < 65536 := hxok.2.2.2.2.2.1;have hg : g < 65536 := hxok.2.2.2.2.2.2.1;have ha : a < 4294967296 := hxok.2.2.2.2.2.2.2;have hl256 : l < 256 := by omega
   have oks : ∀ (er : Nat), _ := fun er her hC => xHandle_err s hs' w B ac ls va vl k f t i l p g a m er her hX he0 hxx hap hi hl256 hr.lok' hll hC;have okg := fun (ac' : List Ac) (st : Nat) hst Q hC => xHandle_ok s hs' w B ac ac' ls va vl va k f t i l p g a m hfm hxok st hst hl4 hnode hX hr.lok' hll he0 hxx Q hC;by_cases hj : findB i l ls < ls.length
   ·have hT := hr.at i l hj;have hkey := findB_lt i l ls hj;have hsb := stL_at hj;have hTt : ∀ e, (legOf i l (evs ++ [e])).1 = (legStep i l (legOf i l evs) e).1 := fun e => by rw [legOf_snoc]
    generalize hTe : legOf i l evs = T at *;obtain ⟨t1, ⟨nk, nf, nt, ni, nl, np, ng, na, nm⟩, t3⟩ := T;have hk3 : k = 1 ∨ k = 2 ∨ k = 3 := by omega
    obtain ⟨T1, T2, T3, T4⟩ := hT;simp only at T1 T4;have n0 : t1 ≠ 0 := by omega
    rcases hk3 with rfl | rfl | rfl
    ·rcases T4 with ⟨rfl, rfl, rfl, rfl, rfl, hna⟩ | ⟨rfl, h4, e1, e2, e3, e4⟩
     ·by_cases ho : ls[findB i l ls].p = p ∧ ls[findB i l ls].g = g ∧ ls[findB i l ls].a = a ∧ ls[findB i l ls].m = m
      ·obtain ⟨rfl, rfl, rfl, rfl⟩ := ho;refine good _ [] t1 ac rfl (by rw [hE]; simp [hErrT, hNewT, otherB, n0]) (by rw [hN]; simp [hErrT, hNewT, otherB, n0]) (by simp only [List.append_nil]; rw [hTe]) (by constructor <;> intro h9 <;> first | rfl | (have h8 := hsb; dsimp only; omega) | (exfalso; have h8 := hsb; dsimp only at h9; omega) | (cases h9)) ?_;rw [List.append_nil];refine okg ac t1 (by omega) _ (fun u hu => ?_);refine (follow1 f t i l _ _ _ _ u B t1 0 (fun w' => XBTo u w' B t ac ls va vl va vl) (fun u2 hu2 => ?_)).mono (fun e w' h => ⟨h.1, ls, vl, hr, h.2⟩);refine (prep_same f t i l _ _ _ _ hfm 1 hi hl256 hp hg ha u2 B t ac ls va vl (hX.below (hu.trans (hu2.mono hu.size))) hap hr.lok' hll hj t1 T1.symm ⟨rfl, rfl, rfl, rfl⟩).mono (fun e w' h => ⟨h.1, XBTo.from hu2 h.2⟩)
      ·refine herr 11 (by decide) (by
        rw [hE]
        have : otherB ⟨1, f, t, i, l, p, g, a, m⟩ ⟨nk, nf, nt, ni, nl, ls[findB i l ls].p, ls[findB i l ls].g, ls[findB i l ls].a, ls[findB i l ls].m⟩ = true := by
         simp only [otherB, Bool.or_eq_true, decide_eq_true_eq];by_cases q1 : ls[findB i l ls].p = p
         ·by_cases q2 : ls[findB i l ls].g = g
          ·by_cases q3 : ls[findB i l ls].a = a
           ·exact .inr (.inr (.inr fun q4 => ho ⟨q1, q2, q3, q4⟩))
           ·exact .inr (.inr (.inl q3))
          ·exact .inr (.inl q2)
         ·exact .inl q1
        simp [hErrT, this]) (oks 11 (by decide) (fun u hu => ?_))
       refine (follow1 f t i l p g a m u B 0 11 (fun w' => XBTo u w' B t ac ls va vl va vl) (fun u2 hu2 => ?_)).mono (fun e w' h => h);refine (prep_conflict f t i l p g a m hfm 1 hi hl256 hp hg ha u2 B t ac ls va vl (hX.below (hu.trans (hu2.mono hu.size))) hap hr.lok' hll hj ⟨hna, ho⟩).mono (fun e w' h => ⟨h.1, XBTo.from hu2 h.2⟩)
     ·refine good _ [] t1 ac rfl (by rw [hE]; simp [hErrT, hNewT, n0]) (by rw [hN]; simp [hErrT, hNewT, n0]) (by simp only [List.append_nil]; rw [hTe]) (by constructor <;> intro h9 <;> first | rfl | (have h8 := hsb; dsimp only; omega) | (exfalso; have h8 := hsb; dsimp only at h9; omega) | (cases h9)) ?_;rw [List.append_nil];refine okg ac t1 (by omega) _ (fun u hu => ?_);refine (follow1 f t i l p g a m u B t1 0 (fun w' => XBTo u w' B t ac ls va vl va vl) (fun u2 hu2 => ?_)).mono (fun e w' h => ⟨h.1, ls, vl, hr, h.2⟩);refine (prep_bare f t i l p g a m hfm 1 hi hl256 hp hg ha u2 B t ac ls va vl (hX.below (hu.trans (hu2.mono hu.size))) hap hr.lok' hll hj t1 T1.symm (ha0 rfl) ⟨e1, e2, e3, e4⟩).mono (fun e w' h => ⟨h.1, XBTo.from hu2 h.2⟩)
    ·by_cases h1 : t1 = 1
     ·have hE1 : ls[findB i l ls].st = 1 := by omega
      have hok9 : (⟨2, ⟨2, f, t, i, l, p, g, a, m⟩, false⟩ : Ev).ok := ⟨by show (2 : Nat) < 4; omega, hxok⟩
      have hR : Rel (evs ++ [⟨2, ⟨2, f, t, i, l, p, g, a, m⟩, false⟩]) (movedL ls[findB i l ls].p ls[findB i l ls].g ls[findB i l ls].a ac) (ls.set (findB i l ls) { ls[findB i l ls] with st := 3 }) := by
       refine hr.turn _ (findB i l ls) hj 3 hok9 (by simp) hkey.1.symm hkey.2.symm ?_ (.inl hE1) (.inr ⟨rfl, hE1, rfl⟩);rw [hkey.1, hkey.2, hTe];rcases T4 with ⟨g1, g2, g3, g4, g5, g6⟩ | ⟨g1, g2, _⟩
       ·exact ⟨by simp [legStep], by simp, by simp, .inl ⟨by simp [legStep, g1], by simp [legStep, g2], by simp [legStep, g3], by simp [legStep, g4], by simp [legStep, g5], g6⟩⟩
       ·omega
      refine good _ [⟨2, ⟨2, f, t, i, l, p, g, a, m⟩, false⟩] 3 (movedL ls[findB i l ls].p ls[findB i l ls].g ls[findB i l ls].a ac) rfl (by rw [hE]; simp [hErrT, hNewT, h1]) (by rw [hN]; simp [hErrT, hNewT, h1]) (by rw [hTt]; simp [legStep]) (by constructor <;> intro h9 <;> first | rfl | (have h8 := hsb; dsimp only; omega) | (exfalso; have h8 := hsb; dsimp only at h9; omega) | (cases h9)) ?_;refine okg _ 3 (by omega) _ (fun u hu => ?_);refine (follow2 f t i l p g a m u B 3 0 (fun w' => XBTo u w' B t (movedL ls[findB i l ls].p ls[findB i l ls].g ls[findB i l ls].a ac) (ls.set (findB i l ls) { ls[findB i l ls] with st := 3 }) va vl va vl) (fun u2 hu2 => ?_)).mono (fun e w' h => ⟨h.1, _, vl, hR, h.2⟩);refine (exec_held f t i l p g a m 2 hi hl256 u2 B t ac ls va vl (hX.below (hu.trans (hu2.mono hu.size))) hap hr.aok hr.lok' hla hll hj hE1 (hr.outs _ hj hE1).1 (hr.outs _ hj hE1).2).mono (fun e w' h => ⟨h.1, XBTo.from hu2 h.2⟩)
     ·by_cases h3 : t1 = 3
      ·refine good _ [] 3 ac rfl (by rw [hE]; simp [hErrT, hNewT, h3]) (by rw [hN]; simp [hErrT, hNewT, h3]) (by simp only [List.append_nil]; rw [hTe]; exact h3) (by constructor <;> intro h9 <;> first | rfl | (have h8 := hsb; dsimp only; omega) | (exfalso; have h8 := hsb; dsimp only at h9; omega) | (cases h9)) ?_;rw [List.append_nil];refine okg ac 3 (by omega) _ (fun u hu => ?_);refine (follow2 f t i l p g a m u B 3 0 (fun w' => XBTo u w' B t ac ls va vl va vl) (fun u2 hu2 => ?_)).mono (fun e w' h => ⟨h.1, ls, vl, hr, h.2⟩);refine (exec_done f t i l p g a m 2 hi hl256 u2 B t ac ls va vl (hX.below (hu.trans (hu2.mono hu.size))) hap hr.lok' hll hj (by omega)).mono (fun e w' h => ⟨h.1, XBTo.from hu2 h.2⟩)
      ·refine herr 14 (by decide) (by rw [hE]; simp [hErrT, h1, h3]) (oks 14 (by decide) (fun u hu => ?_));refine (follow2 f t i l p g a m u B 0 14 (fun w' => XBTo u w' B t ac ls va vl va vl) (fun u2 hu2 => ?_)).mono (fun e w' h => h);refine (exec_bad f t i l p g a m 2 hi hl256 u2 B t ac ls va vl (hX.below (hu.trans (hu2.mono hu.size))) hap hr.lok' hll hj (by omega)).mono (fun e w' h => ⟨h.1, XBTo.from hu2 h.2⟩)
    ·by_cases h3 : t1 = 3
     ·refine herr 14 (by decide) (by rw [hE]; simp [hErrT, h3]) (oks 14 (by decide) (fun u hu => ?_));refine (follow3 f t i l p g a m u B 0 14 (fun w' => XBTo u w' B t ac ls va vl va vl) (fun u2 hu2 => ?_)).mono (fun e w' h => h);refine (rej_bad f t i l p g a m 3 hi hl256 u2 B t ac ls va vl (hX.below (hu.trans (hu2.mono hu.size))) hap hr.lok' hll hj (by omega)).mono (fun e w' h => ⟨h.1, XBTo.from hu2 h.2⟩)
     ·have hne3 : ls[findB i l ls].st ≠ 3 := by omega
      have main : ∀ new, Rel (evs ++ new) ac (ls.set (findB i l ls) { ls[findB i l ls] with st := 4 }) → Calls Tryz.prog 114 #[.pointer (some ⟨B, 0, none⟩), .string s] w fun e w' => ∃ lv, e = .returned (.tuple #[lv, .string (bs (if 4 = stL i l ls then [] else frameOf ⟨3, f, t, i, l, p, g, a, m⟩)), .int .i64 0]) ∧ ∃ ls' vl', Rel (evs ++ new) ac ls' ∧ XHanded w w' B t ac ls' va vl va vl' lv [ansOf t i l 4] := by
       intro new hR;refine okg ac 4 (by omega) _ (fun u hu => ?_);refine (follow3 f t i l p g a m u B 4 0 (fun w' => XBTo u w' B t ac (ls.set (findB i l ls) { ls[findB i l ls] with st := 4 }) va vl va vl) (fun u2 hu2 => ?_)).mono (fun e w' h => ⟨h.1, _, vl, hR, h.2⟩);refine (rej_ok f t i l p g a m 3 hi hl256 u2 B t ac ls va vl (hX.below (hu.trans (hu2.mono hu.size))) hap hr.lok' hll hj hne3).mono (fun e w' h => ⟨h.1, XBTo.from hu2 h.2⟩)
      by_cases h4 : t1 = 4
      ·refine good _ [] 4 ac rfl (by rw [hE]; simp [hErrT, hNewT, h4]) (by rw [hN]; simp [hErrT, hNewT, h4]) (by simp only [List.append_nil]; rw [hTe]; exact h4) (by constructor <;> intro h9 <;> first | rfl | (have h8 := hsb; dsimp only; omega) | (exfalso; have h8 := hsb; dsimp only at h9; omega) | (cases h9)) ?_;refine main [] ?_;rw [List.append_nil, set_same ls _ hj (by omega)];exact hr
      ·have hok9 : (⟨3, ⟨3, f, t, i, l, p, g, a, m⟩, false⟩ : Ev).ok := ⟨by show (3 : Nat) < 4; omega, hxok⟩;refine good _ [⟨3, ⟨3, f, t, i, l, p, g, a, m⟩, false⟩] 4 ac rfl (by rw [hE]; simp [hErrT, hNewT, h3, n0]) (by rw [hN]; simp [hErrT, hNewT, h3, h4, n0]) (by rw [hTt]; simp [legStep]) (by constructor <;> intro h9 <;> first | rfl | (have h8 := hsb; dsimp only; omega) | (exfalso; have h8 := hsb; dsimp only at h9; omega) | (cases h9)) ?_;refine main _ ?_;refine hr.turn _ (findB i l ls) hj 4 hok9 (by simp) hkey.1.symm hkey.2.symm ?_ (by omega) (.inl ⟨rfl, rfl⟩);rw [hkey.1, hkey.2, hTe];rcases T4 with ⟨g1, g2, g3, g4, g5, g6⟩ | ⟨g1, g2, _⟩
       ·exact ⟨by simp [legStep], by simp, by simp, .inl ⟨by simp [legStep, g1], by simp [legStep, g2], by simp [legStep, g3], by simp [legStep, g4], by simp [legStep, g5], g6⟩⟩
       ·omega
   ·have hj' : ls.length ≤ findB i l ls := by omega
    have hT := hr.no i l hj';have hno := findB_ge i l ls hj';have hsb := stL_no hj';have hTt : ∀ e, (legOf i l (evs ++ [e])).1 = (legStep i l (legOf i l evs) e).1 := fun e => by rw [legOf_snoc]
    rw [hT] at hE hN hTt;have hk3 : k = 1 ∨ k = 2 ∨ k = 3 := by omega
    rcases hk3 with rfl | rfl | rfl
    ·by_cases hfull : 128 ≤ ls.length
     ·refine herr 10 (by decide) (by rw [hE]; simp [hErrT, hfull]) (oks 10 (by decide) (fun u hu => ?_));refine (follow1 f t i l p g a m u B 0 10 (fun w' => XBTo u w' B t ac ls va vl va vl) (fun u2 hu2 => ?_)).mono (fun e w' h => h);refine (prep_full f t i l p g a m hfm 1 hi hl256 hp hg ha u2 B t ac ls va vl (hX.below (hu.trans (hu2.mono hu.size))) hap hr.aok hr.lok' hla hfull hll hr.hb hr.due hj' _ rfl).mono (fun e w' h => ⟨h.1, XBTo.from hu2 h.2⟩)
     ·have hst : ∃ st, st = if canX p g a ac ls then 1 else 2 := ⟨_, rfl⟩;obtain ⟨st, hst⟩ := hst;have hst2 : 1 ≤ st ∧ st ≤ 2 := by rw [hst]; split <;> omega
      have hok9 : (⟨1, ⟨1, f, t, i, l, p, g, a, m⟩, canX p g a ac ls⟩ : Ev).ok := ⟨by show (1 : Nat) < 4; omega, hxok⟩
      have hstep : legStep i l (0, noMsg, false) ⟨1, ⟨1, f, t, i, l, p, g, a, m⟩, canX p g a ac ls⟩ = (st, ⟨1, f, t, i, l, p, g, a, m⟩, true) := by
       rw [hst];cases canX p g a ac ls <;> simp [legStep]
      have hR : ∀ q, q ≤ ls.length → (∀ q' (hq : q' < ls.length), q ≤ q' → aheadB ⟨i, l, st, p, g, a, m⟩ ls[q'] = true) → (∀ j (hj : j < ls.length), q = j + 1 → aheadB ⟨i, l, st, p, g, a, m⟩ ls[j] = false) → Rel (evs ++ [⟨1, ⟨1, f, t, i, l, p, g, a, m⟩, canX p g a ac ls⟩]) ac (insAt ⟨i, l, st, p, g, a, m⟩ q ls) := by
       intro q q1 q2 q3;refine hr.new _ ⟨i, l, st, p, g, a, m⟩ q hok9 (by simp) ⟨⟨hi, hl256, by show st < 256; omega, hp, hg, ha⟩, hl4⟩ rfl rfl q1 (by omega) hno q2 q3 ?_ (by show st ≠ 3; omega) ?_
       ·rw [hstep];exact ⟨rfl, hst2.1, by show st ≤ 4; omega, .inl ⟨rfl, rfl, rfl, rfl, rfl, ha0 rfl⟩⟩
       ·intro h1;have h1' : st = 1 := h1;cases hc : canX p g a ac ls with
        | true => rfl
        | false => rw [hc] at hst; simp at hst; omega
      refine good _ [⟨1, ⟨1, f, t, i, l, p, g, a, m⟩, canX p g a ac ls⟩] st ac rfl (by rw [hE]; simp [hErrT, hNewT, hfull]) (by rw [hN]; simp [hErrT, hNewT, hfull]) (by rw [hTt, hstep]) (by constructor <;> intro h9 <;> first | rfl | (have h8 := hsb; dsimp only; omega) | (exfalso; have h8 := hsb; dsimp only at h9; omega) | (cases h9)) ?_;refine okg ac st (by omega) _ (fun u hu => ?_);refine (follow1 f t i l p g a m u B st 0 (fun w' => ∃ ls' vl', Rel (evs ++ [⟨1, ⟨1, f, t, i, l, p, g, a, m⟩, canX p g a ac ls⟩]) ac ls' ∧ XBTo u w' B t ac ls' va vl va vl') (fun u2 hu2 => ?_)).mono (fun e w' h => h);refine (prep_new f t i l p g a m hfm 1 hi hl256 hp hg ha u2 B t ac ls va vl (hX.below (hu.trans (hu2.mono hu.size))) hap hr.aok hr.lok' hla (by omega) hr.hb hr.due hj' st hst).mono ?_;rintro e w' ⟨h1, q, vl', q1, q2, q3, q4⟩;exact ⟨h1, _, vl', hR q q1 q2 q3, XBTo.from hu2 q4⟩
    ·refine herr 14 (by decide) (by rw [hE]; simp [hErrT]) (oks 14 (by decide) (fun u hu => ?_));refine (follow2 f t i l p g a m u B 0 14 (fun w' => XBTo u w' B t ac ls va vl va vl) (fun u2 hu2 => ?_)).mono (fun e w' h => h);refine (exec_none f t i l p g a m 2 hi hl256 u2 B t ac ls va vl (hX.below (hu.trans (hu2.mono hu.size))) hap hr.lok' hll hj').mono (fun e w' h => ⟨h.1, XBTo.from hu2 h.2⟩)
    ·by_cases hfull : 128 ≤ ls.length
     ·refine herr 10 (by decide) (by rw [hE]; simp [hErrT, hfull]) (oks 10 (by decide) (fun u hu => ?_));refine (follow3 f t i l p g a m u B 0 10 (fun w' => XBTo u w' B t ac ls va vl va vl) (fun u2 hu2 => ?_)).mono (fun e w' h => h);refine (rej_full f t i l p g a m 3 hi hl256 u2 B t ac ls va vl (hX.below (hu.trans (hu2.mono hu.size))) hap hr.lok' hfull hll hj').mono (fun e w' h => ⟨h.1, XBTo.from hu2 h.2⟩)
     ·have hok9 : (⟨3, ⟨3, f, t, i, l, p, g, a, m⟩, false⟩ : Ev).ok := ⟨by show (3 : Nat) < 4; omega, hxok⟩
      have hR : ∀ q, q ≤ ls.length → (∀ q' (hq : q' < ls.length), q ≤ q' → aheadB (bareLg i l) ls[q'] = true) → (∀ j (hj : j < ls.length), q = j + 1 → aheadB (bareLg i l) ls[j] = false) → Rel (evs ++ [⟨3, ⟨3, f, t, i, l, p, g, a, m⟩, false⟩]) ac (insAt (bareLg i l) q ls) := by
       intro q q1 q2 q3;refine hr.new _ (bareLg i l) q hok9 (by simp) ⟨⟨hi, hl256, by show (4 : Nat) < 256; omega, by show (0 : Nat) < 65536; omega, by show (0 : Nat) < 65536; omega, by show (0 : Nat) < 4294967296; omega⟩, hl4⟩ rfl rfl q1 (by omega) hno q2 q3 ?_ (by show (4 : Nat) ≠ 3; omega) (fun h => by have h' : (4 : Nat) = 1 := h; omega);exact ⟨by simp [legStep, bareLg], by simp [bareLg], by simp [bareLg], .inr ⟨by simp [legStep, bareLg], rfl, rfl, rfl, rfl, rfl⟩⟩
      refine good _ [⟨3, ⟨3, f, t, i, l, p, g, a, m⟩, false⟩] 4 ac rfl (by rw [hE]; simp [hErrT, hNewT, hfull]) (by rw [hN]; simp [hErrT, hNewT, hfull]) (by rw [hTt]; simp [legStep]) (by constructor <;> intro h9 <;> first | rfl | (have h8 := hsb; dsimp only; omega) | (exfalso; have h8 := hsb; dsimp only at h9; omega) | (cases h9)) ?_;refine okg ac 4 (by omega) _ (fun u hu => ?_);refine (follow3 f t i l p g a m u B 4 0 (fun w' => ∃ ls' vl', Rel (evs ++ [⟨3, ⟨3, f, t, i, l, p, g, a, m⟩, false⟩]) ac ls' ∧ XBTo u w' B t ac ls' va vl va vl') (fun u2 hu2 => ?_)).mono (fun e w' h => h);refine (rej_new f t i l p g a m 3 hi hl256 u2 B t ac ls va vl (hX.below (hu.trans (hu2.mono hu.size))) hap hr.lok' (by omega) hj').mono ?_;rintro e w' ⟨h1, q, vl', q1, q2, q3, q4⟩;exact ⟨h1, _, vl', hR q q1 q2 q3, XBTo.from hu2 q4⟩
  ·generalize hxx : decMsg s.data.toList = x at *;have hxok := decMsg_ok s.data.toList;rw [hxx] at hxok;obtain ⟨k, f, t, i, l, p, g, a, m⟩ := x;refine bad 4 (by decide) (by unfold rErr; rw [if_neg (by simp [he0]), hxx, if_pos hto]) (xHandle_node s hs' w B ac ls va vl k f t i l p g a m node hto hxok.2.2.1 (by omega) hX he0 hxx hap)
 ·exact bad _ he0 (by unfold rErr; rw [if_pos he0]) (xHandle_dec s hs' w B node ac ls va vl hX hap he0 (decErr_lt _))
theorem wrong_memo {p : Pm} (hw : wrongOf p = 0) : p.memo.length ≤ 64 := by
 unfold wrongOf at hw
 split at hw
 ·omega
 ·split at hw
  ·split at hw
   ·rename_i hm; exact memoB_len hm
   ·omega
  ·omega
theorem mapCore {qs : List Pm} {ps : List Xp} (h : qs.map core = ps.map (fun y => core y.pm)) : qs.length = ps.length ∧ ∀ i (hi : i < qs.length) (hj : i < ps.length), qs[i].id = ps[i].pm.id := by
 have hl := congrArg List.length h
 simp only [List.length_map] at hl
 refine ⟨hl, fun i hi hj => ?_⟩
 have h1 : (qs.map core)[i]? = (ps.map (fun y => core y.pm))[i]? := by rw [h]
 rw [List.getElem?_map, List.getElem?_map, List.getElem?_eq_getElem hi, List.getElem?_eq_getElem hj] at h1
 simp only [Option.map_some, Option.some.injEq] at h1
 exact core_id h1
theorem DRel.sort {acts : List Dt} {ck : Nat} {ps : List Xp} (h : DRel acts ck ps) : ∀ i j (hi : i < ps.length) (hj : j < ps.length), i < j → ps[i].pm.id < ps[j].pm.id := by
 obtain ⟨qs, hP, hm⟩ := h.pays
 obtain ⟨hl, hid⟩ := mapCore hm
 intro i j hi hj hij
 rw [← hid i (by omega) hi, ← hid j (by omega) hj]
 exact List.pairwise_iff_getElem.1 hP.sort i j (by omega) (by omega) hij
theorem DRel.add {acts : List Dt} {ck : Nat} {ps : List Xp} (h : DRel acts ck ps) {p q1 q2 : Pm} (hp : p.ok) (hw : wrongOf p = 0) (hno : ∀ y, y ∈ ps → y.pm.id ≠ p.id) (h32 : ps.length < 32) {k : Nat} (hk : k ≤ ps.length)
  (hk1 : ∀ q (hq : q < ps.length), k ≤ q → p.id < ps[q].pm.id) (hk2 : ∀ j (hj : j < ps.length), k = j + 1 → ¬ p.id < ps[j].pm.id) (h1 : core q1 = core p) (h2 : core q2 = core p) : DRel (acts ++ [⟨-1, q1, zeroMsg⟩]) ck (insX ⟨q2, 1, 0, 0⟩ k ps) := by
 have hin : ∀ x, x ∈ acts ++ [(⟨-1, q1, zeroMsg⟩ : Dt)] → x ∈ acts ∨ x = ⟨-1, q1, zeroMsg⟩ := fun x hx => by simpa using hx
 have hi1 : q1.id = p.id := core_id h1
 have hi2 : q2.id = p.id := core_id h2
 have hok1 : q1.ok := by
  have e : (core q1).ok := by rw [h1]; exact hp
  exact e
 have hok2 : q2.ok := by
  have e : (core q2).ok := by rw [h2]; exact hp
  exact e
 have hw1 : wrongOf q1 = 0 := (wrong_core h1).trans hw
 have hw2 : wrongOf q2 = 0 := (wrong_core h2).trans hw
 have hlow : ∀ j (hj : j < ps.length), j < k → ps[j].pm.id < p.id := by
  intro j hj hjk;have hs := h.sort;have hne := hno _ (List.getElem_mem hj);have hk' : k - 1 < ps.length := by omega
  have h3 := hk2 (k - 1) hk' (by omega);rcases Nat.lt_or_ge j (k - 1) with x | x
  ·have := hs j (k - 1) hj hk' x; omega
  ·obtain rfl : j = k - 1 := by omega
   omega
 refine ⟨?_, ?_, ?_, ?_, ?_, ?_, ?_, ?_, ?_⟩
 ·rw [clockOf_snoc, h.clk]; rfl
 ·intro x hx;rcases hin x hx with hx | rfl
  ·exact h.ok x hx
  ·exact ⟨by show (-1 : Int) ≤ -1; omega, by show (-1 : Int) ≤ 6; omega, hok1, by simp [Msg.ok, zeroMsg]⟩
 ·intro x hx;rcases hin x hx with hx | rfl
  ·exact h.few x hx
  ·intro h4; exact absurd h4 (by simp)
 ·intro x hx;rcases hin x hx with hx | rfl
  ·exact h.pay x hx
  ·exact ⟨wrongOf_few hw1, by have := wrong_memo hw1; show q1.memo.length ≤ 1000; omega⟩
 ·intro y hy;rcases (insX_iff _ _ _ _).1 hy with rfl | hy
  ·have hu := h.new p hno
   have e : stOf q2 (acts ++ [⟨-1, q1, zeroMsg⟩]) = (1, (stOf p acts).2.1, (stOf p acts).2.2.1, (stOf p acts).2.2.2) := by
    rw [stOf_snoc, st_core h2];simp [stStep, hi1, hi2]
   exact ⟨⟨newX_ok hok2, ⟨Nat.le_refl _, by show (1 : Nat) ≤ 3; omega⟩, wrong_memo hw2, wrongOf_few hw2, by show (0 : Nat) < 16; omega, by show (0 : Nat) < 16; omega⟩, hw2, by rw [e], by rw [e]; exact hu.1.symm, by rw [e]; exact hu.2.symm, Nat.pow_pos (by omega)⟩
  ·have g := h.good y hy;have hne := hno y hy
   have e : stOf y.pm (acts ++ [⟨-1, q1, zeroMsg⟩]) = stOf y.pm acts := by
    rw [stOf_snoc];have : ¬ q1.id = y.pm.id := fun e => hne (by omega);simp [stStep, this]
   exact ⟨g.fine, g.right, by rw [e]; exact g.st, by rw [e]; exact g.held, by rw [e]; exact g.done, g.room⟩
 ·obtain ⟨qs, hP, hm⟩ := h.pays;obtain ⟨hl, hid⟩ := mapCore hm;refine ⟨qs.take k ++ q1 :: qs.drop k, ⟨?_, ?_⟩, ?_⟩
  ·have hlo : ∀ a, a ∈ qs.take k → a.id < q1.id := by
    intro a ha;obtain ⟨i, hi, rfl⟩ := List.getElem_of_mem ha;have hi' : i < qs.length ∧ i < k := by simp at hi; omega
    rw [List.getElem_take, hid i hi'.1 (by omega), hi1];exact hlow i (by omega) hi'.2
   have hhi : ∀ a, a ∈ qs.drop k → q1.id < a.id := by
    intro a ha;obtain ⟨i, hi, rfl⟩ := List.getElem_of_mem ha;have hi' : k + i < qs.length := by simp at hi; omega
    rw [List.getElem_drop, hid (k + i) hi' (by omega), hi1];exact hk1 (k + i) (by omega) (by omega)
   rw [List.pairwise_append, List.pairwise_cons];refine ⟨hP.sort.sublist (List.take_sublist _ _), ⟨hhi, hP.sort.sublist (List.drop_sublist _ _)⟩, ?_⟩;intro a ha b hb;rcases List.mem_cons.1 hb with rfl | hb
   ·exact hlo a ha
   ·have := hlo a ha; have := hhi b hb; omega
  ·intro r
   have hr : r ∈ qs.take k ++ q1 :: qs.drop k ↔ r = q1 ∨ r ∈ qs := by
    have h3 : r ∈ qs ↔ r ∈ qs.take k ∨ r ∈ qs.drop k := by rw [← List.mem_append, List.take_append_drop]
    rw [List.mem_append, List.mem_cons, h3];constructor
    ·rintro (h | h | h)
     ·exact .inr (.inl h)
     ·exact .inl h
     ·exact .inr (.inr h)
    ·rintro (h | h | h)
     ·exact .inr (.inl h)
     ·exact .inl h
     ·exact .inr (.inr h)
   rw [hr, hP.mem];constructor
   ·rintro (rfl | ⟨x, hx, h3, h4⟩)
    ·exact ⟨⟨-1, r, zeroMsg⟩, by simp, rfl, rfl⟩
    ·exact ⟨x, List.mem_append_left _ hx, h3, h4⟩
   ·rintro ⟨x, hx, h3, h4⟩;rcases hin x hx with hx | rfl
    ·exact .inr ⟨x, hx, h3, h4⟩
    ·exact .inl h4.symm
  ·simp only [insX, List.map_append, List.map_cons, List.map_take, List.map_drop, hm, h1, h2]
 ·intro id;rw [findOf_snoc, insX_length, ← h.cnt id];simp only [findStep, if_true];split <;> rfl
 ·rw [insX_length]; omega
 ·intro r hr;have hr0 := hr _ (insX_mem ⟨q2, 1, 0, 0⟩ k ps);have := h.new r (fun y hy => hr y ((insX_iff _ _ _ _).2 (.inr hy)));rw [stOf_snoc];simp only [stStep];exact this
theorem hear_err {acts : List Dt} {y : Xp} (g : Stands acts y) {k l : Nat} (hk : k = 4 ∨ k = 5 ∨ k = 6) : (hearX y k l).2.2 = if (k = 5 ∧ (stOf y.pm acts).1 = 2) ∨ (k = 6 ∧ (stOf y.pm acts).1 = 1) then 14 else 0 := by
 have hs := g.fine.st
 rw [← g.st]
 rcases hk with rfl | rfl | rfl
 ·simp [hearX]
 ·by_cases h2 : y.st = 2
  ·simp [hearX, refX, h2]
  ·by_cases h3 : y.st = 3 <;> simp [hearX, refX, h2, h3]
 ·by_cases h2 : y.st = 1 <;> simp [hearX, doneX, h2]
theorem step4 (p : Pm) (s : Nat × Nat × Nat × Nat) (x : Msg) (hi : x.i = p.id) : stStep p s ⟨4, noPm, x⟩ = if s.1 = 1 then (if withOf s.2.1 x.l = fullOf p.legs.length then 2 else 1, withOf s.2.1 x.l, s.2.2.1, s.2.2.2) else s := by
 simp [stStep, hi]
theorem step5 (p : Pm) (s : Nat × Nat × Nat × Nat) (x : Msg) (hi : x.i = p.id) : stStep p s ⟨5, noPm, x⟩ = if s.1 = 1 then (3, s.2.1, s.2.2.1, s.2.2.2) else s := by
 simp [stStep, hi]
theorem step6 (p : Pm) (s : Nat × Nat × Nat × Nat) (x : Msg) (hi : x.i = p.id) : stStep p s ⟨6, noPm, x⟩ = (s.1, s.2.1, withOf s.2.2.1 x.l, s.2.2.2) := by
 simp [stStep, hi]
theorem hear_st {acts : List Dt} {y : Xp} (g : Stands acts y) {x : Msg} (hk : x.k = 4 ∨ x.k = 5 ∨ x.k = 6) (hi : x.i = y.pm.id) (hl : x.l < y.pm.legs.length) (he : (hearX y x.k x.l).2.2 = 0) : Stands (acts ++ [⟨(x.k : Int), noPm, x⟩]) (hearX y x.k x.l).1 := by
 have h4 := wrongOf_few g.right
 obtain ⟨hf, hpm⟩ := hearX_fine g.fine x.k (l := x.l) (by omega)
 have hs := g.fine.st
 have gs := g.st
 have gh := g.held
 have gd := g.done
 have hroom := with_pow y.held x.l _ h4 g.room hl
 have hall := full_all (withOf y.held x.l) _ h4 hroom
 have main : ∀ z : Xp, (hearX y x.k x.l).1 = z → z.st = (stStep y.pm (stOf y.pm acts) ⟨(x.k : Int), noPm, x⟩).1 → z.held = (stStep y.pm (stOf y.pm acts) ⟨(x.k : Int), noPm, x⟩).2.1 → z.done = (stStep y.pm (stOf y.pm acts) ⟨(x.k : Int), noPm, x⟩).2.2.1 → z.held < 2 ^ y.pm.legs.length → Stands (acts ++ [⟨(x.k : Int), noPm, x⟩]) z := by
  intro z hz h1 h2 h3 h5;rw [hz] at hf hpm;exact ⟨hf, by rw [hpm]; exact g.right, by rw [hpm, stOf_snoc]; exact h1, by rw [hpm, stOf_snoc]; exact h2, by rw [hpm, stOf_snoc]; exact h3, by rw [hpm]; exact h5⟩
 refine main _ rfl ?_ ?_ ?_ ?_
 all_goals (
  clear main hf hpm;have hroom0 := g.room;clear g;generalize stOf y.pm acts = S at *;obtain ⟨s1, s2, s3, s4⟩ := S;simp only at gs gh gd
  rcases hk with hk | hk | hk <;> rw [hk] at he ⊢)
 all_goals (first
  | rw [show ((4 : Nat) : Int) = 4 from rfl, step4 _ _ _ hi]
  | rw [show ((5 : Nat) : Int) = 5 from rfl, step5 _ _ _ hi]
  | rw [show ((6 : Nat) : Int) = 6 from rfl, step6 _ _ _ hi]
  | skip)
 all_goals (
  obtain ⟨pm, st, held, done⟩ := y;simp only at gs gh gd hs hroom hall hroom0 hl hi
  subst gs gh gd)
 all_goals (
  by_cases h1 : st = 1
  ·subst h1;by_cases h2 : withOf held x.l = fullOf pm.legs.length
   ·simp_all [hearX, prepX, refX, doneX]
   ·simp_all [hearX, prepX, refX, doneX]
  ·by_cases h2 : st = 2
   ·simp_all [hearX, prepX, refX, doneX]
   ·obtain rfl : st = 3 := by omega
    simp_all [hearX, prepX, refX, doneX])
theorem DRel.take {acts : List Dt} {ck : Nat} {ps : List Xp} (h : DRel acts ck ps) {x : Msg} (hx : x.ok) (hk : x.k = 4 ∨ x.k = 5 ∨ x.k = 6) (hl4 : x.l < 4) (hj : findX x.i ps < ps.length) (hhl : hasLegB ps[findX x.i ps].pm x.l x.f = true) (he : (hearX ps[findX x.i ps] x.k x.l).2.2 = 0) : DRel (acts ++ [⟨(x.k : Int), noPm, x⟩]) ck (ps.set (findX x.i ps) (hearX ps[findX x.i ps] x.k x.l).1) := by
 have hn : (⟨(x.k : Int), noPm, x⟩ : Dt).kind ≠ -1 := by show (x.k : Int) ≠ -1; omega
 have hn0 : ¬ (x.k : Int) = 0 := by omega
 have hn1 : ¬ (x.k : Int) = -1 := by omega
 have hin : ∀ z, z ∈ acts ++ [(⟨(x.k : Int), noPm, x⟩ : Dt)] → z ∈ acts ∨ z = ⟨(x.k : Int), noPm, x⟩ := fun x hx => by simpa using hx
 have hat := findX_at x.i ps hj
 have g0 := h.good _ (List.getElem_mem hj)
 obtain ⟨hl, _⟩ := hasLegB_at hhl
 obtain ⟨hzf, hzp⟩ := hearX_fine g0.fine x.k hl4
 refine ⟨?_, ?_, ?_, ?_, ?_, ?_, ?_, ?_, ?_⟩
 ·rw [clockOf_snoc, h.clk]; simp only [clockStep, if_neg hn0]
 ·intro z hz;rcases hin z hz with hz | rfl
  ·exact h.ok z hz
  ·exact ⟨by show (-1 : Int) ≤ (x.k : Int); omega, by show (x.k : Int) ≤ 6; omega, ⟨by show (0 : Nat) < 4294967296; omega, by show (0 : Nat) < 18446744073709551616; omega, fun l hl => by simp [noPm] at hl⟩, hx⟩
 ·intro z hz;rcases hin z hz with hz | rfl
  ·exact h.few z hz
  ·intro _; exact hl4
 ·intro z hz;rcases hin z hz with hz | rfl
  ·exact h.pay z hz
  ·exact ⟨by show (0 : Nat) ≤ 4; omega, by show (0 : Nat) ≤ 1000; omega⟩
 ·intro y hy;obtain ⟨i, hi, rfl⟩ := List.getElem_of_mem hy;have hi' : i < ps.length := by simpa using hi
  rw [List.getElem_set];split
  ·exact hear_st g0 hk hat.symm hl he
  ·rename_i hne;have g := h.good _ (List.getElem_mem hi')
   have hid : ¬ x.i = ps[i].pm.id := by
    rw [← hat];have hs := h.sort;rcases Nat.lt_or_gt_of_ne hne with c | c
    ·have := hs _ _ hj hi' c; omega
    ·have := hs _ _ hi' hj c; omega
   have e : stOf ps[i].pm (acts ++ [⟨(x.k : Int), noPm, x⟩]) = stOf ps[i].pm acts := by
    rw [stOf_snoc];simp only [stStep, if_neg hn0, if_neg hn1, ne_eq, hid, not_false_eq_true, if_true]
   exact ⟨g.fine, g.right, by rw [e]; exact g.st, by rw [e]; exact g.held, by rw [e]; exact g.done, g.room⟩
 ·obtain ⟨qs, hP, hm⟩ := h.pays;refine ⟨qs, hP.other hn, ?_⟩;rw [hm, List.map_set, hzp];apply List.ext_getElem?;intro i;rw [List.getElem?_set];split
  ·rename_i e; subst e; simp [hj]
  ·rfl
 ·intro id;rw [find_other hn, h.cnt, List.length_set]
 ·rw [List.length_set]; exact h.len
 ·intro p hp
  have hp0 : ∀ y, y ∈ ps → y.pm.id ≠ p.id := by
   intro y hy;obtain ⟨i, hi, rfl⟩ := List.getElem_of_mem hy;by_cases e : i = findX x.i ps
   ·have := hp _ (List.mem_set hj _);rw [hzp] at this;simp only [e]; exact this
   ·have := hp ((ps.set (findX x.i ps) (hearX ps[findX x.i ps] x.k x.l).1)[i]'(by simpa using hi)) (List.getElem_mem _);rw [List.getElem_set_ne (fun c => e c.symm)] at this;exact this
  have hid : ¬ x.i = p.id := by rw [← hat]; exact hp0 _ (List.getElem_mem hj)
  rw [stOf_snoc];have := h.new p hp0;simp only [stStep, if_neg hn0, if_neg hn1, ne_eq, hid, not_false_eq_true, if_true];exact this
theorem hear_outs {acts : List Dt} {y : Xp} (g : Stands acts y) {x : Msg} {q : Pm} (hq : core q = core y.pm) (hk : x.k = 4 ∨ x.k = 5 ∨ x.k = 6) (hi : x.i = y.pm.id) (hl : x.l < y.pm.legs.length) (he : (hearX y x.k x.l).2.2 = 0) : (hearX y x.k x.l).2.1 = tSay q x (stOf q acts).1 (stOf q (acts ++ [⟨(x.k : Int), noPm, x⟩])).1 := by
 have hst := hear_st g hk hi hl he
 have h4 := wrongOf_few g.right
 obtain ⟨hf, hpm⟩ := hearX_fine g.fine x.k (l := x.l) (by omega)
 have hs := g.fine.st
 have hlq : x.l < q.legs.length := by rw [legs_core hq]; exact hl
 have e1 : (stOf q acts).1 = y.st := by rw [st_core hq, g.st]
 have e2 : (stOf q (acts ++ [⟨(x.k : Int), noPm, x⟩])).1 = (hearX y x.k x.l).1.st := by rw [st_core hq, hst.st, hpm]
 rw [e1, e2]
 have s0 : ∀ st, sayL y.pm st 15 = asksOf q (askKind st) 0 := fun st => by rw [asks_core hq]; exact say_asks g.right st 0 (by omega)
 have s1 : ∀ st, sayL y.pm st (2 ^ x.l) = [askOf q q.legs[x.l] x.l (askKind st)] := fun st => by
  rw [say_one g.right st x.l hl]
  have h1 : askOf (core y.pm) y.pm.legs[x.l] x.l (askKind st) = askOf (core q) q.legs[x.l] x.l (askKind st) := by
   rw [hq];simp only [legs_core hq]
  have h2 : askOf y.pm y.pm.legs[x.l] x.l (askKind st) = askOf q q.legs[x.l] x.l (askKind st) := h1;rw [h2]
 unfold tSay
 rw [List.getElem?_eq_getElem hlq]
 clear hst hpm hf e1 e2 hq
 rcases hk with hk | hk | hk <;> rw [hk] at he ⊢
 ·by_cases h1 : y.st = 1
  ·by_cases h2 : allTo (withOf y.held x.l) y.pm.legs.length = true
   ·simp [hearX, prepX, h1, h2, s0]
   ·simp [hearX, prepX, h1, h2]
  ·simp [hearX, prepX, h1, s1]
 ·by_cases h1 : y.st = 1
  ·simp [hearX, refX, h1, s0]
  ·by_cases h2 : y.st = 2
   ·simp [hearX, refX, h2] at he
   ·have h3 : y.st = 3 := by omega
    simp [hearX, refX, h3, s1]
 ·simp [hearX]
end Go.Proofs.YtjkhbjgfoopomabGreat
