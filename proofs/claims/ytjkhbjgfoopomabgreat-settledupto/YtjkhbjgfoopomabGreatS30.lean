import Derived.Test.YtjkhbjgfoopomabGreatS28
import Derived.Test.YtjkhbjgfoopomabGreatS8
import Derived.Test.YtjkhbjgfoopomabGreatS29
import Derived.Test.YtjkhbjgfoopomabGreatS7
/-
  The program's Bank.Handle, for every text, held against the document's.
-/
namespace Go.Proofs.YtjkhbjgfoopomabGreat
open Go.RowKit
set_option linter.unusedVariables false
set_option linter.unusedSimpArgs false

theorem fault_lt (x : Msg) : faultOf x < 100 := by
  unfold faultOf termsOf
  (repeat' split) <;> omega
theorem decErr_lt (l : List UInt8) : decErr l < 100 := by
  unfold decErr
  split
  · omega
  · split
    · omega
    · exact fault_lt _
/-- what Handle logs: the frame, where something has changed -/
def rLog (node : Nat) (l : List UInt8) (evs : List Ev) : List UInt8 := if (rEvs node l evs).length = evs.length then [] else frameOf (decMsg l)
/-- Handle's answer, held against the document's -/
def XDone (w : World) (B node : Nat) (evs : List Ev) (l : List UInt8) (va vl : Value) (e : Ending) (w' : World) : Prop :=
  ∃ lv ac' ls' va' vl', e = .returned (.tuple #[lv, .string (bs (rLog node l evs)), .int .i64 (rErr node l evs : Int)]) ∧ Rel (rEvs node l evs) ac' ls' ∧ XHanded w w' B node ac' ls' va vl va' vl' lv (rOuts node l evs)
theorem Rel.lok' {evs : List Ev} {ac : List Ac} {ls : List Lg} (h : Rel evs ac ls) : ∀ x, x ∈ ls → x.ok := fun x hx => (h.lok x hx).1
theorem Rel.due {evs : List Ev} {ac : List Ac} {ls : List Lg} (h : Rel evs ac ls) : ∀ a, dueL a ls < 4294967296 := fun a => by have := h.bd a; omega
theorem Rel.one {evs : List Ev} {ac : List Ac} {ls : List Lg} (h : Rel evs ac ls) (x : Ac) (hx : x ∈ ac) : balL x.n ac = x.b := bal_mem ac h.nod x hx 0
theorem Rel.outs {evs : List Ev} {ac : List Ac} {ls : List Lg} (h : Rel evs ac ls) (j : Nat) (hj : j < ls.length) (h1 : ls[j].st = 1) : (∀ x, x ∈ ac → x.n = ls[j].p → ls[j].a ≤ x.b) ∧ ∀ x, x ∈ ac → x.n = ls[j].g → x.b + ls[j].a < 4294967296 := by
  constructor
  · intro x hx hp
    have h2 := h.one x hx
    have h3 := h.hb x.n
    have h4 := sumL_ge (payL ls[j].p) ls j hj
    rw [hp] at h2 h3
    have h5 : payL ls[j].p ls[j] = ls[j].a := by simp [payL, h1]
    have h6 : heldL ls[j].p ls = sumL (payL ls[j].p) ls := rfl
    omega
  · intro x hx hp
    have h2 := h.one x hx
    have h3 := h.bd x.n
    have h4 := sumL_ge (getL ls[j].g) ls j hj
    rw [hp] at h2 h3
    have h5 : getL ls[j].g ls[j] = ls[j].a := by simp [getL, h1]
    have h6 : dueL ls[j].g ls = sumL (getL ls[j].g) ls := rfl
    omega
theorem set_same (ls : List Lg) (j : Nat) (hj : j < ls.length) (h4 : ls[j].st = 4) : ls.set j { ls[j] with st := 4 } = ls := by
  have : ({ ls[j] with st := 4 } : Lg) = ls[j] := by rw [← h4]
  rw [this, List.set_getElem_self]

set_option maxHeartbeats 1000000 in
theorem xHandle_any (s : ByteArray) (hs : s.size ≤ 140737488351232) (w : World) (B node : Nat) (hnode : 1 ≤ node ∧ node ≤ 7) (evs : List Ev) (ac : List Ac) (ls : List Lg) (va vl : Value) (hr : Rel evs ac ls) (hX : XB w B node ac ls va vl) (hap : Apart B va vl) :
    Calls Tryz.prog 114 #[.pointer (some ⟨B, 0, none⟩), .string s] w (XDone w B node evs s.data.toList va vl) := by
  have hs' : s.size ≤ maxLen := by unfold maxLen; omega
  have hla : ac.length ≤ 1000000 := by have := hr.alen; omega
  have hll : ls.length ≤ 1000000 := by have := hr.llen; omega
  have bad : ∀ er : Nat, er ≠ 0 → rErr node s.data.toList evs = er → (Calls Tryz.prog 114 #[.pointer (some ⟨B, 0, none⟩), .string s] w fun e w' => e = .returned (.tuple #[.slice none 0 0, .string ⟨#[]⟩, .int .i64 (er : Int)]) ∧ XBTo w w' B node ac ls va vl va vl) → Calls Tryz.prog 114 #[.pointer (some ⟨B, 0, none⟩), .string s] w (XDone w B node evs s.data.toList va vl) := by
    intro er h0 he hC
    refine Calls.mono hC ?_
    rintro e w' ⟨rfl, hto⟩
    have h1 : rEvs node s.data.toList evs = evs := by unfold rEvs; rw [he, if_neg h0]
    have h2 : rOuts node s.data.toList evs = [] := by unfold rOuts; rw [he, if_neg h0]
    refine ⟨_, ac, ls, va, vl, by unfold rLog; rw [he, h1, if_pos rfl]; rfl, by rw [h1]; exact hr, ?_⟩
    rw [h2]
    exact XHanded.nil hto
  by_cases he0 : decErr s.data.toList = 0
  · by_cases hto : (decMsg s.data.toList).t = node
    · have hx : rErr node s.data.toList evs = hErrOf (decMsg s.data.toList) evs := by unfold rErr; rw [if_neg (by simp [he0]), if_neg (by simp [hto])]
      have good : ∀ (x : Msg) (new : List Ev) (st : Nat) (ac' : List Ac), decMsg s.data.toList = x → hErrOf x evs = 0 → hEvsOf x evs = evs ++ new → (legOf x.i x.l (evs ++ new)).1 = st → (st = stL x.i x.l ls ↔ new = []) → (Calls Tryz.prog 114 #[.pointer (some ⟨B, 0, none⟩), .string s] w fun e w' => ∃ lv, e = .returned (.tuple #[lv, .string (bs (if st = stL x.i x.l ls then [] else frameOf x)), .int .i64 0]) ∧ ∃ ls' vl', Rel (evs ++ new) ac' ls' ∧ XHanded w w' B node ac' ls' va vl va vl' lv [ansOf node x.i x.l st]) → Calls Tryz.prog 114 #[.pointer (some ⟨B, 0, none⟩), .string s] w (XDone w B node evs s.data.toList va vl) := by
        intro x new st ac' hxx h0 hn hst hlg hC
        have he : rErr node s.data.toList evs = 0 := by rw [hx, hxx, h0]
        have h1 : rEvs node s.data.toList evs = evs ++ new := by unfold rEvs; rw [if_pos he, hxx, hn]
        have h2 : rOuts node s.data.toList evs = [ansOf node x.i x.l st] := by unfold rOuts; rw [if_pos he, hxx, hn, hst]
        refine Calls.mono hC ?_
        rintro e w' ⟨lv, rfl, ls', vl', hR, hH⟩
        have hl9 : (if st = stL x.i x.l ls then [] else frameOf x) = rLog node s.data.toList evs := by
          unfold rLog
          rw [h1, hxx]
          by_cases hnew : new = []
          · rw [if_pos (hlg.2 hnew), if_pos (by rw [hnew, List.append_nil])]
          · rw [if_neg (fun e => hnew (hlg.1 e)), if_neg (by rw [List.length_append]; have : new.length ≠ 0 := fun e => hnew (List.length_eq_zero_iff.1 e); omega)]
        refine ⟨lv, ac', ls', va, vl', by rw [he, hl9]; rfl, by rw [h1]; exact hR, ?_⟩
        rw [h2]
        exact hH
      have hfk := fault_kind _ (decMsg_fault _ he0) (by omega)
      have hfm := fault_zero_memo (decMsg_fault _ he0)
      have hxok := decMsg_ok s.data.toList
      have herr : ∀ er, er ≠ 0 → hErrOf (decMsg s.data.toList) evs = er → _ := fun er h0 h => bad er h0 (by rw [hx, h])
      generalize hxx : decMsg s.data.toList = x at *
      obtain ⟨k, f, t, i, l, p, g, a, m⟩ := x
      simp only at hfk hto hfm
      subst hto
      have hE : hErrOf ⟨k, f, t, i, l, p, g, a, m⟩ evs = hErrT ⟨k, f, t, i, l, p, g, a, m⟩ (legOf i l evs) (keysOf evs).length := rfl
      have hN : hEvsOf ⟨k, f, t, i, l, p, g, a, m⟩ evs = evs ++ hNewT ⟨k, f, t, i, l, p, g, a, m⟩ (legOf i l evs) (keysOf evs).length (canB ⟨k, f, t, i, l, p, g, a, m⟩ evs) := rfl
      rw [hr.kept] at hE hN
      have ecan : canB ⟨k, f, t, i, l, p, g, a, m⟩ evs = canX p g a ac ls := hr.can _
      rw [ecan] at hN
      obtain ⟨k1, k3, hl4, ha0⟩ := hfk
      have hi : i < 4294967296 := hxok.2.2.2.1
      have hp : p < 65536 := hxok.2.2.2.2.2.1
      have hg : g < 65536 := hxok.2.2.2.2.2.2.1
      have ha : a < 4294967296 := hxok.2.2.2.2.2.2.2
      have hl256 : l < 256 := by omega
      have oks : ∀ (er : Nat), _ := fun er her hC => xHandle_err s hs' w B ac ls va vl k f t i l p g a m er her hX he0 hxx hap hi hl256 hr.lok' hll hC
      have okg := fun (ac' : List Ac) (st : Nat) hst Q hC => xHandle_ok s hs' w B ac ac' ls va vl va k f t i l p g a m hfm hxok st hst hl4 hnode hX hr.lok' hll he0 hxx Q hC
      by_cases hj : findB i l ls < ls.length
      · have hT := hr.at i l hj
        have hkey := findB_lt i l ls hj
        have hsb := stL_at hj
        have hTt : ∀ e, (legOf i l (evs ++ [e])).1 = (legStep i l (legOf i l evs) e).1 := fun e => by rw [legOf_snoc]
        generalize hTe : legOf i l evs = T at *
        obtain ⟨t1, ⟨nk, nf, nt, ni, nl, np, ng, na, nm⟩, t3⟩ := T
        have hk3 : k = 1 ∨ k = 2 ∨ k = 3 := by omega
        obtain ⟨T1, T2, T3, T4⟩ := hT
        simp only at T1 T4
        have n0 : t1 ≠ 0 := by omega
        rcases hk3 with rfl | rfl | rfl
        · rcases T4 with ⟨rfl, rfl, rfl, rfl, rfl, hna⟩ | ⟨rfl, h4, e1, e2, e3, e4⟩
          · by_cases ho : ls[findB i l ls].p = p ∧ ls[findB i l ls].g = g ∧ ls[findB i l ls].a = a ∧ ls[findB i l ls].m = m
            · obtain ⟨rfl, rfl, rfl, rfl⟩ := ho
              refine good _ [] t1 ac rfl (by rw [hE]; simp [hErrT, hNewT, otherB, n0]) (by rw [hN]; simp [hErrT, hNewT, otherB, n0]) (by simp only [List.append_nil]; rw [hTe]) (by constructor <;> intro h9 <;> first | rfl | (have h8 := hsb; dsimp only; omega) | (exfalso; have h8 := hsb; dsimp only at h9; omega) | (cases h9)) ?_
              rw [List.append_nil]
              refine okg ac t1 (by omega) _ (fun u hu => ?_)
              refine (follow1 f t i l _ _ _ _ u B t1 0 (fun w' => XBTo u w' B t ac ls va vl va vl) (fun u2 hu2 => ?_)).mono (fun e w' h => ⟨h.1, ls, vl, hr, h.2⟩)
              refine (prep_same f t i l _ _ _ _ hfm 1 hi hl256 hp hg ha u2 B t ac ls va vl (hX.below (hu.trans (hu2.mono hu.size))) hap hr.lok' hll hj t1 T1.symm ⟨rfl, rfl, rfl, rfl⟩).mono (fun e w' h => ⟨h.1, XBTo.from hu2 h.2⟩)
            · refine herr 11 (by decide) (by
                rw [hE]
                have : otherB ⟨1, f, t, i, l, p, g, a, m⟩ ⟨nk, nf, nt, ni, nl, ls[findB i l ls].p, ls[findB i l ls].g, ls[findB i l ls].a, ls[findB i l ls].m⟩ = true := by
                  simp only [otherB, Bool.or_eq_true, decide_eq_true_eq]
                  by_cases q1 : ls[findB i l ls].p = p
                  · by_cases q2 : ls[findB i l ls].g = g
                    · by_cases q3 : ls[findB i l ls].a = a
                      · exact .inr (.inr (.inr fun q4 => ho ⟨q1, q2, q3, q4⟩))
                      · exact .inr (.inr (.inl q3))
                    · exact .inr (.inl q2)
                  · exact .inl q1
                simp [hErrT, this]) (oks 11 (by decide) (fun u hu => ?_))
              refine (follow1 f t i l p g a m u B 0 11 (fun w' => XBTo u w' B t ac ls va vl va vl) (fun u2 hu2 => ?_)).mono (fun e w' h => h)
              refine (prep_conflict f t i l p g a m hfm 1 hi hl256 hp hg ha u2 B t ac ls va vl (hX.below (hu.trans (hu2.mono hu.size))) hap hr.lok' hll hj ⟨hna, ho⟩).mono (fun e w' h => ⟨h.1, XBTo.from hu2 h.2⟩)
          · refine good _ [] t1 ac rfl (by rw [hE]; simp [hErrT, hNewT, n0]) (by rw [hN]; simp [hErrT, hNewT, n0]) (by simp only [List.append_nil]; rw [hTe]) (by constructor <;> intro h9 <;> first | rfl | (have h8 := hsb; dsimp only; omega) | (exfalso; have h8 := hsb; dsimp only at h9; omega) | (cases h9)) ?_
            rw [List.append_nil]
            refine okg ac t1 (by omega) _ (fun u hu => ?_)
            refine (follow1 f t i l p g a m u B t1 0 (fun w' => XBTo u w' B t ac ls va vl va vl) (fun u2 hu2 => ?_)).mono (fun e w' h => ⟨h.1, ls, vl, hr, h.2⟩)
            refine (prep_bare f t i l p g a m hfm 1 hi hl256 hp hg ha u2 B t ac ls va vl (hX.below (hu.trans (hu2.mono hu.size))) hap hr.lok' hll hj t1 T1.symm (ha0 rfl) ⟨e1, e2, e3, e4⟩).mono (fun e w' h => ⟨h.1, XBTo.from hu2 h.2⟩)
        · by_cases h1 : t1 = 1
          · have hE1 : ls[findB i l ls].st = 1 := by omega
            have hok9 : (⟨2, ⟨2, f, t, i, l, p, g, a, m⟩, false⟩ : Ev).ok := ⟨by show (2 : Nat) < 4; omega, hxok⟩
            have hR : Rel (evs ++ [⟨2, ⟨2, f, t, i, l, p, g, a, m⟩, false⟩]) (movedL ls[findB i l ls].p ls[findB i l ls].g ls[findB i l ls].a ac) (ls.set (findB i l ls) { ls[findB i l ls] with st := 3 }) := by
              refine hr.turn _ (findB i l ls) hj 3 hok9 (by simp) hkey.1.symm hkey.2.symm ?_ (.inl hE1) (.inr ⟨rfl, hE1, rfl⟩)
              rw [hkey.1, hkey.2, hTe]
              rcases T4 with ⟨g1, g2, g3, g4, g5, g6⟩ | ⟨g1, g2, _⟩
              · exact ⟨by simp [legStep], by simp, by simp, .inl ⟨by simp [legStep, g1], by simp [legStep, g2], by simp [legStep, g3], by simp [legStep, g4], by simp [legStep, g5], g6⟩⟩
              · omega
            refine good _ [⟨2, ⟨2, f, t, i, l, p, g, a, m⟩, false⟩] 3 (movedL ls[findB i l ls].p ls[findB i l ls].g ls[findB i l ls].a ac) rfl (by rw [hE]; simp [hErrT, hNewT, h1]) (by rw [hN]; simp [hErrT, hNewT, h1]) (by rw [hTt]; simp [legStep]) (by constructor <;> intro h9 <;> first | rfl | (have h8 := hsb; dsimp only; omega) | (exfalso; have h8 := hsb; dsimp only at h9; omega) | (cases h9)) ?_
            refine okg _ 3 (by omega) _ (fun u hu => ?_)
            refine (follow2 f t i l p g a m u B 3 0 (fun w' => XBTo u w' B t (movedL ls[findB i l ls].p ls[findB i l ls].g ls[findB i l ls].a ac) (ls.set (findB i l ls) { ls[findB i l ls] with st := 3 }) va vl va vl) (fun u2 hu2 => ?_)).mono (fun e w' h => ⟨h.1, _, vl, hR, h.2⟩)
            refine (exec_held f t i l p g a m 2 hi hl256 u2 B t ac ls va vl (hX.below (hu.trans (hu2.mono hu.size))) hap hr.aok hr.lok' hla hll hj hE1 (hr.outs _ hj hE1).1 (hr.outs _ hj hE1).2).mono (fun e w' h => ⟨h.1, XBTo.from hu2 h.2⟩)
          · by_cases h3 : t1 = 3
            · refine good _ [] 3 ac rfl (by rw [hE]; simp [hErrT, hNewT, h3]) (by rw [hN]; simp [hErrT, hNewT, h3]) (by simp only [List.append_nil]; rw [hTe]; exact h3) (by constructor <;> intro h9 <;> first | rfl | (have h8 := hsb; dsimp only; omega) | (exfalso; have h8 := hsb; dsimp only at h9; omega) | (cases h9)) ?_
              rw [List.append_nil]
              refine okg ac 3 (by omega) _ (fun u hu => ?_)
              refine (follow2 f t i l p g a m u B 3 0 (fun w' => XBTo u w' B t ac ls va vl va vl) (fun u2 hu2 => ?_)).mono (fun e w' h => ⟨h.1, ls, vl, hr, h.2⟩)
              refine (exec_done f t i l p g a m 2 hi hl256 u2 B t ac ls va vl (hX.below (hu.trans (hu2.mono hu.size))) hap hr.lok' hll hj (by omega)).mono (fun e w' h => ⟨h.1, XBTo.from hu2 h.2⟩)
            · refine herr 14 (by decide) (by rw [hE]; simp [hErrT, h1, h3]) (oks 14 (by decide) (fun u hu => ?_))
              refine (follow2 f t i l p g a m u B 0 14 (fun w' => XBTo u w' B t ac ls va vl va vl) (fun u2 hu2 => ?_)).mono (fun e w' h => h)
              refine (exec_bad f t i l p g a m 2 hi hl256 u2 B t ac ls va vl (hX.below (hu.trans (hu2.mono hu.size))) hap hr.lok' hll hj (by omega)).mono (fun e w' h => ⟨h.1, XBTo.from hu2 h.2⟩)
        · by_cases h3 : t1 = 3
          · refine herr 14 (by decide) (by rw [hE]; simp [hErrT, h3]) (oks 14 (by decide) (fun u hu => ?_))
            refine (follow3 f t i l p g a m u B 0 14 (fun w' => XBTo u w' B t ac ls va vl va vl) (fun u2 hu2 => ?_)).mono (fun e w' h => h)
            refine (rej_bad f t i l p g a m 3 hi hl256 u2 B t ac ls va vl (hX.below (hu.trans (hu2.mono hu.size))) hap hr.lok' hll hj (by omega)).mono (fun e w' h => ⟨h.1, XBTo.from hu2 h.2⟩)
          · have hne3 : ls[findB i l ls].st ≠ 3 := by omega
            have main : ∀ new, Rel (evs ++ new) ac (ls.set (findB i l ls) { ls[findB i l ls] with st := 4 }) → Calls Tryz.prog 114 #[.pointer (some ⟨B, 0, none⟩), .string s] w fun e w' => ∃ lv, e = .returned (.tuple #[lv, .string (bs (if 4 = stL i l ls then [] else frameOf ⟨3, f, t, i, l, p, g, a, m⟩)), .int .i64 0]) ∧ ∃ ls' vl', Rel (evs ++ new) ac ls' ∧ XHanded w w' B t ac ls' va vl va vl' lv [ansOf t i l 4] := by
              intro new hR
              refine okg ac 4 (by omega) _ (fun u hu => ?_)
              refine (follow3 f t i l p g a m u B 4 0 (fun w' => XBTo u w' B t ac (ls.set (findB i l ls) { ls[findB i l ls] with st := 4 }) va vl va vl) (fun u2 hu2 => ?_)).mono (fun e w' h => ⟨h.1, _, vl, hR, h.2⟩)
              refine (rej_ok f t i l p g a m 3 hi hl256 u2 B t ac ls va vl (hX.below (hu.trans (hu2.mono hu.size))) hap hr.lok' hll hj hne3).mono (fun e w' h => ⟨h.1, XBTo.from hu2 h.2⟩)
            by_cases h4 : t1 = 4
            · refine good _ [] 4 ac rfl (by rw [hE]; simp [hErrT, hNewT, h4]) (by rw [hN]; simp [hErrT, hNewT, h4]) (by simp only [List.append_nil]; rw [hTe]; exact h4) (by constructor <;> intro h9 <;> first | rfl | (have h8 := hsb; dsimp only; omega) | (exfalso; have h8 := hsb; dsimp only at h9; omega) | (cases h9)) ?_
              refine main [] ?_
              rw [List.append_nil, set_same ls _ hj (by omega)]
              exact hr
            · have hok9 : (⟨3, ⟨3, f, t, i, l, p, g, a, m⟩, false⟩ : Ev).ok := ⟨by show (3 : Nat) < 4; omega, hxok⟩
              refine good _ [⟨3, ⟨3, f, t, i, l, p, g, a, m⟩, false⟩] 4 ac rfl (by rw [hE]; simp [hErrT, hNewT, h3, n0]) (by rw [hN]; simp [hErrT, hNewT, h3, h4, n0]) (by rw [hTt]; simp [legStep]) (by constructor <;> intro h9 <;> first | rfl | (have h8 := hsb; dsimp only; omega) | (exfalso; have h8 := hsb; dsimp only at h9; omega) | (cases h9)) ?_
              refine main _ ?_
              refine hr.turn _ (findB i l ls) hj 4 hok9 (by simp) hkey.1.symm hkey.2.symm ?_ (by omega) (.inl ⟨rfl, rfl⟩)
              rw [hkey.1, hkey.2, hTe]
              rcases T4 with ⟨g1, g2, g3, g4, g5, g6⟩ | ⟨g1, g2, _⟩
              · exact ⟨by simp [legStep], by simp, by simp, .inl ⟨by simp [legStep, g1], by simp [legStep, g2], by simp [legStep, g3], by simp [legStep, g4], by simp [legStep, g5], g6⟩⟩
              · omega
      · have hj' : ls.length ≤ findB i l ls := by omega
        have hT := hr.no i l hj'
        have hno := findB_ge i l ls hj'
        have hsb := stL_no hj'
        have hTt : ∀ e, (legOf i l (evs ++ [e])).1 = (legStep i l (legOf i l evs) e).1 := fun e => by rw [legOf_snoc]
        rw [hT] at hE hN hTt
        have hk3 : k = 1 ∨ k = 2 ∨ k = 3 := by omega
        rcases hk3 with rfl | rfl | rfl
        · by_cases hfull : 128 ≤ ls.length
          · refine herr 10 (by decide) (by rw [hE]; simp [hErrT, hfull]) (oks 10 (by decide) (fun u hu => ?_))
            refine (follow1 f t i l p g a m u B 0 10 (fun w' => XBTo u w' B t ac ls va vl va vl) (fun u2 hu2 => ?_)).mono (fun e w' h => h)
            refine (prep_full f t i l p g a m hfm 1 hi hl256 hp hg ha u2 B t ac ls va vl (hX.below (hu.trans (hu2.mono hu.size))) hap hr.aok hr.lok' hla hfull hll hr.hb hr.due hj' _ rfl).mono (fun e w' h => ⟨h.1, XBTo.from hu2 h.2⟩)
          · have hst : ∃ st, st = if canX p g a ac ls then 1 else 2 := ⟨_, rfl⟩
            obtain ⟨st, hst⟩ := hst
            have hst2 : 1 ≤ st ∧ st ≤ 2 := by rw [hst]; split <;> omega
            have hok9 : (⟨1, ⟨1, f, t, i, l, p, g, a, m⟩, canX p g a ac ls⟩ : Ev).ok := ⟨by show (1 : Nat) < 4; omega, hxok⟩
            have hstep : legStep i l (0, noMsg, false) ⟨1, ⟨1, f, t, i, l, p, g, a, m⟩, canX p g a ac ls⟩ = (st, ⟨1, f, t, i, l, p, g, a, m⟩, true) := by
              rw [hst]
              cases canX p g a ac ls <;> simp [legStep]
            have hR : ∀ q, q ≤ ls.length → (∀ q' (hq : q' < ls.length), q ≤ q' → aheadB ⟨i, l, st, p, g, a, m⟩ ls[q'] = true) → (∀ j (hj : j < ls.length), q = j + 1 → aheadB ⟨i, l, st, p, g, a, m⟩ ls[j] = false) → Rel (evs ++ [⟨1, ⟨1, f, t, i, l, p, g, a, m⟩, canX p g a ac ls⟩]) ac (insAt ⟨i, l, st, p, g, a, m⟩ q ls) := by
              intro q q1 q2 q3
              refine hr.new _ ⟨i, l, st, p, g, a, m⟩ q hok9 (by simp) ⟨⟨hi, hl256, by show st < 256; omega, hp, hg, ha⟩, hl4⟩ rfl rfl q1 (by omega) hno q2 q3 ?_ (by show st ≠ 3; omega) ?_
              · rw [hstep]
                exact ⟨rfl, hst2.1, by show st ≤ 4; omega, .inl ⟨rfl, rfl, rfl, rfl, rfl, ha0 rfl⟩⟩
              · intro h1
                have h1' : st = 1 := h1
                cases hc : canX p g a ac ls with
                | true => rfl
                | false => rw [hc] at hst; simp at hst; omega
            refine good _ [⟨1, ⟨1, f, t, i, l, p, g, a, m⟩, canX p g a ac ls⟩] st ac rfl (by rw [hE]; simp [hErrT, hNewT, hfull]) (by rw [hN]; simp [hErrT, hNewT, hfull]) (by rw [hTt, hstep]) (by constructor <;> intro h9 <;> first | rfl | (have h8 := hsb; dsimp only; omega) | (exfalso; have h8 := hsb; dsimp only at h9; omega) | (cases h9)) ?_
            refine okg ac st (by omega) _ (fun u hu => ?_)
            refine (follow1 f t i l p g a m u B st 0 (fun w' => ∃ ls' vl', Rel (evs ++ [⟨1, ⟨1, f, t, i, l, p, g, a, m⟩, canX p g a ac ls⟩]) ac ls' ∧ XBTo u w' B t ac ls' va vl va vl') (fun u2 hu2 => ?_)).mono (fun e w' h => h)
            refine (prep_new f t i l p g a m hfm 1 hi hl256 hp hg ha u2 B t ac ls va vl (hX.below (hu.trans (hu2.mono hu.size))) hap hr.aok hr.lok' hla (by omega) hr.hb hr.due hj' st hst).mono ?_
            rintro e w' ⟨h1, q, vl', q1, q2, q3, q4⟩
            exact ⟨h1, _, vl', hR q q1 q2 q3, XBTo.from hu2 q4⟩
        · refine herr 14 (by decide) (by rw [hE]; simp [hErrT]) (oks 14 (by decide) (fun u hu => ?_))
          refine (follow2 f t i l p g a m u B 0 14 (fun w' => XBTo u w' B t ac ls va vl va vl) (fun u2 hu2 => ?_)).mono (fun e w' h => h)
          refine (exec_none f t i l p g a m 2 hi hl256 u2 B t ac ls va vl (hX.below (hu.trans (hu2.mono hu.size))) hap hr.lok' hll hj').mono (fun e w' h => ⟨h.1, XBTo.from hu2 h.2⟩)
        · by_cases hfull : 128 ≤ ls.length
          · refine herr 10 (by decide) (by rw [hE]; simp [hErrT, hfull]) (oks 10 (by decide) (fun u hu => ?_))
            refine (follow3 f t i l p g a m u B 0 10 (fun w' => XBTo u w' B t ac ls va vl va vl) (fun u2 hu2 => ?_)).mono (fun e w' h => h)
            refine (rej_full f t i l p g a m 3 hi hl256 u2 B t ac ls va vl (hX.below (hu.trans (hu2.mono hu.size))) hap hr.lok' hfull hll hj').mono (fun e w' h => ⟨h.1, XBTo.from hu2 h.2⟩)
          · have hok9 : (⟨3, ⟨3, f, t, i, l, p, g, a, m⟩, false⟩ : Ev).ok := ⟨by show (3 : Nat) < 4; omega, hxok⟩
            have hR : ∀ q, q ≤ ls.length → (∀ q' (hq : q' < ls.length), q ≤ q' → aheadB (bareLg i l) ls[q'] = true) → (∀ j (hj : j < ls.length), q = j + 1 → aheadB (bareLg i l) ls[j] = false) → Rel (evs ++ [⟨3, ⟨3, f, t, i, l, p, g, a, m⟩, false⟩]) ac (insAt (bareLg i l) q ls) := by
              intro q q1 q2 q3
              refine hr.new _ (bareLg i l) q hok9 (by simp) ⟨⟨hi, hl256, by show (4 : Nat) < 256; omega, by show (0 : Nat) < 65536; omega, by show (0 : Nat) < 65536; omega, by show (0 : Nat) < 4294967296; omega⟩, hl4⟩ rfl rfl q1 (by omega) hno q2 q3 ?_ (by show (4 : Nat) ≠ 3; omega) (fun h => by have h' : (4 : Nat) = 1 := h; omega)
              exact ⟨by simp [legStep, bareLg], by simp [bareLg], by simp [bareLg], .inr ⟨by simp [legStep, bareLg], rfl, rfl, rfl, rfl, rfl⟩⟩
            refine good _ [⟨3, ⟨3, f, t, i, l, p, g, a, m⟩, false⟩] 4 ac rfl (by rw [hE]; simp [hErrT, hNewT, hfull]) (by rw [hN]; simp [hErrT, hNewT, hfull]) (by rw [hTt]; simp [legStep]) (by constructor <;> intro h9 <;> first | rfl | (have h8 := hsb; dsimp only; omega) | (exfalso; have h8 := hsb; dsimp only at h9; omega) | (cases h9)) ?_
            refine okg ac 4 (by omega) _ (fun u hu => ?_)
            refine (follow3 f t i l p g a m u B 4 0 (fun w' => ∃ ls' vl', Rel (evs ++ [⟨3, ⟨3, f, t, i, l, p, g, a, m⟩, false⟩]) ac ls' ∧ XBTo u w' B t ac ls' va vl va vl') (fun u2 hu2 => ?_)).mono (fun e w' h => h)
            refine (rej_new f t i l p g a m 3 hi hl256 u2 B t ac ls va vl (hX.below (hu.trans (hu2.mono hu.size))) hap hr.lok' (by omega) hj').mono ?_
            rintro e w' ⟨h1, q, vl', q1, q2, q3, q4⟩
            exact ⟨h1, _, vl', hR q q1 q2 q3, XBTo.from hu2 q4⟩
    · generalize hxx : decMsg s.data.toList = x at *
      have hxok := decMsg_ok s.data.toList
      rw [hxx] at hxok
      obtain ⟨k, f, t, i, l, p, g, a, m⟩ := x
      refine bad 4 (by decide) (by unfold rErr; rw [if_neg (by simp [he0]), hxx, if_pos hto]) (xHandle_node s hs' w B ac ls va vl k f t i l p g a m node hto hxok.2.2.1 (by omega) hX he0 hxx hap)
  · exact bad _ he0 (by unfold rErr; rw [if_pos he0]) (xHandle_dec s hs' w B node ac ls va vl hX hap he0 (decErr_lt _))
end Go.Proofs.YtjkhbjgfoopomabGreat
/-
  Plain: frames and what they say: there and back; a frame with a byte turned is none.
-/
namespace Go.Proofs.YtjkhbjgfoopomabGreat

theorem fold_split (l : List UInt8) : ∀ v, l.foldl (fun v b => v * 256 + b.toNat) v = v * 256 ^ l.length + val l := by
  induction l with
  | nil => intro v; simp [val]
  | cons b r ih =>
    intro v
    have e : val (b :: r) = b.toNat * 256 ^ r.length + val r := by
      have := ih (0 * 256 + b.toNat)
      simpa [val] using this
    simp only [List.foldl_cons, List.length_cons]
    rw [ih, e, Nat.pow_succ, Nat.add_mul, Nat.mul_assoc, Nat.mul_comm 256]
    omega
theorem val_be_mod (n v : Nat) : val (be n v) = v % 256 ^ n := by
  induction n with
  | zero => simp [be, val, Nat.mod_one]
  | succ n ih =>
    have e : val (be (n + 1) v) = (v / 256 ^ n % 256) * 256 ^ n + val (be n v) := by
      have := fold_split (be n v) (v / 256 ^ n % 256)
      rw [be_length] at this
      simp only [be, val, List.foldl_cons] at this ⊢
      rw [show 0 * 256 + (UInt8.ofNat (v / 256 ^ n % 256)).toNat = v / 256 ^ n % 256 by simp [UInt8.toNat_ofNat']]
      exact this
    rw [e, ih, Nat.pow_succ, Nat.mod_mul, Nat.mul_comm, Nat.add_comm]
theorem val_be {n v : Nat} (h : v < 256 ^ n) : val (be n v) = v := by rw [val_be_mod, Nat.mod_eq_of_lt h]
theorem be4_list (v : Nat) : ∃ a b c d, be 4 v = [a, b, c, d] := ⟨_, _, _, _, rfl⟩
theorem be2_list (v : Nat) : ∃ a b, be 2 v = [a, b] := ⟨_, _, rfl⟩
theorem ofNat_toNat8 {n : Nat} (h : n < 256) : (UInt8.ofNat n).toNat = n := by simp [UInt8.toNat_ofNat']; omega

/-- what a text of 22 bytes or more says -/
theorem say_list (b0 b1 b2 b3 b4 b5 b6 b7 b8 b9 b10 b11 b12 b13 b14 b15 b16 b17 : UInt8) (r : List UInt8) (hr : 4 ≤ r.length) (l : List UInt8)
    (hl : l = b0 :: b1 :: b2 :: b3 :: b4 :: b5 :: b6 :: b7 :: b8 :: b9 :: b10 :: b11 :: b12 :: b13 :: b14 :: b15 :: b16 :: b17 :: r) :
    l.length = r.length + 18 ∧ at8 l 0 = b0.toNat ∧ at8 l 17 = b17.toNat ∧
    sayOf l = ⟨b1.toNat, b2.toNat, b3.toNat, val [b4, b5, b6, b7], b8.toNat, val [b9, b10], val [b11, b12], val [b13, b14, b15, b16], r.take (r.length - 4)⟩ ∧
    cut l (l.length - 4) l.length = r.drop (r.length - 4) ∧
    cut l 0 (l.length - 4) = b0 :: b1 :: b2 :: b3 :: b4 :: b5 :: b6 :: b7 :: b8 :: b9 :: b10 :: b11 :: b12 :: b13 :: b14 :: b15 :: b16 :: b17 :: r.take (r.length - 4) := by
  have hlen : l.length = r.length + 18 := by rw [hl]; simp
  refine ⟨hlen, by rw [hl]; rfl, by rw [hl]; rfl, ?_, ?_, ?_⟩
  · unfold sayOf
    have e : cut l 18 (l.length - 4) = r.take (r.length - 4) := by
      unfold cut
      rw [hlen, show r.length + 18 - 4 - 18 = r.length - 4 by omega, hl]
      rfl
    rw [e, hl]
    rfl
  · unfold cut
    rw [hlen, show r.length + 18 - (r.length + 18 - 4) = 4 by omega, show r.length + 18 - 4 = (r.length - 4) + 18 by omega, hl]
    have e : List.drop (r.length - 4 + 18) (b0 :: b1 :: b2 :: b3 :: b4 :: b5 :: b6 :: b7 :: b8 :: b9 :: b10 :: b11 :: b12 :: b13 :: b14 :: b15 :: b16 :: b17 :: r) = List.drop (r.length - 4) r := rfl
    rw [e]
    apply List.take_of_length_le
    simp
    omega
  · unfold cut
    rw [hlen, show r.length + 18 - 4 - 0 = (r.length - 4) + 18 by omega, hl]
    rfl
theorem frame_list (x : Msg) : ∃ i0 i1 i2 i3 p0 p1 g0 g1 a0 a1 a2 a3, be 4 x.i = [i0, i1, i2, i3] ∧ be 2 x.p = [p0, p1] ∧ be 2 x.g = [g0, g1] ∧ be 4 x.a = [a0, a1, a2, a3] ∧
    frameOf x = 69 :: UInt8.ofNat x.k :: UInt8.ofNat x.f :: UInt8.ofNat x.t :: i0 :: i1 :: i2 :: i3 :: UInt8.ofNat x.l :: p0 :: p1 :: g0 :: g1 :: a0 :: a1 :: a2 :: a3 :: UInt8.ofNat x.m.length :: (x.m ++ be 4 (sumOf (bodyOf x))) ∧
    bodyOf x = 69 :: UInt8.ofNat x.k :: UInt8.ofNat x.f :: UInt8.ofNat x.t :: i0 :: i1 :: i2 :: i3 :: UInt8.ofNat x.l :: p0 :: p1 :: g0 :: g1 :: a0 :: a1 :: a2 :: a3 :: UInt8.ofNat x.m.length :: x.m :=
  ⟨_, _, _, _, _, _, _, _, _, _, _, _, rfl, rfl, rfl, rfl, rfl, rfl⟩
/-- what is encoded is decoded as itself -/
theorem dec_frame {x : Msg} (hx : x.ok) (h0 : faultOf x = 0) (h64 : x.m.length ≤ 64) : decErr (frameOf x) = 0 ∧ decMsg (frameOf x) = x ∧ (frameOf x).length = 22 + x.m.length ∧ at8 (frameOf x) 0 = 69 ∧ at8 (frameOf x) 17 = x.m.length ∧
    cut (frameOf x) ((frameOf x).length - 4) (frameOf x).length = be 4 (sumOf (bodyOf x)) ∧ cut (frameOf x) 0 ((frameOf x).length - 4) = bodyOf x := by
  obtain ⟨hk, hf, ht, hi, hl, hp, hg, ha⟩ := hx
  obtain ⟨i0, i1, i2, i3, p0, p1, g0, g1, a0, a1, a2, a3, ei, ep, eg, ea, ef, eb⟩ := frame_list x
  have hbl : (be 4 (sumOf (bodyOf x))).length = 4 := be_length 4 _
  obtain ⟨q1, q2, q3, q4, q5, q6⟩ := say_list _ _ _ _ _ _ _ _ _ _ _ _ _ _ _ _ _ _ (x.m ++ be 4 (sumOf (bodyOf x))) (by simp [hbl]) (frameOf x) ef
  have hrl : (x.m ++ be 4 (sumOf (bodyOf x))).length - 4 = x.m.length := by simp [hbl]
  rw [hrl] at q4 q5 q6
  rw [List.take_left, ← eb] at q6
  rw [List.take_left] at q4
  rw [List.drop_left] at q5
  have hlen : (frameOf x).length = 22 + x.m.length := by rw [q1]; simp [hbl]; omega
  have e17 : at8 (frameOf x) 17 = x.m.length := by rw [q3, ofNat_toNat8 (by omega)]
  have hs := sumOf_lt (bodyOf x)
  have hsay : sayOf (frameOf x) = x := by
    rw [q4, ← ei, ← ep, ← eg, ← ea, val_be (by omega), val_be (by omega), val_be (by omega), val_be (by omega), ofNat_toNat8 hk, ofNat_toNat8 hf, ofNat_toNat8 ht, ofNat_toNat8 hl]
  have hform : formB (frameOf x) = true := by
    simp only [formB, e17, q2, hlen]
    simp
  have hseal : sealB (frameOf x) = true := by
    simp only [sealB, q5, q6]
    rw [val_be (by omega)]
    simp
  have herr : decErr (frameOf x) = 0 := by simp [decErr, hform, hseal, hsay, h0]
  exact ⟨herr, by simp [decMsg, herr, hsay], hlen, by rw [q2]; rfl, e17, q5, q6⟩
end Go.Proofs.YtjkhbjgfoopomabGreat
