import Derived.Test.YtjkhbjgfoopomabGreatA18
import Derived.Test.YtjkhbjgfoopomabGreatA19
import Derived.Test.YtjkhbjgfoopomabGreatA20
namespace Go.Proofs.YtjkhbjgfoopomabGreat
open Go.RowKit
set_option maxRecDepth 100000
set_option maxHeartbeats 2000000
set_option linter.unusedVariables false
set_option linter.unusedSimpArgs false
theorem decMsg_ok (l : List UInt8) : (decMsg l).ok := by
 unfold decMsg
 split
 ·rename_i h;unfold decErr at h;split at h
  ·omega
  ·rename_i hf
   have : 22 ≤ l.length := by
    simp only [formB, Bool.not_eq_true, Bool.not_eq_false', Bool.and_eq_true, decide_eq_true_eq] at hf;exact hf.1.1
   exact sayOf_ok this
 ·exact zero_ok
theorem decMsg_fault (l : List UInt8) (h : decErr l = 0) : faultOf (decMsg l) = 0 := by
 have h0 := h
 unfold decErr at h
 split at h
 ·omega
 ·split at h
  ·omega
  ·simp only [decMsg, h0, if_true];exact h
theorem fault_kind (x : Msg) (h : faultOf x = 0) (ht : x.t ≠ 0) : 1 ≤ x.k ∧ x.k ≤ 3 ∧ x.l < 4 ∧ (x.k = 1 → x.a ≠ 0) := by
 unfold faultOf at h
 split at h
 ·omega
 ·rename_i hk;split at h
  ·omega
  ·rename_i hw;split at h
   ·omega
   ·rename_i hl;simp only [kindB, Bool.not_eq_true, Bool.not_eq_false', Bool.and_eq_true, decide_eq_true_eq] at hk;simp only [wayB, Bool.not_eq_true, Bool.not_eq_false'] at hw;refine ⟨hk.1, ?_, by omega, ?_⟩
    ·by_cases h3 : x.k ≤ 3
     ·exact h3
     ·rw [if_neg h3] at hw;simp only [Bool.and_eq_true, decide_eq_true_eq] at hw;exact absurd hw.1 ht
    ·intro h1;rw [if_pos h1] at h;unfold termsOf at h;split at h
     ·omega
     ·assumption
def rErr (node : Nat) (l : List UInt8) (evs : List Ev) : Nat := if decErr l ≠ 0 then decErr l else if (decMsg l).t ≠ node then 4 else hErrOf (decMsg l) evs
def rEvs (node : Nat) (l : List UInt8) (evs : List Ev) : List Ev := if rErr node l evs = 0 then hEvsOf (decMsg l) evs else evs
def rOuts (node : Nat) (l : List UInt8) (evs : List Ev) : List (List UInt8) := if rErr node l evs = 0 then [ansOf node (decMsg l).i (decMsg l).l (legOf (decMsg l).i (decMsg l).l (hEvsOf (decMsg l) evs)).1] else []
theorem rh_dec (s : ByteArray) (hs : s.size ≤ 140737488351232) (w : World) (B t : Nat) (evs : List Ev) (v : Value) (he0 : decErr s.data.toList ≠ 0) (hR : RB w B t evs v) (hap : v.ownBlock ≠ some B) :
  Calls Tryz.prog 84 #[.pointer (some ⟨B, 0, none⟩), .string s] w fun e w' => e = .returned (.tuple #[.slice none 0 0, .int .i64 (decErr s.data.toList : Int)]) ∧ ∃ v', RBTo w w' B t evs v v' := by
 have hD := hide (refDecode_any s hs)
 generalize decErr s.data.toList = er at *
 generalize decMsg s.data.toList = x at *
 obtain ⟨k, f, t', i, l, p, g, a, m⟩ := x
 simp only [Msg.v, Msg.cells] at hD
 have d0 : ((er : Int) != 0) = true := by simp; omega
 go_enter Tryz.func84, Tryz.ntmps84
 go_wp2_with fail
 refine (hD.out _).mono ?_
 rintro e w1 ⟨rfl, hb⟩
 clear hD
 go_wp2
 go_ret2
 exact ⟨rfl, _, RBTo.same hR hap (hb.alloc hb.size _)⟩
theorem rh_node (s : ByteArray) (hs : s.size ≤ 140737488351232) (w : World) (B t : Nat) (ht : t < 256) (evs : List Ev) (v : Value) (he0 : decErr s.data.toList = 0) (hn : (decMsg s.data.toList).t ≠ t) (hR : RB w B t evs v) (hap : v.ownBlock ≠ some B) :
  Calls Tryz.prog 84 #[.pointer (some ⟨B, 0, none⟩), .string s] w fun e w' => e = .returned (.tuple #[.slice none 0 0, .int .i64 4]) ∧ ∃ v', RBTo w w' B t evs v v' := by
 have hD := hide (refDecode_any s hs)
 rw [he0] at hD
 have hok := decMsg_ok s.data.toList
 generalize decMsg s.data.toList = x at *
 obtain ⟨k, f, t', i, l, p, g, a, m⟩ := x
 obtain ⟨_, _, ht', _, _, _, _, _⟩ := hok
 simp only [Msg.v, Msg.cells] at hD hn ht'
 have hcs : ((t' : Int) != (t : Int)) = true := by simp; omega
 go_enter Tryz.func84, Tryz.ntmps84
 go_wp2_with fail
 refine (hD.out _).mono ?_
 rintro e w1 ⟨rfl, hb⟩
 have hR1 := hR.below hb
 have hc : ∀ o, _ = _ := fun o => cell_at hR1.blk o
 have hBl1 := hR1.lt
 clear hD
 go_wp2_with fail
 go_quiet (fail)
 go_wp2
 go_ret2
 exact ⟨rfl, _, RBTo.same hR hap ((hb.alloc hb.size _).drewN _)⟩
theorem refHandle_any (s : ByteArray) (hs : s.size ≤ 140737488351232) (w : World) (B node : Nat) (hnode : 1 ≤ node ∧ node ≤ 7) (evs : List Ev) (v : Value) (hR : RB w B node evs v) (hap : v.ownBlock ≠ some B) (hok : ∀ e, e ∈ evs → e.ok) (hlen : evs.length ≤ 900000)
  (hge : ∀ a, outOf a evs (keysOf evs) ≤ (openedOf a evs).1 + inOf a evs (keysOf evs)) :
  Calls Tryz.prog 84 #[.pointer (some ⟨B, 0, none⟩), .string s] w fun e w' =>
   ∃ v' lv, e = .returned (.tuple #[lv, .int .i64 (rErr node s.data.toList evs : Int)]) ∧ Handed w w' B node (rEvs node s.data.toList evs) v v' lv (rOuts node s.data.toList evs) := by
 have bad : ∀ er : Nat, er ≠ 0 → rErr node s.data.toList evs = er → (Calls Tryz.prog 84 #[.pointer (some ⟨B, 0, none⟩), .string s] w fun e w' => e = .returned (.tuple #[.slice none 0 0, .int .i64 (er : Int)]) ∧ ∃ v', RBTo w w' B node evs v v') → Calls Tryz.prog 84 #[.pointer (some ⟨B, 0, none⟩), .string s] w fun e w' =>
   ∃ v' lv, e = .returned (.tuple #[lv, .int .i64 (rErr node s.data.toList evs : Int)]) ∧ Handed w w' B node (rEvs node s.data.toList evs) v v' lv (rOuts node s.data.toList evs) := by
  intro er h0 he hC;refine Calls.mono hC ?_;rintro e w' ⟨rfl, v', hto⟩;refine ⟨v', _, by rw [he], ?_⟩;have h1 : rEvs node s.data.toList evs = evs := by unfold rEvs; rw [he, if_neg h0]
  have h2 : rOuts node s.data.toList evs = [] := by unfold rOuts; rw [he, if_neg h0]
  rw [h1, h2];exact Handed.nil hto
 by_cases he0 : decErr s.data.toList = 0
 ·by_cases hto : (decMsg s.data.toList).t = node
  ·have hx : rErr node s.data.toList evs = hErrOf (decMsg s.data.toList) evs := by unfold rErr; rw [if_neg (by simp [he0]), if_neg (by simp [hto])]
   have good : ∀ (x : Msg) (new : List Ev), decMsg s.data.toList = x → hErrOf x evs = 0 → hEvsOf x evs = evs ++ new → (Calls Tryz.prog 84 #[.pointer (some ⟨B, 0, none⟩), .string s] w fun e w' => ∃ v' lv, e = .returned (.tuple #[lv, .int .i64 0]) ∧ Handed w w' B node (evs ++ new) v v' lv [ansOf node x.i x.l (legOf x.i x.l (evs ++ new)).1]) → Calls Tryz.prog 84 #[.pointer (some ⟨B, 0, none⟩), .string s] w fun e w' =>
     ∃ v' lv, e = .returned (.tuple #[lv, .int .i64 (rErr node s.data.toList evs : Int)]) ∧ Handed w w' B node (rEvs node s.data.toList evs) v v' lv (rOuts node s.data.toList evs) := by
    intro x new hxx h0 hn hC;have he : rErr node s.data.toList evs = 0 := by rw [hx, hxx, h0]
    have h1 : rEvs node s.data.toList evs = evs ++ new := by unfold rEvs; rw [if_pos he, hxx, hn]
    have h2 : rOuts node s.data.toList evs = [ansOf node x.i x.l (legOf x.i x.l (evs ++ new)).1] := by unfold rOuts; rw [if_pos he, hxx, hn]
    rw [h1, h2, he];exact hC
   have hfk := fault_kind _ (decMsg_fault _ he0) (by omega);have hxok := decMsg_ok s.data.toList;have herr : ∀ er, er ≠ 0 → hErrOf (decMsg s.data.toList) evs = er → _ := fun er h0 h => bad er h0 (by rw [hx, h]);generalize hxx : decMsg s.data.toList = x at *;obtain ⟨k, f, t, i, l, p, g, a, m⟩ := x;simp only at hfk hto;subst hto;have ask := legOf_asked i l evs;have hE : hErrOf ⟨k, f, t, i, l, p, g, a, m⟩ evs = hErrT ⟨k, f, t, i, l, p, g, a, m⟩ (legOf i l evs) (keysOf evs).length := rfl;have hN : hEvsOf ⟨k, f, t, i, l, p, g, a, m⟩ evs = evs ++ hNewT ⟨k, f, t, i, l, p, g, a, m⟩ (legOf i l evs) (keysOf evs).length (canB ⟨k, f, t, i, l, p, g, a, m⟩ evs) := rfl;generalize hT : legOf i l evs = T at *;obtain ⟨t1, ⟨nk, nf, nt, ni, nl, np, ng, na, nm⟩, t3⟩ := T;simp only at ask;have hk3 : k = 1 ∨ k = 2 ∨ k = 3 := by omega
   rcases hk3 with rfl | rfl | rfl
   ·cases t3 with
    | true =>
     have h0 := ask rfl;by_cases ho : otherB ⟨1, f, t, i, l, p, g, a, m⟩ ⟨nk, nf, nt, ni, nl, np, ng, na, nm⟩ = true
     ·exact herr 11 (by decide) (by rw [hE]; simp [hErrT, hNewT, ho]) (rh_conflict s hs w B evs v f t i l p g a m hxok t1 nk nf nt ni nl np ng na nm true he0 hxx hT hR hap hok hlen rfl ho)
     ·have ho' : otherB ⟨1, f, t, i, l, p, g, a, m⟩ ⟨nk, nf, nt, ni, nl, np, ng, na, nm⟩ = false := by simpa using ho
      exact good _ [] rfl (by rw [hE]; simp [hErrT, hNewT, ho', h0]) (by rw [hN]; simp [hErrT, hNewT, ho', h0]) (by rw [List.append_nil]; exact rh_same1a s hs w B evs v f t i l p g a m hxok t1 nk nf nt ni nl np ng na nm true he0 hxx hT hR hap hok hlen rfl ho' h0)
    | false =>
     by_cases h0 : t1 = 0
     ·by_cases hfull : 128 ≤ (keysOf evs).length
      ·exact herr 10 (by decide) (by rw [hE]; simp [hErrT, hNewT, h0, hfull]) (rh_full1 s hs w B evs v f t i l p g a m hxok t1 nk nf nt ni nl np ng na nm false he0 hxx hT hR hap hok hlen h0 rfl hfull)
      ·exact good _ [⟨1, ⟨1, f, t, i, l, p, g, a, m⟩, canB ⟨1, f, t, i, l, p, g, a, m⟩ evs⟩] rfl (by rw [hE]; simp [hErrT, hNewT, h0, hfull]) (by rw [hN]; simp [hErrT, hNewT, h0, hfull]) (rh_new1 s hs w B evs v f t i l p g a m hxok t1 nk nf nt ni nl np ng na nm false he0 hxx hT hR hap hok hlen rfl h0 (by omega) hge _ rfl)
     ·exact good _ [] rfl (by rw [hE]; simp [hErrT, hNewT, h0]) (by rw [hN]; simp [hErrT, hNewT, h0]) (by rw [List.append_nil]; exact rh_same1b s hs w B evs v f t i l p g a m hxok t1 nk nf nt ni nl np ng na nm false he0 hxx hT hR hap hok hlen rfl h0)
   ·by_cases h1 : t1 = 1
    ·exact good _ [⟨2, ⟨2, f, t, i, l, p, g, a, m⟩, false⟩] rfl (by rw [hE]; simp [hErrT, hNewT, h1]) (by rw [hN]; simp [hErrT, hNewT, h1]) (rh_exec2 s hs w B evs v f t i l p g a m hxok t1 nk nf nt ni nl np ng na nm t3 he0 hxx hT hR hap hok hlen h1)
    ·by_cases h3 : t1 = 3
     ·exact good _ [] rfl (by rw [hE]; simp [hErrT, hNewT, h3]) (by rw [hN]; simp [hErrT, hNewT, h3]) (by rw [List.append_nil]; exact rh_same2 s hs w B evs v f t i l p g a m hxok t1 nk nf nt ni nl np ng na nm t3 he0 hxx hT hR hap hok hlen h3)
     ·exact herr 14 (by decide) (by rw [hE]; simp [hErrT, hNewT, h1, h3]) (rh_state2 s hs w B evs v f t i l p g a m hxok t1 nk nf nt ni nl np ng na nm t3 he0 hxx hT hR hap hok hlen h1 h3)
   ·by_cases h3 : t1 = 3
    ·exact herr 14 (by decide) (by rw [hE]; simp [hErrT, hNewT, h3]) (rh_state3 s hs w B evs v f t i l p g a m hxok t1 nk nf nt ni nl np ng na nm t3 he0 hxx hT hR hap hok hlen h3)
    ·by_cases h0 : t1 = 0
     ·have ht3 : t3 = false := by
       cases t3 with
       | true => exact absurd h0 (ask rfl)
       | false => rfl
      by_cases hfull : 128 ≤ (keysOf evs).length
      ·exact herr 10 (by decide) (by rw [hE]; simp [hErrT, hNewT, h0, hfull]) (rh_full3 s hs w B evs v f t i l p g a m hxok t1 nk nf nt ni nl np ng na nm t3 he0 hxx hT hR hap hok hlen h0 ht3 hfull)
      ·exact good _ [⟨3, ⟨3, f, t, i, l, p, g, a, m⟩, false⟩] rfl (by rw [hE]; simp [hErrT, hNewT, h0, hfull]) (by rw [hN]; simp [hErrT, hNewT, h0, hfull]) (rh_new3 s hs w B evs v f t i l p g a m hxok t1 nk nf nt ni nl np ng na nm t3 he0 hxx hT hR hap hok hlen h0 (by omega))
     ·by_cases h4 : t1 = 4
      ·exact good _ [] rfl (by rw [hE]; simp [hErrT, hNewT, h4]) (by rw [hN]; simp [hErrT, hNewT, h4]) (by rw [List.append_nil]; exact rh_same3 s hs w B evs v f t i l p g a m hxok t1 nk nf nt ni nl np ng na nm t3 he0 hxx hT hR hap hok hlen h4)
      ·exact good _ [⟨3, ⟨3, f, t, i, l, p, g, a, m⟩, false⟩] rfl (by rw [hE]; simp [hErrT, hNewT, h0, h3, h4]) (by rw [hN]; simp [hErrT, hNewT, h0, h3, h4]) (rh_rej3 s hs w B evs v f t i l p g a m hxok t1 nk nf nt ni nl np ng na nm t3 he0 hxx hT hR hap hok hlen h3 h4 h0)
  ·exact bad 4 (by decide) (by unfold rErr; rw [if_neg (by simp [he0]), if_pos hto]) (rh_node s hs w B node (by omega) evs v he0 hto hR hap)
 ·exact bad _ he0 (by unfold rErr; rw [if_pos he0]) (rh_dec s hs w B node evs v he0 hR hap)
def hasLegB (p : Pm) (l f : Nat) : Bool := match p.legs[l]? with
 | none => false
 | some y => y.b == f
def tErr (l : List UInt8) (acts : List Dt) : Nat :=
 if decErr l ≠ 0 then decErr l else if (decMsg l).t ≠ 0 then 4 else if ((findOf (decMsg l).i acts).2.1 && hasLegB (findOf (decMsg l).i acts).1 (decMsg l).l (decMsg l).f) = false then 13
 else if ((decMsg l).k = 5 ∧ (stOf (findOf (decMsg l).i acts).1 acts).1 = 2) ∨ ((decMsg l).k = 6 ∧ (stOf (findOf (decMsg l).i acts).1 acts).1 = 1) then 14 else 0
def tActs (l : List UInt8) (acts : List Dt) : List Dt := if tErr l acts = 0 then acts ++ [⟨((decMsg l).k : Int), noPm, decMsg l⟩] else acts
def tSay (p : Pm) (x : Msg) (st now : Nat) : List (List UInt8) :=
 if x.k = 6 then [] else if st = 1 ∧ now = 1 then [] else if st = 1 then asksOf p (askKind now) 0 else match p.legs[x.l]? with
  | none => []
  | some y => [askOf p y x.l (askKind st)]
def tOuts (l : List UInt8) (acts : List Dt) : List (List UInt8) :=
 if tErr l acts = 0 then tSay (findOf (decMsg l).i acts).1 (decMsg l) (stOf (findOf (decMsg l).i acts).1 acts).1 (stOf (findOf (decMsg l).i acts).1 (tActs l acts)).1 else []
theorem fault_notary {x : Msg} (h : faultOf x = 0) (ht : x.t = 0) : (x.k = 4 ∨ x.k = 5 ∨ x.k = 6) ∧ x.l < 4 ∧ 1 ≤ x.f ∧ x.f ≤ 7 := by
 unfold faultOf at h
 split at h
 ·omega
 ·rename_i hk;split at h
  ·omega
  ·rename_i hw;split at h
   ·omega
   ·rename_i hl;simp only [kindB, Bool.not_eq_true, Bool.not_eq_false', Bool.and_eq_true, decide_eq_true_eq] at hk;simp only [wayB, Bool.not_eq_true, Bool.not_eq_false'] at hw;by_cases h3 : x.k ≤ 3
    ·rw [if_pos h3] at hw;simp only [bankB, Bool.and_eq_true, decide_eq_true_eq] at hw;omega
    ·rw [if_neg h3] at hw;simp only [bankB, Bool.and_eq_true, decide_eq_true_eq] at hw;omega
theorem taken_dec (s : ByteArray) (hs : s.size ≤ 140737488351232) (w : World) (B : Nat) (acts : List Dt) (v : Value) (hR : RD w B acts v) (he0 : decErr s.data.toList ≠ 0) (her : decErr s.data.toList < 100) :
  Calls Tryz.prog 91 #[.pointer (some ⟨B, 0, none⟩), .string s] w fun e w' => e = .returned (.tuple #[.slice none 0 0, .int .i64 (decErr s.data.toList : Int)]) ∧ Below w.heap.size w w' := by
 have hD := hide (refDecode_any s hs)
 generalize decErr s.data.toList = er at *
 generalize decMsg s.data.toList = x at *
 obtain ⟨k, f, t', i, l, p, g, a, m⟩ := x
 simp only [Msg.v, Msg.cells] at hD
 have d0 : ((er : Int) != 0) = true := by simp; omega
 go_enter Tryz.func91, Tryz.ntmps91
 go_wp2_with fail
 refine (hD.out _).mono ?_
 rintro e w1 ⟨rfl, hb⟩
 clear hD
 go_wp2
 go_ret2
 exact ⟨rfl, hb.alloc hb.size _⟩
theorem taken_node (s : ByteArray) (hs : s.size ≤ 140737488351232) (w : World) (B : Nat) (acts : List Dt) (v : Value) (hR : RD w B acts v) (he0 : decErr s.data.toList = 0) (ht0 : (decMsg s.data.toList).t ≠ 0) :
  Calls Tryz.prog 91 #[.pointer (some ⟨B, 0, none⟩), .string s] w fun e w' => e = .returned (.tuple #[.slice none 0 0, .int .i64 4]) ∧ Below w.heap.size w w' := by
 have hD := hide (refDecode_any s hs)
 have hxok := decMsg_ok s.data.toList
 rw [he0] at hD
 clear he0
 generalize decMsg s.data.toList = x at *
 obtain ⟨k, f, t, i, l, p, g, a, m⟩ := x
 have ht8 : t < 256 := hxok.2.2.1
 simp only [Msg.v, Msg.cells] at hD ht0
 have d0 : ((t : Int) != 0) = true := by simp; omega
 clear hxok
 go_enter Tryz.func91, Tryz.ntmps91
 go_wp2_with fail
 refine (hD.out _).mono ?_
 rintro e w1 ⟨rfl, hb⟩
 clear hD
 go_wp2
 go_ret2
 exact ⟨rfl, hb.alloc hb.size _⟩
theorem taken_unknown (s : ByteArray) (hs : s.size ≤ 140737488351232) (w : World) (B : Nat) (acts : List Dt) (v : Value) (hR : RD w B acts v) (hok : ∀ x, x ∈ acts → x.ok) (hpay : ∀ x, x ∈ acts → PayOk x) (hlen : acts.length ≤ 1000000000000) (he0 : decErr s.data.toList = 0) (ht0 : (decMsg s.data.toList).t = 0)
  (hun : ((findOf (decMsg s.data.toList).i acts).2.1 && hasLegB (findOf (decMsg s.data.toList).i acts).1 (decMsg s.data.toList).l (decMsg s.data.toList).f) = false) :
  Calls Tryz.prog 91 #[.pointer (some ⟨B, 0, none⟩), .string s] w fun e w' => e = .returned (.tuple #[.slice none 0 0, .int .i64 13]) ∧ Below w.heap.size w w' := by
 have hD := hide (refDecode_any s hs)
 have hxok := decMsg_ok s.data.toList
 rw [he0] at hD
 clear he0
 generalize decMsg s.data.toList = x at *
 have hF := hide (fun u hu => find_pay x.i hxok.2.2.2.1 u B acts v hu hok hlen)
 have hq : (findOf x.i acts).2.1 = true → (findOf x.i acts).1.ok ∧ (findOf x.i acts).1.legs.length ≤ 4 ∧ RowOf w 67 4 Pl.cells (findOf x.i acts).1.lv (findOf x.i acts).1.legs := fun h => by
  obtain ⟨y, hy, _, _, e⟩ := findOf_mem h;rw [e];exact ⟨(hok y hy).2.2.1, (hpay y hy).1, hR.legs y hy⟩
 have hfl := findOf_le x.i acts
 generalize findOf x.i acts = S at *
 obtain ⟨q, s2, s3⟩ := S
 obtain ⟨qi, qd, qm, ql, qa, qc⟩ := q
 obtain ⟨k, f, t, i, l, p, g, a, m⟩ := x
 obtain ⟨hk8, hf8, ht8, hi, hl8, hp, hg, ha⟩ := hxok
 simp only [Msg.v, Msg.cells, Pm.v, Pm.lv] at *
 subst ht0
 go_enter Tryz.func91, Tryz.ntmps91
 go_wp2_with fail
 refine (hD.out _).mono ?_
 rintro e w1 ⟨rfl, hb⟩
 clear hD
 have B1 := Box.mk0 w1 #[Value.int .u8 (k : Int), .int .u8 (f : Int), .int .u8 0, .int .u32 (i : Int), .int .u8 (l : Int), .int .u16 (p : Int), .int .u16 (g : Int), .int .u32 (a : Int), .string (bs m)] 102
 have hbw2 := hb.trans (B1.bel.mono hb.size)
 go_wp2_with fail
 refine (hF.out _ (hR.below hbw2)).mono ?_
 rintro e w3 ⟨rfl, hb3⟩
 have B3 := (B1.below hb3).alloc (.cells #[.int .u32 (qi : Int), .int .u64 (qd : Int), .string (bs qm), .slice qa ql.length qc] 69)
 have hB3 := hbw2.trans (hb3.mono hbw2.size)
 have hB4 := hide (hB3.alloc hB3.size (.cells #[.int .u32 (qi : Int), .int .u64 (qd : Int), .string (bs qm), .slice qa ql.length qc] 69))
 have hcm := B3.cell
 have hltm := B3.lt
 clear hF B1
 cases s2 with
 | false =>
  go_wp2_with fail
  go_quiet (fail)
  go_wp2;go_ret2;exact ⟨rfl, hB4.out.drewN _⟩
 | true =>
  obtain ⟨hqo, hq4, hrow⟩ := hq rfl;simp only [Bool.true_and] at hun;have wl : IntKind.i64.wrap (l : Int) = (l : Int) := by rw [IntKind.wrap_i64]; omega
  by_cases hlt : l < ql.length
  ·have d1 : decide ((l : Int) ≥ (ql.length : Int)) = false := by simp; omega
   have d1' : decide ((ql.length : Int) ≤ (l : Int)) = false := by simp; omega
   have hli : (l : Int) < (ql.length : Int) := by omega
   obtain ⟨ad', cap', hv', hev'⟩ := ((hrow.below hB3).below ((Below.refl _ _).alloc (Nat.le_refl _) (.cells #[.int .u32 (qi : Int), .int .u64 (qd : Int), .string (bs qm), .slice qa ql.length qc] 69))).form Pl.cells_length;obtain ⟨gg, hgg, hcell, _⟩ := hev' l hlt;have ead : qa = ad' := by injection hv'
   subst ead;subst hgg;have c0 := hcell 0 (by decide)
   have hne : ql[l].b ≠ f := by
    simp only [hasLegB, List.getElem?_eq_getElem hlt, beq_eq_false_iff_ne] at hun;exact hun
   have hb8 := (hqo.2.2 ql[l] (List.getElem_mem hlt)).1;have hggl : gg < w3.heap.size := (hrow.below hB3).lt rfl;clear hcell hev' hv' hrow hun;generalize ql[l] = E at *;obtain ⟨lb, lp, lg, la⟩ := E;simp only [Pl.cells, List.getElem?_cons_zero, Nat.add_zero] at c0 hne hb8;have dn : ((lb : Int) != (f : Int)) = true := by simp; omega
   clear hne;go_wp2_with fail
   go_quiet (fail)
   go_wp2;go_ret2;exact ⟨rfl, hB4.out.drewN _⟩
  ·have d1 : decide ((l : Int) ≥ (ql.length : Int)) = true := by simp; omega
   have d1' : decide ((ql.length : Int) ≤ (l : Int)) = true := by simp; omega
   have d1n : decide (ql.length ≤ l) = true := by simp; omega
   have d1p : ql.length ≤ l := by omega
   have d1q : (ql.length : Int) ≤ (l : Int) := by omega
   clear hun hlt;go_wp2_with fail
   go_quiet (fail)
   go_wp2;go_ret2;exact ⟨rfl, hB4.out.drewN _⟩
structure Xp.fine (x : Xp) : Prop where
 ok : x.ok
 st : 1 ≤ x.st ∧ x.st ≤ 3
 memo : x.pm.memo.length ≤ 64
 few : x.pm.legs.length ≤ 4
 held : x.held < 16
 done : x.done < 16
theorem u8_less (h : Nat) (hh : h < 16) : bits .andNot .u8 15 (h : Int) = ((15 - h : Nat) : Int) := by
 have key : ∀ h : Fin 16, bits .andNot .u8 15 (h.1 : Int) = ((15 - h.1 : Nat) : Int) := by decide
 exact key ⟨h, hh⟩
theorem u8_with (h l : Nat) (hh : h < 16) (hl : l < 4) : bits .or .u8 (h : Int) ((2 ^ l : Nat) : Int) = ((withOf h l : Nat) : Int) := by
 have key : ∀ h : Fin 16, ∀ l : Fin 4, bits .or .u8 (h.1 : Int) ((2 ^ l.1 : Nat) : Int) = ((withOf h.1 l.1 : Nat) : Int) := by decide
 exact key ⟨h, hh⟩ ⟨l, hl⟩
def remX (x : Xp) : List (List UInt8) := sayL x.pm x.st (15 - (if x.st = 1 then x.held else x.done))
theorem remind_any (x : Xp) (hx : x.fine) (w : World) (b : Nat) (hP : PBox w b x) :
  Calls Tryz.prog 62 #[.pointer (some ⟨b, 0, none⟩)] w fun e w' => (∃ lv, e = .returned lv ∧ RowOf w' 9 1 txtCell lv (remX x) ∧ ∀ g, lv.ownBlock = some g → w.heap.size ≤ g) ∧ Below w.heap.size w w' := by
 have hc := fun o => cell_at hP.blk o
 have hbl := hP.lt
 have hS := hide (fun mask (hm : mask < 256) (u : World) (hu : PBox u b x) => say_any x hx.ok hx.st hx.memo hx.few mask hm u b hu)
 have hz : Hid (remX x = sayL x.pm x.st (15 - (if x.st = 1 then x.held else x.done))) := hide rfl
 have e1 := u8_less x.held hx.held
 have e2 := u8_less x.done hx.done
 have hst := hx.st
 have hh := hx.held
 have hd := hx.done
 generalize remX x = Z at *
 by_cases h1 : x.st = 1
 ·have hq : Hid (Z = sayL x.pm x.st (15 - x.held)) := hide (by rw [hz.out, if_pos h1]);have hS2 := hide (hS.out (15 - x.held) (by omega));generalize sayL x.pm x.st = SL at *;obtain ⟨⟨pi, pd, pm, pl, pa, pc⟩, st, he, dn⟩ := x;simp only [Xp.cells] at *;subst h1;clear hz hS e2;go_enter Tryz.func62, Tryz.ntmps62;go_wp2_with fail
  refine (hS2.out _ hP).mono ?_;rintro e w1 ⟨⟨lv, rfl, hr, ho⟩, hb⟩;replace hr := hide hr;replace ho := hide ho;clear hS2;go_wp2;go_ret;exact ⟨⟨_, rfl, by rw [hq.out]; exact hr.out, ho.out⟩, hb⟩
 ·have hq : Hid (Z = sayL x.pm x.st (15 - x.done)) := hide (by rw [hz.out, if_neg h1]);have hS2 := hide (hS.out (15 - x.done) (by omega));generalize sayL x.pm x.st = SL at *;obtain ⟨⟨pi, pd, pm, pl, pa, pc⟩, st, he, dn⟩ := x;simp only [Xp.cells] at *;have d1 : ((st : Int) == 1) = false := by simp; omega
  clear hz hS e1;go_enter Tryz.func62, Tryz.ntmps62;go_wp2_with fail
  refine (hS2.out _ hP).mono ?_;rintro e w1 ⟨⟨lv, rfl, hr, ho⟩, hb⟩;replace hr := hide hr;replace ho := hide ho;clear hS2;go_wp2;go_ret;exact ⟨⟨_, rfl, by rw [hq.out]; exact hr.out, ho.out⟩, hb⟩
theorem hasLeg_any (x : Xp) (hx : x.ok) (h4 : x.pm.legs.length ≤ 4) (l f : Nat) (hl : l < 256) (hf : f < 256) (w : World) (b : Nat) (hP : PBox w b x) :
  Calls Tryz.prog 144 #[.pointer (some ⟨b, 0, none⟩), .int .u8 (l : Int), .int .u8 (f : Int)] w fun e w' => e = .returned (.bool (hasLegB x.pm l f)) ∧ Below w.heap.size w w' := by
 have hc := fun o => cell_at hP.blk o
 have hbl := hP.lt
 have hz : Hid (hasLegB x.pm l f = match x.pm.legs[l]? with | none => false | some y => y.b == f) := hide rfl
 have wl : IntKind.i64.wrap (l : Int) = (l : Int) := by rw [IntKind.wrap_i64]; omega
 generalize hasLegB x.pm l f = Z at *
 obtain ⟨⟨pi, pd, pm, pl, pa, pc⟩, st, he, dn⟩ := x
 obtain ⟨⟨hpi, hpd, hpl⟩, _⟩ := hx
 simp only [Xp.cells] at *
 by_cases hlt : l < pl.length
 ·have hnl : (l : Int) < (pl.length : Int) := by omega
  have dl : decide ((l : Int) < (pl.length : Int)) = true := by simp; omega
  obtain ⟨ad', cap', hv', hev'⟩ := hP.legs.form Pl.cells_length;obtain ⟨g, hg, hcell, _⟩ := hev' l hlt;have ead : pa = ad' := by injection hv'
  subst ead;subst hg;have c0 := hcell 0 (by decide);have hyk := hpl pl[l] (List.getElem_mem hlt);have hq : Hid (Z = (pl[l].b == f)) := hide (by rw [hz.out]; simp [hlt]);have hgl : g < w.heap.size := hP.legs.lt rfl;clear hcell hev' hv' hz;generalize pl[l] = E at *;obtain ⟨yb, yp, yg, ya⟩ := E;obtain ⟨hy1, _⟩ := hyk;simp only [Pl.cells, List.getElem?_cons_zero, Nat.add_zero] at c0 hq hy1;by_cases hbf : yb = f
  ·have d1 : ((yb : Int) == (f : Int)) = true := by simp; omega
   have hq2 : Hid (Z = true) := hide (by rw [hq.out]; simp [hbf]);clear hq hbf;go_enter Tryz.func144, Tryz.ntmps144;go_wp2;go_ret;exact ⟨by rw [hq2.out]; rfl, Below.refl _ _⟩
  ·have d1 : ((yb : Int) == (f : Int)) = false := by simp; omega
   have hq2 : Hid (Z = false) := hide (by rw [hq.out]; simp [hbf]);clear hq hbf;go_enter Tryz.func144, Tryz.ntmps144;go_wp2;go_ret;exact ⟨by rw [hq2.out]; rfl, Below.refl _ _⟩
 ·have dl : decide ((l : Int) < (pl.length : Int)) = false := by simp; omega
  have dn : ¬ l < pl.length := hlt;have hq2 : Hid (Z = false) := hide (by rw [hz.out, List.getElem?_eq_none (by omega)]);clear hz;go_enter Tryz.func144, Tryz.ntmps144;go_wp2;go_ret;exact ⟨by rw [hq2.out]; rfl, Below.refl _ _⟩
def allTo (m : Nat) : Nat → Bool
 | 0 => true
 | n + 1 => allTo m n && bitB m n
theorem allTo_more {m : Nat} : ∀ {n k : Nat}, k < n → bitB m k = false → allTo m n = false
 | 0, k, h, _ => by omega
 | n + 1, k, h, hb => by
  simp only [allTo];rcases Nat.lt_or_ge k n with x | x
  ·rw [allTo_more x hb]; rfl
  ·obtain rfl : k = n := by omega
   rw [hb]; simp
theorem allHeld_any (x : Xp) (hx : x.fine) (w : World) (b : Nat) (hP : PBox w b x) :
  Calls Tryz.prog 165 #[.pointer (some ⟨b, 0, none⟩)] w fun e w' => e = .returned (.bool (allTo x.held x.pm.legs.length)) ∧ w' = w := by
 have hc := fun o => cell_at hP.blk o
 have hbl := hP.lt
 have hh := hx.held
 have h4 := hx.few
 obtain ⟨⟨pi, pd, pm, pl, pa, pc⟩, st, he, dn⟩ := x
 simp only [Xp.cells] at *
 go_enter Tryz.func165, Tryz.ntmps165
 go_wp2
 go_loopw [10] (fun c u => ∃ n : Nat, n ≤ pl.length ∧ c = .int .i64 n ∧ allTo he n = true ∧ u = w) (fun c _ => pl.length - (intOf c).toNat)
 case atStart => exact ⟨0, Nat.zero_le _, rfl, rfl, rfl⟩
 case round =>
  obtain ⟨n, hn, rfl, ha, rfl⟩ := hrel;by_cases hlt : n < pl.length
  ·have hnl : (n : Int) < (pl.length : Int) := by omega
   have dl : decide ((n : Int) < (pl.length : Int)) = true := by simp; omega
   have W1 : IntKind.u8.wrap (n : Int) = (n : Int) := by rw [IntKind.wrap_u8]; omega
   have hbit := u8_bit he n (by omega) (by omega);have hf9 : Hid (bitB he n = false → allTo he pl.length = false) := hide (fun h => allTo_more hlt h);have ht9 : Hid (bitB he n = true → allTo he (n + 1) = true) := hide (fun h => by simp [allTo, ha, h]);have hn4 : n = 0 ∨ n = 1 ∨ n = 2 ∨ n = 3 := by omega
   clear ha;rcases hn4 with rfl | rfl | rfl | rfl
   ·cases hbb : bitB he 0 with
    | false =>
     have e1 : bits .and .u8 (he : Int) 1 = 0 := by rw [hbb] at hbit; simpa using hbit
     have hq := hide (hf9.out hbb);clear hf9 ht9 hbit hbb;go_wp2;go_ret;exact ⟨by rw [hq.out]; rfl, rfl⟩
    | true =>
     have e1 : bits .and .u8 (he : Int) 1 = 1 := by rw [hbb] at hbit; simpa using hbit
     have hq := hide (ht9.out hbb);clear hf9 ht9 hbit hbb;go_wp2;exact ⟨⟨0 + 1, by omega, by go_num, hq.out, trivial⟩, by simp [intOf]; omega⟩
   ·cases hbb : bitB he 1 with
    | false =>
     have e1 : bits .and .u8 (he : Int) 2 = 0 := by rw [hbb] at hbit; simpa using hbit
     have hq := hide (hf9.out hbb);clear hf9 ht9 hbit hbb;go_wp2;go_ret;exact ⟨by rw [hq.out]; rfl, rfl⟩
    | true =>
     have e1 : bits .and .u8 (he : Int) 2 = 2 := by rw [hbb] at hbit; simpa using hbit
     have hq := hide (ht9.out hbb);clear hf9 ht9 hbit hbb;go_wp2;exact ⟨⟨1 + 1, by omega, by go_num, hq.out, trivial⟩, by simp [intOf]; omega⟩
   ·cases hbb : bitB he 2 with
    | false =>
     have e1 : bits .and .u8 (he : Int) 4 = 0 := by rw [hbb] at hbit; simpa using hbit
     have hq := hide (hf9.out hbb);clear hf9 ht9 hbit hbb;go_wp2;go_ret;exact ⟨by rw [hq.out]; rfl, rfl⟩
    | true =>
     have e1 : bits .and .u8 (he : Int) 4 = 4 := by rw [hbb] at hbit; simpa using hbit
     have hq := hide (ht9.out hbb);clear hf9 ht9 hbit hbb;go_wp2;exact ⟨⟨2 + 1, by omega, by go_num, hq.out, trivial⟩, by simp [intOf]; omega⟩
   ·cases hbb : bitB he 3 with
    | false =>
     have e1 : bits .and .u8 (he : Int) 8 = 0 := by rw [hbb] at hbit; simpa using hbit
     have hq := hide (hf9.out hbb);clear hf9 ht9 hbit hbb;go_wp2;go_ret;exact ⟨by rw [hq.out]; rfl, rfl⟩
    | true =>
     have e1 : bits .and .u8 (he : Int) 8 = 8 := by rw [hbb] at hbit; simpa using hbit
     have hq := hide (ht9.out hbb);clear hf9 ht9 hbit hbb;go_wp2;exact ⟨⟨3 + 1, by omega, by go_num, hq.out, trivial⟩, by simp [intOf]; omega⟩
  ·obtain rfl : n = pl.length := by omega
   have dl : decide ((pl.length : Int) < (pl.length : Int)) = false := by simp
   replace ha := hide ha;go_wp2;go_ret;exact ⟨by rw [ha.out]; rfl, rfl⟩
theorem lgOf_one {A : List UInt8} (u : World) : RowOf (u.alloc (.cells #[.string (bs A)] 9)) 9 1 txtCell (.slice (some ⟨u.heap.size, 0, none⟩) 1 1) [A] :=
 ⟨rfl, .inr ⟨u.heap.size, 1, #[.string (bs A)], rfl, Nat.zero_le _, heap_alloc_self _ _, Nat.le_refl _, by unfold maxLen; omega, rfl, rfl⟩⟩
theorem hasLegB_at {p : Pm} {l f : Nat} (h : hasLegB p l f = true) : ∃ hl : l < p.legs.length, p.legs[l].b = f := by
 unfold hasLegB at h
 split at h
 ·simp at h
 ·rename_i y hy;obtain ⟨hl, e⟩ := List.getElem?_eq_some_iff.1 hy;exact ⟨hl, by rw [e]; simpa using h⟩
theorem taken_state (s : ByteArray) (hs : s.size ≤ 140737488351232) (w : World) (B : Nat) (acts : List Dt) (v : Value) (hR : RD w B acts v) (hok : ∀ x, x ∈ acts → x.ok) (h4 : ∀ x, x ∈ acts → few4 x) (hpay : ∀ x, x ∈ acts → PayOk x) (hlen : acts.length ≤ 999999999999) (he0 : decErr s.data.toList = 0) (ht0 : (decMsg s.data.toList).t = 0)
  (hth : (findOf (decMsg s.data.toList).i acts).2.1 = true) (hhl : hasLegB (findOf (decMsg s.data.toList).i acts).1 (decMsg s.data.toList).l (decMsg s.data.toList).f = true)
  (hst : ((decMsg s.data.toList).k = 5 ∧ (stOf (findOf (decMsg s.data.toList).i acts).1 acts).1 = 2) ∨ ((decMsg s.data.toList).k = 6 ∧ (stOf (findOf (decMsg s.data.toList).i acts).1 acts).1 = 1)) :
  Calls Tryz.prog 91 #[.pointer (some ⟨B, 0, none⟩), .string s] w fun e w' => e = .returned (.tuple #[.slice none 0 0, .int .i64 14]) ∧ Below w.heap.size w w' := by
 have hD := hide (refDecode_any s hs)
 have hxok := decMsg_ok s.data.toList
 rw [he0] at hD
 clear he0
 generalize decMsg s.data.toList = x at *
 have hF := hide (fun u hu => find_pay x.i hxok.2.2.2.1 u B acts v hu hok (by omega))
 obtain ⟨y, hy, _, _, hye⟩ := findOf_mem hth
 have hqo : (findOf x.i acts).1.ok := by rw [hye]; exact (hok y hy).2.2.1
 have hq4 : (findOf x.i acts).1.legs.length ≤ 4 := by rw [hye]; exact (hpay y hy).1
 have hrow : RowOf w 67 4 Pl.cells (findOf x.i acts).1.lv (findOf x.i acts).1.legs := by rw [hye]; exact hR.legs y hy
 have hfl := findOf_le x.i acts
 have hSt := hide (fun u hu => status_any (findOf x.i acts).1 hqo hq4 u B acts v hu hok h4 (by omega))
 have hbd := stOf_bd (findOf x.i acts).1 acts h4
 generalize stOf (findOf x.i acts).1 acts = ST at *
 clear hye
 generalize findOf x.i acts = S at *
 obtain ⟨q, s2, s3⟩ := S
 simp only at hth
 subst hth
 obtain ⟨hlt, hlf⟩ := hasLegB_at hhl
 clear hhl
 obtain ⟨qi, qd, qm, ql, qa, qc⟩ := q
 obtain ⟨k, f, t, i, l, p, g, a, m⟩ := x
 obtain ⟨hk8, hf8, ht8, hi, hl8, hp, hg, ha⟩ := hxok
 obtain ⟨st, sb, sr, sc⟩ := ST
 simp only [Msg.v, Msg.cells, Pm.v, Pm.lv] at *
 subst ht0
 have hlt' : l < ql.length := hlt
 have d1 : decide ((l : Int) ≥ (ql.length : Int)) = false := by simp; omega
 have d1' : decide ((ql.length : Int) ≤ (l : Int)) = false := by simp; omega
 have wl : IntKind.i64.wrap (l : Int) = (l : Int) := by rw [IntKind.wrap_i64]; omega
 have wk : IntKind.i64.wrap (k : Int) = (k : Int) := by rw [IntKind.wrap_i64]; omega
 have hli : (l : Int) < (ql.length : Int) := by omega
 have hb8 := (hqo.2.2 ql[l] (List.getElem_mem hlt)).1
 go_enter Tryz.func91, Tryz.ntmps91
 go_wp2_with fail
 refine (hD.out _).mono ?_
 rintro e w1 ⟨rfl, hb⟩
 clear hD
 have B1 := Box.mk0 w1 #[Value.int .u8 (k : Int), .int .u8 (f : Int), .int .u8 0, .int .u32 (i : Int), .int .u8 (l : Int), .int .u16 (p : Int), .int .u16 (g : Int), .int .u32 (a : Int), .string (bs m)] 102
 have hbw2 := hb.trans (B1.bel.mono hb.size)
 go_wp2_with fail
 refine (hF.out _ (hR.below hbw2)).mono ?_
 rintro e w3 ⟨rfl, hb3⟩
 have B3 := (B1.below hb3).alloc (.cells #[.int .u32 (qi : Int), .int .u64 (qd : Int), .string (bs qm), .slice qa ql.length qc] 69)
 have hB3 := hbw2.trans (hb3.mono hbw2.size)
 have hB4 := hide (hB3.alloc hB3.size (.cells #[.int .u32 (qi : Int), .int .u64 (qd : Int), .string (bs qm), .slice qa ql.length qc] 69))
 have hcm := B3.cell
 have hltm := B3.lt
 clear hF B1
 obtain ⟨ad', cap', hv', hev'⟩ := ((hrow.below hB3).below ((Below.refl _ _).alloc (Nat.le_refl _) (.cells #[.int .u32 (qi : Int), .int .u64 (qd : Int), .string (bs qm), .slice qa ql.length qc] 69))).form Pl.cells_length
 obtain ⟨gg, hgg, hcell, _⟩ := hev' l hlt
 have ead : qa = ad' := by injection hv'
 subst ead
 subst hgg
 have c0 := hcell 0 (by decide)
 have hggl : gg < w3.heap.size := (hrow.below hB3).lt rfl
 clear hcell hev' hv'
 generalize ql[l] = E at *
 obtain ⟨lb, lp, lg, la⟩ := E
 simp only [Pl.cells, List.getElem?_cons_zero, Nat.add_zero] at c0 hlf hb8
 subst hlf
 have dn : ((lb : Int) != (lb : Int)) = false := by simp
 go_wp2_with fail
 go_quiet (fail)
 replace B3 := B3.drewN nq
 have B4 := (Box.mk0 w3 #[.int .u32 (qi : Int), .int .u64 (qd : Int), .string (bs qm), .slice (some ⟨gg, 0, none⟩) ql.length qc] 69).drewN nq
 have hB5 := hide (hB4.out.drewN nq)
 clear hcm hltm c0 hB4 hb3
 generalize World.drewN _ _ = w5 at *
 have hcm := B3.cell
 have hltm := B3.lt
 have hcq := B4.cell
 have hltq := B4.lt
 go_wp2_with fail
 refine (hSt.out _ (hR.below hB5.out)).mono ?_
 rintro e w6 ⟨rfl, hb6⟩
 have B6 := B3.below hb6
 have hB6 := hide (hB5.out.trans (hb6.mono hB5.out.size))
 clear hcm hltm hcq hltq hSt hB5 hb6 B3 B4
 have hcm := B6.cell
 have hltm := B6.lt
 rcases hst with ⟨h1, h2⟩ | ⟨h1, h2⟩
 ·subst h1 h2;go_wp2;go_ret2;exact ⟨rfl, hB6.out⟩
 ·subst h1 h2;go_wp2;go_ret2;exact ⟨rfl, hB6.out⟩
end Go.Proofs.YtjkhbjgfoopomabGreat
