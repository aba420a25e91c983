import Derived.Test.YtjkhbjgfoopomabGreatS27
import Derived.Test.YtjkhbjgfoopomabGreatS7
import Derived.Test.YtjkhbjgfoopomabGreatS8
import Derived.Test.YtjkhbjgfoopomabGreatS11
import Derived.Test.YtjkhbjgfoopomabGreatS13
import Derived.Test.YtjkhbjgfoopomabGreatS10
/-
  The program's Bank.Handle.
-/
namespace Go.Proofs.YtjkhbjgfoopomabGreat
open Go.RowKit
set_option linter.unusedVariables false
set_option linter.unusedSimpArgs false

/-- the program's bank has gone on, and hands a fresh list out -/
structure XHanded (w w' : World) (B node : Nat) (ac' : List Ac) (ls' : List Lg) (va vl va' vl' lv : Value) (outs : List (List UInt8)) : Prop where
  to : XBTo w w' B node ac' ls' va vl va' vl'
  row : RowOf w' 9 1 strCell lv outs
  fresh : ∀ g, lv.ownBlock = some g → w.heap.size ≤ g ∧ va'.ownBlock ≠ some g ∧ vl'.ownBlock ≠ some g
theorem XHanded.nil {w u : World} {B node : Nat} {ac' : List Ac} {ls' : List Lg} {va vl va' vl' : Value} (h : XBTo w u B node ac' ls' va vl va' vl') : XHanded w u B node ac' ls' va vl va' vl' (.slice none 0 0) [] :=
  ⟨h, RowOf.nil _ _, fun g hg => by simp [Value.ownBlock] at hg⟩
theorem XHanded.single {w u u2 : World} {B node : Nat} {ac' : List Ac} {ls' : List Lg} {va vl va' vl' : Value} (h : XBTo w u B node ac' ls' va vl va' vl') (hb : Below u.heap.size u u2) (ans : List UInt8) :
    XHanded w (u2.alloc (.cells #[.string (bs ans)] 9)) B node ac' ls' va vl va' vl' (.slice (some ⟨u2.heap.size, 0, none⟩) 1 1) [ans] := by
  have h2 := h.then hb
  have h3 := h2.then ((Below.refl _ _).alloc (Nat.le_refl _) (.cells #[.string (bs ans)] 9))
  refine ⟨h3, ⟨rfl, .inr ⟨u2.heap.size, 1, #[.string (bs ans)], rfl, Nat.zero_le _, heap_alloc_self _ _, Nat.le_refl _, by unfold maxLen; omega, rfl, rfl⟩⟩, ?_⟩
  intro g hg
  have : g = u2.heap.size := by simpa [Value.ownBlock] using hg.symm
  subst this
  refine ⟨h2.kept.size, fun e => ?_, fun e => ?_⟩
  · have := h2.xb.arow.lt e; omega
  · have := h2.xb.lrow.lt e; omega

set_option maxRecDepth 100000 in
set_option maxHeartbeats 1000000 in
theorem xHandle_dec (s : ByteArray) (hs : s.size ≤ maxLen) (w : World) (B node : Nat) (ac : List Ac) (ls : List Lg) (va vl : Value) (hX : XB w B node ac ls va vl) (hap : Apart B va vl) (he0 : decErr s.data.toList ≠ 0) (her : decErr s.data.toList < 100) :
    Calls Tryz.prog 114 #[.pointer (some ⟨B, 0, none⟩), .string s] w fun e w' => e = .returned (.tuple #[.slice none 0 0, .string ⟨#[]⟩, .int .i64 (decErr s.data.toList : Int)]) ∧ XBTo w w' B node ac ls va vl va vl := by
  have hD := hide (decode_any s hs)
  generalize decErr s.data.toList = er at *
  generalize decMsg s.data.toList = x at *
  obtain ⟨k, f, t', i, l, p, g, a, m⟩ := x
  simp only [Msg.v, Msg.cells] at hD
  have d0 : ((er : Int) != 0) = true := by simp; omega
  go_enter Tryz.func114, Tryz.ntmps114
  go_wp2_with fail
  refine (hD.out _).mono ?_
  rintro e w1 ⟨rfl, hb⟩
  clear hD
  go_wp2
  go_ret3
  exact ⟨rfl, XBTo.same hX hap (hb.alloc hb.size _)⟩

theorem XHanded.then {w u u2 : World} {B node : Nat} {ac' : List Ac} {ls' : List Lg} {va vl va' vl' lv : Value} {outs : List (List UInt8)} (h : XHanded w u B node ac' ls' va vl va' vl' lv outs) (hb : Below u.heap.size u u2) : XHanded w u2 B node ac' ls' va vl va' vl' lv outs :=
  ⟨h.to.then hb, h.row.below hb, h.fresh⟩
set_option maxRecDepth 100000 in
set_option maxHeartbeats 1000000 in
theorem xHandle_ok (s : ByteArray) (hs : s.size ≤ maxLen) (w : World) (B : Nat) (ac ac' : List Ac) (ls : List Lg) (va vl va' : Value) (k f t i l p g a : Nat) (m : List UInt8) (hm64 : m.length ≤ 64) (hxok : (⟨k, f, t, i, l, p, g, a, m⟩ : Msg).ok) (st : Nat) (hst : 1 ≤ st ∧ st ≤ 4) (hl : l < 4) (ht : 1 ≤ t ∧ t ≤ 7) (hX : XB w B t ac ls va vl) (hlok : ∀ x, x ∈ ls → x.ok) (hlen : ls.length ≤ 1000000) (he0 : decErr s.data.toList = 0) (hx : decMsg s.data.toList = ⟨k, f, t, i, l, p, g, a, m⟩) (Q : List Lg → Prop)
    (hC : ∀ u, Below w.heap.size w u → Calls Tryz.prog 146 #[.pointer (some ⟨B, 0, none⟩), .agg #[.int .u8 (k : Int), .int .u8 (f : Int), .int .u8 (t : Int), .int .u32 (i : Int), .int .u8 (l : Int), .int .u16 (p : Int), .int .u16 (g : Int), .int .u32 (a : Int), .string (bs m)]] u fun e w' => e = .returned (.tuple #[.int .u8 (st : Int), .int .i64 0]) ∧ ∃ ls' vl', Q ls' ∧ XBTo u w' B t ac' ls' va vl va' vl') :
    Calls Tryz.prog 114 #[.pointer (some ⟨B, 0, none⟩), .string s] w fun e w' => ∃ lv, e = .returned (.tuple #[lv, .string (bs (if st = stL i l ls then [] else frameOf ⟨k, f, t, i, l, p, g, a, m⟩)), .int .i64 0]) ∧ ∃ ls' vl', Q ls' ∧ XHanded w w' B t ac' ls' va vl va' vl' lv [ansOf t i l st] := by
  have hi : i < 4294967296 := hxok.2.2.2.1
  have hD := hide (decode_any s hs)
  rw [he0, hx] at hD
  clear he0 hx
  replace hC := hide hC
  have hR := hide (fun u ls' vl' (hu : XB u B t ac' ls' va' vl') => report_any i l st hi hl hst u B t ht ac' ls' va' vl' hu)
  have hSt := hide (fun u (hu : XB u B t ac ls va vl) => state_any i l hi (by omega) u B t ac ls va vl hu hlok hlen)
  have hSp := hide (fun u => spell_any ⟨k, f, t, i, l, p, g, a, m⟩ hxok hm64 u)
  have hsb := stL_lt (id := i) (l := l) hlok
  generalize stL i l ls = sb at *
  generalize hFr : frameOf ⟨k, f, t, i, l, p, g, a, m⟩ = FR at *
  replace hFr := hide hFr
  generalize ansOf t i l st = A at *
  have hL1 : Hid (st = sb → (if st = sb then [] else FR) = []) := hide (fun h => if_pos h)
  have hL2 : Hid (st ≠ sb → (if st = sb then [] else FR) = FR) := hide (fun h => if_neg h)
  generalize (if st = sb then [] else FR) = LG at *
  simp only [Msg.v, Msg.cells] at hD hSp
  have hBl := hX.lt
  have hcs : ((t : Int) != (t : Int)) = false := by simp
  go_enter Tryz.func114, Tryz.ntmps114
  go_wp2_with fail
  refine (hD.out _).mono ?_
  rintro e w1 ⟨rfl, hb⟩
  have hX1 := hX.below hb
  have hc : ∀ o, _ = _ := fun o => cell_at hX1.blk o
  have hBl1 := hX1.lt
  clear hD
  go_wp2_with fail
  go_quiet (fail)
  have B1 := (Box.mk0 w1 #[Value.int .u8 (k : Int), .int .u8 (f : Int), .int .u8 (t : Int), .int .u32 (i : Int), .int .u8 (l : Int), .int .u16 (p : Int), .int .u16 (g : Int), .int .u32 (a : Int), .string (bs m)] 102).drewN nq
  generalize World.drewN _ _ = w2 at *
  have hcm := B1.cell
  have hlt1 := B1.lt
  have hbw2 := hb.trans (B1.bel.mono hb.size)
  clear hc
  go_wp2_with fail
  refine (hSt.out _ (hX.below hbw2)).mono ?_
  rintro e w2' ⟨rfl, rfl⟩
  clear hSt
  go_wp2_with fail
  refine (hC.out _ hbw2).mono ?_
  rintro e w3 ⟨rfl, ls', vl', hQ, hT⟩
  have hto := XBTo.from hbw2 hT
  have hno : ¬ xfoot B va vl w1.heap.size := fun h => by
    rcases h with h | h | h
    · omega
    · have := hX.arow.lt h; have := hb.size; omega
    · have := hX.lrow.lt h; have := hb.size; omega
  have hcm3 : ∀ o, w3.cell? ⟨w1.heap.size, o, none⟩ = _ := fun o => (hT.kept.cell (p := ⟨w1.heap.size, o, none⟩) hlt1 hno).trans (hcm o)
  have hlt3 := Nat.lt_of_lt_of_le hlt1 hT.kept.size
  clear hcm hC
  have H := hide (And.intro hQ hto)
  have hRR := hide (hR.out w3 ls' vl' hT.xb)
  clear hR hQ hto
  go_wp2_with fail
  refine hRR.out.mono ?_
  rintro e w4 ⟨rfl, hb4⟩
  have hcm4 : ∀ o, w4.cell? ⟨w1.heap.size, o, none⟩ = _ := fun o => (hb4.cell hlt3).trans (hcm3 o)
  have hlt4 := Nat.lt_of_lt_of_le hlt3 hb4.size
  clear hRR hcm3
  by_cases hss : st = sb
  · have d9 : ((st : Int) == (sb : Int)) = true := by simp; omega
    have hq := hide (hL1.out hss)
    clear hss hcm4 hL1 hL2
    go_wp2
    go_ret3
    exact ⟨_, by rw [hq.out]; rfl, ls', vl', H.out.1, XHanded.single H.out.2 hb4 A⟩
  · have d9 : ((st : Int) == (sb : Int)) = false := by simp; omega
    have hq := hide (hL2.out hss)
    clear hss hL1 hL2
    go_wp2_with fail
    refine (hSp.out _).mono ?_
    rintro e w5 ⟨rfl, hb5⟩
    clear hSp hcm4
    go_wp2
    go_ret3
    exact ⟨_, by rw [hq.out]; rfl, ls', vl', H.out.1, (XHanded.single H.out.2 hb4 A).then hb5⟩
end Go.Proofs.YtjkhbjgfoopomabGreat
/-
  The program's Bank.Handle: errors behind Decode.
-/
namespace Go.Proofs.YtjkhbjgfoopomabGreat
open Go.RowKit
set_option linter.unusedVariables false
set_option linter.unusedSimpArgs false

set_option maxRecDepth 100000 in
set_option maxHeartbeats 1000000 in
theorem xHandle_err (s : ByteArray) (hs : s.size ≤ maxLen) (w : World) (B : Nat) (ac : List Ac) (ls : List Lg) (va vl : Value) (k f t i l p g a : Nat) (m : List UInt8) (er : Nat) (her : er ≠ 0) (hX : XB w B t ac ls va vl) (he0 : decErr s.data.toList = 0) (hx : decMsg s.data.toList = ⟨k, f, t, i, l, p, g, a, m⟩) (hap : Apart B va vl) (hi : i < 4294967296) (hl : l < 256) (hlok : ∀ x, x ∈ ls → x.ok) (hlen : ls.length ≤ 1000000)
    (hC : ∀ u, Below w.heap.size w u → Calls Tryz.prog 146 #[.pointer (some ⟨B, 0, none⟩), .agg #[.int .u8 (k : Int), .int .u8 (f : Int), .int .u8 (t : Int), .int .u32 (i : Int), .int .u8 (l : Int), .int .u16 (p : Int), .int .u16 (g : Int), .int .u32 (a : Int), .string (bs m)]] u fun e w' => e = .returned (.tuple #[.int .u8 0, .int .i64 (er : Int)]) ∧ XBTo u w' B t ac ls va vl va vl) :
    Calls Tryz.prog 114 #[.pointer (some ⟨B, 0, none⟩), .string s] w fun e w' => e = .returned (.tuple #[.slice none 0 0, .string ⟨#[]⟩, .int .i64 (er : Int)]) ∧ XBTo w w' B t ac ls va vl va vl := by
  have hD := hide (decode_any s hs)
  rw [he0, hx] at hD
  clear he0 hx
  replace hC := hide hC
  have hSt := hide (fun u (hu : XB u B t ac ls va vl) => state_any i l hi hl u B t ac ls va vl hu hlok hlen)
  generalize stL i l ls = sb at *
  have d0 : ((er : Int) != 0) = true := by simp; omega
  simp only [Msg.v, Msg.cells] at hD
  have hBl := hX.lt
  have hcs : ((t : Int) != (t : Int)) = false := by simp
  go_enter Tryz.func114, Tryz.ntmps114
  go_wp2_with fail
  refine (hD.out _).mono ?_
  rintro e w1 ⟨rfl, hb⟩
  have hX1 := hX.below hb
  have hc : ∀ o, _ = _ := fun o => cell_at hX1.blk o
  have hBl1 := hX1.lt
  clear hD
  go_wp2_with fail
  go_quiet (fail)
  have B1 := (Box.mk0 w1 #[Value.int .u8 (k : Int), .int .u8 (f : Int), .int .u8 (t : Int), .int .u32 (i : Int), .int .u8 (l : Int), .int .u16 (p : Int), .int .u16 (g : Int), .int .u32 (a : Int), .string (bs m)] 102).drewN nq
  generalize World.drewN _ _ = w2 at *
  have hcm := B1.cell
  have hlt1 := B1.lt
  clear hc
  go_wp2_with fail
  refine (hSt.out _ (hX.below (hb.trans (B1.bel.mono hb.size)))).mono ?_
  rintro e w2' ⟨rfl, rfl⟩
  clear hSt
  go_wp2_with fail
  refine (hC.out _ (hb.trans (B1.bel.mono hb.size))).mono ?_
  rintro e w3 ⟨rfl, hT⟩
  have hto := hide (XBTo.from (hb.trans (B1.bel.mono hb.size)) hT)
  clear hC hcm hT
  go_wp2
  go_ret3
  exact ⟨rfl, hto.out⟩

set_option maxRecDepth 100000 in
set_option maxHeartbeats 1000000 in
theorem xHandle_node (s : ByteArray) (hs : s.size ≤ maxLen) (w : World) (B : Nat) (ac : List Ac) (ls : List Lg) (va vl : Value) (k f t i l p g a : Nat) (m : List UInt8) (node : Nat) (hne : t ≠ node) (ht8 : t < 256) (hn8 : node < 256) (hX : XB w B node ac ls va vl) (he0 : decErr s.data.toList = 0) (hx : decMsg s.data.toList = ⟨k, f, t, i, l, p, g, a, m⟩) (hap : Apart B va vl) :
    Calls Tryz.prog 114 #[.pointer (some ⟨B, 0, none⟩), .string s] w fun e w' => e = .returned (.tuple #[.slice none 0 0, .string ⟨#[]⟩, .int .i64 4]) ∧ XBTo w w' B node ac ls va vl va vl := by
  have hD := hide (decode_any s hs)
  rw [he0, hx] at hD
  clear he0 hx
  simp only [Msg.v, Msg.cells] at hD
  have hcs : ((t : Int) != (node : Int)) = true := by simp; omega
  go_enter Tryz.func114, Tryz.ntmps114
  go_wp2_with fail
  refine (hD.out _).mono ?_
  rintro e w1 ⟨rfl, hb⟩
  have hX1 := hX.below hb
  have hc : ∀ o, _ = _ := fun o => cell_at hX1.blk o
  have hBl1 := hX1.lt
  clear hD
  go_wp2_with fail
  go_quiet (fail)
  go_wp2
  go_ret3
  exact ⟨rfl, XBTo.same hX hap ((hb.alloc hb.size _).drewN _)⟩
end Go.Proofs.YtjkhbjgfoopomabGreat
/-
  The program's calls in package escrow: NewBank, Open, Funds, Leg.
-/
namespace Go.Proofs.YtjkhbjgfoopomabGreat
open Go.RowKit
set_option linter.unusedVariables false
set_option linter.unusedSimpArgs false

def openX (a : Nat) (ac : List Ac) : Nat := if hasB a ac then 9 else if 16 ≤ ac.length then 10 else 0
def openLog (a b : Nat) (ac : List Ac) : List UInt8 := if openX a ac = 0 then openTextOf a b else []
def openAc (a b : Nat) (ac : List Ac) : List Ac := if openX a ac = 0 then ac ++ [⟨a, b⟩] else ac
set_option maxRecDepth 100000 in
set_option maxHeartbeats 1000000 in
theorem eOpen_any (a b : Nat) (ha : a < 65536) (hb32 : b < 4294967296) (w : World) (B node : Nat) (ac : List Ac) (ls : List Lg) (va vl : Value) (hX : XB w B node ac ls va vl) (hap : Apart B va vl) (hok : ∀ x, x ∈ ac → x.ok) (hlen : ac.length ≤ 1000000) :
    Calls Tryz.prog 19 #[.pointer (some ⟨B, 0, none⟩), .int .u16 (a : Int), .int .u32 (b : Int)] w fun e w' =>
      ∃ va', e = .returned (.tuple #[.string (bs (openLog a b ac)), .int .i64 (openX a ac : Int)]) ∧ XBTo w w' B node (openAc a b ac) ls va vl va' vl := by
  have hO := hide (xOpen_any a b ha hb32 w B node ac ls va vl hX hap hok hlen)
  have hc : ∀ o, _ = _ := fun o => cell_at hX.blk o
  go_enter Tryz.func19, Tryz.ntmps19
  go_wp2_with fail
  refine hO.out.mono ?_
  rintro e w1 ⟨va', h⟩
  clear hO
  by_cases h1 : hasB a ac = true
  · rw [if_pos h1] at h
    obtain ⟨rfl, h⟩ := h
    have e1 : openX a ac = 9 := by simp [openX, h1]
    have e2 : openAc a b ac = ac := by simp [openAc, e1]
    replace e1 := hide e1
    replace e2 := hide e2
    clear h1
    go_wp2
    go_ret2
    exact ⟨va', by unfold openLog; rw [e1.out]; rfl, by rw [e2.out]; exact h⟩
  · rw [if_neg h1] at h
    by_cases h2 : 16 ≤ ac.length
    · rw [if_pos h2] at h
      obtain ⟨rfl, h⟩ := h
      have e1 : openX a ac = 10 := by simp [openX, h1, h2]
      have e2 : openAc a b ac = ac := by simp [openAc, e1]
      replace e1 := hide e1
      replace e2 := hide e2
      clear h1 h2
      go_wp2
      go_ret2
      exact ⟨va', by unfold openLog; rw [e1.out]; rfl, by rw [e2.out]; exact h⟩
    · rw [if_neg h2] at h
      obtain ⟨rfl, h⟩ := h
      have e1 : openX a ac = 0 := by simp [openX, h1, h2]
      have e2 : openAc a b ac = ac ++ [⟨a, b⟩] := by simp [openAc, e1]
      replace e1 := hide e1
      replace e2 := hide e2
      clear h1 h2
      go_wp2
      go_ret2
      exact ⟨va', by unfold openLog; rw [e1.out]; rfl, by rw [e2.out]; exact h⟩

set_option maxRecDepth 100000 in
set_option maxHeartbeats 1000000 in
theorem eLeg_any (id l : Nat) (hid : id < 4294967296) (hl : l < 256) (w : World) (B node : Nat) (ac : List Ac) (ls : List Lg) (va vl : Value) (hX : XB w B node ac ls va vl) (hok : ∀ x, x ∈ ls → x.ok) (hst : ∀ x, x ∈ ls → 1 ≤ x.st) (hlen : ls.length ≤ 1000000) :
    Calls Tryz.prog 47 #[.pointer (some ⟨B, 0, none⟩), .int .u32 (id : Int), .int .u8 (l : Int)] w fun e w' => (e = match ls[findB id l ls]? with | none => .returned (.tuple #[.int .u8 0, .int .i64 13]) | some x => .returned (.tuple #[.int .u8 (x.st : Int), .int .i64 0])) ∧ Below w.heap.size w w' := by
  have hO := hide (xLeg_any id l hid hl w B node ac ls va vl hX hok hst hlen)
  have hc : ∀ o, _ = _ := fun o => cell_at hX.blk o
  generalize ls[findB id l ls]? = R at *
  cases R with
  | none =>
    simp only at *
    go_enter Tryz.func47, Tryz.ntmps47
    go_wp2_with fail
    refine hO.out.mono ?_
    rintro e w1 ⟨rfl, hb⟩
    clear hO
    go_wp2
    go_ret2
    exact ⟨rfl, hb⟩
  | some x =>
    obtain ⟨ei, el, es, ep, eg, ea, em⟩ := x
    simp only at *
    go_enter Tryz.func47, Tryz.ntmps47
    go_wp2_with fail
    refine hO.out.mono ?_
    rintro e w1 ⟨rfl, hb⟩
    clear hO
    go_wp2
    go_ret2
    exact ⟨rfl, hb⟩

set_option maxRecDepth 100000 in
set_option maxHeartbeats 1000000 in
theorem eFunds_any (a : Nat) (ha : a < 65536) (w : World) (B node : Nat) (ac : List Ac) (ls : List Lg) (va vl : Value) (hX : XB w B node ac ls va vl) (hoka : ∀ x, x ∈ ac → x.ok) (hokl : ∀ x, x ∈ ls → x.ok) (hlena : ac.length ≤ 1000000) (hlenl : ls.length ≤ 1000000)
    (hh : heldL a ls < 4294967296) (hd : dueL a ls < 4294967296) :
    Calls Tryz.prog 15 #[.pointer (some ⟨B, 0, none⟩), .int .u16 (a : Int)] w fun e w' => (e = if hasB a ac then .returned (.tuple #[.agg #[.int .u32 (balL a ac : Int), .int .u32 (heldL a ls : Int), .int .u32 (dueL a ls : Int)], .int .i64 0]) else .returned (.tuple #[.agg #[.int .u32 0, .int .u32 0, .int .u32 0], .int .i64 8])) ∧ Below w.heap.size w w' := by
  have hO := hide (fun u (hu : XB u B node ac ls va vl) => xFunds_any a ha u B node ac ls va vl hu hoka hokl hlena hlenl hh hd)
  generalize hasB a ac = hb at *
  generalize balL a ac = bl at *
  generalize heldL a ls = hl at *
  generalize dueL a ls = dl at *
  have main : ∀ (x y z er : Nat) (R : Ending), (∀ u, XB u B node ac ls va vl → Calls Tryz.prog 32 #[.pointer (some ⟨B, 0, none⟩), .int .u16 (a : Int)] u fun e w' => e = .returned (.tuple #[.agg #[.int .u32 (x : Int), .int .u32 (y : Int), .int .u32 (z : Int)], .int .i64 (er : Int)]) ∧ Below u.heap.size u w') → R = .returned (.tuple #[.agg #[.int .u32 (x : Int), .int .u32 (y : Int), .int .u32 (z : Int)], .int .i64 (er : Int)]) → Calls Tryz.prog 15 #[.pointer (some ⟨B, 0, none⟩), .int .u16 (a : Int)] w fun e w' => e = R ∧ Below w.heap.size w w' := by
    intro x y z er R hC hRR
    subst hRR
    replace hC := hide hC
    clear hO
    have hc : ∀ o, _ = _ := fun o => cell_at hX.blk o
    have hBl := hX.lt
    go_enter Tryz.func15, Tryz.ntmps15
    go_wp2_with fail
    refine (hC.out _ (hX.below ((Below.refl _ _).alloc (Nat.le_refl _) _))).mono ?_
    rintro e w2 ⟨rfl, hb2⟩
    have hc2 := fun o => cel_kept hb2 o
    have hf2 := fun o => fro_kept hb2 o
    have hlt := lt_kept hb2
    have hP := putL_whole [.int .u32 (x : Int), .int .u32 (y : Int), .int .u32 (z : Int)] (blk_kept hb2) rfl
    have hB := (all_kept hb2).trans ((putL_kept [.int .u32 (x : Int), .int .u32 (y : Int), .int .u32 (z : Int)] w2 w.heap.size 0).below (all_kept hb2).size (fun k e => by omega))
    clear hC hb2 hc
    go_wp2
    have hc3 := fun o => cell_at hP o
    simp only [putL] at hc3 hB
    generalize World.setCell _ _ _ = u at *
    exact bodyPost_ret (v := .tuple #[.agg #[.int .u32 (x : Int), .int .u32 (y : Int), .int .u32 (z : Int)], .int .i64 (er : Int)]) (by simp [results, Tryz.results15, go_sem, hc3]) rfl ⟨rfl, hB⟩
  cases hb with
  | true => exact main bl hl dl 0 _ hO.out rfl
  | false => exact main 0 0 0 8 _ hO.out rfl

/-- a bank without accounts -/
def NewOf (n : Nat) (w : World) (e : Ending) (w' : World) : Prop := ∃ B, w.heap.size ≤ B ∧ e = .returned (.tuple #[.pointer (some ⟨B, 0, none⟩), .int .i64 0]) ∧ XB w' B n [] [] (.slice none 0 0) (.slice none 0 0)
set_option maxRecDepth 100000 in
set_option maxHeartbeats 1000000 in
theorem newBank_any (n : Nat) (hn : n < 256) (w : World) :
    Calls Tryz.prog 18 #[.int .u8 (n : Int)] w fun e w' => (if bankB n then NewOf n w e w' else e = .returned (.tuple #[.pointer none, .int .i64 4])) ∧ Below w.heap.size w w' := by
  have hI := hide (fun u => new_any n hn u)
  generalize bankB n = bb at *
  cases bb with
  | true =>
    simp only [if_true] at *
    go_enter Tryz.func18, Tryz.ntmps18
    go_wp2_with fail
    refine (hI.out _).mono ?_
    rintro e w1 ⟨rfl, hb⟩
    clear hI
    go_wp2
    go_ret2
    refine ⟨⟨w1.heap.size + 1, by have := hb.size; omega, rfl, ⟨?_, RowOf.nil _ _, RowOf.nil _ _⟩⟩, (hb.alloc hb.size _).alloc (by simp; have := hb.size; omega) _⟩
    refine ty_of (T := 92) ?_
    rw [show w1.heap.size + 1 = (w1.alloc (.cells #[.int .u8 (n : Int), .slice none 0 0, .slice none 0 0] 90)).heap.size from by simp]
    exact heap_alloc_self _ _
  | false =>
    simp only [Bool.false_eq_true, if_false] at *
    go_enter Tryz.func18, Tryz.ntmps18
    go_wp2_with fail
    refine (hI.out _).mono ?_
    rintro e w1 ⟨rfl, hb⟩
    clear hI
    go_wp2
    go_ret2
    exact ⟨rfl, hb.alloc hb.size _⟩
end Go.Proofs.YtjkhbjgfoopomabGreat
