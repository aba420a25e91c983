import Derived.Test.YtjkhbjgfoopomaaA11
import Derived.Test.YtjkhbjgfoopomaaA3
import Derived.Test.YtjkhbjgfoopomaaA10
/-
  The program's Bank.carryOut.
-/
namespace Go.Proofs.Ytjkhbjgfoopomaa
open Go.RowKit
set_option linter.unusedVariables false
set_option linter.unusedSimpArgs false

theorem XBTo.drew {w u : World} {B node : Nat} {ac' : List Ac} {ls' : List Lg} {va vl va' vl' : Value} (h : XBTo w u B node ac' ls' va vl va' vl') : XBTo w u.drew B node ac' ls' va vl va' vl' := h.then ((Below.refl _ _).drew)
theorem XBTo.drewN {w u : World} {B node : Nat} {ac' : List Ac} {ls' : List Lg} {va vl va' vl' : Value} (h : XBTo w u B node ac' ls' va vl va' vl') (n : Nat) : XBTo w (u.drewN n) B node ac' ls' va vl va' vl' := h.then ⟨rfl, rfl, rfl, Nat.le_refl _, fun _ _ => rfl⟩
def Like (u u' : World) : Prop := u'.heap = u.heap ∧ u'.os = u.os ∧ u'.tape = u.tape ∧ u'.output = u.output
theorem Like.below {u u' : World} (h : Like u u') : Below u.heap.size u u' := ⟨h.2.1, h.2.2.1, h.2.2.2, by rw [h.1]; exact Nat.le_refl _, fun k _ => by rw [h.1]⟩
theorem XBTo.like {w u u' : World} {B node : Nat} {ac' : List Ac} {ls' : List Lg} {va vl va' vl' : Value} (h : XBTo w u B node ac' ls' va vl va' vl') (hl : Like u u') : XBTo w u' B node ac' ls' va vl va' vl' := h.then hl.below
/-- the accounts are written in place -/
theorem XBTo.rowA {w u u' : World} {B node : Nat} {ac1 ac2 : List Ac} {ls : List Lg} {va vl : Value} (h : XBTo w u B node ac1 ls va vl va vl) (hk : Kept (fun k => va.ownBlock = some k) u u') (hrow : RowOf u' 158 2 Ac.cells va ac2) : XBTo w u' B node ac2 ls va vl va vl :=
  ⟨⟨ty_of (by rw [hk.block B h.xb.lt h.ap.a]; exact h.xb.blk), hrow, h.xb.lrow.kept hk (fun g h' e => h.ap.al g e h')⟩, h.kept.trans hk (fun i hi => .inl (.inr (.inl hi))), h.owna, h.ownl, h.ap⟩
theorem XBTo.setA {w u : World} {B node : Nat} {ac1 : List Ac} {ls : List Lg} {vl : Value} {g n cap : Nat} (h : XBTo w u B node ac1 ls (.slice (some ⟨g, 0, none⟩) n cap) vl (.slice (some ⟨g, 0, none⟩) n cap) vl) (k : Nat) (hk : k < ac1.length) (b : Nat) :
    XBTo w (u.setCell ⟨g, k * 2 + 1, none⟩ (.int .u32 (b : Int))) B node (ac1.set k ⟨ac1[k].n, b⟩) ls (.slice (some ⟨g, 0, none⟩) n cap) vl (.slice (some ⟨g, 0, none⟩) n cap) vl :=
  h.rowA ((Kept.of_setCell u ⟨g, k * 2 + 1, none⟩ _).mono (fun i _ e => by simp at e; subst e; rfl)) (h.xb.arow.set Ac.cells_length rfl k 1 hk (by decide) _ _ rfl)
def move1 (p g a : Nat) (x : Ac) : Ac := ⟨x.n, (if x.n = p then x.b - a else x.b) + (if x.n = g then a else 0)⟩
def movedL (p g a : Nat) (ac : List Ac) : List Ac := ac.map (move1 p g a)
/-- so many are done -/
def movedTo (p g a k : Nat) (ac : List Ac) : List Ac := movedL p g a (ac.take k) ++ ac.drop k
theorem movedTo_length (p g a k : Nat) (ac : List Ac) : (movedTo p g a k ac).length = ac.length := by
  simp [movedTo, movedL]
  omega
theorem movedTo_get (p g a k : Nat) (ac : List Ac) (h : k < ac.length) : (movedTo p g a k ac)[k]'(by rw [movedTo_length]; exact h) = ac[k] := by
  have hl : (movedL p g a (ac.take k)).length = k := by simp [movedL]; omega
  simp only [movedTo]
  rw [List.getElem_append_right (by omega)]
  simp [hl]
theorem movedTo_succ (p g a k : Nat) (ac : List Ac) (h : k < ac.length) : movedTo p g a (k + 1) ac = (movedTo p g a k ac).set k (move1 p g a ac[k]) := by
  have hl : (movedL p g a (ac.take k)).length = k := by simp [movedL]; omega
  have hd : ac.drop k = ac[k] :: ac.drop (k + 1) := List.drop_eq_getElem_cons h
  unfold movedTo
  rw [List.set_append_right _ _ (by omega), hl, Nat.sub_self, hd, List.set_cons_zero, List.take_succ_eq_append_getElem h]
  simp only [movedL, List.map_append, List.map_cons, List.map_nil, List.append_assoc, List.singleton_append]
theorem movedTo_all (p g a : Nat) (ac : List Ac) : movedTo p g a ac.length ac = movedL p g a ac := by simp [movedTo]

set_option maxRecDepth 100000 in
set_option maxHeartbeats 1000000 in
theorem carryOut_any (p g a : Nat) (m : List UInt8) (hp : p < 65536) (hg : g < 65536) (ha : a < 4294967296) (w : World) (B node : Nat) (ac : List Ac) (ls : List Lg) (va vl : Value) (hX : XB w B node ac ls va vl) (hap : Apart B va vl) (hoka : ∀ x, x ∈ ac → x.ok) (hlena : ac.length ≤ 1000000)
    (hout : ∀ x, x ∈ ac → x.n = p → a ≤ x.b) (hin : ∀ x, x ∈ ac → x.n = g → x.b + a < 4294967296) :
    Calls Try.prog 128 #[.pointer (some ⟨B, 0, none⟩), .agg #[.int .u16 (p : Int), .int .u16 (g : Int), .int .u32 (a : Int), .string (bs m)]] w fun e w' => e = .returned (.tuple #[]) ∧ XBTo w w' B node (movedL p g a ac) ls va vl va vl := by
  obtain ⟨ad, cap, hv, hev⟩ := hX.arow.form Ac.cells_length
  subst hv
  clear hev
  have hc : ∀ o, _ = _ := fun o => cell_at hX.blk o
  have hBl := hX.lt
  go_enter Try.func128, Try.ntmps128
  go_wp2
  go_loopw [10] (fun c u => ∃ k : Nat, k ≤ ac.length ∧ c = .int .i64 k ∧ XBTo w u B node (movedTo p g a k ac) ls (.slice ad ac.length cap) vl (.slice ad ac.length cap) vl ∧ u.heap[w.heap.size]? = some (.cells #[.int .u16 (p : Int), .int .u16 (g : Int), .int .u32 (a : Int), .string (bs m)] 166 (0, 0))) (fun c _ => ac.length - (intOf c).toNat)
  case atStart => exact ⟨0, Nat.zero_le _, rfl, XBTo.same hX hap ((Below.refl _ _).alloc (Nat.le_refl _) _), heap_alloc_self _ _⟩
  case round =>
    obtain ⟨k, hk, rfl, hT, hbox⟩ := hrel
    clear hc
    have hc : ∀ o, _ = _ := fun o => cell_at hT.xb.blk o
    have hcb : ∀ o, _ = _ := fun o => cell_at hbox o
    have hBu := hT.xb.lt
    by_cases hlt : k < ac.length
    · obtain ⟨ad', cap', hv', hev'⟩ := hT.xb.arow.form Ac.cells_length
      obtain ⟨gg, hgg, hcell, hfro⟩ := hev' k (by rw [movedTo_length]; exact hlt)
      have ead : ad = ad' := by injection hv'
      subst ead
      subst hgg
      rw [movedTo_get p g a k ac hlt] at hcell
      have hgl : gg < w.heap.size := hX.arow.lt rfl
      have hgB : gg ≠ B := fun e => hap.a (by rw [e]; rfl)
      have hs : Hid (movedTo p g a (k + 1) ac = (movedTo p g a k ac).set k (move1 p g a ac[k])) := hide (movedTo_succ p g a k ac hlt)
      have c0 := hcell 0 (by decide)
      have c1 := hcell 1 (by decide)
      have hek := hoka ac[k] (List.getElem_mem hlt)
      have ho := hout ac[k] (List.getElem_mem hlt)
      have hi := hin ac[k] (List.getElem_mem hlt)
      have hne1 : gg ≠ w.heap.size := by omega
      have hne2 : w.heap.size ≠ gg := by omega
      have hgB' : B ≠ gg := fun e => hgB e.symm
      have hS1 := hide (fun b => hT.setA k (by rw [movedTo_length]; exact hlt) b)
      have hS2 := hide (fun b b2 => (hT.setA k (by rw [movedTo_length]; exact hlt) b).setA k (by rw [List.length_set, movedTo_length]; exact hlt) b2)
      have hgk := movedTo_get p g a k ac hlt
      simp only [List.getElem_set_self, List.set_set, hgk] at hS1 hS2
      clear hgk
      have hself : Hid ((movedTo p g a k ac).set k ⟨ac[k].n, ac[k].b⟩ = movedTo p g a k ac) := hide (by have := movedTo_get p g a k ac hlt; rw [show (⟨ac[k].n, ac[k].b⟩ : Ac) = ac[k] from rfl, ← this, List.set_getElem_self])
      clear hcell hev' hv'
      generalize ac[k] = E at *
      obtain ⟨en, eb⟩ := E
      obtain ⟨h1, h2⟩ := hek
      simp only [Ac.cells, List.getElem?_cons_zero, List.getElem?_cons_succ, Nat.add_zero] at c0 c1 h1 h2 ho hi
      by_cases hpp : en = p
      · have d1 : ((en : Int) == (p : Int)) = true := by simp; omega
        have h3 := ho hpp
        by_cases hgq : en = g
        · have d2 : ((en : Int) == (g : Int)) = true := by simp; omega
          have hq : Hid (movedTo p g a (k + 1) ac = (movedTo p g a k ac).set k ⟨en, eb⟩) := hide (by rw [hs.out]; simp only [move1]; rw [if_pos hpp, if_pos hgq]; rw [show eb - a + a = eb by omega])
          have W1 : IntKind.u32.wrap ((eb : Int) - (a : Int)) = ((eb - a : Nat) : Int) := by rw [IntKind.wrap_u32]; omega
          have W2 : IntKind.u32.wrap (((eb - a : Nat) : Int) + (a : Int)) = (eb : Int) := by rw [IntKind.wrap_u32]; omega
          clear hs hpp hgq ho hi
          go_wp2
          go_quiet (fail)
          go_wp2
          go_region
          go_wp2
          go_quiet (fail)
          go_wp2
          go_region
          go_wp2
          exact ⟨⟨k + 1, hlt, by go_num, by rw [hq.out]; exact (hS2.out (eb - a) eb).like ⟨rfl, rfl, rfl, rfl⟩, by simp [World.setCell, World.drewN, Array.getElem?_modify, hne1, hbox]⟩, by simp [intOf]; omega⟩
        · have d2 : ((en : Int) == (g : Int)) = false := by simp; omega
          have hq : Hid (movedTo p g a (k + 1) ac = (movedTo p g a k ac).set k ⟨en, eb - a⟩) := hide (by rw [hs.out]; simp only [move1]; rw [if_pos hpp, if_neg hgq]; rw [Nat.add_zero])
          have W1 : IntKind.u32.wrap ((eb : Int) - (a : Int)) = ((eb - a : Nat) : Int) := by rw [IntKind.wrap_u32]; omega
          clear hs hpp hgq ho hi
          go_wp2
          go_quiet (fail)
          go_wp2
          go_region
          go_wp2
          go_quiet (fail)
          go_wp2
          exact ⟨⟨k + 1, hlt, by go_num, by rw [hq.out]; exact (hS1.out (eb - a)).like ⟨rfl, rfl, rfl, rfl⟩, by simp [World.setCell, World.drewN, Array.getElem?_modify, hne1, hbox]⟩, by simp [intOf]; omega⟩
      · have d1 : ((en : Int) == (p : Int)) = false := by simp; omega
        by_cases hgq : en = g
        · have d2 : ((en : Int) == (g : Int)) = true := by simp; omega
          have hq : Hid (movedTo p g a (k + 1) ac = (movedTo p g a k ac).set k ⟨en, eb + a⟩) := hide (by rw [hs.out]; simp only [move1]; rw [if_neg hpp, if_pos hgq])
          have W2 : IntKind.u32.wrap ((eb : Int) + (a : Int)) = ((eb + a : Nat) : Int) := by have := hi hgq; rw [IntKind.wrap_u32]; omega
          clear hs hpp hgq ho hi
          go_wp2
          go_quiet (fail)
          go_wp2
          go_quiet (fail)
          go_wp2
          go_region
          go_wp2
          exact ⟨⟨k + 1, hlt, by go_num, by rw [hq.out]; exact (by have h := hS1.out (eb + a); rw [Int.natCast_add] at h; exact h.like ⟨rfl, rfl, rfl, rfl⟩), by simp [World.setCell, World.drewN, Array.getElem?_modify, hne1, hbox]⟩, by simp [intOf]; omega⟩
        · have d2 : ((en : Int) == (g : Int)) = false := by simp; omega
          have hq : Hid (movedTo p g a (k + 1) ac = (movedTo p g a k ac).set k ⟨en, eb⟩) := hide (by rw [hs.out]; simp only [move1]; rw [if_neg hpp, if_neg hgq]; rw [Nat.add_zero])
          clear hs hpp hgq ho hi
          go_wp2
          go_quiet (fail)
          go_wp2
          go_quiet (fail)
          go_wp2
          exact ⟨⟨k + 1, hlt, by go_num, by rw [hq.out]; exact (by have e : (movedTo p g a k ac).set k ⟨en, eb⟩ = movedTo p g a k ac := hself.out; rw [e]; exact hT.like ⟨rfl, rfl, rfl, rfl⟩), by simp [World.setCell, World.drewN, Array.getElem?_modify, hne1, hbox]⟩, by simp [intOf]; omega⟩
    · obtain rfl : k = ac.length := by omega
      rw [movedTo_all] at hT
      go_wp2
      exact bodyPost_end (results_none rfl _ _ _) rfl ⟨rfl, hT⟩
end Go.Proofs.Ytjkhbjgfoopomaa
/-
  The program's Bank.funds.
-/
namespace Go.Proofs.Ytjkhbjgfoopomaa
open Go.RowKit
set_option linter.unusedVariables false
set_option linter.unusedSimpArgs false

def balStep (a : Nat) (s : Nat) (x : Ac) : Nat := if x.n = a then x.b else s
def balL (a : Nat) (ac : List Ac) : Nat := ac.foldl (balStep a) 0
theorem balL_snoc (a : Nat) (ac : List Ac) (x : Ac) : balL a (ac ++ [x]) = balStep a (balL a ac) x := by simp [balL, List.foldl_append]
def payL (a : Nat) (x : Lg) : Nat := if x.st = 1 ∧ x.p = a then x.a else 0
def getL (a : Nat) (x : Lg) : Nat := if x.st = 1 ∧ x.g = a then x.a else 0
def heldL (a : Nat) (ls : List Lg) : Nat := (ls.map (payL a)).sum
def dueL (a : Nat) (ls : List Lg) : Nat := (ls.map (getL a)).sum
theorem heldL_snoc (a : Nat) (ls : List Lg) (x : Lg) : heldL a (ls ++ [x]) = heldL a ls + payL a x := by simp [heldL]
theorem dueL_snoc (a : Nat) (ls : List Lg) (x : Lg) : dueL a (ls ++ [x]) = dueL a ls + getL a x := by simp [dueL]
theorem heldL_take (a : Nat) (ls : List Lg) (k : Nat) : heldL a (ls.take k) ≤ heldL a ls := by
  conv => rhs; rw [← List.take_append_drop k ls]
  simp only [heldL, List.map_append, List.sum_append]
  omega
theorem dueL_take (a : Nat) (ls : List Lg) (k : Nat) : dueL a (ls.take k) ≤ dueL a ls := by
  conv => rhs; rw [← List.take_append_drop k ls]
  simp only [dueL, List.map_append, List.sum_append]
  omega

def fcells (x : Nat × Nat × Nat) : Array Value := #[.int .u32 (x.1 : Int), .int .u32 (x.2.1 : Int), .int .u32 (x.2.2 : Int)]
structure TwoF (w : World) (x y : Nat × Nat × Nat) (u : World) : Prop where
  bel : Below w.heap.size w u
  one : u.heap[w.heap.size]? = some (.cells (fcells x) 82 (0, 0))
  two : u.heap[w.heap.size + 1]? = some (.cells (fcells y) 82 (0, 0))
theorem TwoF.mk0 (w : World) : TwoF w (0, 0, 0) (0, 0, 0) ((w.alloc (.cells (fcells (0, 0, 0)) 82)).alloc (.cells (fcells (0, 0, 0)) 82)) := by
  refine ⟨((Below.refl _ _).alloc (Nat.le_refl _) _).alloc (by simp) _, ?_, ?_⟩
  · rw [Below.heap_alloc _ _ _ (by simp)]
    exact heap_alloc_self _ _
  · rw [show w.heap.size + 1 = (w.alloc (.cells (fcells (0, 0, 0)) 82)).heap.size from by simp]
    exact heap_alloc_self _ _
theorem TwoF.set {w u : World} {x y y' : Nat × Nat × Nat} (h : TwoF w x y u) (j : Nat) (c : Value) (hy : (fcells y).setIfInBounds j c = fcells y') : TwoF w x y' (u.setCell ⟨w.heap.size + 1, j, none⟩ c) := by
  have hk := Kept.of_setCell u ⟨w.heap.size + 1, j, none⟩ c
  refine ⟨h.bel.trans (hk.below h.bel.size (fun k e => by simp at e; omega)), by rw [hk.block _ (block_lt h.one) (by simp)]; exact h.one, ?_⟩
  rw [heap_set_self h.two, hy]
theorem TwoF.drewN {w u : World} {x y : Nat × Nat × Nat} (h : TwoF w x y u) (n : Nat) : TwoF w x y (u.drewN n) := ⟨⟨h.bel.os, h.bel.tape, h.bel.output, h.bel.size, h.bel.block⟩, h.one, h.two⟩
theorem TwoF.drew {w u : World} {x y : Nat × Nat × Nat} (h : TwoF w x y u) : TwoF w x y u.drew := ⟨h.bel.drew, h.one, h.two⟩
theorem TwoF.putOne {w u : World} {x y : Nat × Nat × Nat} (h : TwoF w x y u) (z : Nat × Nat × Nat) : TwoF w z y (putL u w.heap.size 0 (fcells z).toList) :=
  have hk := putL_kept (fcells z).toList u w.heap.size 0
  ⟨h.bel.trans (hk.below h.bel.size (fun k e => by omega)), putL_whole _ h.one rfl, by rw [hk.block _ (block_lt h.two) (by omega)]; exact h.two⟩

set_option maxRecDepth 100000 in
set_option maxHeartbeats 1000000 in
theorem xfunds_any (a : Nat) (ha : a < 65536) (w : World) (B node : Nat) (ac : List Ac) (ls : List Lg) (va vl : Value) (hX : XB w B node ac ls va vl) (hoka : ∀ x, x ∈ ac → x.ok) (hokl : ∀ x, x ∈ ls → x.ok) (hlena : ac.length ≤ 1000000) (hlenl : ls.length ≤ 1000000)
    (hh : heldL a ls < 4294967296) (hd : dueL a ls < 4294967296) :
    Calls Try.prog 85 #[.pointer (some ⟨B, 0, none⟩), .int .u16 (a : Int)] w fun e w' => e = .returned (.agg #[.int .u32 (balL a ac : Int), .int .u32 (heldL a ls : Int), .int .u32 (dueL a ls : Int)]) ∧ Below w.heap.size w w' := by
  obtain ⟨ad, cap, hv, hev⟩ := hX.arow.form Ac.cells_length
  obtain ⟨ad2, cap2, hv2, hev2⟩ := hX.lrow.form Lg.cells_length
  subst hv hv2
  have hc : ∀ o, _ = _ := fun o => cell_at hX.blk o
  have hBl := hX.lt
  clear hev hev2
  go_enter Try.func85, Try.ntmps85
  go_wp2
  go_loopw [14] (fun c u => ∃ k : Nat, k ≤ ac.length ∧ c = .int .i64 k ∧ TwoF w (0, 0, 0) (balL a (ac.take k), 0, 0) u) (fun c _ => ac.length - (intOf c).toNat)
  case atStart => exact ⟨0, Nat.zero_le _, rfl, TwoF.mk0 w⟩
  case round =>
    obtain ⟨k, hk, rfl, hT⟩ := hrel
    have hXu := hX.below hT.bel
    clear hc
    have hc : ∀ o, _ = _ := fun o => cell_at hXu.blk o
    have hs2 : ∀ o, _ = _ := fun o => cell_at hT.two o
    have hf2 : ∀ o, _ = _ := fun o => frozen_at hT.two o
    have hl2 := block_lt hT.two
    have hBu := hXu.lt
    have hne : B ≠ w.heap.size + 1 := by omega
    by_cases hlt : k < ac.length
    · obtain ⟨ad', cap', hv', hev'⟩ := hXu.arow.form Ac.cells_length
      obtain ⟨g, hg, hcell, _⟩ := hev' k hlt
      have ead : ad = ad' := by injection hv'
      subst ead
      subst hg
      have hs : Hid (balL a (ac.take (k + 1)) = balStep a (balL a (ac.take k)) ac[k]) := hide (by rw [List.take_succ_eq_append_getElem hlt, balL_snoc])
      have c0 := hcell 0 (by decide)
      have c1 := hcell 1 (by decide)
      have hek := hoka ac[k] (List.getElem_mem hlt)
      clear hcell hev' hv'
      generalize balL a (ac.take k) = S at *
      generalize ac[k] = E at *
      obtain ⟨en, eb⟩ := E
      obtain ⟨h1, h2⟩ := hek
      simp only [Ac.cells, List.getElem?_cons_zero, List.getElem?_cons_succ, Nat.add_zero] at c0 c1 h1 h2
      simp only [fcells] at hs2
      by_cases hz : en = a
      · have dz : ((en : Int) == (a : Int)) = true := by simp; omega
        have hq : Hid (balL a (ac.take (k + 1)) = eb) := hide (by rw [hs.out]; simp [balStep, hz])
        clear hs hz
        go_wp2
        exact ⟨⟨k + 1, hlt, by go_num, by rw [hq.out]; exact hT.set 0 _ rfl⟩, by simp [intOf]; omega⟩
      · have dz : ((en : Int) == (a : Int)) = false := by simp; omega
        have hq : Hid (balL a (ac.take (k + 1)) = S) := hide (by rw [hs.out]; simp [balStep, hz])
        clear hs hz
        go_wp2
        exact ⟨⟨k + 1, hlt, by go_num, by rw [hq.out]; exact hT⟩, by simp [intOf]; omega⟩
    · obtain rfl : k = ac.length := by omega
      rw [List.take_length] at hT
      clear hs2 hf2 hl2 hc
      have hc : ∀ o, _ = _ := fun o => cell_at hXu.blk o
      go_wp2
      go_loopw [42] (fun c u => ∃ j : Nat, j ≤ ls.length ∧ c = .int .i64 j ∧ TwoF w (0, 0, 0) (balL a ac, heldL a (ls.take j), dueL a (ls.take j)) u) (fun c _ => ls.length - (intOf c).toNat)
      case atStart => exact ⟨0, Nat.zero_le _, rfl, hT⟩
      case round =>
        obtain ⟨j, hj, rfl, hT2⟩ := hrel
        rename_i wr2
        have hXv := hX.below hT2.bel
        clear hc hT hXu hBu
        have hc : ∀ o, _ = _ := fun o => cell_at hXv.blk o
        have hs2 : ∀ o, _ = _ := fun o => cell_at hT2.two o
        have hf2 : ∀ o, _ = _ := fun o => frozen_at hT2.two o
        have hs0 : ∀ o, _ = _ := fun o => cell_at hT2.one o
        have hf0 : ∀ o, _ = _ := fun o => frozen_at hT2.one o
        have hl2 := block_lt hT2.two
        have hBu := hXv.lt
        have hb1 : heldL a (ls.take (j + 1)) ≤ heldL a ls := heldL_take a ls (j + 1)
        have hb2 : dueL a (ls.take (j + 1)) ≤ dueL a ls := dueL_take a ls (j + 1)
        have hb3 : heldL a (ls.take j) ≤ heldL a ls := heldL_take a ls j
        have hb4 : dueL a (ls.take j) ≤ dueL a ls := dueL_take a ls j
        by_cases hlt2 : j < ls.length
        · obtain ⟨ad', cap', hv', hev'⟩ := hXv.lrow.form Lg.cells_length
          obtain ⟨g, hg, hcell, _⟩ := hev' j hlt2
          have ead : ad2 = ad' := by injection hv'
          subst ead
          subst hg
          have hgne : g ≠ w.heap.size + 1 := by have := hX.lrow.lt (g := g) rfl; omega
          have hs1 : Hid (heldL a (ls.take (j + 1)) = heldL a (ls.take j) + payL a ls[j]) := hide (by rw [List.take_succ_eq_append_getElem hlt2, heldL_snoc])
          have hs3 : Hid (dueL a (ls.take (j + 1)) = dueL a (ls.take j) + getL a ls[j]) := hide (by rw [List.take_succ_eq_append_getElem hlt2, dueL_snoc])
          have c2 := hcell 2 (by decide)
          have c3 := hcell 3 (by decide)
          have c4 := hcell 4 (by decide)
          have c5 := hcell 5 (by decide)
          have hek := hokl ls[j] (List.getElem_mem hlt2)
          clear hcell hev' hv'
          generalize ls[j] = E at *
          obtain ⟨ei, el, es, ep, eg, ea, em⟩ := E
          obtain ⟨_, _, h3, h4, h5, h6⟩ := hek
          simp only [Lg.cells, List.getElem?_cons_zero, List.getElem?_cons_succ, Nat.add_zero] at c2 c3 c4 c5 h3 h4 h5 h6
          simp only [fcells] at hs2
          by_cases hst : es = 1
          · have dst : ((es : Int) != 1) = false := by simp; omega
            by_cases hp : ep = a
            · have dp : ((ep : Int) == (a : Int)) = true := by simp; omega
              by_cases hg : eg = a
              · have dg : ((eg : Int) == (a : Int)) = true := by simp; omega
                have q1 : Hid (heldL a (ls.take (j + 1)) = heldL a (ls.take j) + ea) := hide (by rw [hs1.out]; simp [payL, hst, hp])
                have q2 : Hid (dueL a (ls.take (j + 1)) = dueL a (ls.take j) + ea) := hide (by rw [hs3.out]; simp [getL, hst, hg])
                have W1 : IntKind.u32.wrap ((heldL a (ls.take j) : Int) + (ea : Int)) = ((heldL a (ls.take j) + ea : Nat) : Int) := by have h := q1.out; rw [IntKind.wrap_u32]; omega
                have W2 : IntKind.u32.wrap ((dueL a (ls.take j) : Int) + (ea : Int)) = ((dueL a (ls.take j) + ea : Nat) : Int) := by have h := q2.out; rw [IntKind.wrap_u32]; omega
                clear hs1 hs3 hst hp hg
                go_wp2
                go_region
                go_wp2
                go_region
                go_wp2
                exact ⟨⟨j + 1, hlt2, by go_num, by rw [q1.out, q2.out]; exact ((hT2.set (y' := (balL a ac, heldL a (ls.take j) + ea, dueL a (ls.take j))) 1 _ (by simp [fcells])).set 2 _ (by simp [fcells])).drew.drew⟩, by simp [intOf]; omega⟩
              · have dg : ((eg : Int) == (a : Int)) = false := by simp; omega
                have q1 : Hid (heldL a (ls.take (j + 1)) = heldL a (ls.take j) + ea) := hide (by rw [hs1.out]; simp [payL, hst, hp])
                have q2 : Hid (dueL a (ls.take (j + 1)) = dueL a (ls.take j)) := hide (by rw [hs3.out]; simp [getL, hst, hg])
                have W1 : IntKind.u32.wrap ((heldL a (ls.take j) : Int) + (ea : Int)) = ((heldL a (ls.take j) + ea : Nat) : Int) := by have h := q1.out; rw [IntKind.wrap_u32]; omega
                clear hs1 hs3 hst hp hg
                go_wp2
                go_region
                go_wp2
                exact ⟨⟨j + 1, hlt2, by go_num, by rw [q1.out, q2.out]; exact (hT2.set 1 _ (by simp [fcells])).drew⟩, by simp [intOf]; omega⟩
            · have dp : ((ep : Int) == (a : Int)) = false := by simp; omega
              by_cases hg : eg = a
              · have dg : ((eg : Int) == (a : Int)) = true := by simp; omega
                have q1 : Hid (heldL a (ls.take (j + 1)) = heldL a (ls.take j)) := hide (by rw [hs1.out]; simp [payL, hst, hp])
                have q2 : Hid (dueL a (ls.take (j + 1)) = dueL a (ls.take j) + ea) := hide (by rw [hs3.out]; simp [getL, hst, hg])
                have W2 : IntKind.u32.wrap ((dueL a (ls.take j) : Int) + (ea : Int)) = ((dueL a (ls.take j) + ea : Nat) : Int) := by have h := q2.out; rw [IntKind.wrap_u32]; omega
                clear hs1 hs3 hst hp hg
                go_wp2
                go_region
                go_wp2
                exact ⟨⟨j + 1, hlt2, by go_num, by rw [q1.out, q2.out]; exact (hT2.set 2 _ (by simp [fcells])).drew⟩, by simp [intOf]; omega⟩
              · have dg : ((eg : Int) == (a : Int)) = false := by simp; omega
                have q1 : Hid (heldL a (ls.take (j + 1)) = heldL a (ls.take j)) := hide (by rw [hs1.out]; simp [payL, hst, hp])
                have q2 : Hid (dueL a (ls.take (j + 1)) = dueL a (ls.take j)) := hide (by rw [hs3.out]; simp [getL, hst, hg])
                clear hs1 hs3 hst hp hg
                go_wp2
                exact ⟨⟨j + 1, hlt2, by go_num, by rw [q1.out, q2.out]; exact hT2⟩, by simp [intOf]; omega⟩
          · have dst : ((es : Int) != 1) = true := by simp; omega
            have q1 : Hid (heldL a (ls.take (j + 1)) = heldL a (ls.take j)) := hide (by rw [hs1.out]; simp [payL, hst])
            have q2 : Hid (dueL a (ls.take (j + 1)) = dueL a (ls.take j)) := hide (by rw [hs3.out]; simp [getL, hst])
            clear hs1 hs3 hst
            go_wp2
            exact ⟨⟨j + 1, hlt2, by go_num, by rw [q1.out, q2.out]; exact hT2⟩, by simp [intOf]; omega⟩
        · obtain rfl : j = ls.length := by omega
          rw [List.take_length] at hT2
          simp only [List.take_length] at hs2
          have hT3 := hT2.putOne (balL a ac, heldL a ls, dueL a ls)
          simp only [fcells] at hs2 hs0
          go_wp2
          have hc3 := fun o => cell_at hT3.one o
          have hb3 := hT3.bel
          simp only [fcells, putL] at hc3 hb3
          generalize World.setCell _ _ _ = u at *
          exact bodyPost_ret (v := .agg #[.int .u32 (balL a ac : Int), .int .u32 (heldL a ls : Int), .int .u32 (dueL a ls : Int)]) (by simp [results, Try.results85, go_sem, hc3]) rfl ⟨rfl, hb3⟩
end Go.Proofs.Ytjkhbjgfoopomaa
