import Derived.Test.YtjkhbjgfoopomaaG12
import Derived.Test.YtjkhbjgfoopomaaG9
import Derived.Test.YtjkhbjgfoopomaaG1
import Derived.Test.YtjkhbjgfoopomaaG4
/-
  The program's Bank.Open.
-/
namespace Go.Proofs.Ytjkhbjgfoopomaa
open Go.RowKit
set_option linter.unusedVariables false
set_option linter.unusedSimpArgs false

/-- the blocks of a bank -/
def xfoot (B : Nat) (va vl : Value) (k : Nat) : Prop := k = B ∨ va.ownBlock = some k ∨ vl.ownBlock = some k
/-- they are apart -/
structure Apart (B : Nat) (va vl : Value) : Prop where
  a : va.ownBlock ≠ some B
  l : vl.ownBlock ≠ some B
  al : ∀ g, va.ownBlock = some g → vl.ownBlock ≠ some g
/-- the program's bank has gone on -/
structure XBTo (w w' : World) (B node : Nat) (ac' : List Ac) (ls' : List Lg) (va vl va' vl' : Value) : Prop where
  xb : XB w' B node ac' ls' va' vl'
  kept : Kept (xfoot B va vl) w w'
  owna : ∀ g, va'.ownBlock = some g → va.ownBlock = some g ∨ w.heap.size ≤ g
  ownl : ∀ g, vl'.ownBlock = some g → vl.ownBlock = some g ∨ w.heap.size ≤ g
  ap : Apart B va' vl'
theorem XBTo.same {w u : World} {B node : Nat} {ac : List Ac} {ls : List Lg} {va vl : Value} (hX : XB w B node ac ls va vl) (hap : Apart B va vl) (hb : Below w.heap.size w u) : XBTo w u B node ac ls va vl va vl :=
  ⟨hX.below hb, Kept.of_below hb, fun g h => .inl h, fun g h => .inl h, hap⟩
theorem XBTo.from {w w1 w2 : World} {B node : Nat} {ac' : List Ac} {ls' : List Lg} {va vl va' vl' : Value} (hb : Below w.heap.size w w1) (h : XBTo w1 w2 B node ac' ls' va vl va' vl') : XBTo w w2 B node ac' ls' va vl va' vl' :=
  ⟨h.xb, (Kept.of_below hb).trans h.kept (fun i hi => .inl hi), fun g hg => (h.owna g hg).imp_right (fun x => Nat.le_trans hb.size x), fun g hg => (h.ownl g hg).imp_right (fun x => Nat.le_trans hb.size x), h.ap⟩
theorem XBTo.then {w u u2 : World} {B node : Nat} {ac' : List Ac} {ls' : List Lg} {va vl va' vl' : Value} (h : XBTo w u B node ac' ls' va vl va' vl') (hb : Below u.heap.size u u2) : XBTo w u2 B node ac' ls' va vl va' vl' :=
  ⟨h.xb.below hb, h.kept.trans (Kept.of_below (S := fun _ => False) hb) (fun i hi => hi.elim), h.owna, h.ownl, h.ap⟩
theorem acInfo : (Try.prog.info? 158).map (fun i => (i.zero, i.size, i.bytes)) = some (some (.agg #[.int .u16 0, .int .u32 0]), 2, 8) := by kernel_rfl
theorem ac_one (e : Ac) : ∀ u ∈ e.cells, u.oneCell' = true := by
  intro u hu
  simp only [Ac.cells, List.mem_cons, List.not_mem_nil, or_false] at hu
  rcases hu with h | h <;> subst h <;> rfl
/-- one account more -/
theorem XB.growA {w w2 : World} {B node g n cap : Nat} {ac : List Ac} {ls : List Lg} {e : Ac} {va vl : Value} (hX : XB w B node ac ls va vl) (hap : Apart B va vl) (hrow : RowOf w2 158 2 Ac.cells (.slice (some ⟨g, 0, none⟩) n cap) (ac ++ [e]))
    (hk : Kept (fun k => va.ownBlock = some k) w w2) (hg : va.ownBlock = some g ∨ w.heap.size ≤ g) : XBTo w (w2.setCell ⟨B, 1, none⟩ (.slice (some ⟨g, 0, none⟩) n cap)) B node (ac ++ [e]) ls va vl (.slice (some ⟨g, 0, none⟩) n cap) vl := by
  have hB : w2.heap[B]? = some (.cells #[.int .u8 (node : Int), va, vl] 123 (0, 0)) := by rw [hk.block B hX.lt hap.a]; exact hX.blk
  have one : ∀ g', (Value.slice (some ⟨g, 0, none⟩) n cap).ownBlock = some g' → g' = g := fun g' h' => by simpa [Value.ownBlock] using h'.symm
  have hgB : g ≠ B := by
    rcases hg with h | h
    · intro e; subst e; exact hap.a h
    · have := hX.lt; omega
  have hgl : ∀ g', vl.ownBlock = some g' → g' ≠ g := fun g' h' e => by
    subst e
    rcases hg with h | h
    · exact hap.al _ h h'
    · have := hX.lrow.lt h'; omega
  refine ⟨⟨heap_set_self hB 1 _, hrow.kept (Kept.of_setCell _ _ _) ?_, ?_⟩, ?_, ?_, fun g h => .inl h, ⟨?_, hap.l, ?_⟩⟩
  · intro g' h'; rw [one g' h']; exact hgB
  · refine (hX.lrow.kept hk (fun g' h' e => hap.al g' e h')).kept (Kept.of_setCell _ _ _) (fun g' h' e => hap.l ?_)
    rw [h', e]
  · exact (hk.mono (fun i _ h => .inr (.inl h))).trans (Kept.of_setCell _ _ _) (fun i h => .inl (.inl h))
  · intro g' h'; rw [one g' h']; exact hg
  · intro h'; exact hgB (one _ h').symm
  · intro g' h' h2; exact hgl g' h2 (one g' h')

/-- what Open logs -/
def openTextOf (a b : Nat) : List UInt8 := 79 :: (be 2 a ++ be 4 b)
attribute [local go_sem] bs_size bs_append conv1 in
set_option maxRecDepth 100000 in
set_option maxHeartbeats 1000000 in
theorem openText_any (a b : Nat) (ha : a < 65536) (hb : b < 4294967296) (w : World) :
    Calls Try.prog 98 #[.int .u16 (a : Int), .int .u32 (b : Int)] w fun e w' => e = .returned (.string (bs (openTextOf a b))) ∧ Below w.heap.size w w' := by
  have l2 := be_length 2 a
  have l4 := be_length 4 b
  have hq : Hid (openTextOf a b = 79 :: (be 2 a ++ be 4 b)) := hide rfl
  have h2 := hide (fun u => two_any a ha u)
  have h4 := hide (fun u => four_any b hb u)
  generalize be 2 a = x2 at *
  generalize be 4 b = x4 at *
  go_enter Try.func98, Try.ntmps98
  go_wp2_with fail
  refine (h2.out _).mono ?_
  rintro e w1 ⟨rfl, hb1⟩
  go_wp2_with fail
  refine (h4.out _).mono ?_
  rintro e w2 ⟨rfl, hb2⟩
  go_wp2
  go_ret
  exact ⟨ret_str hq.out.symm, ((Below.refl _ _).alloc (Nat.le_refl _) _).trans ((hb1.trans (hb2.mono hb1.size)).mono (by simp))⟩
set_option maxRecDepth 100000 in
set_option maxHeartbeats 1000000 in
theorem xOpen_any (a b : Nat) (ha : a < 65536) (hb32 : b < 4294967296) (w : World) (B node : Nat) (ac : List Ac) (ls : List Lg) (va vl : Value) (hX : XB w B node ac ls va vl) (hap : Apart B va vl) (hok : ∀ x, x ∈ ac → x.ok) (hlen : ac.length ≤ 1000000) :
    Calls Try.prog 71 #[.pointer (some ⟨B, 0, none⟩), .int .u16 (a : Int), .int .u32 (b : Int)] w fun e w' =>
      ∃ va', (if hasB a ac then e = .returned (.tuple #[.string ⟨#[]⟩, .int .i64 9]) ∧ XBTo w w' B node ac ls va vl va' vl else if 16 ≤ ac.length then e = .returned (.tuple #[.string ⟨#[]⟩, .int .i64 10]) ∧ XBTo w w' B node ac ls va vl va' vl else e = .returned (.tuple #[.string (bs (openTextOf a b)), .int .i64 0]) ∧ XBTo w w' B node (ac ++ [⟨a, b⟩]) ls va vl va' vl) := by
  have hTx := hide (fun u => openText_any a b ha hb32 u)
  have hH := hide (has_any a ha w B node ac ls va vl hX hok hlen)
  obtain ⟨i0, hi, y0, y1, y2⟩ := info_parts acInfo
  obtain ⟨ad, cap, hv, hev⟩ := hX.arow.form Ac.cells_length
  clear hev
  subst hv
  have hc : ∀ o, _ = _ := fun o => cell_at hX.blk o
  have hf : ∀ o, _ = _ := fun o => frozen_at hX.blk o
  have hBl := hX.lt
  have hrow1 := hX.arow
  generalize hasB a ac = hs at *
  cases hs with
  | true =>
    simp only [if_true]
    go_enter Try.func71, Try.ntmps71
    go_wp2_with fail
    refine hH.out.mono ?_
    rintro e w1 ⟨rfl, rfl⟩
    clear hH
    go_wp2
    go_ret2
    exact ⟨_, rfl, XBTo.same hX hap (Below.refl _ _)⟩
  | false =>
    simp only [Bool.false_eq_true, if_false]
    by_cases h16 : 16 ≤ ac.length
    · have d1 : decide ((ac.length : Int) ≥ 16) = true := by simp; omega
      have d2 : decide ((16 : Int) ≤ (ac.length : Int)) = true := by simp; omega
      simp only [h16, if_true]
      go_enter Try.func71, Try.ntmps71
      go_wp2_with fail
      refine hH.out.mono ?_
      rintro e w1 ⟨rfl, rfl⟩
      clear hH
      go_wp2
      go_ret2
      exact ⟨_, rfl, XBTo.same hX hap (Below.refl _ _)⟩
    · have d1 : decide ((ac.length : Int) ≥ 16) = false := by simp; omega
      have d2 : decide ((16 : Int) ≤ (ac.length : Int)) = false := by simp; omega
      simp only [h16, if_false]
      go_enter Try.func71, Try.ntmps71
      go_wp2_with fail
      refine hH.out.mono ?_
      rintro e w1 ⟨rfl, rfl⟩
      clear hH
      go_wp2_with (first
        | (at_builtin; refine wpList_row Ac.cells_length w1 (by rfl) _ _ 118 (by rfl) 158 i0 _ 8 Try.underlying118 hi y0 y1 y2 rfl (by decide) (.slice ad ac.length cap) ac (by rfl) hrow1 1 ⟨a, b⟩ (by rfl) (ac_one _) (by unfold maxLen; omega) (by omega) ?_ _ (by rfl); intro g cap' w2 hrow2 hk2 hg2 hlt2; have hblk : w2.heap[B]? = some (.cells #[.int .u8 (node : Int), .slice ad ac.length cap, vl] 123 (0, 0)) := (by rw [hk2.block B hBl hap.a]; exact hX.blk); have hc2 := fun o => cell_at hblk o; have hf2 := fun o => frozen_at hblk o; have X : Hid (RowOf w2 158 2 Ac.cells (.slice (some ⟨g, 0, none⟩) (ac.length + 1) cap') (ac ++ [⟨a, b⟩]) ∧ Kept (fun k => (Value.slice ad ac.length cap).ownBlock = some k) w1 w2 ∧ ((Value.slice ad ac.length cap).ownBlock = some g ∨ w1.heap.size ≤ g)) := hide ⟨hrow2, hk2, hg2⟩; clear hrow2 hk2 hg2 hblk))
      refine (hTx.out _).mono ?_
      rintro e w3 ⟨rfl, hb3⟩
      clear hTx
      go_wp2
      go_ret2
      exact ⟨_, rfl, (XB.growA hX hap X.out.1 X.out.2.1 X.out.2.2).then hb3⟩
end Go.Proofs.Ytjkhbjgfoopomaa
/-
  The program's Bank.carryOut.
-/
namespace Go.Proofs.Ytjkhbjgfoopomaa
open Go.RowKit
set_option linter.unusedVariables false
set_option linter.unusedSimpArgs false

theorem XBTo.drew {w u : World} {B node : Nat} {ac' : List Ac} {ls' : List Lg} {va vl va' vl' : Value} (h : XBTo w u B node ac' ls' va vl va' vl') : XBTo w u.drew B node ac' ls' va vl va' vl' := h.then ((Below.refl _ _).drew)
theorem XBTo.drewN {w u : World} {B node : Nat} {ac' : List Ac} {ls' : List Lg} {va vl va' vl' : Value} (h : XBTo w u B node ac' ls' va vl va' vl') (n : Nat) : XBTo w (u.drewN n) B node ac' ls' va vl va' vl' := h.then ⟨rfl, rfl, rfl, Nat.le_refl _, fun _ _ => rfl⟩
def Like (u u' : World) : Prop := u'.heap = u.heap ∧ u'.os = u.os ∧ u'.tape = u.tape ∧ u'.output = u.output
theorem Like.below {u u' : World} (h : Like u u') : Below u.heap.size u u' := ⟨h.2.1, h.2.2.1, h.2.2.2, by rw [h.1]; exact Nat.le_refl _, fun k _ => by rw [h.1]⟩
theorem XBTo.like {w u u' : World} {B node : Nat} {ac' : List Ac} {ls' : List Lg} {va vl va' vl' : Value} (h : XBTo w u B node ac' ls' va vl va' vl') (hl : Like u u') : XBTo w u' B node ac' ls' va vl va' vl' := h.then hl.below
/-- the accounts are written in place -/
theorem XBTo.rowA {w u u' : World} {B node : Nat} {ac1 ac2 : List Ac} {ls : List Lg} {va vl : Value} (h : XBTo w u B node ac1 ls va vl va vl) (hk : Kept (fun k => va.ownBlock = some k) u u') (hrow : RowOf u' 158 2 Ac.cells va ac2) : XBTo w u' B node ac2 ls va vl va vl :=
  ⟨⟨by rw [hk.block B h.xb.lt h.ap.a]; exact h.xb.blk, hrow, h.xb.lrow.kept hk (fun g h' e => h.ap.al g e h')⟩, h.kept.trans hk (fun i hi => .inl (.inr (.inl hi))), h.owna, h.ownl, h.ap⟩
theorem XBTo.setA {w u : World} {B node : Nat} {ac1 : List Ac} {ls : List Lg} {vl : Value} {g n cap : Nat} (h : XBTo w u B node ac1 ls (.slice (some ⟨g, 0, none⟩) n cap) vl (.slice (some ⟨g, 0, none⟩) n cap) vl) (k : Nat) (hk : k < ac1.length) (b : Nat) :
    XBTo w (u.setCell ⟨g, k * 2 + 1, none⟩ (.int .u32 (b : Int))) B node (ac1.set k ⟨ac1[k].n, b⟩) ls (.slice (some ⟨g, 0, none⟩) n cap) vl (.slice (some ⟨g, 0, none⟩) n cap) vl :=
  h.rowA ((Kept.of_setCell u ⟨g, k * 2 + 1, none⟩ _).mono (fun i _ e => by simp at e; subst e; rfl)) (h.xb.arow.set Ac.cells_length rfl k 1 hk (by decide) _ _ rfl)
def move1 (p g a : Nat) (x : Ac) : Ac := ⟨x.n, (if x.n = p then x.b - a else x.b) + (if x.n = g then a else 0)⟩
def movedL (p g a : Nat) (ac : List Ac) : List Ac := ac.map (move1 p g a)
/-- so many are done -/
def movedTo (p g a k : Nat) (ac : List Ac) : List Ac := movedL p g a (ac.take k) ++ ac.drop k
theorem movedTo_length (p g a k : Nat) (ac : List Ac) : (movedTo p g a k ac).length = ac.length := by
  simp [movedTo, movedL]
  omega
theorem movedTo_get (p g a k : Nat) (ac : List Ac) (h : k < ac.length) : (movedTo p g a k ac)[k]'(by rw [movedTo_length]; exact h) = ac[k] := by
  have hl : (movedL p g a (ac.take k)).length = k := by simp [movedL]; omega
  simp only [movedTo]
  rw [List.getElem_append_right (by omega)]
  simp [hl]
theorem movedTo_succ (p g a k : Nat) (ac : List Ac) (h : k < ac.length) : movedTo p g a (k + 1) ac = (movedTo p g a k ac).set k (move1 p g a ac[k]) := by
  have hl : (movedL p g a (ac.take k)).length = k := by simp [movedL]; omega
  have hd : ac.drop k = ac[k] :: ac.drop (k + 1) := List.drop_eq_getElem_cons h
  unfold movedTo
  rw [List.set_append_right _ _ (by omega), hl, Nat.sub_self, hd, List.set_cons_zero, List.take_succ_eq_append_getElem h]
  simp only [movedL, List.map_append, List.map_cons, List.map_nil, List.append_assoc, List.singleton_append]
theorem movedTo_all (p g a : Nat) (ac : List Ac) : movedTo p g a ac.length ac = movedL p g a ac := by simp [movedTo]

set_option maxRecDepth 100000 in
set_option maxHeartbeats 1000000 in
theorem carryOut_any (p g a : Nat) (m : List UInt8) (hp : p < 65536) (hg : g < 65536) (ha : a < 4294967296) (w : World) (B node : Nat) (ac : List Ac) (ls : List Lg) (va vl : Value) (hX : XB w B node ac ls va vl) (hap : Apart B va vl) (hoka : ∀ x, x ∈ ac → x.ok) (hlena : ac.length ≤ 1000000)
    (hout : ∀ x, x ∈ ac → x.n = p → a ≤ x.b) (hin : ∀ x, x ∈ ac → x.n = g → x.b + a < 4294967296) :
    Calls Try.prog 128 #[.pointer (some ⟨B, 0, none⟩), .agg #[.int .u16 (p : Int), .int .u16 (g : Int), .int .u32 (a : Int), .string (bs m)]] w fun e w' => e = .returned (.tuple #[]) ∧ XBTo w w' B node (movedL p g a ac) ls va vl va vl := by
  obtain ⟨ad, cap, hv, hev⟩ := hX.arow.form Ac.cells_length
  subst hv
  clear hev
  have hc : ∀ o, _ = _ := fun o => cell_at hX.blk o
  have hBl := hX.lt
  go_enter Try.func128, Try.ntmps128
  go_wp2
  go_loopw [10] (fun c u => ∃ k : Nat, k ≤ ac.length ∧ c = .int .i64 k ∧ XBTo w u B node (movedTo p g a k ac) ls (.slice ad ac.length cap) vl (.slice ad ac.length cap) vl ∧ u.heap[w.heap.size]? = some (.cells #[.int .u16 (p : Int), .int .u16 (g : Int), .int .u32 (a : Int), .string (bs m)] 166 (0, 0))) (fun c _ => ac.length - (intOf c).toNat)
  case atStart => exact ⟨0, Nat.zero_le _, rfl, XBTo.same hX hap ((Below.refl _ _).alloc (Nat.le_refl _) _), heap_alloc_self _ _⟩
  case round =>
    obtain ⟨k, hk, rfl, hT, hbox⟩ := hrel
    clear hc
    have hc : ∀ o, _ = _ := fun o => cell_at hT.xb.blk o
    have hcb : ∀ o, _ = _ := fun o => cell_at hbox o
    have hBu := hT.xb.lt
    by_cases hlt : k < ac.length
    · obtain ⟨ad', cap', hv', hev'⟩ := hT.xb.arow.form Ac.cells_length
      obtain ⟨gg, hgg, hcell, hfro⟩ := hev' k (by rw [movedTo_length]; exact hlt)
      have ead : ad = ad' := by injection hv'
      subst ead
      subst hgg
      rw [movedTo_get p g a k ac hlt] at hcell
      have hgl : gg < w.heap.size := hX.arow.lt rfl
      have hgB : gg ≠ B := fun e => hap.a (by rw [e]; rfl)
      have hs : Hid (movedTo p g a (k + 1) ac = (movedTo p g a k ac).set k (move1 p g a ac[k])) := hide (movedTo_succ p g a k ac hlt)
      have c0 := hcell 0 (by decide)
      have c1 := hcell 1 (by decide)
      have hek := hoka ac[k] (List.getElem_mem hlt)
      have ho := hout ac[k] (List.getElem_mem hlt)
      have hi := hin ac[k] (List.getElem_mem hlt)
      have hne1 : gg ≠ w.heap.size := by omega
      have hne2 : w.heap.size ≠ gg := by omega
      have hgB' : B ≠ gg := fun e => hgB e.symm
      have hS1 := hide (fun b => hT.setA k (by rw [movedTo_length]; exact hlt) b)
      have hS2 := hide (fun b b2 => (hT.setA k (by rw [movedTo_length]; exact hlt) b).setA k (by rw [List.length_set, movedTo_length]; exact hlt) b2)
      have hgk := movedTo_get p g a k ac hlt
      simp only [List.getElem_set_self, List.set_set, hgk] at hS1 hS2
      clear hgk
      have hself : Hid ((movedTo p g a k ac).set k ⟨ac[k].n, ac[k].b⟩ = movedTo p g a k ac) := hide (by have := movedTo_get p g a k ac hlt; rw [show (⟨ac[k].n, ac[k].b⟩ : Ac) = ac[k] from rfl, ← this, List.set_getElem_self])
      clear hcell hev' hv'
      generalize ac[k] = E at *
      obtain ⟨en, eb⟩ := E
      obtain ⟨h1, h2⟩ := hek
      simp only [Ac.cells, List.getElem?_cons_zero, List.getElem?_cons_succ, Nat.add_zero] at c0 c1 h1 h2 ho hi
      by_cases hpp : en = p
      · have d1 : ((en : Int) == (p : Int)) = true := by simp; omega
        have h3 := ho hpp
        by_cases hgq : en = g
        · have d2 : ((en : Int) == (g : Int)) = true := by simp; omega
          have hq : Hid (movedTo p g a (k + 1) ac = (movedTo p g a k ac).set k ⟨en, eb⟩) := hide (by rw [hs.out]; simp only [move1]; rw [if_pos hpp, if_pos hgq]; rw [show eb - a + a = eb by omega])
          have W1 : IntKind.u32.wrap ((eb : Int) - (a : Int)) = ((eb - a : Nat) : Int) := by rw [IntKind.wrap_u32]; omega
          have W2 : IntKind.u32.wrap (((eb - a : Nat) : Int) + (a : Int)) = (eb : Int) := by rw [IntKind.wrap_u32]; omega
          clear hs hpp hgq ho hi
          go_wp2
          go_quiet (fail)
          go_wp2
          go_region
          go_wp2
          go_quiet (fail)
          go_wp2
          go_region
          go_wp2
          exact ⟨⟨k + 1, hlt, by go_num, by rw [hq.out]; exact (hS2.out (eb - a) eb).like ⟨rfl, rfl, rfl, rfl⟩, by simp [World.setCell, World.drewN, Array.getElem?_modify, hne1, hbox]⟩, by simp [intOf]; omega⟩
        · have d2 : ((en : Int) == (g : Int)) = false := by simp; omega
          have hq : Hid (movedTo p g a (k + 1) ac = (movedTo p g a k ac).set k ⟨en, eb - a⟩) := hide (by rw [hs.out]; simp only [move1]; rw [if_pos hpp, if_neg hgq]; rw [Nat.add_zero])
          have W1 : IntKind.u32.wrap ((eb : Int) - (a : Int)) = ((eb - a : Nat) : Int) := by rw [IntKind.wrap_u32]; omega
          clear hs hpp hgq ho hi
          go_wp2
          go_quiet (fail)
          go_wp2
          go_region
          go_wp2
          go_quiet (fail)
          go_wp2
          exact ⟨⟨k + 1, hlt, by go_num, by rw [hq.out]; exact (hS1.out (eb - a)).like ⟨rfl, rfl, rfl, rfl⟩, by simp [World.setCell, World.drewN, Array.getElem?_modify, hne1, hbox]⟩, by simp [intOf]; omega⟩
      · have d1 : ((en : Int) == (p : Int)) = false := by simp; omega
        by_cases hgq : en = g
        · have d2 : ((en : Int) == (g : Int)) = true := by simp; omega
          have hq : Hid (movedTo p g a (k + 1) ac = (movedTo p g a k ac).set k ⟨en, eb + a⟩) := hide (by rw [hs.out]; simp only [move1]; rw [if_neg hpp, if_pos hgq])
          have W2 : IntKind.u32.wrap ((eb : Int) + (a : Int)) = ((eb + a : Nat) : Int) := by have := hi hgq; rw [IntKind.wrap_u32]; omega
          clear hs hpp hgq ho hi
          go_wp2
          go_quiet (fail)
          go_wp2
          go_quiet (fail)
          go_wp2
          go_region
          go_wp2
          exact ⟨⟨k + 1, hlt, by go_num, by rw [hq.out]; exact (by have h := hS1.out (eb + a); rw [Int.natCast_add] at h; exact h.like ⟨rfl, rfl, rfl, rfl⟩), by simp [World.setCell, World.drewN, Array.getElem?_modify, hne1, hbox]⟩, by simp [intOf]; omega⟩
        · have d2 : ((en : Int) == (g : Int)) = false := by simp; omega
          have hq : Hid (movedTo p g a (k + 1) ac = (movedTo p g a k ac).set k ⟨en, eb⟩) := hide (by rw [hs.out]; simp only [move1]; rw [if_neg hpp, if_neg hgq]; rw [Nat.add_zero])
          clear hs hpp hgq ho hi
          go_wp2
          go_quiet (fail)
          go_wp2
          go_quiet (fail)
          go_wp2
          exact ⟨⟨k + 1, hlt, by go_num, by rw [hq.out]; exact (by have e : (movedTo p g a k ac).set k ⟨en, eb⟩ = movedTo p g a k ac := hself.out; rw [e]; exact hT.like ⟨rfl, rfl, rfl, rfl⟩), by simp [World.setCell, World.drewN, Array.getElem?_modify, hne1, hbox]⟩, by simp [intOf]; omega⟩
    · obtain rfl : k = ac.length := by omega
      rw [movedTo_all] at hT
      go_wp2
      exact bodyPost_end (results_none rfl _ _ _) rfl ⟨rfl, hT⟩
end Go.Proofs.Ytjkhbjgfoopomaa
