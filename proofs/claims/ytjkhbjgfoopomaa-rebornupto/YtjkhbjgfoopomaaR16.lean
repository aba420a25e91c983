import Derived.Test.YtjkhbjgfoopomaaR15
import Derived.Test.YtjkhbjgfoopomaaR4
/-
  The program's notary: goOn.
-/
namespace Go.Proofs.Ytjkhbjgfoopomaa
open Go.RowKit
set_option linter.unusedVariables false
set_option linter.unusedSimpArgs false
/-- what is late is rejected -/
def lateX (ck : Nat) (x : Xp) : Xp := if x.st = 1 ∧ x.pm.dl ≤ ck then { x with st := 3 } else x
theorem lateX_pm (ck : Nat) (x : Xp) : (lateX ck x).pm = x.pm := by unfold lateX; split <;> rfl
def lateTo (ck : Nat) (ps : List Xp) (k : Nat) : List Xp := (ps.take k).map (lateX ck) ++ ps.drop k
theorem lateTo_length (ck : Nat) (ps : List Xp) (k : Nat) : (lateTo ck ps k).length = ps.length := by simp [lateTo]; omega
theorem lateTo_zero (ck : Nat) (ps : List Xp) : lateTo ck ps 0 = ps := by simp [lateTo]
theorem lateTo_all (ck : Nat) (ps : List Xp) : lateTo ck ps ps.length = ps.map (lateX ck) := by simp [lateTo]
theorem lateTo_at (ck : Nat) (ps : List Xp) (k : Nat) (hk : k < ps.length) : (lateTo ck ps k)[k]'(by rw [lateTo_length]; exact hk) = ps[k] := by
  have h : ((ps.take k).map (lateX ck)).length = k := by simp; omega
  simp only [lateTo]
  rw [List.getElem_append_right (by omega)]
  simp only [h, Nat.sub_self, List.getElem_drop, Nat.add_zero]
theorem lateTo_step (ck : Nat) (ps : List Xp) (k : Nat) (hk : k < ps.length) : lateTo ck ps (k + 1) = (lateTo ck ps k).set k (lateX ck ps[k]) := by
  have h : ((ps.take k).map (lateX ck)).length = k := by simp; omega
  have h2 : ps.drop k = ps[k] :: ps.drop (k + 1) := List.drop_eq_getElem_cons hk
  simp only [lateTo]
  rw [List.set_append_right _ _ (by omega), h, Nat.sub_self, h2, List.set_cons_zero, List.take_succ_eq_append_getElem hk, List.map_append, List.append_assoc]
  rfl
set_option maxRecDepth 100000 in
set_option maxHeartbeats 1000000 in
theorem goOn_end (w : World) (B ck : Nat) (ps : List Xp) (v : Value) (hX : XD w B ck ps v) (hck : 1000000 ≤ ck) (hck2 : ck < 18446744073709551616) :
    Calls Try.prog 86 #[.pointer (some ⟨B, 0, none⟩)] w fun e w' => e = .returned (.int .i64 15) ∧ w' = w := by
  have hc : ∀ o, w.cell? ⟨B, o, none⟩ = (#[.int .u64 (ck : Int), v] : Array Value)[o]? := fun o => cell_at hX.blk o
  have d1 : decide ((ck : Int) ≥ 1000000) = true := by simp; omega
  have d2 : decide ((1000000 : Int) ≤ (ck : Int)) = true := by simp; omega
  go_enter Try.func86, Try.ntmps86
  go_wp2
  go_ret
  exact ⟨rfl, rfl⟩
set_option maxRecDepth 100000 in
set_option maxHeartbeats 2000000 in
theorem goOn_any (w : World) (B ck : Nat) (ps : List Xp) (v : Value) (hX : XD w B ck ps v) (hap : XDap B ps v) (hok : ∀ y, y ∈ ps → y.ok) (hlen : ps.length ≤ 1000) (hck : ck < 1000000) :
    Calls Try.prog 86 #[.pointer (some ⟨B, 0, none⟩)] w fun e w' => e = .returned (.int .i64 0) ∧ XDTo w w' B (ck + 1) ps (ps.map (lateX (ck + 1))) v v := by
  have hc : ∀ o, w.cell? ⟨B, o, none⟩ = (#[.int .u64 (ck : Int), v] : Array Value)[o]? := fun o => cell_at hX.blk o
  have hf : ∀ o, w.frozen? ⟨B, o, none⟩ = false := fun o => frozen_at hX.blk o
  have hBl := hX.lt
  have d1 : decide ((ck : Int) ≥ 1000000) = false := by simp; omega
  have d2 : decide ((1000000 : Int) ≤ (ck : Int)) = false := by simp; omega
  have hT0 : XDTo w (w.setCell ⟨B, 0, none⟩ (.int .u64 ((ck : Int) + 1))) B (ck + 1) ps ps v v := by
    have hk := Kept.of_setCell w ⟨B, 0, none⟩ (.int .u64 ((ck : Int) + 1))
    refine ⟨⟨?_, hX.row.kept hk (fun g hg e => hap.a (by rw [hg]; exact congrArg some e)), fun x hx => (hX.legs x hx).kept hk (fun g hg => (hap.l x hx g hg).1)⟩, hk.mono (fun i _ h => .inl h), fun k h => .inl h, fun x hx k h => .inl ⟨x, hx, h⟩, hap⟩
    exact ty_of (heap_set_self hX.blk 0 _)
  obtain ⟨ad, cap, hv, _⟩ := hX.row.form Xp.cells_length
  subst hv
  go_enter Try.func86, Try.ntmps86
  go_wp2_with fail
  go_loopw [21] (fun c u => ∃ n : Nat, n ≤ ps.length ∧ c = .int .i64 n ∧ XDTo w u B (ck + 1) ps (lateTo (ck + 1) ps n) (.slice ad ps.length cap) (.slice ad ps.length cap)) (fun c _ => ps.length - (intOf c).toNat)
  case atStart => exact ⟨0, Nat.zero_le _, rfl, by rw [lateTo_zero]; exact hT0⟩
  case round =>
    obtain ⟨n, hn, rfl, hT⟩ := hrel
    clear hc hf hT0
    have hc : ∀ o, wr.cell? ⟨B, o, none⟩ = (#[.int .u64 (((ck + 1 : Nat) : Int)), .slice ad ps.length cap] : Array Value)[o]? := fun o => cell_at hT.xd.blk o
    rw [show ((ck + 1 : Nat) : Int) = (ck : Int) + 1 by omega] at hc
    have hBu := hT.xd.lt
    by_cases hlt : n < ps.length
    · have hnl : (n : Int) < (ps.length : Int) := by omega
      have dl : decide ((n : Int) < (ps.length : Int)) = true := by simp; omega
      have hl2 : n < (lateTo (ck + 1) ps n).length := by rw [lateTo_length]; exact hlt
      obtain ⟨ad', cap', hv', hev'⟩ := hT.xd.row.form Xp.cells_length
      obtain ⟨g, hg, hcell, hfro⟩ := hev' n hl2
      have ead : ad = ad' := by injection hv'
      subst ead
      subst hg
      rw [lateTo_at _ _ _ hlt] at hcell
      have c1 := hcell 1 (by decide)
      have c4 := hcell 4 (by decide)
      have hgl : g < wr.heap.size := hT.xd.row.lt rfl
      have hgB : g ≠ B := fun e => hT.ap.a (by rw [e]; rfl)
      have hek := hok ps[n] (List.getElem_mem hlt)
      have hset := hide (fun (u : World) (hu : RowOf u 139 7 Xp.cells (.slice (some ⟨g, 0, none⟩) ps.length cap) (lateTo (ck + 1) ps n)) => hu.set Xp.cells_length (g := g) rfl n 4 hl2 (by decide) (.int .u8 3) { ps[n] with st := 3 } (by rw [lateTo_at _ _ _ hlt]; rfl))
      have hs1 : Hid ((ps[n].st = 1 ∧ ps[n].pm.dl ≤ ck + 1) → lateTo (ck + 1) ps (n + 1) = (lateTo (ck + 1) ps n).set n { ps[n] with st := 3 }) := hide (fun h => by rw [lateTo_step _ _ _ hlt]; unfold lateX; rw [if_pos h])
      have hs2 : Hid (¬ (ps[n].st = 1 ∧ ps[n].pm.dl ≤ ck + 1) → lateTo (ck + 1) ps (n + 1) = lateTo (ck + 1) ps n) := hide (fun h => by
        rw [lateTo_step _ _ _ hlt]
        have : lateX (ck + 1) ps[n] = (lateTo (ck + 1) ps n)[n] := by unfold lateX; rw [if_neg h, lateTo_at _ _ _ hlt]
        rw [this, List.set_getElem_self])
      have hmem : Hid (∃ z, z ∈ lateTo (ck + 1) ps n ∧ z.pm = ({ ps[n] with st := 3 } : Xp).pm) := hide ⟨_, List.getElem_mem hl2, by rw [lateTo_at _ _ _ hlt]⟩
      clear hcell hev' hv'
      generalize ps[n] = E at *
      obtain ⟨⟨ei, ed, em, el, ea, ec⟩, es, eh, en⟩ := E
      obtain ⟨⟨q1, q2, _⟩, q3, _⟩ := hek
      simp only [Xp.cells, List.getElem?_cons_zero, List.getElem?_cons_succ, Nat.add_zero] at c1 c4 q2 q3 hs1 hs2 hmem
      have f4 : wr.frozen? ⟨g, n * 7 + 4, none⟩ = false := hfro _
      by_cases h1 : es = 1
      · subst h1
        by_cases h2 : ed ≤ ck + 1
        · have d9 : decide ((ed : Int) ≤ (ck : Int) + 1) = true := by simp; omega
          have d9n : decide (ed ≤ ck + 1) = true := by simp; omega
          have hq := hide (hs1.out ⟨rfl, h2⟩)
          have hT9 : Hid (∀ m, XDTo w ((wr.drewN m).setCell ⟨g, n * 7 + 4, none⟩ (.int .u8 3)) B (ck + 1) ps (lateTo (ck + 1) ps (n + 1)) (.slice (some ⟨g, 0, none⟩) ps.length cap) (.slice (some ⟨g, 0, none⟩) ps.length cap)) := hide (fun m => by
            have hTm := hT.then ((Below.refl _ _).drewN m)
            rw [hq.out]
            exact hTm.rowP ((Kept.of_setCell _ ⟨g, n * 7 + 4, none⟩ _).mono (fun i _ e => by
              have e' : i = g := e
              subst e'; rfl)) (hset.out _ hTm.xd.row) (set_from hmem.out))
          clear hs1 hs2 h2 hset hmem hq
          go_wp2_with fail
          go_quiet (fail)
          go_wp2
          exact ⟨⟨n + 1, hlt, by go_num, hT9.out nq⟩, by simp [intOf]; omega⟩
        · have d9 : decide ((ed : Int) ≤ (ck : Int) + 1) = false := by simp; omega
          have d9n : decide (ed ≤ ck + 1) = false := by simp; omega
          have hq := hide (hs2.out (fun h => h2 h.2))
          clear hs1 hs2 h2 hset hmem
          go_wp2_with fail
          go_quiet (fail)
          go_wp2
          exact ⟨⟨n + 1, hlt, by go_num, by rw [hq.out]; exact hT.then ((Below.refl _ _).drewN _)⟩, by simp [intOf]; omega⟩
      · have d8 : ((es : Int) == 1) = false := by simp; omega
        have hq := hide (hs2.out (fun h => h1 h.1))
        clear hs1 hs2 h1 hset hmem
        go_wp2_with fail
        go_quiet (fail)
        go_wp2
        exact ⟨⟨n + 1, hlt, by go_num, by rw [hq.out]; exact hT.then ((Below.refl _ _).drewN _)⟩, by simp [intOf]; omega⟩
    · obtain rfl : n = ps.length := by omega
      have dl : decide ((ps.length : Int) < (ps.length : Int)) = false := by simp
      rw [lateTo_all] at hT
      replace hT := hide hT
      go_wp2
      go_ret
      exact ⟨rfl, hT.out⟩
end Go.Proofs.Ytjkhbjgfoopomaa
/-
  append of a list's texts to a row of texts: 'out = append(out, l...)'.
-/
namespace Go.Proofs.Ytjkhbjgfoopomaa
open Go.RowKit
set_option linter.unusedVariables false
set_option linter.unusedSimpArgs false
theorem run_append_void {P : Program} (w : World) (t ty e : TypeId) (i : TypeInfo) (ht : P.underlying t = some (.slice e)) (hi : P.info? e = some i) (ad : Option Addr) (n cap : Nat) (h : n ≤ cap) :
    (Builtin.append_ #[t, t] ty #[.slice ad n cap, .slice none 0 0]).run P w = .ok (.slice ad n cap) w := by
  cases ad with
  | none => simp [Builtin.append_, run_underlying ht, sizeOf, typeInfo, hi, Builtin.lenOf, Builtin.firstCells, h]
  | some a => simp [Builtin.append_, run_underlying ht, sizeOf, typeInfo, hi, Builtin.lenOf, Builtin.firstCells, h, storeCells]
theorem RowOf.cap {α : Type} {f : α → List Value} {sz : Nat} {w : World} {e : TypeId} {ad : Option Addr} {n cap : Nat} {xs : List α} (h : RowOf w e sz f (.slice ad n cap) xs) : n ≤ cap := by
  rcases h.2 with ⟨h1, h2⟩ | ⟨g, cap', cur, h1, _, _, h4, _⟩
  · injection h1 with a b c
    omega
  · injection h1 with a b c
    omega
/-- a list's texts laid behind a row -/
theorem wpList_spread {P : Program} {ops : Array Oper} {rest : List Oper} {o : Oper} {a : Act} {Q : Exit → Act → World → Prop} {α : Type} {f : α → List Value} {sz : Nat} (hf : ∀ x, (f x).length = sz) (w : World) (hgd : o.guard = none) (s x : Operand) (t : TypeId)
    (ho : o.op = .call { callee := .builtin .append, args := #[s, x], argTypes := #[t, t] }) (e : TypeId) (i : TypeInfo) (z : Value) (bytes : Nat) (ht : P.underlying t = some (.slice e)) (hi : P.info? e = some i) (hz : i.zero = some z)
    (hsize : i.size = sz) (hby : i.bytes = bytes) (hzs : z.cells.size = sz) (hsz : 0 < sz) (v lv : Value) (xs ys : List α) (hs : a.eval s = v) (hx : a.eval x = lv) (hrow : RowOf w e sz f v xs) (hlv : RowOf w e sz f lv ys)
    (h1 : ∀ y, y ∈ ys → ∀ u ∈ f y, u.oneCell' = true) (h63 : xs.length + ys.length ≤ maxLen) (hbytes : (xs.length + ys.length) * bytes ≤ 140737488355328)
    (h : ∀ v' w', RowOf w' e sz f v' (xs ++ ys) → Kept (fun k => v.ownBlock = some k) w w' → (∀ g, v'.ownBlock = some g → v.ownBlock = some g ∨ w.heap.size ≤ g) → wpList P ops Q rest (a.put o.dst v') w') :
    wpList P ops Q (o :: rest) a w := by
  have key : ∃ v' w', (Builtin.append_ #[t, t] o.type #[v, lv]).run P w = .ok v' w' ∧ RowOf w' e sz f v' (xs ++ ys) ∧ Kept (fun k => v.ownBlock = some k) w w' ∧ ∀ g, v'.ownBlock = some g → v.ownBlock = some g ∨ w.heap.size ≤ g := by
    rcases hlv.2 with ⟨h2, h3⟩ | ⟨g, cap, cur, h2, _, h4, _⟩
    · have hy : ys = [] := List.length_eq_zero_iff.1 h3
      subst hy
      subst h2
      obtain ⟨ad, cap, hv⟩ := hrow.slice
      subst hv
      refine ⟨_, w, run_append_void w t o.type e i ht hi ad xs.length cap hrow.cap, by rw [List.append_nil]; exact hrow, Kept.refl _ _, fun g h => .inl h⟩
    · have hc : ∀ j u, (ys.flatMap f)[j]? = some u → w.cell? ((⟨g, 0, none⟩ : Addr).add j) = some u := hlv.cells (g := g) (by rw [h2]; rfl)
      obtain ⟨v', w', hr, h5, h6, _, h8⟩ := run_append_own_at (P := P) w 0 t o.type e i z sz bytes ht hi hz hsize hby hzs hsz v xs.length (xs.flatMap f) hrow ⟨g, 0, none⟩ ys.length cap (ys.flatMap f) (flat_length hf ys) hc (fun u hu => by
        obtain ⟨y, hy, hu'⟩ := List.mem_flatMap.1 hu
        exact h1 y hy u hu') h63 hbytes (Nat.zero_le _)
      rw [h2]
      refine ⟨v', w', hr, RowOf.to (xs := xs) hf h5 (by simp) (by simp), Kept.of_grown h6, fun g' hg' => ?_⟩
      rcases h8 with h8 | h8
      · exact .inl (by rw [← h8]; exact hg')
      · right
        rw [h8] at hg'
        injection hg' with hg'
        omega
  obtain ⟨v', w', hr, h2, h3, h4⟩ := key
  refine wpList_plain hgd fun K hK => ?_
  unfold Oper.wp execOp
  simp only [ho, resolve, invoke, builtin, Sem.run_bind, Sem.run_pure, Result.andThen_ok, List.map_toArray, List.map_cons, List.map_nil, hs, hx, hr]
  exact hK _ _ (h v' w' h2 h3 h4)
end Go.Proofs.Ytjkhbjgfoopomaa
/-
  The program's notary: Tick, Status, Clock.
-/
namespace Go.Proofs.Ytjkhbjgfoopomaa
open Go.RowKit
set_option linter.unusedVariables false
set_option linter.unusedSimpArgs false
/-- the program's notary has gone on, and hands a fresh list out -/
structure XDHanded (w w' : World) (B ck' : Nat) (ps ps' : List Xp) (v v' lv : Value) (outs : List (List UInt8)) : Prop where
  to : XDTo w w' B ck' ps ps' v v'
  row : RowOf w' 9 1 txtCell lv outs
  fresh : ∀ g, lv.ownBlock = some g → w.heap.size ≤ g ∧ ¬ xdfoot B ps' v' g
theorem XDHanded.from {w u u2 : World} {B ck : Nat} {ps ps' : List Xp} {v v' lv : Value} {outs : List (List UInt8)} (h : XDTo w u B ck ps ps' v v') (hb : Below u.heap.size u u2) (hr : RowOf u2 9 1 txtCell lv outs) (hf : ∀ g, lv.ownBlock = some g → u.heap.size ≤ g) : XDHanded w u2 B ck ps ps' v v' lv outs :=
  ⟨h.then hb, hr, fun g hg => ⟨Nat.le_trans h.kept.size (hf g hg), fun hk => by have := h.xd.foot_lt hk; have := hf g hg; omega⟩⟩
theorem XDHanded.nil {w u : World} {B ck : Nat} {ps ps' : List Xp} {v v' : Value} (h : XDTo w u B ck ps ps' v v') : XDHanded w u B ck ps ps' v v' (.slice none 0 0) [] :=
  ⟨h, RowOf.nil _ _, fun g hg => by simp [Value.ownBlock] at hg⟩
theorem XDHanded.then {w u u2 : World} {B ck : Nat} {ps ps' : List Xp} {v v' lv : Value} {outs : List (List UInt8)} (h : XDHanded w u B ck ps ps' v v' lv outs) (hb : Below u.heap.size u u2) : XDHanded w u2 B ck ps ps' v v' lv outs :=
  ⟨h.to.then hb, h.row.below hb, h.fresh⟩
theorem lateX_fine (ck : Nat) {x : Xp} (h : x.fine) : (lateX ck x).fine := by
  unfold lateX
  split
  · exact ⟨⟨h.ok.1, by show (3 : Nat) < 256; omega, h.ok.2.2⟩, ⟨by show (1 : Nat) ≤ 3; omega, by show (3 : Nat) ≤ 3; omega⟩, h.memo, h.few, h.held, h.done⟩
  · exact h
theorem remX_le (x : Xp) (h : x.fine) : (remX x).length ≤ 4 := Nat.le_trans (sayTo_le _ _ _ _) h.few
def saysX (ps : List Xp) : List (List UInt8) := ps.flatMap remX
theorem saysX_le : ∀ ps : List Xp, (∀ p, p ∈ ps → p.fine) → (saysX ps).length ≤ 4 * ps.length
  | [], _ => by simp [saysX]
  | p :: r, h => by
    have h1 := saysX_le r (fun q hq => h q (by simp [hq]))
    have h2 := remX_le p (h p (by simp))
    simp only [saysX, List.flatMap_cons, List.length_append, List.length_cons] at *
    omega
set_option maxRecDepth 100000 in
set_option maxHeartbeats 1000000 in
theorem xTickD_end (w : World) (B ck : Nat) (ps : List Xp) (v : Value) (hX : XD w B ck ps v) (hck : 1000000 ≤ ck) (hck2 : ck < 18446744073709551616) :
    Calls Try.prog 56 #[.pointer (some ⟨B, 0, none⟩)] w fun e w' => e = .returned (.tuple #[.slice none 0 0, .string ⟨#[]⟩, .int .i64 15]) ∧ w' = w := by
  have hG := hide (goOn_end w B ck ps v hX hck hck2)
  go_enter Try.func56, Try.ntmps56
  go_wp2_with fail
  refine (hG.out).mono ?_
  rintro e w1 ⟨rfl, rfl⟩
  clear hG
  go_wp2
  go_ret3
  exact ⟨rfl, rfl⟩
set_option maxRecDepth 100000 in
set_option maxHeartbeats 2000000 in
theorem xTickD_any (w : World) (B ck : Nat) (ps : List Xp) (v : Value) (hX : XD w B ck ps v) (hap : XDap B ps v) (hfine : ∀ y, y ∈ ps → y.fine) (hlen : ps.length ≤ 1000) (hck : ck < 1000000) :
    Calls Try.prog 56 #[.pointer (some ⟨B, 0, none⟩)] w fun e w' => ∃ lv, e = .returned (.tuple #[lv, .string (bs [84]), .int .i64 0]) ∧ XDHanded w w' B (ck + 1) ps (ps.map (lateX (ck + 1))) v v lv (saysX (ps.map (lateX (ck + 1)))) := by
  have hG := hide (goOn_any w B ck ps v hX hap (fun y hy => (hfine y hy).ok) hlen hck)
  obtain ⟨i0, hi0, y0, y1, y2⟩ := info_parts txtInfo
  have hf2 : ∀ y, y ∈ ps.map (lateX (ck + 1)) → y.fine := fun y hy => by
    obtain ⟨x, hx, rfl⟩ := List.mem_map.1 hy
    exact lateX_fine _ (hfine x hx)
  have hl2 : (ps.map (lateX (ck + 1))).length ≤ 1000 := by simpa using hlen
  generalize hPS : ps.map (lateX (ck + 1)) = qs at *
  clear hPS
  have hsay : ∀ n, (saysX (qs.take n)).length ≤ 4000 := fun n => by
    have h1 := saysX_le (qs.take n) (fun p hp => hf2 p (List.mem_of_mem_take hp))
    have h2 : (qs.take n).length ≤ qs.length := List.length_take_le' _ _
    omega
  go_enter Try.func56, Try.ntmps56
  go_wp2_with fail
  refine (hG.out).mono ?_
  rintro e w1 ⟨rfl, hT⟩
  obtain ⟨ad, cap, hv, _⟩ := hT.xd.row.form Xp.cells_length
  have hX1 := hT.xd
  have hc : ∀ o, w1.cell? ⟨B, o, none⟩ = (#[.int .u64 (((ck + 1 : Nat)) : Int), v] : Array Value)[o]? := fun o => cell_at hX1.blk o
  rw [hv] at hc
  have hBl := hX1.lt
  replace hT := hide hT
  replace hv := hide hv
  clear hG hX
  go_wp2_with fail
  go_loopw [6, 21] (fun fr c u => ∃ n : Nat, n ≤ qs.length ∧ c = .int .i64 n ∧ RowOf u 9 1 txtCell fr (saysX (qs.take n)) ∧ (∀ g, fr.ownBlock = some g → w1.heap.size ≤ g) ∧ Below w1.heap.size w1 u) (fun _ c _ => qs.length - (intOf c).toNat)
  case atStart =>
    refine ⟨0, Nat.zero_le _, rfl, RowOf.void _ _, fun g hg => ?_, (Below.refl _ _).alloc (Nat.le_refl _) _⟩
    have : w1.heap.size = g := by simpa [Value.ownBlock] using hg
    omega
  case round =>
    obtain ⟨n, hn, rfl, hrow, hxown, hb⟩ := hrel
    have hsl := hsay n
    obtain ⟨adx, capx, rfl⟩ := hrow.slice
    have hXu := hX1.below hb
    clear hc
    have hc : ∀ o, wr.cell? ⟨B, o, none⟩ = (#[.int .u64 (((ck + 1 : Nat)) : Int), v] : Array Value)[o]? := fun o => cell_at hXu.blk o
    rw [hv.out] at hc
    have hBu := hXu.lt
    by_cases hlt : n < qs.length
    · have hnl : (n : Int) < (qs.length : Int) := by omega
      have dl : decide ((n : Int) < (qs.length : Int)) = true := by simp; omega
      obtain ⟨ad', cap', hv', hev'⟩ := hXu.row.form Xp.cells_length
      obtain ⟨g, hg, hcell, _⟩ := hev' n hlt
      have ead : ad = ad' := by rw [hv.out] at hv'; injection hv'
      subst ead
      subst hg
      have hgl : g < wr.heap.size := hXu.row.lt (by rw [hv.out]; rfl)
      have hfx := hf2 qs[n] (List.getElem_mem hlt)
      have hlg := hXu.legs qs[n] (List.getElem_mem hlt)
      have hsn : Hid (saysX (qs.take (n + 1)) = saysX (qs.take n) ++ remX qs[n]) := hide (by
        unfold saysX
        rw [List.take_succ_eq_append_getElem hlt, List.flatMap_append]
        simp)
      have hle4 := hsay (n + 1)
      rw [hsn.out, List.length_append] at hle4
      have hRm := hide (fun (u : World) (hu : PBox u wr.heap.size qs[n]) => remind_any qs[n] hfx u wr.heap.size hu)
      have hPB : Hid (PBox (wr.alloc (.cells qs[n].cells.toArray 139)) wr.heap.size qs[n]) := hide ⟨heap_alloc_self _ _, hlg.below ((Below.refl _ _).alloc (Nat.le_refl _) _)⟩
      have c0 := hcell 0 (by decide)
      have c1 := hcell 1 (by decide)
      have c2 := hcell 2 (by decide)
      have c3 := hcell 3 (by decide)
      have c4 := hcell 4 (by decide)
      have c5 := hcell 5 (by decide)
      have c6 := hcell 6 (by decide)
      clear hcell hev' hv' hlg hfx
      generalize remX qs[n] = RM at *
      generalize qs[n] = E at *
      obtain ⟨⟨ei, ed, em, el, ea, ec⟩, es, eh, en⟩ := E
      simp only [Xp.cells, List.getElem?_cons_zero, List.getElem?_cons_succ, Nat.add_zero] at c0 c1 c2 c3 c4 c5 c6 hPB
      generalize saysX (qs.take n) = L at *
      go_wp2_with fail
      refine (hRm.out _ hPB.out).mono ?_
      rintro e w2 ⟨⟨lv, rfl, hlr, hlo⟩, hbt⟩
      have hb2 : Below wr.heap.size wr w2 := ((Below.refl _ _).alloc (Nat.le_refl _) _).trans (hbt.mono (by simp))
      have hrow2 := hrow.below hb2
      have hb3 := hide (hb.trans (hb2.mono hb.size))
      obtain ⟨lad, lcap, hlv⟩ := hlr.slice
      subst hlv
      replace hxown := hide hxown
      clear hRm hc c0 c1 c2 c3 c4 c5 c6 hPB hrow hXu
      go_wp2_with (first
        | (at_builtin; refine wpList_spread txtCell_length w2 (by rfl) _ _ 58 (by rfl) 9 i0 _ 16 Try.underlying58 hi0 y0 y1 y2 rfl (by decide) (.slice adx L.length capx) (.slice lad RM.length lcap) L RM (by rfl) (by rfl) hrow2 hlr (fun y _ => txt_one y) (by unfold maxLen; omega) (by omega) ?_; intro v9 w9 hr9 hk9 ho9; have X : Hid (RowOf w9 9 1 txtCell v9 (L ++ RM) ∧ Kept (fun k => (Value.slice adx L.length capx).ownBlock = some k) w2 w9 ∧ ∀ g, v9.ownBlock = some g → (Value.slice adx L.length capx).ownBlock = some g ∨ w2.heap.size ≤ g) := hide ⟨hr9, hk9, ho9⟩; clear hr9 hk9 ho9))
      have hb9 := hb3.out.trans (X.out.2.1.below hb3.out.size (fun k hk => hxown.out k hk))
      refine ⟨⟨n + 1, hlt, by go_num, by rw [hsn.out]; exact X.out.1, fun g hg => ?_, hb9⟩, by simp [intOf]; omega⟩
      rcases X.out.2.2 g hg with h | h
      · exact hxown.out g h
      · exact Nat.le_trans hb3.out.size h
    · obtain rfl : n = qs.length := by omega
      have dl : decide ((qs.length : Int) < (qs.length : Int)) = false := by simp
      simp only [List.take_length] at hrow hxown
      rw [List.take_length]
      replace hrow := hide hrow
      replace hxown := hide hxown
      replace hb := hide hb
      clear hc
      go_wp2
      go_ret3
      exact ⟨_, rfl, XDHanded.from hT.out hb.out hrow.out hxown.out⟩
end Go.Proofs.Ytjkhbjgfoopomaa
