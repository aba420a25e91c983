import Derived.Test.YtjkhbjgfoopomaaG36
import Derived.Test.YtjkhbjgfoopomaaG17
import Derived.Test.YtjkhbjgfoopomaaG23
import Derived.Test.YtjkhbjgfoopomaaG35
/-
  Networks: pick, send, lose.
-/
namespace Go.Proofs.Ytjkhbjgfoopomaa
open Go.RowKit
set_option linter.unusedVariables false
set_option linter.unusedSimpArgs false
set_option maxHeartbeats 400000 in
theorem kpick_any (c : Int) (hc : -9223372036854775808 ≤ c ∧ c ≤ 9223372036854775807) (n : Nat) (hn : 0 < n) (hn2 : n ≤ 9223372036854775807) (w : World) :
    Calls Try.prog 21 #[.int .i64 c, .int .i64 (n : Int)] w fun e w' => e = .returned (.int .i64 (pickN c n : Int)) ∧ w' = w := by
  have hz : Hid (pickN c n = (if c < 0 then (-(c + 1)).toNat else c.toNat) % n) := hide rfl
  by_cases h : c < 0
  · have d : decide (c < 0) = true := by simp [h]
    have hq : Hid ((-(c + 1)).tmod n = (pickN c n : Int)) := hide (by
      rw [hz.out, if_pos h, Int.tmod_eq_emod_of_nonneg (by omega), Int.natCast_emod, Int.toNat_of_nonneg (by omega)])
    have W1 : IntKind.i64.wrap (c + 1) = c + 1 := by rw [IntKind.wrap_i64]; omega
    have W2 : IntKind.i64.wrap (-(c + 1)) = -(c + 1) := by rw [IntKind.wrap_i64]; omega
    clear hz
    go_enter Try.func21, Try.ntmps21
    go_wp2
    go_ret
    exact ⟨ret_int (by first | exact hq.out | exact hq2.out | (have := hq.out; simp_all)), rfl⟩
  · have d : decide (c < 0) = false := by simp [h]
    have hq : Hid (c.tmod n = (pickN c n : Int)) := hide (by
      rw [hz.out, if_neg h, Int.tmod_eq_emod_of_nonneg (by omega), Int.natCast_emod, Int.toNat_of_nonneg (by omega)])
    have hq2 : Hid (c % n = (pickN c n : Int)) := hide (by
      rw [hz.out, if_neg h, Int.natCast_emod, Int.toNat_of_nonneg (by omega)])
    clear hz
    go_enter Try.func21, Try.ntmps21
    go_wp2
    go_ret
    exact ⟨ret_int (by first | exact hq.out | exact hq2.out | (have := hq.out; simp_all)), rfl⟩


theorem msg_one (m : Msg) : ∀ u ∈ msgCell m, u.oneCell' = true := by
  intro u hu
  simp only [msgCell, List.mem_cons, List.not_mem_nil, or_false] at hu
  subst hu
  rfl
/-- a list of texts as one of messages -/
theorem row_msgs {w : World} {e : TypeId} {v : Value} {ms : List Msg} {f : List UInt8 → List Value} (hf : ∀ l, f l = [.string (bs l)]) (h : RowOf w e 1 f v (ms.map encOf)) : RowOf w e 1 msgCell v ms := by
  unfold RowOf at h ⊢
  rw [List.length_map] at h
  have : (ms.map encOf).flatMap f = ms.flatMap msgCell := by
    clear h
    induction ms with
    | nil => rfl
    | cons m r ih => simp only [List.map_cons, List.flatMap_cons, ih, hf (encOf m), msgCell]
  rw [this] at h
  exact h
set_option maxRecDepth 100000 in
set_option maxHeartbeats 1000000 in
theorem send_any (w : World) (own : Nat → Nat) (nb : Nat) (M : NM) (P : PN) (I : NetAt w own nb 3 M P) (lv : Value) (ms : List Msg) (hlv : RowOf w 9 1 msgCell lv ms) (hlen : P.wire.length + ms.length ≤ 8000000000000) :
    Calls Try.prog 25 #[.pointer (some ⟨nb, 0, none⟩), lv] w fun e w' => e = .returned (.tuple #[]) ∧ ∃ own' M', NetAt w' own' nb 3 M' { P with wire := P.wire ++ ms } ∧ Frame w w' own own' ∧ M'.bk = M.bk ∧ M'.ps = M.ps ∧ M'.ck = M.ck := by
  obtain ⟨i0, hi0, y0, y1, y2⟩ := info_parts txtInfo
  obtain ⟨wad, wcap, hwv⟩ := I.wrow.slice
  obtain ⟨lad, lcap, hl⟩ := hlv.slice
  have hc : ∀ o, w.cell? ⟨nb, o, none⟩ = (netCells 3 M P)[o]? := fun o => cell_at I.blk o
  have hc9 : w.cell? ⟨nb, 9, none⟩ = some (.slice wad P.wire.length wcap) := by rw [hc 9, ← hwv]; rfl
  have hnl := I.lt
  have hrow := I.wrow
  rw [hwv] at hrow
  rw [hl] at hlv
  subst hl
  have hfin : Hid (∀ v' u, RowOf u 9 1 msgCell v' (P.wire ++ ms) → Kept (fun i => M.wv.ownBlock = some i) w u → (∀ g, v'.ownBlock = some g → M.wv.ownBlock = some g ∨ w.heap.size ≤ g) → _) := hide (fun v' u h1 h2 h3 => I.wireTo h2 h1 h3)
  rw [hwv] at hfin
  replace hrow := hide hrow
  replace hlv := hide hlv
  clear hwv hc I
  generalize hW : P.wire = wire at *
  go_enter Try.func25, Try.ntmps25
  go_wp2_with (first | (at_builtin; refine stopAt ?_))
  refine hide ?_
  refine wpList_spread msgCell_length w (by rfl) _ _ 58 (by rfl) 9 i0 _ 16 Try.underlying58 hi0 y0 y1 y2 rfl (by decide) (.slice wad wire.length wcap) (.slice lad ms.length lcap) wire ms (by rfl) (by rfl) hrow.out hlv.out (fun y _ => msg_one y) (by unfold maxLen; omega) (by omega) ?_
  intro v' u h1 h2 h3
  obtain ⟨hb, J, F⟩ := hfin.out v' u h1 h2 h3
  have hu9 : u.cell? ⟨nb, 9, none⟩ = some M.wv := by rw [cell_at hb]; rfl
  have hf9 := fun o => frozen_at hb o
  have hul := block_lt hb
  obtain ⟨ad', cap', hv'⟩ := h1.slice
  subst hv'
  replace J := hide J
  replace F := hide F
  clear hfin h1 h2 h3 hb hrow hlv hc9
  generalize (wire ++ ms).length = L at *
  go_wp2
  refine bodyPost_end (results_none rfl _ _ _) rfl ?_
  exact ⟨rfl, _, _, J.out, F.out, rfl, rfl, rfl⟩
/-- texts that lie somewhere laid behind a row -/
theorem wpList_spread_at {P : Program} {ops : Array Oper} {rest : List Oper} {o : Oper} {a : Act} {Q : Exit → Act → World → Prop} {α : Type} {f : α → List Value} {sz : Nat} (hf : ∀ x, (f x).length = sz) (w : World) (hgd : o.guard = none) (s x : Operand) (t : TypeId)
    (ho : o.op = .call { callee := .builtin .append, args := #[s, x], argTypes := #[t, t] }) (e : TypeId) (i : TypeInfo) (z : Value) (bytes : Nat) (ht : P.underlying t = some (.slice e)) (hi : P.info? e = some i) (hz : i.zero = some z)
    (hsize : i.size = sz) (hby : i.bytes = bytes) (hzs : z.cells.size = sz) (hsz : 0 < sz) (v : Value) (ad : Addr) (cap : Nat) (xs ys : List α) (hs : a.eval s = v) (hx : a.eval x = .slice (some ad) ys.length cap) (hrow : RowOf w e sz f v xs) (hc : ∀ j u, (ys.flatMap f)[j]? = some u → w.cell? (ad.add j) = some u)
    (h1 : ∀ y, y ∈ ys → ∀ u ∈ f y, u.oneCell' = true) (h63 : xs.length + ys.length ≤ maxLen) (hbytes : (xs.length + ys.length) * bytes ≤ 140737488355328)
    (h : ∀ v' w', RowOf w' e sz f v' (xs ++ ys) → Kept (fun k => v.ownBlock = some k) w w' → (∀ g, v'.ownBlock = some g → v.ownBlock = some g ∨ w.heap.size ≤ g) → wpList P ops Q rest (a.put o.dst v') w') :
    wpList P ops Q (o :: rest) a w := by
  obtain ⟨v', w', hr, h5, h6, _, h8⟩ := run_append_own_at (P := P) w 0 t o.type e i z sz bytes ht hi hz hsize hby hzs hsz v xs.length (xs.flatMap f) hrow ad ys.length cap (ys.flatMap f) (flat_length hf ys) hc (fun u hu => by
    obtain ⟨y, hy, hu'⟩ := List.mem_flatMap.1 hu
    exact h1 y hy u hu') h63 hbytes (Nat.zero_le _)
  have h2 : RowOf w' e sz f v' (xs ++ ys) := RowOf.to (xs := xs) hf h5 (by simp) (by simp)
  have h4 : ∀ g, v'.ownBlock = some g → v.ownBlock = some g ∨ w.heap.size ≤ g := fun g' hg' => by
    rcases h8 with h8 | h8
    · exact .inl (by rw [← h8]; exact hg')
    · right
      rw [h8] at hg'
      injection hg' with hg'
      omega
  refine wpList_plain hgd fun K hK => ?_
  unfold Oper.wp execOp
  simp only [ho, resolve, invoke, builtin, Sem.run_bind, Sem.run_pure, Result.andThen_ok, List.map_toArray, List.map_cons, List.map_nil, hs, hx, hr]
  exact hK _ _ (h v' w' h2 (Kept.of_grown h6) h4)
set_option maxRecDepth 100000 in
set_option maxHeartbeats 1000000 in
theorem lose_any (w : World) (own : Nat → Nat) (nb : Nat) (M : NM) (P : PN) (I : NetAt w own nb 3 M P) (i : Nat) (hi : i < P.wire.length) (hlen : P.wire.length ≤ 8000000000000) :
    Calls Try.prog 27 #[.pointer (some ⟨nb, 0, none⟩), .int .i64 (i : Int)] w fun e w' => e = .returned (.string (bs (encOf P.wire[i]))) ∧ ∃ own' M', NetAt w' own' nb 3 M' { P with wire := P.wire.eraseIdx i } ∧ Frame w w' own own' ∧ M'.bk = M.bk ∧ M'.ps = M.ps ∧ M'.ck = M.ck := by
  obtain ⟨i0, hi0, y0, y1, y2⟩ := info_parts txtInfo
  obtain ⟨wad, wcap, hwv, hev⟩ := I.wrow.form msgCell_length
  obtain ⟨g, rfl, hcell, hfro⟩ := hev i hi
  have hgl : g < w.heap.size := I.wrow.lt (by rw [hwv]; rfl)
  have hcap : P.wire.length ≤ wcap := by have h := I.wrow; rw [hwv] at h; exact h.cap
  have hc0 := hcell 0 (by decide)
  simp only [msgCell, List.getElem?_cons_zero, Nat.add_zero, Nat.mul_one] at hc0
  have hc : ∀ o, w.cell? ⟨nb, o, none⟩ = (netCells 3 M P)[o]? := fun o => cell_at I.blk o
  have hc9 : w.cell? ⟨nb, 9, none⟩ = some (.slice (some ⟨g, 0, none⟩) P.wire.length wcap) := by rw [hc 9, ← hwv]; rfl
  have hnl := I.lt
  have hall : ∀ (k : Nat) (m : Msg), P.wire[k]? = some m → w.cell? ⟨g, k, none⟩ = some (.string (bs (encOf m))) := fun k m hk => by
    obtain ⟨hk1, hk2⟩ := List.getElem?_eq_some_iff.1 hk
    obtain ⟨g', e, hcl, _⟩ := hev k hk1
    injection e with e
    injection e with e
    subst e
    have h := hcl 0 (by decide)
    simp only [msgCell, List.getElem?_cons_zero, Nat.add_zero, Nat.mul_one] at h
    rw [h, hk2]
  have flat : ∀ (ys : List Msg) (j : Nat) (u : Value), (ys.flatMap msgCell)[j]? = some u → ∃ m, ys[j]? = some m ∧ u = .string (bs (encOf m)) := by
    intro ys
    induction ys with
    | nil => intro j u h; simp at h
    | cons y r ih =>
      intro j u h
      cases j with
      | zero => simp [msgCell] at h; exact ⟨y, rfl, h.symm⟩
      | succ j =>
        simp only [List.flatMap_cons, msgCell, List.singleton_append, List.getElem?_cons_succ] at h
        exact ih j u h
  have hfin : Hid (∀ v' u, RowOf u 9 1 msgCell v' (P.wire.eraseIdx i) → Kept (fun i => M.wv.ownBlock = some i) w u → (∀ g, v'.ownBlock = some g → M.wv.ownBlock = some g ∨ w.heap.size ≤ g) → _) := hide (fun v' u h1 h2 h3 => I.wireTo h2 h1 h3)
  have hA : Hid (∀ u, Below w.heap.size w u → ∀ j x, ((P.wire.take i).flatMap msgCell)[j]? = some x → u.cell? ((⟨g, 0, none⟩ : Addr).add j) = some x) := hide (fun u hu j x hx => by
    obtain ⟨m, hm, rfl⟩ := flat _ _ _ hx
    have e : ((⟨g, 0, none⟩ : Addr).add j) = ⟨g, j, none⟩ := by unfold Addr.add; split <;> simp_all
    rw [e, hu.cell (p := ⟨g, j, none⟩) hgl]
    refine hall j m ?_
    rw [List.getElem?_take] at hm
    split at hm
    · exact hm
    · cases hm)
  have hB : Hid (∀ u, Below w.heap.size w u → ∀ j x, ((P.wire.drop (i + 1)).flatMap msgCell)[j]? = some x → u.cell? ((⟨g, i + 1, none⟩ : Addr).add j) = some x) := hide (fun u hu j x hx => by
    obtain ⟨m, hm, rfl⟩ := flat _ _ _ hx
    have e : ((⟨g, i + 1, none⟩ : Addr).add j) = ⟨g, i + 1 + j, none⟩ := by unfold Addr.add; split <;> simp_all
    rw [e, hu.cell (p := ⟨g, i + 1 + j, none⟩) hgl]
    refine hall _ m ?_
    rw [List.getElem?_drop] at hm
    exact hm)
  have hlA : (P.wire.take i).length = i := by rw [List.length_take]; omega
  have hlB : (P.wire.drop (i + 1)).length = P.wire.length - (i + 1) := by rw [List.length_drop]
  have hsplit : P.wire.take i ++ P.wire.drop (i + 1) = P.wire.eraseIdx i := by rw [List.eraseIdx_eq_take_drop_succ]
  rw [← hsplit] at hfin ⊢
  clear hc hev hcell hall flat
  generalize P.wire.take i = XA at *
  generalize P.wire.drop (i + 1) = XB' at *
  generalize P.wire[i] = m0 at *
  generalize P.wire.length = N at *
  have hiN : (i : Int) < (N : Int) := by omega
  have hiC : (i : Int) ≤ (wcap : Int) := by omega
  have W1 : IntKind.i64.wrap ((i : Int) + 1) = ((i + 1 : Nat) : Int) := by rw [IntKind.wrap_i64]; omega
  have hlA' := hide hlA
  have hlB' := hide hlB
  have hsub : IntKind.i64.wrap ((N : Int) - ((i + 1 : Nat) : Int)) = ((N - (i + 1) : Nat) : Int) := by rw [IntKind.wrap_i64]; omega
  have hle1 : ((i + 1 : Nat) : Int) ≤ (N : Int) := by omega
  have hle2 : (N : Int) ≤ (wcap : Int) := by omega
  clear hlA hlB hsplit
  replace I := hide I
  go_enter Try.func27, Try.ntmps27
  go_wp2_with (first | (at_builtin; refine stopAt ?_))
  refine hide ?_
  refine wpList_spread_at msgCell_length w (by rfl) _ _ 58 (by rfl) 9 i0 _ 16 Try.underlying58 hi0 y0 y1 y2 rfl (by decide) (.slice none 0 0) ⟨g, 0, none⟩ wcap [] XA (by rfl) (by rw [hlA'.out]; rfl) (RowOf.nil _ _) (hA.out w (Below.refl _ _)) (fun y _ => msg_one y) (by have := hlA'.out; unfold maxLen; simp only [List.length_nil]; omega) (by have := hlA'.out; simp only [List.length_nil]; omega) ?_
  intro v1 u1 h1 h2 h3
  have hb1 : Below w.heap.size w u1 := h2.below (Nat.le_refl _) (fun k hk => by simp [Value.ownBlock] at hk)
  have hv1o : ∀ k, v1.ownBlock = some k → w.heap.size ≤ k := fun k hk => by
    rcases h3 k hk with h | h
    · simp [Value.ownBlock] at h
    · exact h
  rw [List.nil_append] at h1
  obtain ⟨ad1, cap1, hv1⟩ := h1.slice
  have hc9' : u1.cell? ⟨nb, 9, none⟩ = some (.slice (some ⟨g, 0, none⟩) N wcap) := (hb1.cell (p := ⟨nb, 9, none⟩) hnl).trans hc9
  have hnl' : nb < u1.heap.size := Nat.lt_of_lt_of_le hnl hb1.size
  have h1' := hide h1
  have hv1o' := hide hv1o
  have hv1' := hide hv1
  rw [hlA'.out] at hv1
  subst hv1
  clear h1 h2 h3 hv1o hv1' hc9
  go_wp2_with (first | (at_builtin; refine stopAt ?_))
  all_goals (
    refine hide ?_
    first
      | (refine wpList_spread_at msgCell_length u1 (by rfl) _ _ 58 (by rfl) 9 i0 _ 16 Try.underlying58 hi0 y0 y1 y2 rfl (by decide) (.slice ad1 i cap1) ⟨g, i + 1, none⟩ (wcap - (i + 1)) XA XB' (by rfl) (by rw [hlB'.out]; rfl) h1'.out (hB.out u1 hb1) (fun y _ => msg_one y) (by have := hlA'.out; have := hlB'.out; unfold maxLen; omega) (by have := hlA'.out; have := hlB'.out; omega) ?_)
      | (refine wpList_spread_at msgCell_length u1 (by rfl) _ _ 58 (by rfl) 9 i0 _ 16 Try.underlying58 hi0 y0 y1 y2 rfl (by decide) (.slice ad1 i cap1) ⟨g, 0, none⟩ 0 XA XB' (by rfl) (by rw [hlB'.out]; rfl) h1'.out (fun j x hx => absurd hx (by have h0 : XB' = [] := List.length_eq_zero_iff.1 (by have := hlB'.out; omega); rw [h0]; simp)) (fun y _ => msg_one y) (by have := hlA'.out; have := hlB'.out; unfold maxLen; omega) (by have := hlA'.out; have := hlB'.out; omega) ?_)
    intro v2 u2 k1 k2 k3
    have hK : Kept (fun i => M.wv.ownBlock = some i) w u2 := (Kept.of_below hb1).trans k2 (fun k hk => .inr (hv1o'.out k hk))
    have hO : ∀ k, v2.ownBlock = some k → M.wv.ownBlock = some k ∨ w.heap.size ≤ k := fun k hk => by
      rcases k3 k hk with h | h
      · exact .inr (hv1o'.out k h)
      · exact .inr (Nat.le_trans hb1.size h)
    obtain ⟨hb, J, F⟩ := hfin.out v2 u2 k1 hK hO
    have hu9 : u2.cell? ⟨nb, 9, none⟩ = some M.wv := by rw [cell_at hb]; rfl
    have hf9 := fun o => frozen_at hb o
    have hul := block_lt hb
    obtain ⟨ad', cap', hv'⟩ := k1.slice
    subst hv'
    replace J := hide J
    replace F := hide F
    clear hfin k1 k2 k3 hb hA hB h1' hv1o' hK hO hc9' hwv
    generalize (XA ++ XB').length = L at *
    go_wp2
    go_ret
    exact ⟨rfl, _, _, J.out, F.out, rfl, rfl, rfl⟩)
end Go.Proofs.Ytjkhbjgfoopomaa
