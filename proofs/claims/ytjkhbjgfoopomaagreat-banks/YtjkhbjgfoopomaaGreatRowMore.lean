/-
  append of several structs to a row of structs: what was there still reads as it did.
-/
import Derived.Test.YtjkhbjgfoopomaaGreatMem2
namespace Go.Proofs.YtjkhbjgfoopomaaGreat
open Go.RowKit
set_option linter.unusedVariables false
section
variable {P : Program} (w : World)
/-- whatever append answers: a row that lies elsewhere, or reads as the head of the row that comes out, reads as before -/
theorem append_keeps (base : Nat) (t ty e : TypeId) (i : TypeInfo) (z : Value) (size bytes : Nat) (ht : P.underlying t = some (.slice e)) (hi : P.info? e = some i) (hz : i.zero = some z)
    (hsize : i.size = size) (hby : i.bytes = bytes) (hzs : z.cells.size = size) (hsz : 0 < size) (v : Value) (n : Nat) (xs : List Value) (hown : w.ownsRow base e size v n xs)
    (a : Addr) (m c : Nat) (news : List Value) (hl : news.length = m * size) (hnews : ∀ j u, news[j]? = some u → w.cell? (a.add j) = some u) (h1 : ∀ u ∈ news, u.oneCell' = true) (hm : 0 < m)
    (h63 : n + m ≤ maxLen) (hbytes : (n + m) * bytes ≤ 140737488355328) (v' : Value) (w' : World) (hr : (Builtin.append_ #[t, t] ty #[v, .slice (some a) m c]).run P w = .ok v' w')
    (v2 : Value) (n2 : Nat) (zs : List Value) (h2 : w.ownsRow base e size v2 n2 zs) (hd : (∃ r, xs ++ news = zs ++ r) ∨ v2.ownBlock ≠ v.ownBlock) : w'.ownsRow base e size v2 n2 zs := by
  subst hsize
  subst hby
  have hsmall : n + m ≤ 9223372036854775807 := by simp only [maxLen] at h63; omega
  have hall : ∀ u : World, w.grownBy u none → u.ownsRow base e i.size v2 n2 zs := fun u hu => by
    cases hb : v2.ownBlock with
    | none => exact h2.kept hu (.inl hb)
    | some b => exact h2.kept hu (.inr (by rw [hb]; simp))
  rcases hown.2 with ⟨rfl, rfl⟩ | ⟨g, cap, cur, rfl, hbg, hg, hnc, hcm, hcs, htake⟩
  · obtain rfl : xs = [] := List.eq_nil_of_length_eq_zero (by simpa using hown.1)
    have h3 := run_append_nil (P := P) w t ty e i z ht hi hz a m c news hl hnews (by omega) (by omega) (by have hb := hbytes; simp only [Nat.zero_add] at hb; omega)
    rw [h3] at hr
    injection hr with _ hw
    subst hw
    exact hall _ ⟨rfl, rfl, rfl, by simp, fun k hk _ => heap_alloc_old w.drew _ k hk⟩
  · by_cases hroom : n + m ≤ cap
    · have hfit : n * i.size + news.length ≤ cur.size := by rw [hl, hcs, ← Nat.add_mul]; exact Nat.mul_le_mul_right _ hroom
      have h3 := run_append_room (P := P) w t ty e i ht hi g n cap cur hg a m c news hl hnews h1 hroom hfit
      rw [h3] at hr
      injection hr with _ hw
      subst hw
      have hgr : w.grownBy (w.setRow g (cur.toList.take (n * i.size) ++ news ++ cur.toList.drop (n * i.size + news.length)).toArray) (some g) := ⟨rfl, rfl, rfl, by simp, fun k _ hk => setRow_other w g k _ (fun e => hk (by rw [e]))⟩
      by_cases hsame : v2.ownBlock = some g
      · rcases hd with ⟨r, hpre⟩ | hd
        · refine ⟨h2.1, ?_⟩
          rcases h2.2 with ⟨rfl, rfl⟩ | ⟨g2, cap2, cur2, rfl, hbg2, hg2, hnc2, hcm2, hcs2, htake2⟩
          · exact .inl ⟨rfl, rfl⟩
          · obtain rfl : g2 = g := by simpa [Value.ownBlock] using hsame
            rw [hg] at hg2
            injection hg2 with hg2
            injection hg2 with hg2
            subst hg2
            refine .inr ⟨g2, cap2, _, rfl, hbg2, setRow_heap w g2 cur _ e _ hg, hnc2, hcm2, ?_, ?_⟩
            · simp only [List.size_toArray, List.length_append, List.length_take, List.length_drop, Array.length_toList]
              omega
            · rw [List.toList_toArray, htake, hpre, List.append_assoc, List.take_append_of_le_length (by rw [h2.1]; exact Nat.le_refl _), List.take_of_length_le (by rw [h2.1]; exact Nat.le_refl _)]
        · exact absurd hsame hd
      · exact h2.kept hgr (.inr hsame)
    · have holds : ∀ j u, xs[j]? = some u → w.cell? ((⟨g, 0, none⟩ : Addr).add j) = some u := hown.cells (g := g) rfl
      have h3 := run_append_grow (P := P) w t ty e i z ht hi hz ⟨g, 0, none⟩ n cap xs hown.1 holds a m c news hl hnews (by omega) (by omega) (growslice_fits (by omega) hbytes)
      rw [h3] at hr
      injection hr with _ hw
      subst hw
      exact hall _ ⟨rfl, rfl, rfl, by simp, fun k hk _ => heap_alloc_old w.drew _ k hk⟩
end
theorem wpList_more {P : Program} {ops : Array Oper} {rest : List Oper} {o : Oper} {a : Act} {Q : Exit → Act → World → Prop} {α : Type} {f : α → List Value} {sz : Nat} (hf : ∀ x, (f x).length = sz) (w : World) (hgd : o.guard = none) (s x : Operand) (t : TypeId)
    (ho : o.op = .call { callee := .builtin .append, args := #[s, x], argTypes := #[t, t] }) (e : TypeId) (i : TypeInfo) (z : Value) (bytes : Nat) (ht : P.underlying t = some (.slice e)) (hi : P.info? e = some i) (hz : i.zero = some z)
    (hsize : i.size = sz) (hby : i.bytes = bytes) (hzs : z.cells.size = sz) (hsz : 0 < sz) (v : Value) (xs : List α) (hs : a.eval s = v) (hrow : RowOf w e sz f v xs) (c : Nat) (ys : List α) (hys : 0 < ys.length) (m : Nat) (hm : m = ys.length) (hx : a.eval x = .slice (some ⟨w.heap.size, 0, none⟩) m c)
    (h1 : ∀ y, y ∈ ys → ∀ u ∈ f y, u.oneCell' = true) (h63 : xs.length + ys.length ≤ maxLen) (hbytes : (xs.length + ys.length) * bytes ≤ 140737488355328)
    (h : ∀ g cap w', RowOf w' e sz f (.slice (some ⟨g, 0, none⟩) (xs.length + m) cap) (xs ++ ys) → (∀ v2 zs, RowOf w e sz f v2 zs → ((∃ r, xs ++ ys = zs ++ r) ∨ v2.ownBlock ≠ v.ownBlock) → RowOf w' e sz f v2 zs) → Kept (fun k => v.ownBlock = some k) w w' → (v.ownBlock = some g ∨ w.heap.size ≤ g) → g < w'.heap.size → wpList P ops Q rest (a.put o.dst (.slice (some ⟨g, 0, none⟩) (xs.length + m) cap)) w') :
    ∀ W, W = w.alloc (.cells (ys.flatMap f).toArray e) → wpList P ops Q (o :: rest) a W := by
  rintro W rfl
  subst hm
  have hrow' : RowOf (w.alloc (.cells (ys.flatMap f).toArray e)) e sz f v xs := hrow.below ((Below.refl _ _).alloc (Nat.le_refl _) _)
  have hnews : ∀ j u, (ys.flatMap f)[j]? = some u → (w.alloc (.cells (ys.flatMap f).toArray e)).cell? ((⟨w.heap.size, 0, none⟩ : Addr).add j) = some u := fun j u hu => World.news_of_block (heap_alloc_self w (.cells (ys.flatMap f).toArray e)) j u hu
  have hone : ∀ u ∈ ys.flatMap f, u.oneCell' = true := fun u hu => by
    obtain ⟨y, hy, hu'⟩ := List.mem_flatMap.1 hu
    exact h1 y hy u hu'
  have hnl : (ys.flatMap f).length = ys.length * sz := flat_length hf ys
  refine wpList_plain hgd fun K hK => ?_
  obtain ⟨g, cap, w', hr, h2, h3, h4, h5⟩ := run_append_lies (P := P) (w.alloc (.cells (ys.flatMap f).toArray e)) t o.type 0 e i z sz bytes ht hi hz hsize hby hzs hsz v xs.length (xs.flatMap f) hrow' ⟨w.heap.size, 0, none⟩ ys.length c (ys.flatMap f) hnl hnews hone hys h63 hbytes (Nat.zero_le _) _ rfl
  have hold : ∀ v2 zs, RowOf w e sz f v2 zs → ((∃ r, xs ++ ys = zs ++ r) ∨ v2.ownBlock ≠ v.ownBlock) → RowOf w' e sz f v2 zs := fun v2 zs hz2 hd => by
    refine append_keeps (P := P) (w.alloc (.cells (ys.flatMap f).toArray e)) 0 t o.type e i z sz bytes ht hi hz hsize hby hzs hsz v xs.length (xs.flatMap f) hrow' ⟨w.heap.size, 0, none⟩ ys.length c (ys.flatMap f) hnl hnews hone hys h63 hbytes _ _ hr v2 zs.length (zs.flatMap f) (hz2.below ((Below.refl _ _).alloc (Nat.le_refl _) _)) ?_
    rcases hd with ⟨r, hr⟩ | hd
    · exact .inl ⟨r.flatMap f, by rw [← List.flatMap_append, hr, List.flatMap_append]⟩
    · exact .inr hd
  unfold Oper.wp execOp
  simp only [ho, resolve, invoke, builtin, Sem.run_bind, Sem.run_pure, Result.andThen_ok, List.map_toArray, List.map_cons, List.map_nil, hs, hx, hr]
  refine hK _ _ (h g cap w' (RowOf.to (xs := xs) hf h2 (by simp) (by simp)) hold ?_ ?_ h5)
  · exact (Kept.of_alloc w _).trans (Kept.of_grown h3) (fun k hk => .inl hk)
  · rcases h4 with h' | h'
    · exact .inl h'
    · right
      rw [h']
      simp
end Go.Proofs.YtjkhbjgfoopomaaGreat
