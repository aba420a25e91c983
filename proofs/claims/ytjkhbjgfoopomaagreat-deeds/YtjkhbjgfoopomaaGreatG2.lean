import Derived.Test.YtjkhbjgfoopomaaGreatG1
/-
  append of several structs to a row of structs: what was there still reads as it did.
-/
namespace Go.Proofs.YtjkhbjgfoopomaaGreat
open Go.RowKit
set_option linter.unusedVariables false
section
variable {P : Program} (w : World)
/-- whatever append answers: a row that lies elsewhere, or reads as the head of the row that comes out, reads as before -/
theorem append_keeps (base : Nat) (t ty e : TypeId) (i : TypeInfo) (z : Value) (size bytes : Nat) (ht : P.underlying t = some (.slice e)) (hi : P.info? e = some i) (hz : i.zero = some z)
    (hsize : i.size = size) (hby : i.bytes = bytes) (hzs : z.cells.size = size) (hsz : 0 < size) (v : Value) (n : Nat) (xs : List Value) (hown : w.ownsRow base e size v n xs)
    (a : Addr) (m c : Nat) (news : List Value) (hl : news.length = m * size) (hnews : ∀ j u, news[j]? = some u → w.cell? (a.add j) = some u) (h1 : ∀ u ∈ news, u.oneCell' = true) (hm : 0 < m)
    (h63 : n + m ≤ maxLen) (hbytes : (n + m) * bytes ≤ 140737488355328) (v' : Value) (w' : World) (hr : (Builtin.append_ #[t, t] ty #[v, .slice (some a) m c]).run P w = .ok v' w')
    (v2 : Value) (n2 : Nat) (zs : List Value) (h2 : w.ownsRow base e size v2 n2 zs) (hd : (∃ r, xs ++ news = zs ++ r) ∨ v2.ownBlock ≠ v.ownBlock) : w'.ownsRow base e size v2 n2 zs := by
  subst hsize
  subst hby
  have hsmall : n + m ≤ 9223372036854775807 := by simp only [maxLen] at h63; omega
  have hall : ∀ u : World, w.grownBy u none → u.ownsRow base e i.size v2 n2 zs := fun u hu => by
    cases hb : v2.ownBlock with
    | none => exact h2.kept hu (.inl hb)
    | some b => exact h2.kept hu (.inr (by rw [hb]; simp))
  rcases hown.2 with ⟨rfl, rfl⟩ | ⟨g, cap, cur, rfl, hbg, hg, hnc, hcm, hcs, htake⟩
  · obtain rfl : xs = [] := List.eq_nil_of_length_eq_zero (by simpa using hown.1)
    have h3 := run_append_nil (P := P) w t ty e i z ht hi hz a m c news hl hnews (by omega) (by omega) (by have hb := hbytes; simp only [Nat.zero_add] at hb; omega)
    rw [h3] at hr
    injection hr with _ hw
    subst hw
    exact hall _ ⟨rfl, rfl, rfl, by simp, fun k hk _ => heap_alloc_old w.drew _ k hk⟩
  · by_cases hroom : n + m ≤ cap
    · have hfit : n * i.size + news.length ≤ cur.size := by rw [hl, hcs, ← Nat.add_mul]; exact Nat.mul_le_mul_right _ hroom
      have h3 := run_append_room (P := P) w t ty e i ht hi g n cap cur hg a m c news hl hnews h1 hroom hfit
      rw [h3] at hr
      injection hr with _ hw
      subst hw
      have hgr : w.grownBy (w.setRow g (cur.toList.take (n * i.size) ++ news ++ cur.toList.drop (n * i.size + news.length)).toArray) (some g) := ⟨rfl, rfl, rfl, by simp, fun k _ hk => setRow_other w g k _ (fun e => hk (by rw [e]))⟩
      by_cases hsame : v2.ownBlock = some g
      · rcases hd with ⟨r, hpre⟩ | hd
        · refine ⟨h2.1, ?_⟩
          rcases h2.2 with ⟨rfl, rfl⟩ | ⟨g2, cap2, cur2, rfl, hbg2, hg2, hnc2, hcm2, hcs2, htake2⟩
          · exact .inl ⟨rfl, rfl⟩
          · obtain rfl : g2 = g := by simpa [Value.ownBlock] using hsame
            rw [hg] at hg2
            injection hg2 with hg2
            injection hg2 with hg2
            subst hg2
            refine .inr ⟨g2, cap2, _, rfl, hbg2, setRow_heap w g2 cur _ e _ hg, hnc2, hcm2, ?_, ?_⟩
            · simp only [List.size_toArray, List.length_append, List.length_take, List.length_drop, Array.length_toList]
              omega
            · rw [List.toList_toArray, htake, hpre, List.append_assoc, List.take_append_of_le_length (by rw [h2.1]; exact Nat.le_refl _), List.take_of_length_le (by rw [h2.1]; exact Nat.le_refl _)]
        · exact absurd hsame hd
      · exact h2.kept hgr (.inr hsame)
    · have holds : ∀ j u, xs[j]? = some u → w.cell? ((⟨g, 0, none⟩ : Addr).add j) = some u := hown.cells (g := g) rfl
      have h3 := run_append_grow (P := P) w t ty e i z ht hi hz ⟨g, 0, none⟩ n cap xs hown.1 holds a m c news hl hnews (by omega) (by omega) (growslice_fits (by omega) hbytes)
      rw [h3] at hr
      injection hr with _ hw
      subst hw
      exact hall _ ⟨rfl, rfl, rfl, by simp, fun k hk _ => heap_alloc_old w.drew _ k hk⟩
end
theorem wpList_more {P : Program} {ops : Array Oper} {rest : List Oper} {o : Oper} {a : Act} {Q : Exit → Act → World → Prop} {α : Type} {f : α → List Value} {sz : Nat} (hf : ∀ x, (f x).length = sz) (w : World) (hgd : o.guard = none) (s x : Operand) (t : TypeId)
    (ho : o.op = .call { callee := .builtin .append, args := #[s, x], argTypes := #[t, t] }) (e : TypeId) (i : TypeInfo) (z : Value) (bytes : Nat) (ht : P.underlying t = some (.slice e)) (hi : P.info? e = some i) (hz : i.zero = some z)
    (hsize : i.size = sz) (hby : i.bytes = bytes) (hzs : z.cells.size = sz) (hsz : 0 < sz) (v : Value) (xs : List α) (hs : a.eval s = v) (hrow : RowOf w e sz f v xs) (c : Nat) (ys : List α) (hys : 0 < ys.length) (m : Nat) (hm : m = ys.length) (hx : a.eval x = .slice (some ⟨w.heap.size, 0, none⟩) m c)
    (h1 : ∀ y, y ∈ ys → ∀ u ∈ f y, u.oneCell' = true) (h63 : xs.length + ys.length ≤ maxLen) (hbytes : (xs.length + ys.length) * bytes ≤ 140737488355328)
    (h : ∀ g cap w', RowOf w' e sz f (.slice (some ⟨g, 0, none⟩) (xs.length + m) cap) (xs ++ ys) → (∀ v2 zs, RowOf w e sz f v2 zs → ((∃ r, xs ++ ys = zs ++ r) ∨ v2.ownBlock ≠ v.ownBlock) → RowOf w' e sz f v2 zs) → Kept (fun k => v.ownBlock = some k) w w' → (v.ownBlock = some g ∨ w.heap.size ≤ g) → g < w'.heap.size → wpList P ops Q rest (a.put o.dst (.slice (some ⟨g, 0, none⟩) (xs.length + m) cap)) w') :
    ∀ W, W = w.alloc (.cells (ys.flatMap f).toArray e) → wpList P ops Q (o :: rest) a W := by
  rintro W rfl
  subst hm
  have hrow' : RowOf (w.alloc (.cells (ys.flatMap f).toArray e)) e sz f v xs := hrow.below ((Below.refl _ _).alloc (Nat.le_refl _) _)
  have hnews : ∀ j u, (ys.flatMap f)[j]? = some u → (w.alloc (.cells (ys.flatMap f).toArray e)).cell? ((⟨w.heap.size, 0, none⟩ : Addr).add j) = some u := fun j u hu => World.news_of_block (heap_alloc_self w (.cells (ys.flatMap f).toArray e)) j u hu
  have hone : ∀ u ∈ ys.flatMap f, u.oneCell' = true := fun u hu => by
    obtain ⟨y, hy, hu'⟩ := List.mem_flatMap.1 hu
    exact h1 y hy u hu'
  have hnl : (ys.flatMap f).length = ys.length * sz := flat_length hf ys
  refine wpList_plain hgd fun K hK => ?_
  obtain ⟨g, cap, w', hr, h2, h3, h4, h5⟩ := run_append_lies (P := P) (w.alloc (.cells (ys.flatMap f).toArray e)) t o.type 0 e i z sz bytes ht hi hz hsize hby hzs hsz v xs.length (xs.flatMap f) hrow' ⟨w.heap.size, 0, none⟩ ys.length c (ys.flatMap f) hnl hnews hone hys h63 hbytes (Nat.zero_le _) _ rfl
  have hold : ∀ v2 zs, RowOf w e sz f v2 zs → ((∃ r, xs ++ ys = zs ++ r) ∨ v2.ownBlock ≠ v.ownBlock) → RowOf w' e sz f v2 zs := fun v2 zs hz2 hd => by
    refine append_keeps (P := P) (w.alloc (.cells (ys.flatMap f).toArray e)) 0 t o.type e i z sz bytes ht hi hz hsize hby hzs hsz v xs.length (xs.flatMap f) hrow' ⟨w.heap.size, 0, none⟩ ys.length c (ys.flatMap f) hnl hnews hone hys h63 hbytes _ _ hr v2 zs.length (zs.flatMap f) (hz2.below ((Below.refl _ _).alloc (Nat.le_refl _) _)) ?_
    rcases hd with ⟨r, hr⟩ | hd
    · exact .inl ⟨r.flatMap f, by rw [← List.flatMap_append, hr, List.flatMap_append]⟩
    · exact .inr hd
  unfold Oper.wp execOp
  simp only [ho, resolve, invoke, builtin, Sem.run_bind, Sem.run_pure, Result.andThen_ok, List.map_toArray, List.map_cons, List.map_nil, hs, hx, hr]
  refine hK _ _ (h g cap w' (RowOf.to (xs := xs) hf h2 (by simp) (by simp)) hold ?_ ?_ h5)
  · exact (Kept.of_alloc w _).trans (Kept.of_grown h3) (fun k hk => .inl hk)
  · rcases h4 with h' | h'
    · exact .inl h'
    · right
      rw [h']
      simp
end Go.Proofs.YtjkhbjgfoopomaaGreat
/-
  Plain arithmetic of the checksum: no program in sight.
-/
namespace Go.Proofs.YtjkhbjgfoopomaaGreat

/-- one bit falls out -/
def crcBit (c : Nat) : Nat := if c % 2 = 1 then (c / 2) ^^^ 3988292384 else c / 2
def crcBits : Nat → Nat → Nat
  | 0, c => c
  | n + 1, c => crcBit (crcBits n c)
def crcByte (c : Nat) (b : UInt8) : Nat := crcBits 8 (c ^^^ b.toNat)
def crcOf (l : List UInt8) : Nat := l.foldl crcByte 4294967295
def sumOf (l : List UInt8) : Nat := 4294967295 - crcOf l

theorem xor_lt32 {a b : Nat} (ha : a < 4294967296) (hb : b < 4294967296) : a ^^^ b < 4294967296 := by
  have := Nat.xor_lt_two_pow (n := 32) (x := a) (y := b) (by omega) (by omega)
  omega
theorem crcBit_lt {c : Nat} (h : c < 4294967296) : crcBit c < 4294967296 := by
  unfold crcBit
  split
  · exact xor_lt32 (by omega) (by decide)
  · omega
theorem crcBits_lt {n c : Nat} (h : c < 4294967296) : crcBits n c < 4294967296 := by
  induction n with
  | zero => exact h
  | succ n ih => exact crcBit_lt ih
theorem byte_lt (b : UInt8) : b.toNat < 256 := b.toNat_lt
theorem crcByte_lt {c : Nat} (h : c < 4294967296) (b : UInt8) : crcByte c b < 4294967296 :=
  crcBits_lt (xor_lt32 h (by have := byte_lt b; omega))
theorem crcFold_lt (l : List UInt8) : ∀ {c : Nat}, c < 4294967296 → l.foldl crcByte c < 4294967296 := by
  induction l with
  | nil => intro c h; exact h
  | cons b l ih => intro c h; exact ih (crcByte_lt h b)
theorem crcOf_lt (l : List UInt8) : crcOf l < 4294967296 := crcFold_lt l (by decide)
theorem crcOf_snoc (l : List UInt8) (b : UInt8) : crcOf (l ++ [b]) = crcByte (crcOf l) b := by
  simp [crcOf, List.foldl_append]
theorem sumOf_lt (l : List UInt8) : sumOf l < 4294967296 := by unfold sumOf; omega
theorem not32 {c : Nat} (h : c < 4294967296) : 4294967295 ^^^ c = 4294967295 - c := by
  have e : 4294967295 ^^^ c = (~~~ (BitVec.ofNat 32 c)).toNat := by
    rw [← BitVec.allOnes_xor, BitVec.toNat_xor, BitVec.toNat_allOnes, BitVec.toNat_ofNat, Nat.mod_eq_of_lt (by omega)]
  rw [e, BitVec.toNat_not, BitVec.toNat_ofNat, Nat.mod_eq_of_lt (by omega)]

/-- the lowest n bits the other way round -/
def trn : Nat → Nat → Nat
  | 0, _ => 0
  | n + 1, v => trn n v * 2 + v / 2 ^ n % 2
theorem trn_lt (n v : Nat) : trn n v < 2 ^ n := by
  induction n with
  | zero => simp [trn]
  | succ n ih => simp only [trn, Nat.pow_succ]; omega
theorem trn_bit (n v j : Nat) : (trn n v).testBit j = (decide (j < n) && v.testBit (n - 1 - j)) := by
  induction n generalizing j with
  | zero => simp [trn]
  | succ n ih =>
    cases j with
    | zero =>
      rw [Nat.testBit_zero]
      have h1 : trn (n + 1) v % 2 = v / 2 ^ n % 2 := by simp only [trn]; omega
      rw [h1]
      simp [Nat.testBit_eq_decide_div_mod_eq]
    | succ j =>
      rw [Nat.testBit_succ]
      have h1 : trn (n + 1) v / 2 = trn n v := by simp only [trn]; omega
      rw [h1, ih]
      have e : n + 1 - 1 - (j + 1) = n - 1 - j := by omega
      rw [e]
      simp
theorem eq_of_bits32 {a b : Nat} (ha : a < 4294967296) (hb : b < 4294967296) (h : ∀ i, i < 32 → a.testBit i = b.testBit i) : a = b := by
  apply Nat.eq_of_testBit_eq
  intro i
  by_cases hi : i < 32
  · exact h i hi
  · have p : 2 ^ 32 ≤ 2 ^ i := Nat.pow_le_pow_right (by decide) (by omega)
    rw [Nat.testBit_lt_two_pow (by omega), Nat.testBit_lt_two_pow (by omega)]
theorem trn32_lt (v : Nat) : trn 32 v < 4294967296 := by have := trn_lt 32 v; omega
theorem poly_bits : ∀ i, i < 32 → Nat.testBit 3988292384 i = Nat.testBit 79764919 (31 - i) := by decide
/-- one step of the division -/
def refBit (r : Nat) : Nat := if r / 2147483648 = 1 then (r * 2 % 4294967296) ^^^ 79764919 else r * 2 % 4294967296
theorem refBit_lt {r : Nat} : refBit r < 4294967296 := by
  unfold refBit
  split
  · exact xor_lt32 (by omega) (by decide)
  · omega
theorem dbl_bit (r i : Nat) (hi : i < 32) : (r * 2 % 4294967296).testBit i = (decide (1 ≤ i) && r.testBit (i - 1)) := by
  rw [show (4294967296 : Nat) = 2 ^ 32 by decide, Nat.testBit_mod_two_pow, show r * 2 = 2 ^ 1 * r by omega, Nat.testBit_two_pow_mul]
  simp [hi]
theorem trn_refBit {r : Nat} (h : r < 4294967296) : trn 32 (refBit r) = crcBit (trn 32 r) := by
  have hb := trn_bit 32 r 0
  rw [Nat.testBit_zero] at hb
  have h31 : r.testBit 31 = decide (r / 2147483648 = 1) := by
    rw [Nat.testBit_eq_decide_div_mod_eq, show (2 : Nat) ^ 31 = 2147483648 by decide, Nat.mod_eq_of_lt (by omega)]
  have hp : (trn 32 r % 2 = 1) ↔ (r / 2147483648 = 1) := by
    have : decide (trn 32 r % 2 = 1) = decide (r / 2147483648 = 1) := by rw [hb, ← h31]; simp
    simpa using this
  apply eq_of_bits32 (trn32_lt _) (crcBit_lt (trn32_lt _))
  intro i hi
  rw [trn_bit]
  have hd : (r * 2 % 4294967296).testBit (32 - 1 - i) = (trn 32 r / 2).testBit i := by
    rw [dbl_bit r _ (by omega), ← Nat.testBit_succ, trn_bit]
    by_cases h0 : i = 31
    · subst h0; simp
    · have a1 : 1 ≤ 32 - 1 - i := by omega
      have a2 : i + 1 < 32 := by omega
      have a3 : 32 - 1 - i - 1 = 32 - 1 - (i + 1) := by omega
      simp [a1, a2, a3]
  unfold refBit crcBit
  by_cases hc : r / 2147483648 = 1
  · rw [if_pos hc, if_pos (hp.2 hc), Nat.testBit_xor, Nat.testBit_xor, hd, poly_bits i hi]
    simp [hi]
  · rw [if_neg hc, if_neg (fun x => hc (hp.1 x)), hd]
    simp [hi]
def refBits : Nat → Nat → Nat
  | 0, c => c
  | n + 1, c => refBit (refBits n c)
theorem refBits_lt {n r : Nat} (h : r < 4294967296) : refBits n r < 4294967296 := by
  cases n with
  | zero => exact h
  | succ n => exact refBit_lt
theorem trn_refBits {n r : Nat} (h : r < 4294967296) : trn 32 (refBits n r) = crcBits n (trn 32 r) := by
  induction n with
  | zero => rfl
  | succ n ih => simp only [refBits, crcBits]; rw [trn_refBit (refBits_lt h), ih]
theorem trn_xor (a b : Nat) : trn 32 (a ^^^ b) = trn 32 a ^^^ trn 32 b := by
  apply eq_of_bits32 (trn32_lt _) (xor_lt32 (trn32_lt _) (trn32_lt _))
  intro i hi
  rw [Nat.testBit_xor, trn_bit, trn_bit, trn_bit, Nat.testBit_xor]
  simp [hi]
theorem trn_trn8 {b : Nat} (h : b < 256) : trn 32 (trn 8 b * 16777216) = b := by
  apply eq_of_bits32 (trn32_lt _) (by omega)
  intro i hi
  rw [trn_bit, show trn 8 b * 16777216 = 2 ^ 24 * trn 8 b by omega, Nat.testBit_two_pow_mul, trn_bit]
  by_cases h8 : i < 8
  · have a1 : 24 ≤ 32 - 1 - i := by omega
    have a2 : 32 - 1 - i - 24 < 8 := by omega
    have a3 : 8 - 1 - (32 - 1 - i - 24) = i := by omega
    simp [hi, a1, a2, a3]
  · have a1 : ¬ 24 ≤ 32 - 1 - i := by omega
    have p : 2 ^ 8 ≤ 2 ^ i := Nat.pow_le_pow_right (by decide) (by omega)
    have e : b.testBit i = false := Nat.testBit_lt_two_pow (by omega)
    simp [a1, e]
def refByte (r : Nat) (b : UInt8) : Nat := refBits 8 (r ^^^ (trn 8 b.toNat * 16777216))
def refOf (l : List UInt8) : Nat := l.foldl refByte 4294967295
theorem trn8_lt (v : Nat) : trn 8 v < 256 := by have := trn_lt 8 v; omega
theorem trn8_mul (v : Nat) : trn 8 v * 16777216 < 4294967296 := by have := trn8_lt v; omega
theorem refByte_lt {r : Nat} (h : r < 4294967296) (b : UInt8) : refByte r b < 4294967296 :=
  refBits_lt (xor_lt32 h (trn8_mul _))
theorem refFold_trn (l : List UInt8) : ∀ {r c : Nat}, r < 4294967296 → trn 32 r = c → trn 32 (l.foldl refByte r) = l.foldl crcByte c := by
  induction l with
  | nil => intro r c _ e; exact e
  | cons b l ih =>
    intro r c h e
    refine ih (refByte_lt h b) ?_
    unfold refByte crcByte
    rw [trn_refBits (xor_lt32 h (trn8_mul _)), trn_xor, e, trn_trn8 (byte_lt b)]
theorem refFold_lt (l : List UInt8) : ∀ {r : Nat}, r < 4294967296 → l.foldl refByte r < 4294967296 := by
  induction l with
  | nil => intro c h; exact h
  | cons b l ih => intro c h; exact ih (refByte_lt h b)
theorem refOf_lt (l : List UInt8) : refOf l < 4294967296 := refFold_lt l (by decide)
theorem refOf_snoc (l : List UInt8) (b : UInt8) : refOf (l ++ [b]) = refByte (refOf l) b := by
  simp [refOf, List.foldl_append]
theorem trn_ones : trn 32 4294967295 = 4294967295 := by decide
/-- the division and the shifting say one number -/
theorem refOf_sum (l : List UInt8) : 4294967295 - trn 32 (refOf l) = sumOf l := by
  unfold sumOf crcOf refOf
  rw [refFold_trn l (by decide) trn_ones]

/-! the checksum is linear, and one to one -/
end Go.Proofs.YtjkhbjgfoopomaaGreat
