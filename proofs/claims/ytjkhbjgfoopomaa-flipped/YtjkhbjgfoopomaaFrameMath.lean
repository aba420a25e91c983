/-
  Plain: frames and what they say: there and back; a frame with a byte turned is none.
-/
import Derived.Test.YtjkhbjgfoopomaaDecMath
namespace Go.Proofs.Ytjkhbjgfoopomaa

theorem fold_split (l : List UInt8) : ∀ v, l.foldl (fun v b => v * 256 + b.toNat) v = v * 256 ^ l.length + val l := by
  induction l with
  | nil => intro v; simp [val]
  | cons b r ih =>
    intro v
    have e : val (b :: r) = b.toNat * 256 ^ r.length + val r := by
      have := ih (0 * 256 + b.toNat)
      simpa [val] using this
    simp only [List.foldl_cons, List.length_cons]
    rw [ih, e, Nat.pow_succ, Nat.add_mul, Nat.mul_assoc, Nat.mul_comm 256]
    omega
theorem be_val : ∀ (l : List UInt8), be l.length (val l) = l := by
  intro l
  have key : ∀ (n : Nat) (l : List UInt8), l.length = n → ∀ v, be n (l.foldl (fun v b => v * 256 + b.toNat) v) = l := by
    intro n
    induction n with
    | zero => intro l hl v; cases l with
      | nil => rfl
      | cons b r => simp at hl
    | succ n ih =>
      intro l hl v
      cases l with
      | nil => simp at hl
      | cons b r =>
        have hr : r.length = n := by simpa using hl
        simp only [List.foldl_cons, be]
        rw [ih r hr]
        congr 1
        have hb := b.toNat_lt
        have e := fold_split r (v * 256 + b.toNat)
        rw [e, hr]
        have hv := val_lt r
        rw [hr] at hv
        have hp : 0 < 256 ^ n := Nat.pow_pos (by decide)
        have e2 : ((v * 256 + b.toNat) * 256 ^ n + val r) / 256 ^ n = v * 256 + b.toNat := by
          rw [Nat.mul_comm, Nat.mul_add_div hp, Nat.div_eq_of_lt hv, Nat.add_zero]
        rw [e2, show (v * 256 + b.toNat) % 256 = b.toNat by omega]
        exact UInt8.ofNat_toNat
  exact key l.length l rfl 0
theorem val_be_mod (n v : Nat) : val (be n v) = v % 256 ^ n := by
  induction n with
  | zero => simp [be, val, Nat.mod_one]
  | succ n ih =>
    have e : val (be (n + 1) v) = (v / 256 ^ n % 256) * 256 ^ n + val (be n v) := by
      have := fold_split (be n v) (v / 256 ^ n % 256)
      rw [be_length] at this
      simp only [be, val, List.foldl_cons] at this ⊢
      rw [show 0 * 256 + (UInt8.ofNat (v / 256 ^ n % 256)).toNat = v / 256 ^ n % 256 by simp [UInt8.toNat_ofNat']]
      exact this
    rw [e, ih, Nat.pow_succ, Nat.mod_mul, Nat.mul_comm, Nat.add_comm]
theorem val_be {n v : Nat} (h : v < 256 ^ n) : val (be n v) = v := by rw [val_be_mod, Nat.mod_eq_of_lt h]
theorem be4_list (v : Nat) : ∃ a b c d, be 4 v = [a, b, c, d] := ⟨_, _, _, _, rfl⟩
theorem be2_list (v : Nat) : ∃ a b, be 2 v = [a, b] := ⟨_, _, rfl⟩
theorem ofNat_toNat8 {n : Nat} (h : n < 256) : (UInt8.ofNat n).toNat = n := by simp [UInt8.toNat_ofNat']; omega

/-- what a text of 22 bytes or more says -/
theorem say_list (b0 b1 b2 b3 b4 b5 b6 b7 b8 b9 b10 b11 b12 b13 b14 b15 b16 b17 : UInt8) (r : List UInt8) (hr : 4 ≤ r.length) (l : List UInt8)
    (hl : l = b0 :: b1 :: b2 :: b3 :: b4 :: b5 :: b6 :: b7 :: b8 :: b9 :: b10 :: b11 :: b12 :: b13 :: b14 :: b15 :: b16 :: b17 :: r) :
    l.length = r.length + 18 ∧ at8 l 0 = b0.toNat ∧ at8 l 17 = b17.toNat ∧
    sayOf l = ⟨b1.toNat, b2.toNat, b3.toNat, val [b4, b5, b6, b7], b8.toNat, val [b9, b10], val [b11, b12], val [b13, b14, b15, b16], r.take (r.length - 4)⟩ ∧
    cut l (l.length - 4) l.length = r.drop (r.length - 4) ∧
    cut l 0 (l.length - 4) = b0 :: b1 :: b2 :: b3 :: b4 :: b5 :: b6 :: b7 :: b8 :: b9 :: b10 :: b11 :: b12 :: b13 :: b14 :: b15 :: b16 :: b17 :: r.take (r.length - 4) := by
  have hlen : l.length = r.length + 18 := by rw [hl]; simp
  refine ⟨hlen, by rw [hl]; rfl, by rw [hl]; rfl, ?_, ?_, ?_⟩
  · unfold sayOf
    have e : cut l 18 (l.length - 4) = r.take (r.length - 4) := by
      unfold cut
      rw [hlen, show r.length + 18 - 4 - 18 = r.length - 4 by omega, hl]
      rfl
    rw [e, hl]
    rfl
  · unfold cut
    rw [hlen, show r.length + 18 - (r.length + 18 - 4) = 4 by omega, show r.length + 18 - 4 = (r.length - 4) + 18 by omega, hl]
    have e : List.drop (r.length - 4 + 18) (b0 :: b1 :: b2 :: b3 :: b4 :: b5 :: b6 :: b7 :: b8 :: b9 :: b10 :: b11 :: b12 :: b13 :: b14 :: b15 :: b16 :: b17 :: r) = List.drop (r.length - 4) r := rfl
    rw [e]
    apply List.take_of_length_le
    simp
    omega
  · unfold cut
    rw [hlen, show r.length + 18 - 4 - 0 = (r.length - 4) + 18 by omega, hl]
    rfl
theorem cons_of {l : List UInt8} {n : Nat} (h : n + 1 ≤ l.length) : ∃ b r, l = b :: r ∧ n ≤ r.length := by
  cases l with
  | nil => simp at h
  | cons b r => exact ⟨b, r, rfl, by simpa using h⟩
theorem list18 {l : List UInt8} (h : 22 ≤ l.length) : ∃ b0 b1 b2 b3 b4 b5 b6 b7 b8 b9 b10 b11 b12 b13 b14 b15 b16 b17 r, 4 ≤ List.length r ∧ l = b0 :: b1 :: b2 :: b3 :: b4 :: b5 :: b6 :: b7 :: b8 :: b9 :: b10 :: b11 :: b12 :: b13 :: b14 :: b15 :: b16 :: b17 :: r := by
  obtain ⟨b0, r0, e0, h0⟩ := cons_of (n := 21) h
  obtain ⟨b1, r1, e1, h1⟩ := cons_of (n := 20) h0
  obtain ⟨b2, r2, e2, h2⟩ := cons_of (n := 19) h1
  obtain ⟨b3, r3, e3, h3⟩ := cons_of (n := 18) h2
  obtain ⟨b4, r4, e4, h4⟩ := cons_of (n := 17) h3
  obtain ⟨b5, r5, e5, h5⟩ := cons_of (n := 16) h4
  obtain ⟨b6, r6, e6, h6⟩ := cons_of (n := 15) h5
  obtain ⟨b7, r7, e7, h7⟩ := cons_of (n := 14) h6
  obtain ⟨b8, r8, e8, h8⟩ := cons_of (n := 13) h7
  obtain ⟨b9, r9, e9, h9⟩ := cons_of (n := 12) h8
  obtain ⟨b10, r10, e10, h10⟩ := cons_of (n := 11) h9
  obtain ⟨b11, r11, e11, h11⟩ := cons_of (n := 10) h10
  obtain ⟨b12, r12, e12, h12⟩ := cons_of (n := 9) h11
  obtain ⟨b13, r13, e13, h13⟩ := cons_of (n := 8) h12
  obtain ⟨b14, r14, e14, h14⟩ := cons_of (n := 7) h13
  obtain ⟨b15, r15, e15, h15⟩ := cons_of (n := 6) h14
  obtain ⟨b16, r16, e16, h16⟩ := cons_of (n := 5) h15
  obtain ⟨b17, r17, e17, h17⟩ := cons_of (n := 4) h16
  subst e17 e16 e15 e14 e13 e12 e11 e10 e9 e8 e7 e6 e5 e4 e3 e2 e1 e0
  exact ⟨_, _, _, _, _, _, _, _, _, _, _, _, _, _, _, _, _, _, r17, h17, rfl⟩
theorem frame_list (x : Msg) : ∃ i0 i1 i2 i3 p0 p1 g0 g1 a0 a1 a2 a3, be 4 x.i = [i0, i1, i2, i3] ∧ be 2 x.p = [p0, p1] ∧ be 2 x.g = [g0, g1] ∧ be 4 x.a = [a0, a1, a2, a3] ∧
    frameOf x = 69 :: UInt8.ofNat x.k :: UInt8.ofNat x.f :: UInt8.ofNat x.t :: i0 :: i1 :: i2 :: i3 :: UInt8.ofNat x.l :: p0 :: p1 :: g0 :: g1 :: a0 :: a1 :: a2 :: a3 :: UInt8.ofNat x.m.length :: (x.m ++ be 4 (sumOf (bodyOf x))) ∧
    bodyOf x = 69 :: UInt8.ofNat x.k :: UInt8.ofNat x.f :: UInt8.ofNat x.t :: i0 :: i1 :: i2 :: i3 :: UInt8.ofNat x.l :: p0 :: p1 :: g0 :: g1 :: a0 :: a1 :: a2 :: a3 :: UInt8.ofNat x.m.length :: x.m :=
  ⟨_, _, _, _, _, _, _, _, _, _, _, _, rfl, rfl, rfl, rfl, rfl, rfl⟩
/-- what is encoded is decoded as itself -/
theorem dec_frame {x : Msg} (hx : x.ok) (h0 : faultOf x = 0) (h64 : x.m.length ≤ 64) : decErr (frameOf x) = 0 ∧ decMsg (frameOf x) = x ∧ (frameOf x).length = 22 + x.m.length ∧ at8 (frameOf x) 0 = 69 ∧ at8 (frameOf x) 17 = x.m.length ∧
    cut (frameOf x) ((frameOf x).length - 4) (frameOf x).length = be 4 (sumOf (bodyOf x)) ∧ cut (frameOf x) 0 ((frameOf x).length - 4) = bodyOf x := by
  obtain ⟨hk, hf, ht, hi, hl, hp, hg, ha⟩ := hx
  obtain ⟨i0, i1, i2, i3, p0, p1, g0, g1, a0, a1, a2, a3, ei, ep, eg, ea, ef, eb⟩ := frame_list x
  have hbl : (be 4 (sumOf (bodyOf x))).length = 4 := be_length 4 _
  obtain ⟨q1, q2, q3, q4, q5, q6⟩ := say_list _ _ _ _ _ _ _ _ _ _ _ _ _ _ _ _ _ _ (x.m ++ be 4 (sumOf (bodyOf x))) (by simp [hbl]) (frameOf x) ef
  have hrl : (x.m ++ be 4 (sumOf (bodyOf x))).length - 4 = x.m.length := by simp [hbl]
  rw [hrl] at q4 q5 q6
  rw [List.take_left, ← eb] at q6
  rw [List.take_left] at q4
  rw [List.drop_left] at q5
  have hlen : (frameOf x).length = 22 + x.m.length := by rw [q1]; simp [hbl]; omega
  have e17 : at8 (frameOf x) 17 = x.m.length := by rw [q3, ofNat_toNat8 (by omega)]
  have hs := sumOf_lt (bodyOf x)
  have hsay : sayOf (frameOf x) = x := by
    rw [q4, ← ei, ← ep, ← eg, ← ea, val_be (by omega), val_be (by omega), val_be (by omega), val_be (by omega), ofNat_toNat8 hk, ofNat_toNat8 hf, ofNat_toNat8 ht, ofNat_toNat8 hl]
  have hform : formB (frameOf x) = true := by
    simp only [formB, e17, q2, hlen]
    simp
  have hseal : sealB (frameOf x) = true := by
    simp only [sealB, q5, q6]
    rw [val_be (by omega)]
    simp
  have herr : decErr (frameOf x) = 0 := by simp [decErr, hform, hseal, hsay, h0]
  exact ⟨herr, by simp [decMsg, herr, hsay], hlen, by rw [q2]; rfl, e17, q5, q6⟩
/-- what is decoded encodes as the same bytes -/
theorem enc_say {l : List UInt8} (h : decErr l = 0) : encOf (sayOf l) = l ∧ faultOf (sayOf l) = 0 ∧ decMsg l = sayOf l := by
  have hform : formB l = true := by
    cases hf : formB l with
    | true => rfl
    | false => simp [decErr, hf] at h
  have hseal : sealB l = true := by
    cases hf : sealB l with
    | true => rfl
    | false => simp [decErr, hform, hf] at h
  have hfault : faultOf (sayOf l) = 0 := by simpa [decErr, hform, hseal] using h
  refine ⟨?_, hfault, by simp [decMsg, h]⟩
  simp only [formB, Bool.and_eq_true, decide_eq_true_eq] at hform
  obtain ⟨⟨h22, h0⟩, h17⟩ := hform
  obtain ⟨b0, b1, b2, b3, b4, b5, b6, b7, b8, b9, b10, b11, b12, b13, b14, b15, b16, b17, r, hr, hl⟩ := list18 h22
  obtain ⟨q1, q2, q3, q4, q5, q6⟩ := say_list _ _ _ _ _ _ _ _ _ _ _ _ _ _ _ _ _ _ r hr l hl
  simp only [sealB, decide_eq_true_eq] at hseal
  rw [q5, q6] at hseal
  have hb0 : b0 = 69 := UInt8.toNat_inj.1 (by rw [← q2, h0]; rfl)
  have hml : (r.take (r.length - 4)).length = b17.toNat := by
    rw [List.length_take]
    omega
  have n4 : ∀ a b c d : UInt8, be 4 (val [a, b, c, d]) = [a, b, c, d] := fun a b c d => be_val [a, b, c, d]
  have n2 : ∀ a b : UInt8, be 2 (val [a, b]) = [a, b] := fun a b => be_val [a, b]
  have hbody : bodyOf (sayOf l) = b0 :: b1 :: b2 :: b3 :: b4 :: b5 :: b6 :: b7 :: b8 :: b9 :: b10 :: b11 :: b12 :: b13 :: b14 :: b15 :: b16 :: b17 :: r.take (r.length - 4) := by
    rw [q4]
    unfold bodyOf
    simp only [n4, n2, hml, UInt8.ofNat_toNat, List.cons_append, List.nil_append, hb0]
  have hframe : frameOf (sayOf l) = l := by
    unfold frameOf
    rw [hbody, ← hseal]
    have e4 : be 4 (val (r.drop (r.length - 4))) = r.drop (r.length - 4) := by
      have := be_val (r.drop (r.length - 4))
      rwa [show (r.drop (r.length - 4)).length = 4 by rw [List.length_drop]; omega] at this
    rw [e4, hl]
    simp only [List.cons_append, List.take_append_drop]
  unfold encOf
  rw [if_pos hfault, hframe]
/-- a byte turned, anywhere -/
theorem dec_flip {x : Msg} (hx : x.ok) (h0 : faultOf x = 0) (h64 : x.m.length ≤ 64) {i : Nat} {v u : UInt8} (hi : i < (frameOf x).length) (hu : (frameOf x)[i]? = some u) (hv : u ≠ v) : decErr ((frameOf x).set i v) ≠ 0 := by
  intro h
  obtain ⟨_, _, hlen, _, _, e1, e2⟩ := dec_frame hx h0 h64
  have hseal : sealB ((frameOf x).set i v) = true := by
    cases hf : sealB ((frameOf x).set i v) with
    | true => rfl
    | false =>
      cases hg : formB ((frameOf x).set i v) with
      | true => simp [decErr, hf, hg] at h
      | false => simp [decErr, hg] at h
  simp only [sealB, decide_eq_true_eq, List.length_set] at hseal
  have hbl : (be 4 (sumOf (bodyOf x))).length = 4 := be_length 4 _
  have hfx : frameOf x = bodyOf x ++ be 4 (sumOf (bodyOf x)) := rfl
  have hb := bodyOf_length x
  have hs := sumOf_lt (bodyOf x)
  by_cases hib : i < (bodyOf x).length
  · have hset : (frameOf x).set i v = (bodyOf x).set i v ++ be 4 (sumOf (bodyOf x)) := by rw [hfx, List.set_append_left _ _ hib]
    have c1 : cut ((frameOf x).set i v) ((frameOf x).length - 4) (frameOf x).length = be 4 (sumOf (bodyOf x)) := by
      unfold cut
      rw [hset, hlen, show 22 + x.m.length - 4 = ((bodyOf x).set i v).length by rw [List.length_set, hb]; omega, List.drop_left, List.take_of_length_le (by rw [hbl, List.length_set, hb]; omega)]
    have c2 : cut ((frameOf x).set i v) 0 ((frameOf x).length - 4) = (bodyOf x).set i v := by
      unfold cut
      rw [hset, List.drop_zero, hlen, show 22 + x.m.length - 4 - 0 = ((bodyOf x).set i v).length by rw [List.length_set, hb]; omega, List.take_left]
    rw [c1, c2, val_be (by omega)] at hseal
    have hui : (bodyOf x)[i]? = some u := by
      rw [hfx, List.getElem?_append_left hib] at hu
      exact hu
    have hsplit : bodyOf x = (bodyOf x).take i ++ u :: (bodyOf x).drop (i + 1) := by
      have hget : (bodyOf x)[i] = u := by
        rw [List.getElem?_eq_getElem hib] at hui
        exact Option.some.inj hui
      rw [← hget, List.getElem_cons_drop, List.take_append_drop]
    have hset2 : (bodyOf x).set i v = (bodyOf x).take i ++ v :: (bodyOf x).drop (i + 1) := by rw [List.set_eq_take_append_cons_drop, if_pos hib]
    rw [hset2] at hseal
    have hne := sum_flip ((bodyOf x).take i) ((bodyOf x).drop (i + 1)) hv
    rw [← hsplit] at hne
    exact hne hseal
  · have hset : (frameOf x).set i v = bodyOf x ++ (be 4 (sumOf (bodyOf x))).set (i - (bodyOf x).length) v := by rw [hfx, List.set_append_right _ _ (by omega)]
    have hl4 : ((be 4 (sumOf (bodyOf x))).set (i - (bodyOf x).length) v).length = 4 := by rw [List.length_set, hbl]
    have c1 : cut ((frameOf x).set i v) ((frameOf x).length - 4) (frameOf x).length = (be 4 (sumOf (bodyOf x))).set (i - (bodyOf x).length) v := by
      unfold cut
      rw [hset, hlen, show 22 + x.m.length - 4 = (bodyOf x).length by rw [hb]; omega, List.drop_left, List.take_of_length_le (by rw [hl4, hb]; omega)]
    have c2 : cut ((frameOf x).set i v) 0 ((frameOf x).length - 4) = bodyOf x := by
      unfold cut
      rw [hset, List.drop_zero, hlen, show 22 + x.m.length - 4 - 0 = (bodyOf x).length by rw [hb]; omega, List.take_left]
    rw [c1, c2] at hseal
    have e3 := be_val ((be 4 (sumOf (bodyOf x))).set (i - (bodyOf x).length) v)
    rw [hl4, hseal] at e3
    have hui : (be 4 (sumOf (bodyOf x)))[i - (bodyOf x).length]? = some u := by
      rw [hfx, List.getElem?_append_right (by omega)] at hu
      exact hu
    have hvi : ((be 4 (sumOf (bodyOf x))).set (i - (bodyOf x).length) v)[i - (bodyOf x).length]? = some v := by
      rw [List.getElem?_set_self (by rw [hbl]; omega)]
    rw [← e3, hui] at hvi
    exact hv (Option.some.inj hvi)
/-- a byte too few, a byte too many -/
theorem dec_short {x : Msg} (hx : x.ok) (h0 : faultOf x = 0) (h64 : x.m.length ≤ 64) : decErr (cut (frameOf x) 0 ((frameOf x).length - 1)) = 1 := by
  obtain ⟨_, _, hlen, _, e17, _, _⟩ := dec_frame hx h0 h64
  have hl : (cut (frameOf x) 0 ((frameOf x).length - 1)).length = 21 + x.m.length := by rw [cut_length (by omega), hlen]; omega
  have hf : formB (cut (frameOf x) 0 ((frameOf x).length - 1)) = false := by
    by_cases hm : x.m.length = 0
    · simp only [formB, hl, hm]
      simp
    · have e : at8 (cut (frameOf x) 0 ((frameOf x).length - 1)) 17 = x.m.length := by
        rw [← e17]
        unfold at8 cut
        rw [List.drop_zero, List.getD_eq_getElem?_getD, List.getD_eq_getElem?_getD, List.getElem?_take_of_lt (by omega)]
      simp only [formB, hl, e]
      simp
  simp [decErr, hf]
theorem dec_long {x : Msg} (hx : x.ok) (h0 : faultOf x = 0) (h64 : x.m.length ≤ 64) (v : UInt8) : decErr (frameOf x ++ [v]) = 1 := by
  obtain ⟨_, _, hlen, _, e17, _, _⟩ := dec_frame hx h0 h64
  have e : at8 (frameOf x ++ [v]) 17 = x.m.length := by
    rw [← e17]
    unfold at8
    rw [List.getD_eq_getElem?_getD, List.getD_eq_getElem?_getD, List.getElem?_append_left (by omega)]
  have hf : formB (frameOf x ++ [v]) = false := by
    simp only [formB, e, List.length_append, hlen, List.length_singleton]
    simp
  simp [decErr, hf]
end Go.Proofs.Ytjkhbjgfoopomaa
