import Derived.Test.YtjkhbjgfoopomabGreatA35
namespace Go.Proofs.YtjkhbjgfoopomabGreat
set_option linter.unusedVariables false
set_option linter.unusedSimpArgs false
def noteGo (pre : List Dt) : List Dt → List UInt8
 | [] => []
 | x :: r => actText pre x ++ noteGo (pre ++ [x]) r
def noteTexts (A : List Dt) : List UInt8 := noteGo [] A
theorem noteGo_snoc (x : Dt) : ∀ (l pre : List Dt), noteGo pre (l ++ [x]) = noteGo pre l ++ actText (pre ++ l) x
 | [], pre => by simp [noteGo]
 | y :: r, pre => by
  simp only [List.cons_append, noteGo];rw [noteGo_snoc x r (pre ++ [y])];simp only [List.append_assoc, List.cons_append, List.nil_append]
theorem noteTexts_snoc (A : List Dt) (x : Dt) : noteTexts (A ++ [x]) = noteTexts A ++ actText A x := by
 unfold noteTexts
 rw [noteGo_snoc]
 rfl
def ActIs (pre : List Dt) (x : Dt) : Prop :=
 (x = tickAct ∧ clockOf pre < 1000000) ∨ (∃ p, x = ⟨-1, p, zeroMsg⟩ ∧ p.ok ∧ subIs p pre) ∨ (∃ m, x = msgAct m ∧ Fair m ∧ m.t = 0 ∧ tErr (encOf m) pre = 0)
def DHist (A : List Dt) : Prop := ∀ pre x suf, A = pre ++ x :: suf → ActIs pre x
theorem DHist.nil : DHist [] := fun pre x suf h => by simp at h
theorem DHist.snoc {A : List Dt} {x : Dt} (h : DHist A) (he : ActIs A x) : DHist (A ++ [x]) := by
 intro pre y suf hx
 rcases List.eq_nil_or_concat suf with rfl | ⟨s, z, rfl⟩
 ·have := List.append_inj' hx rfl;obtain ⟨rfl, h2⟩ := this;injection h2 with h2
  subst h2;exact he
 ·have h1 : pre ++ y :: (s ++ [z]) = (pre ++ y :: s) ++ [z] := by simp
  rw [List.concat_eq_append, h1] at hx;have := List.append_inj' hx rfl;exact h _ _ _ this.1
theorem DHist.left {A F : List Dt} (h : DHist (A ++ F)) : DHist A := fun pre e suf hx => h pre e (suf ++ F) (by rw [hx]; simp)
def subSize (l : List UInt8) : Nat := if l.length < 15 then 15 else 15 + at8 l 13 * 9 + at8 l 14
def tsizeD (l : List UInt8) : Nat := if l = [] then 0 else if at8 l 0 = 84 then 1 else if at8 l 0 = 83 then subSize l else if at8 l 0 = 69 then frSize l else 0
def plOf (r : List UInt8) : Pl := ⟨at8 r 0, val (cut r 1 3), val (cut r 3 5), val (cut r 5 9)⟩
def plsOf (r : List UInt8) (n : Nat) : List Pl := (List.range n).map fun i => plOf (r.drop (9 * i))
def payOf (t : List UInt8) : Pm := ⟨val (cut t 1 5), val (cut t 5 13), t.drop (15 + 9 * at8 t 13), plsOf (t.drop 15) (at8 t 13), none, 0⟩
def redoD (t : List UInt8) (A : List Dt) : Option (List Dt) :=
 if t = [84] then (if clockOf A < 1000000 then some (A ++ [tickAct]) else none)
 else if at8 t 0 = 83 then (if subErr (payOf t) A = 0 ∧ subLog (payOf t) A = t then some (subActs (payOf t) (payOf t) A) else none)
 else if tErr t A = 0 ∧ tLog t A = t then some (tActs t A) else none
def replayD : Nat → List UInt8 → List Dt → Option (List Dt)
 | 0, _, A => some A
 | f + 1, l, A => if l = [] then some A else if tsizeD l = 0 then none else if l.length < tsizeD l then some A else
  match redoD (l.take (tsizeD l)) A with
  | none => none
  | some A' => replayD f (l.drop (tsizeD l)) A'
theorem replayD_more : ∀ (f : Nat) (l : List UInt8) (A : List Dt), l.length ≤ f → replayD f l A = replayD l.length l A := by
 intro f
 induction f using Nat.strongRecOn with
 | ind f ih =>
  intro l E hl;cases f with
  | zero =>
   have : l.length = 0 := by omega
   rw [this]
  | succ f =>
   by_cases h0 : l = []
   ·subst h0; rfl
   ·obtain ⟨n, hn⟩ : ∃ n, l.length = n + 1 := ⟨l.length - 1, by have : l.length ≠ 0 := fun e => h0 (List.length_eq_zero_iff.1 e); omega⟩;rw [hn];simp only [replayD];rw [if_neg h0, if_neg h0];by_cases h1 : tsizeD l = 0
    ·rw [if_pos h1, if_pos h1]
    ·rw [if_neg h1, if_neg h1];by_cases h2 : l.length < tsizeD l
     ·rw [if_pos h2, if_pos h2]
     ·rw [if_neg h2, if_neg h2];cases redoD (l.take (tsizeD l)) E with
      | none => rfl
      | some E' =>
       have hd : (l.drop (tsizeD l)).length = l.length - tsizeD l := List.length_drop;show replayD f _ E' = replayD n _ E';rw [ih f (by omega) _ _ (by omega)];by_cases hfn : n = f
       ·subst hfn;rw [ih n (by omega) _ _ (by omega)]
       ·rw [ih n (by omega) _ _ (by omega)]
def restD (l : List UInt8) : Option (List Dt) := replayD l.length l []
theorem drop_flat9 (l : List Pl) (r : List UInt8) : ∀ i, i ≤ l.length → (l.flatMap legTextOf ++ r).drop (9 * i) = (l.drop i).flatMap legTextOf ++ r := by
 intro i
 induction i generalizing l with
 | zero => intro _; simp
 | succ i ih =>
  intro hi;cases l with
  | nil => simp at hi
  | cons x l =>
   have e : 9 * (i + 1) = (legTextOf x).length + 9 * i := by rw [legText_length]; omega
   rw [List.flatMap_cons, List.append_assoc, e, List.drop_length_add_append, ih l (by simpa using hi), List.drop_succ_cons]
theorem plOf_text (x : Pl) (hx : x.ok) (r : List UInt8) : plOf (legTextOf x ++ r) = x := by
 obtain ⟨b, p, g, a⟩ := x
 obtain ⟨h1, h2, h3, h4⟩ := hx
 simp only at h1 h2 h3 h4
 obtain ⟨p0, p1, ep⟩ := be2_list p
 obtain ⟨g0, g1, eg⟩ := be2_list g
 obtain ⟨a0, a1, a2, a3, ea⟩ := be4_list a
 have vp := val_be (n := 2) (v := p) (by omega)
 have vg := val_be (n := 2) (v := g) (by omega)
 have va := val_be (n := 4) (v := a) (by omega)
 rw [ep] at vp
 rw [eg] at vg
 rw [ea] at va
 unfold plOf legTextOf cut at8
 simp only [ep, eg, ea, List.cons_append, List.nil_append, List.append_assoc, List.getD_cons_zero, List.drop_succ_cons, List.drop_zero, Nat.reduceSub, List.take_succ_cons, List.take_zero]
 rw [vp, vg, va, ofNat_toNat8 h1]
theorem plsOf_text (l : List Pl) (hl : ∀ x, x ∈ l → x.ok) (r : List UInt8) : plsOf (l.flatMap legTextOf ++ r) l.length = l := by
 unfold plsOf
 apply List.ext_getElem
 ·simp
 ·intro i h1 h2;rw [List.getElem_map, List.getElem_range, drop_flat9 l r i (by omega)];have e : l.drop i = l[i] :: l.drop (i + 1) := List.drop_eq_getElem_cons h2;rw [e, List.flatMap_cons, List.append_assoc];exact plOf_text _ (hl _ (List.getElem_mem h2)) _
theorem be8_list (v : Nat) : ∃ a b c d e f g h, be 8 v = [a, b, c, d, e, f, g, h] := ⟨_, _, _, _, _, _, _, _, rfl⟩
theorem subText_parts (p : Pm) (hp : p.ok) (hm : p.memo.length ≤ 64) (h4 : p.legs.length ≤ 4) (r : List UInt8) :
  (subTextOf p).length = 15 + 9 * p.legs.length + p.memo.length ∧ at8 (subTextOf p ++ r) 0 = 83 ∧ at8 (subTextOf p ++ r) 13 = p.legs.length ∧ at8 (subTextOf p ++ r) 14 = p.memo.length := by
 obtain ⟨i0, i1, i2, i3, ei⟩ := be4_list p.id
 obtain ⟨d0, d1, d2, d3, d4, d5, d6, d7, ed⟩ := be8_list p.dl
 have l9 := flat9 p.legs
 unfold subTextOf at8
 rw [ei, ed]
 refine ⟨by simp [l9]; omega, rfl, ?_, ?_⟩
 ·simp only [List.cons_append, List.nil_append, List.getD_cons_succ, List.getD_cons_zero];exact ofNat_toNat8 (by omega)
 ·simp only [List.cons_append, List.nil_append, List.getD_cons_succ, List.getD_cons_zero];exact ofNat_toNat8 (by omega)
theorem payOf_text (p : Pm) (hp : p.ok) (hm : p.memo.length ≤ 64) (h4 : p.legs.length ≤ 4) : payOf (subTextOf p) = core p := by
 obtain ⟨_, _, h13, _⟩ := subText_parts p hp hm h4 []
 rw [List.append_nil] at h13
 unfold payOf
 rw [h13]
 obtain ⟨id, dl, memo, legs, la, lc⟩ := p
 obtain ⟨q1, q2, q3⟩ := hp
 simp only at q1 q2 q3 hm h4
 obtain ⟨i0, i1, i2, i3, ei⟩ := be4_list id
 obtain ⟨d0, d1, d2, d3, d4, d5, d6, d7, ed⟩ := be8_list dl
 have vi := val_be (n := 4) (v := id) (by omega)
 have vd := val_be (n := 8) (v := dl) (by omega)
 rw [ei] at vi
 rw [ed] at vd
 have hd15 : (subTextOf ⟨id, dl, memo, legs, la, lc⟩).drop 15 = legs.flatMap legTextOf ++ memo := by
  unfold subTextOf;simp only [ei, ed, List.cons_append, List.nil_append, List.drop_succ_cons, List.drop_zero]
 have hdm : (subTextOf ⟨id, dl, memo, legs, la, lc⟩).drop (15 + 9 * legs.length) = memo := by
  rw [← List.drop_drop, hd15, drop_flat9 legs memo _ (Nat.le_refl _), List.drop_length];rfl
 have c1 : cut (subTextOf ⟨id, dl, memo, legs, la, lc⟩) 1 5 = [i0, i1, i2, i3] := by
  unfold subTextOf cut;simp only [ei, ed, List.cons_append, List.nil_append, List.drop_succ_cons, List.drop_zero, Nat.reduceSub, List.take_succ_cons, List.take_zero]
 have c2 : cut (subTextOf ⟨id, dl, memo, legs, la, lc⟩) 5 13 = [d0, d1, d2, d3, d4, d5, d6, d7] := by
  unfold subTextOf cut;simp only [ei, ed, List.cons_append, List.nil_append, List.drop_succ_cons, List.drop_zero, Nat.reduceSub, List.take_succ_cons, List.take_zero]
 simp only
 rw [hdm, hd15, plsOf_text legs q3, c1, c2, vi, vd]
 rfl
theorem actText_tick (A : List Dt) : actText A tickAct = [84] := rfl
theorem actText_sub (A : List Dt) (p : Pm) : actText A ⟨-1, p, zeroMsg⟩ = subTextOf p := rfl
theorem act_frame {A : List Dt} {m : Msg} (hk : m.k = 4 ∨ m.k = 5 ∨ m.k = 6) : actText A (msgAct m) = [] ∨ actText A (msgAct m) = frameOf m := by
 unfold actText msgAct
 have h1 : ¬ ((m.k : Int) = 0) := by omega
 have h2 : ¬ ((m.k : Int) = -1) := by omega
 simp only [if_neg h1, if_neg h2]
 split
 ·exact .inl rfl
 ·exact .inr rfl
theorem act_size {pre : List Dt} {x : Dt} (h : ActIs pre x) (hn : actText pre x ≠ []) (r : List UInt8) : tsizeD (actText pre x ++ r) = (actText pre x).length := by
 have hne : ∀ l : List UInt8, l ≠ [] → l ++ r ≠ [] := fun l hl e => hl (List.append_eq_nil_iff.1 e).1
 rcases h with ⟨rfl, _⟩ | ⟨p, rfl, hp, hs⟩ | ⟨m, rfl, hm, ht, h0⟩
 ·rw [actText_tick];unfold tsizeD;rw [if_neg (hne _ (by simp)), if_pos (by rfl)];rfl
 ·rw [actText_sub];obtain ⟨h1, h2, h3, h4⟩ := subText_parts p hp (wrong_memo hs.1) (wrongOf_few hs.1) r;unfold tsizeD subSize;rw [if_neg (hne _ (by simp [subTextOf])), h2, if_neg (by omega), if_pos rfl, if_neg (by rw [List.length_append]; omega), h3, h4, h1];omega
 ·rcases act_frame (A := pre) (fault_notary hm.2 ht).1 with e | e
  ·exact absurd e hn
  ·rw [e];obtain ⟨_, _, h3, h4, h5, _⟩ := dec_frame hm.1 hm.2 (fault_zero_memo hm.2);unfold tsizeD frSize;rw [if_neg (hne _ (fun e => by have := congrArg List.length e; rw [h3] at this; simp at this)), at8_append (by omega), h4, if_neg (by omega), if_neg (by omega), if_pos rfl, if_neg (by rw [List.length_append]; omega), at8_append (by omega), h5, h3]
def CutD (c : List UInt8) : Prop := c = [] ∨ (tsizeD c ≠ 0 ∧ c.length < tsizeD c)
theorem act_cut {pre : List Dt} {x : Dt} (h : ActIs pre x) (n : Nat) (hn : n < (actText pre x).length) : CutD ((actText pre x).take n) := by
 by_cases h0 : n = 0
 ·left; rw [h0]; rfl
 ·right;have hl : ((actText pre x).take n).length = n := by rw [List.length_take]; omega
  have hne : (actText pre x).take n ≠ [] := fun e => by rw [e] at hl; simp at hl; omega
  rcases h with ⟨rfl, _⟩ | ⟨p, rfl, hp, hs⟩ | ⟨m, rfl, hm, ht, h9⟩
  ·rw [actText_tick] at hn;simp at hn;omega
  ·rw [actText_sub] at hl hn hne ⊢;obtain ⟨h1, h2, h3, h4⟩ := subText_parts p hp (wrong_memo hs.1) (wrongOf_few hs.1) [];rw [List.append_nil] at h2 h3 h4;unfold tsizeD subSize;rw [if_neg hne, at8_take (by omega), h2, if_neg (by omega), if_pos rfl, hl];by_cases h15 : n < 15
   ·rw [if_pos h15]; omega
   ·rw [if_neg h15, at8_take (by omega), at8_take (by omega), h3, h4]; omega
  ·rcases act_frame (A := pre) (fault_notary hm.2 ht).1 with e | e
   ·rw [e] at hn; simp at hn
   ·rw [e] at hl hn hne ⊢;obtain ⟨_, _, h3, h4, h5, _⟩ := dec_frame hm.1 hm.2 (fault_zero_memo hm.2);unfold tsizeD frSize;rw [if_neg hne, at8_take (by omega), h4, if_neg (by omega), if_neg (by omega), if_pos rfl, hl];by_cases h17 : n ≤ 17
    ·rw [if_pos h17]; omega
    ·rw [if_neg h17, at8_take (by omega), h5]; omega
theorem redo_act {pre A' : List Dt} {x : Dt} (h : ActIs pre x) (ha : AlikeD pre A') (hn : actText pre x ≠ []) : ∃ B', redoD (actText pre x) A' = some B' ∧ AlikeD (pre ++ [x]) B' := by
 rcases h with ⟨rfl, hc⟩ | ⟨p, rfl, hp, hs⟩ | ⟨m, rfl, hm, ht, h0⟩
 ·refine ⟨A' ++ [tickAct], ?_, ha.tick⟩;unfold redoD;rw [actText_tick, if_pos rfl, ha.clock, if_pos hc]
 ·rw [actText_sub];obtain ⟨h1, h2, h3, h4⟩ := subText_parts p hp (wrong_memo hs.1) (wrongOf_few hs.1) [];rw [List.append_nil] at h2;have hpay := payOf_text p hp (wrong_memo hs.1) (wrongOf_few hs.1);obtain ⟨hs', ha'⟩ := ha.sub hp hs (q := p) (q' := core p) rfl rfl;have hsc : subIs (core p) A' := hs';refine ⟨A' ++ [⟨-1, core p, zeroMsg⟩], ?_, ha'⟩;unfold redoD;rw [if_neg (fun e => by have := congrArg List.length e; rw [h1] at this; simp at this; omega), if_pos h2, hpay, if_pos ⟨subIs_err hsc, by rw [show subLog (core p) A' = _ from if_pos hsc]; rfl⟩];rw [show subActs (core p) (core p) A' = _ from if_pos hsc]
 ·rcases act_frame (A := pre) (fault_notary hm.2 ht).1 with e | e
  ·exact absurd e hn
  ·obtain ⟨b1, b2, b3, _⟩ := ha.take hm ht h0;obtain ⟨d1, d2, _, d4⟩ := hm.enc;obtain ⟨_, _, l3, l4, _⟩ := dec_frame hm.1 hm.2 (fault_zero_memo hm.2);refine ⟨A' ++ [msgAct m], ?_, b3⟩;unfold redoD
   have hx : tLog (encOf m) A' = encOf m := by
    rw [show tLog (encOf m) A' = _ from if_pos b1, d2];have : actText A' (msgAct m) = frameOf m := by rw [b2, e]
    rw [show (⟨(m.k : Int), noPm, m⟩ : Dt) = msgAct m from rfl, this, d4]
   have ht' : tActs (encOf m) A' = A' ++ [msgAct m] := by
    rw [show tActs (encOf m) A' = _ from if_pos b1, d2];rfl
   rw [e, if_neg (fun e => by have := congrArg List.length e; rw [l3] at this; simp at this; omega), if_neg (by omega), ← d4, if_pos ⟨b1, hx⟩, ht']
theorem skip_act {pre A' : List Dt} {x : Dt} (h : ActIs pre x) (ha : AlikeD pre A') (hn : actText pre x = []) : AlikeD (pre ++ [x]) A' := by
 rcases h with ⟨rfl, hc⟩ | ⟨p, rfl, hp, hs⟩ | ⟨m, rfl, hm, ht, h0⟩
 ·rw [actText_tick] at hn; simp at hn
 ·rw [actText_sub] at hn; simp [subTextOf] at hn
 ·exact (ha.take hm ht h0).2.2.2 hn
theorem replay_acts (c : List UInt8) (hc : CutD c) : ∀ (suf pre A' : List Dt), DHist (pre ++ suf) → AlikeD pre A' → ∀ f, (noteGo pre suf ++ c).length ≤ f → ∃ B', replayD f (noteGo pre suf ++ c) A' = some B' ∧ AlikeD (pre ++ suf) B'
 | [], pre, A', h, ha, f, hf => by
  have e : noteGo pre [] ++ c = c := rfl;rw [e] at hf ⊢;rw [List.append_nil];refine ⟨A', ?_, ha⟩;cases f with
  | zero => rfl
  | succ f =>
   simp only [replayD];rcases hc with rfl | ⟨h1, h2⟩
   ·rfl
   ·rw [if_neg (fun e => by rw [e] at h1; exact h1 rfl), if_neg h1, if_pos h2]
 | x :: suf, pre, A', h, ha, f, hf => by
  have hI := h pre x suf rfl;have h' : DHist ((pre ++ [x]) ++ suf) := by simpa using h
  have e1 : noteGo pre (x :: suf) ++ c = actText pre x ++ (noteGo (pre ++ [x]) suf ++ c) := by simp [noteGo]
  have e2 : pre ++ x :: suf = (pre ++ [x]) ++ suf := by simp
  rw [e1] at hf ⊢;rw [e2];by_cases hn : actText pre x = []
  ·rw [hn, List.nil_append] at hf ⊢;exact replay_acts c hc suf (pre ++ [x]) A' h' (skip_act hI ha hn) f hf
  ·have s1 := act_size hI hn (noteGo (pre ++ [x]) suf ++ c);obtain ⟨B', hB, haB⟩ := redo_act hI ha hn
   have hp : 1 ≤ (actText pre x).length := by
    rcases Nat.eq_zero_or_pos (actText pre x).length with h | h
    ·exact absurd (List.length_eq_zero_iff.1 h) hn
    ·exact h
   rw [List.length_append] at hf;cases f with
   | zero => omega
   | succ f =>
    simp only [replayD];rw [if_neg (fun e => hn (List.append_eq_nil_iff.1 e).1), s1, if_neg (by omega), if_neg (by rw [List.length_append]; omega), List.take_left, List.drop_left, hB];exact replay_acts c hc suf (pre ++ [x]) B' h' haB f (by omega)
theorem rest_acts {A : List Dt} (h : DHist A) {c : List UInt8} (hc : CutD c) : ∃ B', restD (noteTexts A ++ c) = some B' ∧ AlikeD A B' := by
 obtain ⟨B', h1, h2⟩ := replay_acts c hc A [] [] h ⟨0, [], DRel.start, DRel.start⟩ _ (Nat.le_refl _)
 exact ⟨B', h1, h2⟩
theorem BHist.hears {node : Nat} {E : List Ev} (h : BHist node E) (F : List UInt8) : BHist node (rEvs node F E) := by
 unfold rEvs
 split
 ·rename_i h0;unfold rErr at h0;split at h0
  ·exact absurd h0 ‹_›
  ·rename_i hd;split at h0
   ·cases h0
   ·rename_i ht;exact h.handle ⟨decMsg_ok F, decMsg_fault F (by omega)⟩ (by omega) h0
 ·exact h
theorem DHist.takes {A : List Dt} (h : DHist A) (F : List UInt8) : DHist (tActs F A) := by
 unfold tActs
 split
 ·rename_i h0
  have hd : decErr F = 0 ∧ (decMsg F).t = 0 := by
   unfold tErr at h0;split at h0
   ·exact absurd h0 ‹_›
   ·split at h0
    ·cases h0
    ·exact ⟨by omega, by omega⟩
  obtain ⟨e1, e2, e3⟩ := enc_say hd.1;refine h.snoc (.inr (.inr ⟨decMsg F, rfl, ⟨decMsg_ok F, decMsg_fault F hd.1⟩, hd.2, ?_⟩));rw [e3, e1];exact h0
 ·exact h
theorem DHist.ticks {A : List Dt} (h : DHist A) : DHist (kActs A) := by
 unfold kActs
 split
 ·exact h
 ·exact h.snoc (.inl ⟨rfl, by omega⟩)
theorem DHist.subs {A : List Dt} (h : DHist A) (p q : Pm) (hq : q.ok) (hs : subIs p A → subIs q A) : DHist (subActs p q A) := by
 unfold subActs
 split
 ·exact h.snoc (.inr (.inl ⟨q, rfl, hq, hs ‹_›⟩))
 ·exact h
end Go.Proofs.YtjkhbjgfoopomabGreat
namespace Go.Proofs.YtjkhbjgfoopomabGreat
open Go.RowKit
set_option linter.unusedVariables false
set_option linter.unusedSimpArgs false
structure House where
 hb : Nat
 xb : Nat
 rb : Nat
 node : Nat
 evs : List Ev
 ac : List Ac
 ls : List Lg
 va : Value
 vl : Value
 v : Value
 lg : List (List UInt8 × Nat)
 vg : Value
def textOf (e : Ev) : List UInt8 := if e.kind = 0 then openTextOf e.msg.p e.msg.a else frameOf e.msg
def logOf (evs : List Ev) : List (List UInt8 × Nat) := evs.mapIdx fun j e => (textOf e, j)
theorem logOf_length (evs : List Ev) : (logOf evs).length = evs.length := by simp [logOf]
theorem logOf_snoc (evs : List Ev) (e : Ev) : logOf (evs ++ [e]) = logOf evs ++ [(textOf e, evs.length)] := by simp [logOf, List.mapIdx_append]
structure LgB (node : Nat) (evs : List Ev) (lg : List (List UInt8 × Nat)) : Prop where
 eq : lg = logOf evs
 hist : BHist node evs
def House.ok (h : House) : Prop := Rel h.evs h.ac h.ls ∧ 1 ≤ h.node ∧ h.node ≤ 7 ∧ LgB h.node h.evs h.lg
structure HouseMem (w : World) (own : Nat → Nat) (o : Nat) (h : House) : Prop where
 blk : w.heap[h.hb]? = some (.cells #[.pointer (some ⟨h.xb, 0, none⟩), .pointer (some ⟨h.rb, 0, none⟩), h.vg] 165 (0, 0))
 hown : own h.hb = o
 x : XB w h.xb h.node h.ac h.ls h.va h.vl
 xap : Apart h.xb h.va h.vl
 xown : ∀ k, xfoot h.xb h.va h.vl k → own k = o + 1
 r : RB w h.rb h.node h.evs h.v
 rap : h.v.ownBlock ≠ some h.rb
 rown : ∀ k, (k = h.rb ∨ h.v.ownBlock = some k) → own k = o + 2
 grow : RowOf w 209 2 logCell h.vg h.lg
 gown : ∀ g, h.vg.ownBlock = some g → own g = o + 3
def ptrCell (h : House) : List Value := [.pointer (some ⟨h.hb, 0, none⟩)]
theorem ptrCell_length (h : House) : (ptrCell h).length = 1 := rfl
def offCls (c : Nat) : Prop := c = 5 ∨ (6 ≤ c ∧ 4 ≤ (c - 6) % 8)
structure Base where
 w : World
 F : Nat → Prop
 lt : ∀ k, F k → k < w.heap.size
 lg : Bool
 vd : Value
 Q : World → (Nat → Nat) → Prop
 loc : ∀ (u u' : World) (own own' : Nat → Nat) (S : Nat → Prop), Q u own → Kept S u u' → (∀ k, k < u.heap.size → S k → ¬ offCls (own k)) → (∀ k, k < u.heap.size → own' k = own k) → Q u' own'
structure BelF (w0 : Base) (w : World) : Prop where
 os : w.os = w0.w.os
 tape : w.tape = w0.w.tape
 output : w.output = w0.w.output
 size : w0.w.heap.size ≤ w.heap.size
 block : ∀ k, w0.F k → w.heap[k]? = w0.w.heap[k]?
theorem BelF.kept {w0 : Base} {w w' : World} {S : Nat → Prop} (h : BelF w0 w) (hk : Kept S w w') (hS : ∀ k, w0.F k → ¬ S k) : BelF w0 w' :=
 ⟨hk.os.trans h.os, hk.tape.trans h.tape, hk.output.trans h.output, Nat.le_trans h.size hk.size, fun k hF => (hk.block k (Nat.lt_of_lt_of_le (w0.lt k hF) h.size) (hS k hF)).trans (h.block k hF)⟩
structure MemInv (w0 : Base) (w : World) (Wb : Nat) (own : Nat → Nat) (hs : List House) (ll : List (Value × Nat)) (vb vl : Value) : Prop where
 bel : BelF w0 w
 old : ∀ k, own k ≠ 0 → ¬ w0.F k
 wblk : w.heap[Wb]? = some (.cells #[.bool w0.lg, vb, w0.vd, vl] 98 (0, 0))
 wown : own Wb = 1
 brow : RowOf w 124 1 ptrCell vb hs
 bown : ∀ g, vb.ownBlock = some g → own g = 2
 lrow : RowOf w 38 1 lstCell vl ll
 lown : ∀ g, vl.ownBlock = some g → own g = 3
 full : ∀ i (hi : i < ll.length), ll[i].2 ≤ 1000000 ∧ RowOf w 9 1 txtCell ll[i].1 (List.replicate ll[i].2 (markB (i / 4 + 1)))
 fown : ∀ i (hi : i < ll.length), ∀ g, ll[i].1.ownBlock = some g → own g = 4
 four : ll.length % 4 = 0
 house : ∀ i (hi : i < hs.length), HouseMem w own (6 + 8 * i) hs[i]
 oth : w0.Q w own
section
variable {w0 : Base} {w w' : World} {Wb : Nat} {own own' : Nat → Nat} {hs : List House} {ll : List (Value × Nat)} {vb vl : Value} {S : Nat → Prop}
theorem part_row {α : Type} {f : α → List Value} {sz : Nat} {e : TypeId} {v : Value} {xs : List α} {c : Nat} (h : RowOf w e sz f v xs) (ho : ∀ g, v.ownBlock = some g → own g = c) (hk : Kept S w w') (hS : ∀ k, k < w.heap.size → S k → own k ≠ c) : RowOf w' e sz f v xs :=
 h.kept hk (fun g hg hs => hS g (h.lt hg) hs (ho g hg))
theorem part_own {α : Type} {f : α → List Value} {sz : Nat} {e : TypeId} {v : Value} {xs : List α} {c : Nat} (h : RowOf w e sz f v xs) (ho : ∀ g, v.ownBlock = some g → own g = c) (hA : ∀ k, k < w.heap.size → own' k = own k) : ∀ g, v.ownBlock = some g → own' g = c :=
 fun g hg => (hA g (h.lt hg)).trans (ho g hg)
theorem HouseMem.kept {o : Nat} {h : House} (H : HouseMem w own o h) (hk : Kept S w w') (hS : ∀ k, k < w.heap.size → S k → own k ≠ o ∧ own k ≠ o + 1 ∧ own k ≠ o + 2 ∧ own k ≠ o + 3) (hA : ∀ k, k < w.heap.size → own' k = own k) : HouseMem w' own' o h := by
 have h1 := block_lt H.blk
 have h2 := H.x.lt
 have h3 := H.r.lt
 refine ⟨by rw [hk.block _ h1 (fun hs => (hS _ h1 hs).1 H.hown)]; exact H.blk, (hA _ h1).trans H.hown, ⟨?_, ?_, ?_⟩, H.xap, ?_, ⟨?_, ?_⟩, H.rap, ?_, part_row H.grow H.gown hk (fun k hk' hs => (hS k hk' hs).2.2.2), part_own H.grow H.gown hA⟩
 ·refine ty_of (T := tyAt w h.xb) ?_;rw [hk.block _ h2 (fun hs => (hS _ h2 hs).2.1 (H.xown _ (.inl rfl)))];exact H.x.blk
 ·exact part_row H.x.arow (fun g hg => H.xown g (.inr (.inl hg))) hk (fun k hk' hs => (hS k hk' hs).2.1)
 ·exact part_row H.x.lrow (fun g hg => H.xown g (.inr (.inr hg))) hk (fun k hk' hs => (hS k hk' hs).2.1)
 ·intro k hk';refine (hA k ?_).trans (H.xown k hk');rcases hk' with rfl | hk' | hk'
  ·exact h2
  ·exact H.x.arow.lt hk'
  ·exact H.x.lrow.lt hk'
 ·rw [hk.block _ h3 (fun hs => (hS _ h3 hs).2.2.1 (H.rown _ (.inl rfl)))];exact H.r.blk
 ·exact part_row H.r.row (fun g hg => H.rown g (.inr hg)) hk (fun k hk' hs => (hS k hk' hs).2.2.1)
 ·intro k hk';refine (hA k ?_).trans (H.rown k hk');rcases hk' with rfl | hk'
  ·exact h3
  ·exact H.r.row.lt hk'
theorem MemInv.rest (I : MemInv w0 w Wb own hs ll vb vl) (hk : Kept S w w') (hS : ∀ k, S k → 6 ≤ own k ∧ (own k - 6) % 8 < 4) (hA : ∀ k, k < w.heap.size → own' k = own k) (hO : ∀ k, k < w.heap.size ∨ ¬ w0.F k)
  {hs' : List House} (hr : RowOf w' 124 1 ptrCell vb hs') (hh : ∀ i (hi : i < hs'.length), HouseMem w' own' (6 + 8 * i) hs'[i]) : MemInv w0 w' Wb own' hs' ll vb vl := by
 have hWl := block_lt I.wblk
 refine ⟨I.bel.kept hk (fun k hF hs => I.old k (by have := hS k hs; omega) hF), ?_, ?_, (hA _ hWl).trans I.wown, hr, part_own I.brow I.bown hA, ?_, part_own I.lrow I.lown hA, ?_, ?_, I.four, hh, w0.loc _ _ _ _ S I.oth hk (fun k _ hs h => by have := hS k hs; unfold offCls at h; omega) hA⟩
 ·intro k hk';rcases hO k with h | h
  ·exact I.old k (by rw [← hA k h]; exact hk')
  ·exact h
 ·rw [hk.block _ hWl (fun hs => by have := hS _ hs; rw [I.wown] at this; omega)];exact I.wblk
 ·exact part_row I.lrow I.lown hk (fun k _ hs => by have := hS k hs; omega)
 ·intro i hi;exact ⟨(I.full i hi).1, part_row (I.full i hi).2 (I.fown i hi) hk (fun k _ hs => by have := hS k hs; omega)⟩
 ·intro i hi;exact part_own (I.full i hi).2 (I.fown i hi) hA
theorem MemInv.far (I : MemInv w0 w Wb own hs ll vb vl) : ∀ k, k < w.heap.size ∨ ¬ w0.F k := fun k => by
 rcases Nat.lt_or_ge k w.heap.size with h | h
 ·exact .inl h
 ·exact .inr (fun hF => by have h1 := w0.lt k hF; have h2 := I.bel.size; omega)
theorem MemInv.below (I : MemInv w0 w Wb own hs ll vb vl) (hb : Below w.heap.size w w') : MemInv w0 w' Wb own hs ll vb vl :=
 I.rest (S := fun _ => False) (Kept.of_below hb) (fun _ h => h.elim) (fun _ _ => rfl) I.far (I.brow.below hb) (fun i hi => (I.house i hi).kept (S := fun _ => False) (Kept.of_below hb) (fun _ _ h => h.elim) (fun _ _ => rfl))
theorem row_set (h : RowOf w 124 1 ptrCell vb hs) (i : Nat) (hi : i < hs.length) (x : House) (hx : x.hb = hs[i].hb) : RowOf w 124 1 ptrCell vb (hs.set i x) := by
 have e : (hs.set i x).flatMap ptrCell = hs.flatMap ptrCell := by
  have : ∀ l : List House, l.flatMap ptrCell = (l.map House.hb).map fun b => Value.pointer (some ⟨b, 0, none⟩) := fun l => by
   induction l with
   | nil => rfl
   | cons y r ih => rw [List.flatMap_cons, ih]; rfl
  rw [this, this, List.map_set, hx]
  congr 1
  rw [show hs[i].hb = (hs.map House.hb)[i]'(by simpa using hi) by simp];exact List.set_getElem_self _
 unfold RowOf
 rw [List.length_set, e]
 exact h
theorem MemInv.xstep (I : MemInv w0 w Wb own hs ll vb vl) (i : Nat) (hi : i < hs.length) (lv : Value) (ac' : List Ac) (ls' : List Lg) (va' vl' : Value) (hT : XBTo w w' hs[i].xb hs[i].node ac' ls' hs[i].va hs[i].vl va' vl') (hf : ∀ g, lv.ownBlock = some g → w.heap.size ≤ g ∧ va'.ownBlock ≠ some g ∧ vl'.ownBlock ≠ some g) :
  MemInv w0 w' Wb (fun k => if k < w.heap.size then own k else if lv.ownBlock = some k then 4 else 7 + 8 * i) (hs.set i { hs[i] with ac := ac', ls := ls', va := va', vl := vl' }) ll vb vl := by
 have H := I.house i hi
 have hA : ∀ k, k < w.heap.size → (fun k => if k < w.heap.size then own k else if lv.ownBlock = some k then 4 else 7 + 8 * i) k = own k := fun k hk => by simp [hk]
 have hSx : ∀ k, xfoot hs[i].xb hs[i].va hs[i].vl k → own k = 7 + 8 * i := fun k hk => by rw [H.xown k hk]; omega
 have hr := I.rest (S := xfoot hs[i].xb hs[i].va hs[i].vl) hT.kept (fun k hk => by rw [hSx k hk]; omega) hA I.far (hs' := hs.set i { hs[i] with ac := ac', ls := ls', va := va', vl := vl' })
 refine hr (row_set (part_row I.brow I.bown hT.kept (fun k _ hk => by rw [hSx k hk]; omega)) i hi _ rfl) ?_
 intro j hj
 rw [List.length_set] at hj
 by_cases e : i = j
 ·subst e;rw [List.getElem_set_self];have h1 := block_lt H.blk;have h3 := H.r.lt;refine ⟨?_, (hA _ h1).trans H.hown, hT.xb, hT.ap, ?_, ⟨?_, ?_⟩, H.rap, ?_, part_row H.grow H.gown hT.kept (fun k _ hk => by rw [hSx k hk]; omega), part_own H.grow H.gown hA⟩
  ·show w'.heap[hs[i].hb]? = _;rw [hT.kept.block _ h1 (fun hx => by have := hSx _ hx; rw [H.hown] at this; omega)];exact H.blk
  ·intro k hk
   have hx : ∀ g, (va'.ownBlock = some g ∨ vl'.ownBlock = some g) → (hs[i].va.ownBlock = some g ∨ hs[i].vl.ownBlock = some g) ∨ (w.heap.size ≤ g ∧ lv.ownBlock ≠ some g) := by
    intro g hg;rcases hg with hg | hg
    ·rcases hT.owna g hg with h | h
     ·exact .inl (.inl h)
     ·exact .inr ⟨h, fun e => (hf g e).2.1 hg⟩
    ·rcases hT.ownl g hg with h | h
     ·exact .inl (.inr h)
     ·exact .inr ⟨h, fun e => (hf g e).2.2 hg⟩
   have old : xfoot hs[i].xb hs[i].va hs[i].vl k → k < w.heap.size → (if k < w.heap.size then own k else if lv.ownBlock = some k then 4 else 7 + 8 * i) = 6 + 8 * i + 1 := fun h hlt => by rw [if_pos hlt, hSx k h]; omega
   rcases hk with rfl | hk
   ·exact old (.inl rfl) H.x.lt
   ·rcases hx k hk with (h | h) | ⟨h, hn⟩
    ·exact old (.inr (.inl h)) (H.x.arow.lt h)
    ·exact old (.inr (.inr h)) (H.x.lrow.lt h)
    ·show (if k < w.heap.size then own k else if lv.ownBlock = some k then 4 else 7 + 8 * i) = 6 + 8 * i + 1;rw [if_neg (by omega), if_neg hn];omega
  ·show w'.heap[hs[i].rb]? = _;rw [hT.kept.block _ h3 (fun hx => by have := hSx _ hx; rw [H.rown _ (.inl rfl)] at this; omega)];exact H.r.blk
  ·exact part_row H.r.row (fun g hg => H.rown g (.inr hg)) hT.kept (fun k hk' hx => by rw [hSx k hx]; omega)
  ·intro k hk;refine (hA k ?_).trans (H.rown k hk);rcases hk with rfl | hk
   ·exact h3
   ·exact H.r.row.lt hk
 ·rw [List.getElem_set_ne e];exact (I.house j hj).kept hT.kept (fun k hk hx => by rw [hSx k hx]; omega) hA
theorem MemInv.rstep (I : MemInv w0 w Wb own hs ll vb vl) (i : Nat) (hi : i < hs.length) (evs' : List Ev) (v' : Value) (hT : RBTo w w' hs[i].rb hs[i].node evs' hs[i].v v') :
  MemInv w0 w' Wb (fun k => if k < w.heap.size then own k else 8 + 8 * i) (hs.set i { hs[i] with evs := evs', v := v' }) ll vb vl := by
 have H := I.house i hi
 have hA : ∀ k, k < w.heap.size → (fun k => if k < w.heap.size then own k else 8 + 8 * i) k = own k := fun k hk => by simp [hk]
 have hSx : ∀ k, (k = hs[i].rb ∨ hs[i].v.ownBlock = some k) → own k = 8 + 8 * i := fun k hk => by rw [H.rown k hk]; omega
 have hr := I.rest (S := fun k => k = hs[i].rb ∨ hs[i].v.ownBlock = some k) hT.kept (fun k hk => by rw [hSx k hk]; omega) hA I.far (hs' := hs.set i { hs[i] with evs := evs', v := v' })
 refine hr (row_set (part_row I.brow I.bown hT.kept (fun k _ hk => by rw [hSx k hk]; omega)) i hi _ rfl) ?_
 intro j hj
 rw [List.length_set] at hj
 by_cases e : i = j
 ·subst e;rw [List.getElem_set_self];have h1 := block_lt H.blk;have h2 := H.x.lt;refine ⟨?_, (hA _ h1).trans H.hown, ⟨?_, ?_, ?_⟩, H.xap, ?_, hT.rb, hT.ap, ?_, part_row H.grow H.gown hT.kept (fun k _ hk => by rw [hSx k hk]; omega), part_own H.grow H.gown hA⟩
  ·show w'.heap[hs[i].hb]? = _;rw [hT.kept.block _ h1 (fun hx => by have := hSx _ hx; rw [H.hown] at this; omega)];exact H.blk
  ·refine ty_of (T := tyAt w hs[i].xb) ?_;show w'.heap[hs[i].xb]? = _;rw [hT.kept.block _ h2 (fun hx => by have := hSx _ hx; rw [H.xown _ (.inl rfl)] at this; omega)];exact H.x.blk
  ·exact part_row H.x.arow (fun g hg => H.xown g (.inr (.inl hg))) hT.kept (fun k hk' hx => by rw [hSx k hx]; omega)
  ·exact part_row H.x.lrow (fun g hg => H.xown g (.inr (.inr hg))) hT.kept (fun k hk' hx => by rw [hSx k hx]; omega)
  ·intro k hk;refine (hA k ?_).trans (H.xown k hk);rcases hk with rfl | hk | hk
   ·exact h2
   ·exact H.x.arow.lt hk
   ·exact H.x.lrow.lt hk
  ·intro k hk;rcases hk with rfl | hk
   ·exact (hA _ H.r.lt).trans (H.rown _ (.inl rfl))
   ·rcases hT.own k hk with h | h
    ·exact (hA _ (H.r.row.lt h)).trans (H.rown _ (.inr h))
    ·show (if k < w.heap.size then own k else 8 + 8 * i) = 6 + 8 * i + 2;rw [if_neg (by omega)];omega
 ·rw [List.getElem_set_ne e];exact (I.house j hj).kept hT.kept (fun k hk hx => by rw [hSx k hx]; omega) hA
theorem MemInv.gstep (I : MemInv w0 w Wb own hs ll vb vl) (i : Nat) (hi : i < hs.length) (lg' : List (List UInt8 × Nat)) (vg' : Value) (hk : Kept (fun k => k = hs[i].hb ∨ hs[i].vg.ownBlock = some k) w w')
  (hblk : w'.heap[hs[i].hb]? = some (.cells #[.pointer (some ⟨hs[i].xb, 0, none⟩), .pointer (some ⟨hs[i].rb, 0, none⟩), vg'] 165 (0, 0))) (hrow : RowOf w' 209 2 logCell vg' lg') (hown : ∀ g, vg'.ownBlock = some g → hs[i].vg.ownBlock = some g ∨ w.heap.size ≤ g) :
  MemInv w0 w' Wb (fun k => if k < w.heap.size then own k else 9 + 8 * i) (hs.set i { hs[i] with lg := lg', vg := vg' }) ll vb vl := by
 have H := I.house i hi
 have hA : ∀ k, k < w.heap.size → (fun k => if k < w.heap.size then own k else 9 + 8 * i) k = own k := fun k hk => by simp [hk]
 have hSx : ∀ k, (k = hs[i].hb ∨ hs[i].vg.ownBlock = some k) → own k = 6 + 8 * i ∨ own k = 9 + 8 * i := by
  rintro k (rfl | h)
  ·exact .inl H.hown
  ·exact .inr (by rw [H.gown k h]; omega)
 have hr := I.rest (S := fun k => k = hs[i].hb ∨ hs[i].vg.ownBlock = some k) hk (fun k hk => by have := hSx k hk; omega) hA I.far (hs' := hs.set i { hs[i] with lg := lg', vg := vg' })
 refine hr (row_set (part_row I.brow I.bown hk (fun k _ hk => by have := hSx k hk; omega)) i hi _ rfl) ?_
 intro j hj
 rw [List.length_set] at hj
 by_cases e : i = j
 ·subst e;rw [List.getElem_set_self];have h1 := block_lt H.blk;have h2 := H.x.lt;have h3 := H.r.lt;refine ⟨hblk, (hA _ h1).trans H.hown, ⟨?_, ?_, ?_⟩, H.xap, ?_, ⟨?_, ?_⟩, H.rap, ?_, hrow, ?_⟩
  ·refine ty_of (T := tyAt w hs[i].xb) ?_;show w'.heap[hs[i].xb]? = _;rw [hk.block _ h2 (fun hx => by have := hSx _ hx; rw [H.xown _ (.inl rfl)] at this; omega)];exact H.x.blk
  ·exact part_row H.x.arow (fun g hg => H.xown g (.inr (.inl hg))) hk (fun k hk' hx => by have := hSx k hx; omega)
  ·exact part_row H.x.lrow (fun g hg => H.xown g (.inr (.inr hg))) hk (fun k hk' hx => by have := hSx k hx; omega)
  ·intro k hk;refine (hA k ?_).trans (H.xown k hk);rcases hk with rfl | hk | hk
   ·exact h2
   ·exact H.x.arow.lt hk
   ·exact H.x.lrow.lt hk
  ·show w'.heap[hs[i].rb]? = _;rw [hk.block _ h3 (fun hx => by have := hSx _ hx; rw [H.rown _ (.inl rfl)] at this; omega)];exact H.r.blk
  ·exact part_row H.r.row (fun g hg => H.rown g (.inr hg)) hk (fun k hk' hx => by have := hSx k hx; omega)
  ·intro k hk;refine (hA k ?_).trans (H.rown k hk);rcases hk with rfl | hk
   ·exact h3
   ·exact H.r.row.lt hk
  ·intro g hg;rcases hown g hg with h | h
   ·exact (hA _ (H.grow.lt h)).trans (H.gown g h)
   ·show (if g < w.heap.size then own g else 9 + 8 * i) = 6 + 8 * i + 3;rw [if_neg (by omega)];omega
 ·rw [List.getElem_set_ne e];exact (I.house j hj).kept hk (fun k hk hx => by have := hSx k hx; omega) hA
end
end Go.Proofs.YtjkhbjgfoopomabGreat
