import Derived.Test.YtjkhbjgfoopomaaGreatLawDSubmit
import Derived.Test.YtjkhbjgfoopomaaGreatG28
import Derived.Test.YtjkhbjgfoopomaaGreatG26
/-
  A step of the statement Deeds: a step on a notary, whichever.
-/
namespace Go.Proofs.YtjkhbjgfoopomaaGreat
open Go.RowKit
set_option linter.unusedVariables false
set_option linter.unusedSimpArgs false
set_option maxRecDepth 100000 in
set_option maxHeartbeats 2000000 in
theorem deed_submit (w0 : DBase) (N : Nat) (hN : N ≤ 999999999999) (w : World) (Wb : Nat) (own : Nat → Nat) (hs : List Office) (ll : List (Value × Nat)) (vd vl : Value) (i : Nat) (hi : i < hs.length) (hb xb rb ck : Nat) (acts : List Dt) (ps : List Xp) (xv v : Value) (lgs : List (List UInt8 × Nat)) (vg : Value)
    (I : DInv w0 w Wb own (hs.set i ⟨hb, xb, rb, ck, acts, ps, xv, v, lgs, vg⟩) ll vd vl) (hok : ∀ h, h ∈ hs → h.ok N) (hR : DRel acts ck ps) (hlg : lgs = dlogOf acts) (hlen : acts.length ≤ N)
    (at_ n : Int) (s : List UInt8) (k f t mi l p g a : Nat) (m : List UInt8) (pi pd : Nat) (memo : List UInt8) (la : Option Addr) (legs : List Pl) (lcap acc amt : Nat) (hll : ll.length ≤ 3999999999000)
    (hpok : (⟨pi, pd, memo, legs, la, lcap⟩ : Pm).ok) (hmm : memo.length ≤ 140737488351232) (hlgs : legs.length ≤ 11728124029269) (hSt : Stays w0 la legs) :
    Calls Tryz.prog 11 #[.pointer (some ⟨Wb, 0, none⟩), .pointer (some ⟨hb, 0, none⟩), (⟨9, at_, n, s, ⟨k, f, t, mi, l, p, g, a, m⟩, (pi : Int), (pd : Int), memo, la, legs.length, lcap, acc, amt⟩ : Opr).v] w (DeedSays w0 N Wb hs ll vd i hb) := by
  have H := DInv.at hi I
  have hc : ∀ o, w.cell? ⟨hb, o, none⟩ = (#[.pointer (some ⟨xb, 0, none⟩), .pointer (some ⟨rb, 0, none⟩), vg] : Array Value)[o]? := fun o => cell_at H.blk o
  have hl1 : hb < w.heap.size := block_lt H.blk
  have hl2 : rb < w.heap.size := H.r.lt
  obtain ⟨rad, rcap, hv, _⟩ := H.r.row.form Dt.cells_length
  have hcr : ∀ o, w.cell? ⟨rb, o, none⟩ = (#[.slice rad acts.length rcap] : Array Value)[o]? := fun o => by rw [← (show v = _ from hv)]; exact cell_at H.r.blk o
  obtain ⟨W1, hW1⟩ : ∃ W1, W1 = (w.alloc (.cells (⟨9, at_, n, s, ⟨k, f, t, mi, l, p, g, a, m⟩, (pi : Int), (pd : Int), memo, la, legs.length, lcap, acc, amt⟩ : Opr).cells 46)) := ⟨_, rfl⟩
  have hbW : Below w.heap.size w W1 := by rw [hW1]; exact (Below.refl w.heap.size w).alloc (Nat.le_refl _) _
  have hS := hide (submit_any w0 N hN W1 Wb own hs ll vd vl i hi hb xb rb ck acts ps xv v lgs vg (I.below hbW) hok hR hlg hlen 9 at_ n s k f t mi l p g a m pi pd memo la legs lcap acc amt hll hpok hmm hlgs hSt)
  have hrg := hide (op_range (⟨9, at_, n, s, ⟨k, f, t, mi, l, p, g, a, m⟩, (pi : Int), (pd : Int), memo, la, legs.length, lcap, acc, amt⟩ : Opr) w)
  clear H I hv hok hR hlg hSt hpok
  simp only [Opr.v, Opr.cells] at *
  replace hW1 := hide hW1
  go_enter Tryz.func11, Tryz.ntmps11
  go_wp2_with (first
    | (refine wpList_load_mid (by rfl) 46 _ (by rfl) w.heap.size 0 (by rfl) [.int .i64 9, .int .i64 at_, .int .i64 n, .string (bs s), .int .u8 (k : Int), .int .u8 (f : Int), .int .u8 (t : Int), .int .u32 (mi : Int), .int .u8 (l : Int), .int .u16 (p : Int), .int .u16 (g : Int), .int .u32 (a : Int), .string (bs m), .int .u32 (pi : Int), .int .u64 (pd : Int), .string (bs memo), .slice la legs.length lcap, .int .u16 (acc : Int), .int .u32 (amt : Int)] _ hrg.out Tryz.underlying46 rfl opSize ?_)
    | (go_at_call 38; refine stopAt ?_))
  refine hide ?_
  rw [← hW1.out]
  refine (hS.out).mono ?_
  rintro e w2 ⟨rfl, hG⟩
  replace hG := hide hG
  clear hS hrg hc hcr
  go_wp2
  go_ret
  exact ⟨rfl, hG.out⟩
/-- the payment of a step: its legs lie where they stay -/
def Opr.paid (w0 : DBase) (o : Opr) : Prop := ∃ (pi pd : Nat) (legs : List Pl), o.pid = (pi : Int) ∧ o.dead = (pd : Int) ∧ o.llen = legs.length ∧ (⟨pi, pd, o.memo, legs, o.legs, o.lcap⟩ : Pm).ok ∧ o.memo.length ≤ 140737488351232 ∧ legs.length ≤ 11728124029269 ∧ Stays w0 o.legs legs
theorem deed_any (w0 : DBase) (N : Nat) (hN : N ≤ 999999999999) (w : World) (Wb : Nat) (own : Nat → Nat) (hs : List Office) (ll : List (Value × Nat)) (vd vl : Value) (I : DInv w0 w Wb own hs ll vd vl) (hok : ∀ h, h ∈ hs → h.ok N) (i : Nat) (hi : i < hs.length) (o : Opr) (ho : o.ok) (hp : o.paid w0) (hk : 9 ≤ o.kind ∧ o.kind ≤ 13) (hll : ll.length ≤ 3999999999000) :
    Calls Tryz.prog 11 #[.pointer (some ⟨Wb, 0, none⟩), .pointer (some ⟨hs[i].hb, 0, none⟩), o.v] w (DeedSays w0 N Wb hs ll vd i hs[i].hb) := by
  obtain ⟨hR, hlg, hlen⟩ := hok hs[i] (List.getElem_mem hi)
  have e : hs = hs.set i hs[i] := (List.set_getElem_self hi).symm
  rw [e] at I
  generalize hs[i] = h at *
  obtain ⟨hb, xb, rb, ck, acts, ps, xv, v, lgs, vg⟩ := h
  simp only at hR hlg hlen
  have hoo := ho
  obtain ⟨kind, at_, n, s, ⟨k, f, t, mi, l, p, g, a, m⟩, pid, dead, memo, legs, llen, lcap, acc, amt⟩ := o
  obtain ⟨_, _, _, hs1, hm, hm1, hacc, hamt⟩ := ho
  simp only at hk hacc hamt
  have hk5 : kind = 9 ∨ kind = 10 ∨ kind = 11 ∨ kind = 12 ∨ kind = 13 := by omega
  rcases hk5 with rfl | rfl | rfl | rfl | rfl
  · obtain ⟨pi, pd, lgl, e1, e2, e3, h1, h2, h3, h4⟩ := hp
    simp only at e1 e2 e3 h1 h2 h3 h4
    subst e1 e2 e3
    exact deed_submit w0 N hN w Wb own hs ll vd vl i hi hb xb rb ck acts ps xv v lgs vg I hok hR hlg hlen at_ n s k f t mi l p g a m pi pd memo legs lgl lcap acc amt hll h1 h2 h3 h4
  · exact deed_taken w0 N hN w Wb own hs ll vd vl i hi hb xb rb ck acts ps xv v lgs vg I hok hR hlg hlen at_ n s k f t mi l p g a m pid dead memo legs llen lcap acc amt hoo hll
  · exact deed_tick w0 N hN w Wb own hs ll vd vl i hi hb xb rb ck acts ps xv v lgs vg I hok hR hlg hlen at_ n s k f t mi l p g a m pid dead memo legs llen lcap acc amt hll
  · exact deed_status w0 N hN w Wb own hs ll vd vl i hi hb xb rb ck acts ps xv v lgs vg I hok hR hlg hlen at_ n s k f t mi l p g a m pid dead memo legs llen lcap acc amt hm.2.2.2.1
  · exact deed_clock w0 N hN w Wb own hs ll vd vl i hi hb xb rb ck acts ps xv v lgs vg I hok hR hlg hlen at_ n s k f t mi l p g a m pid dead memo legs llen lcap acc amt
end Go.Proofs.YtjkhbjgfoopomaaGreat
/-
  A step of the statement Deeds: a notary more.
-/
namespace Go.Proofs.YtjkhbjgfoopomaaGreat
open Go.RowKit
set_option linter.unusedVariables false
set_option linter.unusedSimpArgs false
theorem offInfo : (Tryz.prog.info? 52).map (fun i => (i.zero, i.size, i.bytes)) = some (some (.pointer none), 1, 8) := by kernel_rfl
theorem off_one (h : Office) : ∀ u ∈ offCell h, u.oneCell' = true := by
  intro u hu
  simp only [offCell, List.mem_cons, List.not_mem_nil, or_false] at hu
  subst hu
  rfl
def DMadeSays (w0 : DBase) (N Wb : Nat) (hs : List Office) (ll : List (Value × Nat)) (e : Ending) (w' : World) : Prop :=
  e = .returned (.bool true) ∧ ∃ own' hs' vd' vl', DInv w0 w' Wb own' hs' ll vd' vl' ∧ (∀ h, h ∈ hs' → h.ok N) ∧ hs'.length = hs.length + 1

set_option maxRecDepth 100000 in
set_option maxHeartbeats 2000000 in
theorem made_deed (w0 : DBase) (N : Nat) (w : World) (Wb : Nat) (own : Nat → Nat) (hs : List Office) (ll : List (Value × Nat)) (vd vl : Value) (I : DInv w0 w Wb own hs ll vd vl) (hok : ∀ h, h ∈ hs → h.ok N) (hlen : hs.length ≤ 1000000000000)
    (at_ n : Int) (s : List UInt8) (k f t mi l p g a : Nat) (m : List UInt8) (pid dead : Int) (memo : List UInt8) (legs : Option Addr) (llen lcap acc amt : Nat) :
    Calls Tryz.prog 9 #[.pointer (some ⟨Wb, 0, none⟩), (⟨8, at_, n, s, ⟨k, f, t, mi, l, p, g, a, m⟩, pid, dead, memo, legs, llen, lcap, acc, amt⟩ : Opr).v] w (DMadeSays w0 N Wb hs ll) := by
  have hN := hide (fun u => newDeed_any u)
  obtain ⟨W1, hW1⟩ : ∃ W1, W1 = (w.alloc (.cells (⟨8, at_, n, s, ⟨k, f, t, mi, l, p, g, a, m⟩, pid, dead, memo, legs, llen, lcap, acc, amt⟩ : Opr).cells 46)) := ⟨_, rfl⟩
  have hbW : Below w.heap.size w W1 := by rw [hW1]; exact (Below.refl w.heap.size w).alloc (Nat.le_refl _) _
  have I1 := hide (I.below hbW)
  have hc : ∀ o, W1.cell? ⟨Wb, o, none⟩ = (#[.bool w0.lg, w0.vb, vd, vl] : Array Value)[o]? := fun o => cell_at I1.out.wblk o
  have hWl : Wb < W1.heap.size := block_lt I1.out.wblk
  replace hok := hide hok
  clear I
  simp only [Opr.v, Opr.cells] at *
  replace hW1 := hide hW1
  obtain ⟨i0, hi0, y0, y1, y2⟩ := info_parts offInfo
  go_enter Tryz.func9, Tryz.ntmps9
  go_wp2_with fail
  rw [← hW1.out]
  refine (hN.out _).mono ?_
  rintro e w3 ⟨⟨B, hB, rfl, hXB⟩, hb3⟩
  have I3 := hide (I1.out.below hb3)
  have hc3 : ∀ o, w3.cell? ⟨Wb, o, none⟩ = (#[.bool w0.lg, w0.vb, vd, vl] : Array Value)[o]? := fun o => cell_at I3.out.wblk o
  have hWl3 : Wb < w3.heap.size := block_lt I3.out.wblk
  have hBl : B < w3.heap.size := hXB.lt
  have hvb2 : ∀ g, vd.ownBlock = some g → g < W1.heap.size := fun g hg => I1.out.drow.lt hg
  have hWb2 : vd.ownBlock ≠ some Wb := fun e => by have h1 := I1.out.down _ e; rw [I1.out.wown] at h1; omega
  have hbu : Below w3.heap.size w3 ((w3.alloc (.cells #[.slice none 0 0] 65)).alloc (.cells #[.pointer (some ⟨B, 0, none⟩), .pointer (some ⟨w3.heap.size, 0, none⟩), .slice none 0 0] 68)) := ((Below.refl _ _).alloc (Nat.le_refl _) _).alloc (by simp) _
  have hu1 : ((w3.alloc (.cells #[.slice none 0 0] 65)).alloc (.cells #[.pointer (some ⟨B, 0, none⟩), .pointer (some ⟨w3.heap.size, 0, none⟩), .slice none 0 0] 68)).heap[w3.heap.size]? = some (.cells #[.slice none 0 0] 65 (0, 0)) := by
    rw [Below.heap_alloc _ _ _ (by simp)]
    exact heap_alloc_self _ _
  have hu2 : ((w3.alloc (.cells #[.slice none 0 0] 65)).alloc (.cells #[.pointer (some ⟨B, 0, none⟩), .pointer (some ⟨w3.heap.size, 0, none⟩), .slice none 0 0] 68)).heap[w3.heap.size + 1]? = some (.cells #[.pointer (some ⟨B, 0, none⟩), .pointer (some ⟨w3.heap.size, 0, none⟩), .slice none 0 0] 68 (0, 0)) := by
    have e : w3.heap.size + 1 = (w3.alloc (.cells #[.slice none 0 0] 65)).heap.size := by simp
    rw [e]
    exact heap_alloc_self _ _
  have hus : ((w3.alloc (.cells #[.slice none 0 0] 65)).alloc (.cells #[.pointer (some ⟨B, 0, none⟩), .pointer (some ⟨w3.heap.size, 0, none⟩), .slice none 0 0] 68)).heap.size = w3.heap.size + 1 + 1 := by simp
  replace hbu := hide hbu
  replace hu1 := hide hu1
  replace hu2 := hide hu2
  replace hus := hide hus
  replace hXB := hide hXB
  replace hb3 := hide hb3
  clear hc hN
  go_wp2_with (first | (at_builtin; refine stopAt ?_))
  refine hide ?_
  refine wpList_moreH offCell_length _ (by rfl) _ _ 27 (by rfl) 52 i0 _ 8 Tryz.underlying27 hi0 y0 y1 y2 rfl (by decide) vd hs (by rfl) (I3.out.drow.below hbu.out) 1 [(⟨w3.heap.size + 1, B, w3.heap.size, 0, [], [], .slice none 0 0, .slice none 0 0, [], .slice none 0 0⟩ : Office)] (by simp) 1 _ (by rfl) (by rfl) (by first | rfl | simp) (fun y hy => off_one y) (by unfold maxLen; simp only [List.length_singleton]; omega) (by simp only [List.length_singleton]; omega) ?_ _ (by rfl)
  intro g5 c5 u5 ro5 _ kp5 at5 lt5
  generalize hU : World.alloc (World.alloc w3 _) _ = U at *
  have kU : Kept (fun k => vd.ownBlock = some k) W1 u5 := ((Kept.of_below hb3.out).trans (Kept.of_below (S := fun _ => False) hbu.out) (fun i h => h.elim)).trans kp5 (fun i h => .inl h)
  have hb5 : u5.heap[Wb]? = some (.cells #[.bool w0.lg, w0.vb, vd, vl] 30 (0, 0)) := by rw [kU.block Wb hWl hWb2]; exact I1.out.wblk
  have hc5 := fun o => cell_at hb5 o
  have hf5 := fun o => frozen_at hb5 o
  have hWl5 := block_lt hb5
  have g5W : g5 ≠ Wb := by
    rcases at5 with h | h
    · intro e; subst e; exact hWb2 h
    · have h1 := hus.out; have h2 := hb3.out.size; omega
  have one : ∀ g', (Value.slice (some ⟨g5, 0, none⟩) (hs.length + 1) c5).ownBlock = some g' → g' = g5 := fun g' h' => by simpa [Value.ownBlock] using h'.symm
  have far : ∀ k, W1.heap.size ≤ k → vd.ownBlock ≠ some k := fun k hk e => by have := hvb2 k e; omega
  have nW : ∀ k, W1.heap.size ≤ k → k ≠ Wb := fun k hk e => by omega
  have h23 := hb3.out.size
  have hsz := hus.out
  have keepB : ∀ (v : Value) k o, W1.heap.size ≤ k → U.heap[k]? = some o → (u5.setCell ⟨Wb, 2, none⟩ v).heap[k]? = some o := fun v k o hk ho => by
    rw [(Kept.of_setCell u5 ⟨Wb, 2, none⟩ v).block k (Nat.lt_of_lt_of_le (block_lt ho) kp5.size) (nW k hk), kp5.block k (block_lt ho) (far k hk)]
    exact ho
  have fin := I1.out.more (w' := u5.setCell ⟨Wb, 2, none⟩ (.slice (some ⟨g5, 0, none⟩) (hs.length + 1) c5)) ⟨w3.heap.size + 1, B, w3.heap.size, 0, [], [], .slice none 0 0, .slice none 0 0, [], .slice none 0 0⟩ (.slice (some ⟨g5, 0, none⟩) (hs.length + 1) c5)
    ((kU.mono (fun i _ h => .inr h)).trans (Kept.of_setCell _ _ _) (fun i h => .inl (.inl h))) (heap_set_self hb5 2 _) (ro5.kept (Kept.of_setCell _ _ _) (fun g' h' => by rw [one g' h']; exact g5W))
    (fun g' h' => by
      rw [one g' h']
      rcases at5 with h | h
      · exact .inl h
      · exact .inr (by omega))
    (by show W1.heap.size ≤ w3.heap.size + 1; omega) hB (by show W1.heap.size ≤ w3.heap.size; omega) (by show w3.heap.size + 1 ≠ B; omega) (by show w3.heap.size + 1 ≠ w3.heap.size; omega) (by show B ≠ w3.heap.size; omega)
    (by
      have hg : g5 < W1.heap.size ∨ w3.heap.size + 1 + 1 ≤ g5 := by
        rcases at5 with h | h
        · exact .inl (hvb2 _ h)
        · exact .inr (by omega)
      refine ⟨fun e => ?_, fun e => ?_, fun e => ?_⟩
      · have : w3.heap.size + 1 = g5 := one _ e
        omega
      · have : B = g5 := one _ e
        omega
      · have : w3.heap.size = g5 := one _ e
        omega)
    (keepB _ (w3.heap.size + 1) _ (by omega) hu2.out) ⟨keepB _ _ _ hB (by rw [hbu.out.block B hBl]; exact hXB.out.blk), RowOf.nil _ _, fun x hx => by cases hx⟩ ⟨keepB _ w3.heap.size _ (by omega) hu1.out, RowOf.nil _ _, fun x hx => by cases hx⟩ ⟨rfl, rfl, rfl, rfl, rfl, rfl, rfl⟩
  obtain ⟨own', I9⟩ := fin
  have fin2 : Hid (DMadeSays w0 N Wb hs ll (.returned (.bool true)) (u5.setCell ⟨Wb, 2, none⟩ (.slice (some ⟨g5, 0, none⟩) (hs.length + 1) c5))) := hide ⟨rfl, own', _, _, vl, I9, fun h hh => by
    rcases List.mem_append.1 hh with hh | hh
    · exact hok.out h hh
    · rw [List.mem_singleton] at hh
      subst hh
      exact ⟨DRel.start, rfl, Nat.zero_le _⟩, by simp⟩
  clear I9 keepB far nW one kU kp5 at5 lt5 ro5 hb5 I1 I3 hXB hb3 hbu hu1 hu2 hus hsz
  go_wp2
  go_ret
  exact fin2.out
end Go.Proofs.YtjkhbjgfoopomaaGreat
/-
  A step of the statement Banks.
-/
namespace Go.Proofs.YtjkhbjgfoopomaaGreat
open Go.RowKit
set_option linter.unusedVariables false
set_option linter.unusedSimpArgs false

theorem MemInv.below0 {w0 : Base} {w w' : World} {Wb : Nat} {own : Nat → Nat} {hs : List House} {ll : List (Value × Nat)} {vb vl : Value} (I : MemInv w0 w Wb own hs ll vb vl) (hb : Below w.heap.size w w') : MemInv w0 w' Wb (fun k => if k < w.heap.size then own k else 0) hs ll vb vl :=
  have hA : ∀ k, k < w.heap.size → (fun k => if k < w.heap.size then own k else 0) k = own k := fun k hk => by simp [hk]
  I.rest (S := fun _ => False) (Kept.of_below hb) (fun _ h => h.elim) hA I.far (I.brow.below hb) (fun i hi => (I.house i hi).kept (S := fun _ => False) (Kept.of_below hb) (fun _ _ h => h.elim) hA)
/-- from here on, with one block more that stays -/
def baseUp (w0 : Base) (w : World) (b : Nat) (hs : w0.w.heap.size ≤ w.heap.size) (hb : b < w.heap.size) : Base := ⟨w, fun k => w0.F k ∨ k = b, fun k hk => by
  rcases hk with hk | rfl
  · exact Nat.lt_of_lt_of_le (w0.lt k hk) hs
  · exact hb, w0.lg, w0.vd, w0.Q, w0.loc⟩
theorem MemInv.up {w0 : Base} {w : World} {Wb : Nat} {own : Nat → Nat} {hs : List House} {ll : List (Value × Nat)} {vb vl : Value} (I : MemInv w0 w Wb own hs ll vb vl) (b : Nat) (hb : b < w.heap.size) (h0 : own b = 0) : MemInv (baseUp w0 w b I.bel.size hb) w Wb own hs ll vb vl :=
  ⟨⟨rfl, rfl, rfl, Nat.le_refl _, fun _ _ => rfl⟩, fun k hk hF => by
    rcases hF with hF | rfl
    · exact I.old k hk hF
    · exact hk h0, I.wblk, I.wown, I.brow, I.bown, I.lrow, I.lown, I.full, I.fown, I.four, I.house, I.oth⟩
theorem MemInv.down {w0 : Base} {w w' : World} {Wb : Nat} {own : Nat → Nat} {hs : List House} {ll : List (Value × Nat)} {vb vl : Value} {b : Nat} {h1 : w0.w.heap.size ≤ w.heap.size} {h2 : b < w.heap.size} (hB : BelF w0 w) (I : MemInv (baseUp w0 w b h1 h2) w' Wb own hs ll vb vl) : MemInv w0 w' Wb own hs ll vb vl :=
  ⟨⟨I.bel.os.trans hB.os, I.bel.tape.trans hB.tape, I.bel.output.trans hB.output, Nat.le_trans hB.size I.bel.size, fun k hF => (I.bel.block k (.inl hF)).trans (hB.block k hF)⟩, fun k hk hF => I.old k hk (.inl hF), I.wblk, I.wown, I.brow, I.bown, I.lrow, I.lown, I.full, I.fown, I.four, I.house, I.oth⟩
theorem range_of {u u' : World} {b : Nat} {cs : List Value} (h : u.rangeAt b 0 cs) (hb : u'.heap[b]? = u.heap[b]?) : u'.rangeAt b 0 cs := fun j v hj => (World.cell?_of_block (w := u) (a := ⟨b, 0 + j, none⟩) hb).trans (h j v hj)

end Go.Proofs.YtjkhbjgfoopomaaGreat
