import Derived.Test.YtjkhbjgfoopomabC34
import Derived.Test.YtjkhbjgfoopomabC16
import Derived.Test.YtjkhbjgfoopomabC21
/-
  A network in memory: an owner for each block of it.
-/
namespace Go.Proofs.Ytjkhbjgfoopomab
open Go.RowKit
set_option linter.unusedVariables false
set_option linter.unusedSimpArgs false
/-- a bank's memory -/
structure MB where
  b : Nat
  ac : List Ac
  ls : List Lg
  va : Value
  vl : Value
/-- a network's memory -/
structure NM where
  bk : Nat → MB
  db : Nat
  ck : Nat
  ps : List Xp
  xv : Value
  wv : Value
def ptrTo (b : Nat) : Value := .pointer (some ⟨b, 0, none⟩)
def bankPtr (j k b : Nat) : Value := if k ≤ j then ptrTo b else .pointer none
def netCells (j : Nat) (M : NM) (P : PN) : Array Value := #[.pointer none, bankPtr j 1 (M.bk 1).b, bankPtr j 2 (M.bk 2).b, bankPtr j 3 (M.bk 3).b, ptrTo M.db, .string (bs (P.lg 0)), .string (bs (P.lg 1)), .string (bs (P.lg 2)), .string (bs (P.lg 3)), M.wv, .int .u64 (P.sm 0 : Int), .int .u64 (P.sm 1 : Int), .int .u64 (P.sm 2 : Int), .int .u64 (P.sm 3 : Int)]
/-- a bank that lies there, its blocks owned by o -/
structure BankAt (w : World) (own : Nat → Nat) (o k : Nat) (m : MB) (evs : List Ev) : Prop where
  x : XB w m.b k m.ac m.ls m.va m.vl
  ap : Apart m.b m.va m.vl
  own : ∀ i, xfoot m.b m.va m.vl i → own i = o
  rel : Rel evs m.ac m.ls
structure DeedAt (w : World) (own : Nat → Nat) (o : Nat) (B ck : Nat) (ps : List Xp) (v : Value) (A : List Dt) : Prop where
  x : XD w B ck ps v
  ap : XDap B ps v
  own : ∀ i, xdfoot B ps v i → own i = o
  rel : DRel A ck ps
def msgCell (m : Msg) : List Value := [.string (bs (encOf m))]
theorem msgCell_length (m : Msg) : (msgCell m).length = 1 := rfl
/-- a network lies at nb, j of its banks are there -/
structure NetAt (w : World) (own : Nat → Nat) (nb j : Nat) (M : NM) (P : PN) : Prop where
  blk : w.heap[nb]? = some (.cells (netCells j M P) 41 (0, 0))
  nown : own nb = 1
  bank : ∀ k, 1 ≤ k → k ≤ j → BankAt w own (3 + k) k (M.bk k) (P.E k)
  deed : DeedAt w own 2 M.db M.ck M.ps M.xv P.A
  wrow : RowOf w 9 1 msgCell M.wv P.wire
  wown : ∀ g, M.wv.ownBlock = some g → own g = 3
/-- from w to w' nothing else is touched; owners stay -/
structure Frame (w w' : World) (own own' : Nat → Nat) : Prop where
  kept : Kept (fun i => own i ≠ 0) w w'
  old : ∀ i, i < w.heap.size → own' i = own i
theorem Frame.trans {w u w' : World} {own own1 own' : Nat → Nat} (h : Frame w u own own1) (h2 : Frame u w' own1 own') : Frame w w' own own' := by
  refine ⟨h.kept.trans h2.kept (fun i hi => ?_), fun i hi => (h2.old i (Nat.lt_of_lt_of_le hi h.kept.size)).trans (h.old i hi)⟩
  rcases Nat.lt_or_ge i w.heap.size with hl | hl
  · exact .inl (fun e => hi ((h.old i hl).trans e))
  · exact .inr hl
theorem Frame.of_below {w w' : World} {own : Nat → Nat} (h : Below w.heap.size w w') : Frame w w' own own := ⟨Kept.of_below h, fun _ _ => rfl⟩
theorem Frame.refl (w : World) (own : Nat → Nat) : Frame w w own own := ⟨Kept.refl _ _, fun _ _ => rfl⟩
section
variable {w w' : World} {own own' : Nat → Nat} {nb j : Nat} {M : NM} {P : PN} {S : Nat → Prop}
theorem XB.keptS {B node : Nat} {ac : List Ac} {ls : List Lg} {va vl : Value} (h : XB w B node ac ls va vl) (hk : Kept S w w') (hS : ∀ i, xfoot B va vl i → ¬ S i) : XB w' B node ac ls va vl :=
  ⟨ty_of (by rw [hk.block _ h.lt (hS _ (.inl rfl))]; exact h.blk), h.arow.kept hk (fun g hg => hS g (.inr (.inl hg))), h.lrow.kept hk (fun g hg => hS g (.inr (.inr hg)))⟩
theorem XD.keptS {B ck : Nat} {ps : List Xp} {v : Value} (h : XD w B ck ps v) (hk : Kept S w w') (hS : ∀ i, xdfoot B ps v i → ¬ S i) : XD w' B ck ps v :=
  ⟨ty_of (by rw [hk.block _ h.lt (hS _ (.inl rfl))]; exact h.blk), h.row.kept hk (fun g hg => hS g (.inr (.inl hg))), fun x hx => (h.legs x hx).kept hk (fun g hg => hS g (.inr (.inr ⟨x, hx, hg⟩)))⟩
theorem XB.footlt {B node : Nat} {ac : List Ac} {ls : List Lg} {va vl : Value} (h : XB w B node ac ls va vl) {i : Nat} (hi : xfoot B va vl i) : i < w.heap.size := by
  rcases hi with rfl | hi | hi
  · exact h.lt
  · exact h.arow.lt hi
  · exact h.lrow.lt hi
theorem BankAt.kept {o k : Nat} {m : MB} {evs : List Ev} (h : BankAt w own o k m evs) (hk : Kept S w w') (hS : ∀ i, i < w.heap.size → S i → own i ≠ o) (hA : ∀ i, i < w.heap.size → own' i = own i) : BankAt w' own' o k m evs :=
  ⟨h.x.keptS hk (fun i hi hs => hS i (h.x.footlt hi) hs (h.own i hi)), h.ap, fun i hi => (hA i (h.x.footlt hi)).trans (h.own i hi), h.rel⟩
theorem DeedAt.kept {o B ck : Nat} {ps : List Xp} {v : Value} {A : List Dt} (h : DeedAt w own o B ck ps v A) (hk : Kept S w w') (hS : ∀ i, i < w.heap.size → S i → own i ≠ o) (hA : ∀ i, i < w.heap.size → own' i = own i) : DeedAt w' own' o B ck ps v A :=
  ⟨h.x.keptS hk (fun i hi hs => hS i (h.x.foot_lt hi) hs (h.own i hi)), h.ap, fun i hi => (hA i (h.x.foot_lt hi)).trans (h.own i hi), h.rel⟩
theorem NetAt.lt (I : NetAt w own nb j M P) : nb < w.heap.size := block_lt I.blk
/-- something else is touched -/
theorem NetAt.kept (I : NetAt w own nb j M P) (hk : Kept S w w') (hS : ∀ i, i < w.heap.size → S i → own i = 0) (hA : ∀ i, i < w.heap.size → own' i = own i) : NetAt w' own' nb j M P :=
  ⟨by rw [hk.block _ I.lt (fun hs => by have := hS _ I.lt hs; rw [I.nown] at this; omega)]; exact I.blk, (hA _ I.lt).trans I.nown,
    fun k h1 h2 => (I.bank k h1 h2).kept hk (fun i hi hs => by rw [hS i hi hs]; omega) hA, I.deed.kept hk (fun i hi hs => by rw [hS i hi hs]; omega) hA,
    I.wrow.kept hk (fun g hg hs => by have := hS g (I.wrow.lt hg) hs; rw [I.wown g hg] at this; omega), fun g hg => (hA g (I.wrow.lt hg)).trans (I.wown g hg)⟩
theorem NetAt.below (I : NetAt w own nb j M P) (hb : Below w.heap.size w w') : NetAt w' own nb j M P :=
  I.kept (S := fun _ => False) (Kept.of_below hb) (fun _ _ h => h.elim) (fun _ _ => rfl)
/-- blocks that are there are nobody's from here on -/
theorem NetAt.below0 (I : NetAt w own nb j M P) (hb : Below w.heap.size w w') : NetAt w' (fun i => if i < w.heap.size then own i else 0) nb j M P :=
  I.kept (S := fun _ => False) (Kept.of_below hb) (fun _ _ h => h.elim) (fun i hi => by simp [hi])
/-- bank k has gone on; lv: a list that came out -/
theorem NetAt.bankTo (I : NetAt w own nb j M P) {k : Nat} (h1 : 1 ≤ k) (h2 : k ≤ j) (h3 : j ≤ 3) {ac' : List Ac} {ls' : List Lg} {va' vl' : Value} {evs' : List Ev} (lv : Value) (hT : XBTo w w' (M.bk k).b k ac' ls' (M.bk k).va (M.bk k).vl va' vl') (hr : Rel evs' ac' ls') (hf : ∀ g, lv.ownBlock = some g → w.heap.size ≤ g ∧ va'.ownBlock ≠ some g ∧ vl'.ownBlock ≠ some g) :
    NetAt w' (fun i => if i < w.heap.size then own i else if lv.ownBlock = some i then 0 else 3 + k) nb j { M with bk := upd M.bk k ⟨(M.bk k).b, ac', ls', va', vl'⟩ } { P with E := upd P.E k evs' } ∧
    Frame w w' own (fun i => if i < w.heap.size then own i else if lv.ownBlock = some i then 0 else 3 + k) := by
  have H := I.bank k h1 h2
  have hA : ∀ i, i < w.heap.size → (fun i => if i < w.heap.size then own i else if lv.ownBlock = some i then 0 else 3 + k) i = own i := fun i hi => by simp [hi]
  have hS : ∀ i, xfoot (M.bk k).b (M.bk k).va (M.bk k).vl i → own i = 3 + k := H.own
  have hbb : ∀ t, (upd M.bk k ⟨(M.bk k).b, ac', ls', va', vl'⟩ t).b = (M.bk t).b := fun t => by
    unfold upd
    split
    · rename_i h; rw [h]
    · rfl
  refine ⟨⟨?_, (hA _ I.lt).trans I.nown, ?_, I.deed.kept hT.kept (fun i _ hs => by rw [hS i hs]; omega) hA, I.wrow.kept hT.kept (fun g hg hs => by have := hS g hs; rw [I.wown g hg] at this; omega), fun g hg => (hA g (I.wrow.lt hg)).trans (I.wown g hg)⟩, ⟨hT.kept.mono (fun i _ hs => by show own i ≠ 0; rw [hS i hs]; omega), hA⟩⟩
  · rw [hT.kept.block _ I.lt (fun hs => by have := hS _ hs; rw [I.nown] at this; omega), I.blk]
    unfold netCells
    simp only [hbb]
  · intro t t1 t2
    by_cases e : t = k
    · subst e
      simp only [upd_self]
      refine ⟨hT.xb, hT.ap, fun i hi => ?_, hr⟩
      have hold : xfoot (M.bk t).b (M.bk t).va (M.bk t).vl i → (if i < w.heap.size then own i else if lv.ownBlock = some i then 0 else 3 + t) = 3 + t := fun h => by
        rw [if_pos (H.x.footlt h)]; exact hS i h
      have hnew : w.heap.size ≤ i → lv.ownBlock ≠ some i → (if i < w.heap.size then own i else if lv.ownBlock = some i then 0 else 3 + t) = 3 + t := fun h hn => by
        rw [if_neg (by omega), if_neg hn]
      rcases hi with rfl | hi | hi
      · exact hold (.inl rfl)
      · rcases hT.owna i hi with h | h
        · exact hold (.inr (.inl h))
        · exact hnew h (fun e => (hf i e).2.1 hi)
      · rcases hT.ownl i hi with h | h
        · exact hold (.inr (.inr h))
        · exact hnew h (fun e => (hf i e).2.2 hi)
    · simp only [upd_ne _ _ e]
      exact (I.bank t t1 t2).kept hT.kept (fun i _ hs => by rw [hS i hs]; omega) hA
/-- the notary has gone on -/
theorem NetAt.deedTo (I : NetAt w own nb j M P) {ck' : Nat} {ps' : List Xp} {v' : Value} {A' : List Dt} (lv : Value) (hT : XDTo w w' M.db ck' M.ps ps' M.xv v') (hr : DRel A' ck' ps') (hf : ∀ g, lv.ownBlock = some g → w.heap.size ≤ g ∧ ¬ xdfoot M.db ps' v' g) :
    NetAt w' (fun i => if i < w.heap.size then own i else if lv.ownBlock = some i then 0 else 2) nb j { M with ck := ck', ps := ps', xv := v' } { P with A := A' } ∧
    Frame w w' own (fun i => if i < w.heap.size then own i else if lv.ownBlock = some i then 0 else 2) := by
  have H := I.deed
  have hA : ∀ i, i < w.heap.size → (fun i => if i < w.heap.size then own i else if lv.ownBlock = some i then 0 else 2) i = own i := fun i hi => by simp [hi]
  have hS : ∀ i, (i = M.db ∨ M.xv.ownBlock = some i) → own i = 2 := fun i hi => H.own i (hi.imp_right .inl)
  refine ⟨⟨?_, (hA _ I.lt).trans I.nown, fun t t1 t2 => (I.bank t t1 t2).kept hT.kept (fun i _ hs => by rw [hS i hs]; omega) hA, ⟨hT.xd, hT.ap, fun i hi => ?_, hr⟩, I.wrow.kept hT.kept (fun g hg hs => by have := hS g hs; rw [I.wown g hg] at this; omega), fun g hg => (hA g (I.wrow.lt hg)).trans (I.wown g hg)⟩, ⟨hT.kept.mono (fun i _ hs => by show own i ≠ 0; rw [hS i hs]; omega), hA⟩⟩
  · rw [hT.kept.block _ I.lt (fun hs => by have := hS _ hs; rw [I.nown] at this; omega), I.blk]
    rfl
  · rcases hT.own i hi with h | h
    · show (if i < w.heap.size then own i else if lv.ownBlock = some i then 0 else 2) = 2
      rw [if_pos (H.x.foot_lt h)]
      exact H.own i h
    · show (if i < w.heap.size then own i else if lv.ownBlock = some i then 0 else 2) = 2
      rw [if_neg (by omega), if_neg (fun e => (hf i e).2 hi)]
/-- the network's own struct is written (logs, sums, pointers), nothing else -/
theorem NetAt.cellTo (I : NetAt w own nb j M P) (i : Nat) (v : Value) {P' : PN} (hc : (netCells j M P).setIfInBounds i v = netCells j M P') (hE : P'.E = P.E) (hA : P'.A = P.A) (hw : P'.wire = P.wire) :
    NetAt (w.setCell ⟨nb, i, none⟩ v) own nb j M P' ∧ Frame w (w.setCell ⟨nb, i, none⟩ v) own own := by
  have hk := Kept.of_setCell w ⟨nb, i, none⟩ v
  have hK : ∀ a o : Nat, own a = o → o ≠ 1 → ¬ (a = nb) := fun a o h ho e => by rw [e, I.nown] at h; omega
  refine ⟨⟨?_, I.nown, fun k h1 h2 => by rw [hE]; exact (I.bank k h1 h2).kept hk (fun a _ hs => by have e : a = nb := hs; rw [e, I.nown]; omega) (fun _ _ => rfl), by rw [hA]; exact I.deed.kept hk (fun a _ hs => by have e : a = nb := hs; rw [e, I.nown]; omega) (fun _ _ => rfl), by rw [hw]; exact I.wrow.kept hk (fun g hg hs => hK g 3 (I.wown g hg) (by omega) hs), I.wown⟩, ⟨hk.mono (fun a _ hs => by have e : a = nb := hs; show own a ≠ 0; rw [e, I.nown]; omega), fun _ _ => rfl⟩⟩
  rw [heap_set_self I.blk i v, ← hc]
/-- another wire is laid down -/
theorem NetAt.wireTo {u : World} (I : NetAt w own nb j M P) {v' : Value} {wire' : List Msg} (hk : Kept (fun i => M.wv.ownBlock = some i) w u) (hrow : RowOf u 9 1 msgCell v' wire') (ho : ∀ g, v'.ownBlock = some g → M.wv.ownBlock = some g ∨ w.heap.size ≤ g) :
    u.heap[nb]? = some (.cells (netCells j M P) 41 (0, 0)) ∧
    NetAt (u.setCell ⟨nb, 9, none⟩ v') (fun i => if i < w.heap.size then own i else if v'.ownBlock = some i then 3 else 0) nb j { M with wv := v' } { P with wire := wire' } ∧
    Frame w (u.setCell ⟨nb, 9, none⟩ v') own (fun i => if i < w.heap.size then own i else if v'.ownBlock = some i then 3 else 0) := by
  have hA : ∀ i, i < w.heap.size → (fun i => if i < w.heap.size then own i else if v'.ownBlock = some i then 3 else 0) i = own i := fun i hi => by simp [hi]
  have hS : ∀ i, M.wv.ownBlock = some i → own i = 3 := I.wown
  have hnb : M.wv.ownBlock ≠ some nb := fun e => by have := hS _ e; rw [I.nown] at this; omega
  have hb : u.heap[nb]? = some (.cells (netCells j M P) 41 (0, 0)) := by rw [hk.block _ I.lt hnb]; exact I.blk
  have hk2 : Kept (fun i => M.wv.ownBlock = some i ∨ i = nb) w (u.setCell ⟨nb, 9, none⟩ v') := (hk.mono (fun i _ h => .inl h)).trans (Kept.of_setCell u ⟨nb, 9, none⟩ v') (fun i h => .inl (.inr h))
  have hcl : ∀ i, (M.wv.ownBlock = some i ∨ i = nb) → own i = 3 ∨ own i = 1 := by
    rintro i (h | rfl)
    · exact .inl (hS i h)
    · exact .inr I.nown
  refine ⟨hb, ⟨?_, (hA _ I.lt).trans I.nown, fun k h1 h2 => (I.bank k h1 h2).kept hk2 (fun i _ hs => by have := hcl i hs; omega) hA, I.deed.kept hk2 (fun i _ hs => by have := hcl i hs; omega) hA, hrow.kept (Kept.of_setCell u ⟨nb, 9, none⟩ v') (fun g hg e => ?_), fun g hg => ?_⟩, ⟨hk2.mono (fun i _ hs => by have := hcl i hs; show own i ≠ 0; omega), hA⟩⟩
  · rw [heap_set_self hb 9 v']
    rfl
  · have e' : g = nb := e
    subst e'
    rcases ho _ hg with h | h
    · exact hnb h
    · have := I.lt; omega
  · rcases ho g hg with h | h
    · exact (hA g (I.wrow.lt h)).trans (hS g h)
    · show (if g < w.heap.size then own g else if v'.ownBlock = some g then 3 else 0) = 3
      rw [if_neg (by omega), if_pos hg]
end
end Go.Proofs.Ytjkhbjgfoopomab
/-
  Networks: pick, send, lose.
-/
namespace Go.Proofs.Ytjkhbjgfoopomab
open Go.RowKit
set_option linter.unusedVariables false
set_option linter.unusedSimpArgs false
set_option maxHeartbeats 400000 in
theorem kpick_any (c : Int) (hc : -9223372036854775808 ≤ c ∧ c ≤ 9223372036854775807) (n : Nat) (hn : 0 < n) (hn2 : n ≤ 9223372036854775807) (w : World) :
    Calls Try.prog 16 #[.int .i64 c, .int .i64 (n : Int)] w fun e w' => e = .returned (.int .i64 (pickN c n : Int)) ∧ w' = w := by
  have hz : Hid (pickN c n = (if c < 0 then (-(c + 1)).toNat else c.toNat) % n) := hide rfl
  by_cases h : c < 0
  · have d : decide (c < 0) = true := by simp [h]
    have hq : Hid ((-(c + 1)).tmod n = (pickN c n : Int)) := hide (by
      rw [hz.out, if_pos h, Int.tmod_eq_emod_of_nonneg (by omega), Int.natCast_emod, Int.toNat_of_nonneg (by omega)])
    have W1 : IntKind.i64.wrap (c + 1) = c + 1 := by rw [IntKind.wrap_i64]; omega
    have W2 : IntKind.i64.wrap (-(c + 1)) = -(c + 1) := by rw [IntKind.wrap_i64]; omega
    clear hz
    go_enter Try.func16, Try.ntmps16
    go_wp2
    go_ret
    exact ⟨ret_int (by first | exact hq.out | exact hq2.out | (have := hq.out; simp_all)), rfl⟩
  · have d : decide (c < 0) = false := by simp [h]
    have hq : Hid (c.tmod n = (pickN c n : Int)) := hide (by
      rw [hz.out, if_neg h, Int.tmod_eq_emod_of_nonneg (by omega), Int.natCast_emod, Int.toNat_of_nonneg (by omega)])
    have hq2 : Hid (c % n = (pickN c n : Int)) := hide (by
      rw [hz.out, if_neg h, Int.natCast_emod, Int.toNat_of_nonneg (by omega)])
    clear hz
    go_enter Try.func16, Try.ntmps16
    go_wp2
    go_ret
    exact ⟨ret_int (by first | exact hq.out | exact hq2.out | (have := hq.out; simp_all)), rfl⟩


theorem msg_one (m : Msg) : ∀ u ∈ msgCell m, u.oneCell' = true := by
  intro u hu
  simp only [msgCell, List.mem_cons, List.not_mem_nil, or_false] at hu
  subst hu
  rfl
/-- a list of texts as one of messages -/
theorem row_msgs {w : World} {e : TypeId} {v : Value} {ms : List Msg} {f : List UInt8 → List Value} (hf : ∀ l, f l = [.string (bs l)]) (h : RowOf w e 1 f v (ms.map encOf)) : RowOf w e 1 msgCell v ms := by
  unfold RowOf at h ⊢
  rw [List.length_map] at h
  have : (ms.map encOf).flatMap f = ms.flatMap msgCell := by
    clear h
    induction ms with
    | nil => rfl
    | cons m r ih => simp only [List.map_cons, List.flatMap_cons, ih, hf (encOf m), msgCell]
  rw [this] at h
  exact h
set_option maxRecDepth 100000 in
set_option maxHeartbeats 1000000 in
theorem send_any (w : World) (own : Nat → Nat) (nb : Nat) (M : NM) (P : PN) (I : NetAt w own nb 3 M P) (lv : Value) (ms : List Msg) (hlv : RowOf w 9 1 msgCell lv ms) (hlen : P.wire.length + ms.length ≤ 8000000000000) :
    Calls Try.prog 12 #[.pointer (some ⟨nb, 0, none⟩), lv] w fun e w' => e = .returned (.tuple #[]) ∧ ∃ own' M', NetAt w' own' nb 3 M' { P with wire := P.wire ++ ms } ∧ Frame w w' own own' ∧ M'.bk = M.bk ∧ M'.ps = M.ps ∧ M'.ck = M.ck := by
  obtain ⟨i0, hi0, y0, y1, y2⟩ := info_parts txtInfo
  obtain ⟨wad, wcap, hwv⟩ := I.wrow.slice
  obtain ⟨lad, lcap, hl⟩ := hlv.slice
  have hc : ∀ o, w.cell? ⟨nb, o, none⟩ = (netCells 3 M P)[o]? := fun o => cell_at I.blk o
  have hc9 : w.cell? ⟨nb, 9, none⟩ = some (.slice wad P.wire.length wcap) := by rw [hc 9, ← hwv]; rfl
  have hnl := I.lt
  have hrow := I.wrow
  rw [hwv] at hrow
  rw [hl] at hlv
  subst hl
  have hfin : Hid (∀ v' u, RowOf u 9 1 msgCell v' (P.wire ++ ms) → Kept (fun i => M.wv.ownBlock = some i) w u → (∀ g, v'.ownBlock = some g → M.wv.ownBlock = some g ∨ w.heap.size ≤ g) → _) := hide (fun v' u h1 h2 h3 => I.wireTo h2 h1 h3)
  rw [hwv] at hfin
  replace hrow := hide hrow
  replace hlv := hide hlv
  clear hwv hc I
  generalize hW : P.wire = wire at *
  go_enter Try.func12, Try.ntmps12
  go_wp2_with (first | (at_builtin; refine stopAt ?_))
  refine hide ?_
  refine wpList_spread msgCell_length w (by rfl) _ _ 37 (by rfl) 9 i0 _ 16 Try.underlying37 hi0 y0 y1 y2 rfl (by decide) (.slice wad wire.length wcap) (.slice lad ms.length lcap) wire ms (by rfl) (by rfl) hrow.out hlv.out (fun y _ => msg_one y) (by unfold maxLen; omega) (by omega) ?_
  intro v' u h1 h2 h3
  obtain ⟨hb, J, F⟩ := hfin.out v' u h1 h2 h3
  have hu9 : u.cell? ⟨nb, 9, none⟩ = some M.wv := by rw [cell_at hb]; rfl
  have hf9 := fun o => frozen_at hb o
  have hul := block_lt hb
  obtain ⟨ad', cap', hv'⟩ := h1.slice
  subst hv'
  replace J := hide J
  replace F := hide F
  clear hfin h1 h2 h3 hb hrow hlv hc9
  generalize (wire ++ ms).length = L at *
  go_wp2
  refine bodyPost_end (results_none rfl _ _ _) rfl ?_
  exact ⟨rfl, _, _, J.out, F.out, rfl, rfl, rfl⟩
/-- texts that lie somewhere laid behind a row -/
theorem wpList_spread_at {P : Program} {ops : Array Oper} {rest : List Oper} {o : Oper} {a : Act} {Q : Exit → Act → World → Prop} {α : Type} {f : α → List Value} {sz : Nat} (hf : ∀ x, (f x).length = sz) (w : World) (hgd : o.guard = none) (s x : Operand) (t : TypeId)
    (ho : o.op = .call { callee := .builtin .append, args := #[s, x], argTypes := #[t, t] }) (e : TypeId) (i : TypeInfo) (z : Value) (bytes : Nat) (ht : P.underlying t = some (.slice e)) (hi : P.info? e = some i) (hz : i.zero = some z)
    (hsize : i.size = sz) (hby : i.bytes = bytes) (hzs : z.cells.size = sz) (hsz : 0 < sz) (v : Value) (ad : Addr) (cap : Nat) (xs ys : List α) (hs : a.eval s = v) (hx : a.eval x = .slice (some ad) ys.length cap) (hrow : RowOf w e sz f v xs) (hc : ∀ j u, (ys.flatMap f)[j]? = some u → w.cell? (ad.add j) = some u)
    (h1 : ∀ y, y ∈ ys → ∀ u ∈ f y, u.oneCell' = true) (h63 : xs.length + ys.length ≤ maxLen) (hbytes : (xs.length + ys.length) * bytes ≤ 140737488355328)
    (h : ∀ v' w', RowOf w' e sz f v' (xs ++ ys) → Kept (fun k => v.ownBlock = some k) w w' → (∀ g, v'.ownBlock = some g → v.ownBlock = some g ∨ w.heap.size ≤ g) → wpList P ops Q rest (a.put o.dst v') w') :
    wpList P ops Q (o :: rest) a w := by
  obtain ⟨v', w', hr, h5, h6, _, h8⟩ := run_append_own_at (P := P) w 0 t o.type e i z sz bytes ht hi hz hsize hby hzs hsz v xs.length (xs.flatMap f) hrow ad ys.length cap (ys.flatMap f) (flat_length hf ys) hc (fun u hu => by
    obtain ⟨y, hy, hu'⟩ := List.mem_flatMap.1 hu
    exact h1 y hy u hu') h63 hbytes (Nat.zero_le _)
  have h2 : RowOf w' e sz f v' (xs ++ ys) := RowOf.to (xs := xs) hf h5 (by simp) (by simp)
  have h4 : ∀ g, v'.ownBlock = some g → v.ownBlock = some g ∨ w.heap.size ≤ g := fun g' hg' => by
    rcases h8 with h8 | h8
    · exact .inl (by rw [← h8]; exact hg')
    · right
      rw [h8] at hg'
      injection hg' with hg'
      omega
  refine wpList_plain hgd fun K hK => ?_
  unfold Oper.wp execOp
  simp only [ho, resolve, invoke, builtin, Sem.run_bind, Sem.run_pure, Result.andThen_ok, List.map_toArray, List.map_cons, List.map_nil, hs, hx, hr]
  exact hK _ _ (h v' w' h2 (Kept.of_grown h6) h4)
set_option maxRecDepth 100000 in
set_option maxHeartbeats 1000000 in
theorem lose_any (w : World) (own : Nat → Nat) (nb : Nat) (M : NM) (P : PN) (I : NetAt w own nb 3 M P) (i : Nat) (hi : i < P.wire.length) (hlen : P.wire.length ≤ 8000000000000) :
    Calls Try.prog 20 #[.pointer (some ⟨nb, 0, none⟩), .int .i64 (i : Int)] w fun e w' => e = .returned (.string (bs (encOf P.wire[i]))) ∧ ∃ own' M', NetAt w' own' nb 3 M' { P with wire := P.wire.eraseIdx i } ∧ Frame w w' own own' ∧ M'.bk = M.bk ∧ M'.ps = M.ps ∧ M'.ck = M.ck := by
  obtain ⟨i0, hi0, y0, y1, y2⟩ := info_parts txtInfo
  obtain ⟨wad, wcap, hwv, hev⟩ := I.wrow.form msgCell_length
  obtain ⟨g, rfl, hcell, hfro⟩ := hev i hi
  have hgl : g < w.heap.size := I.wrow.lt (by rw [hwv]; rfl)
  have hcap : P.wire.length ≤ wcap := by have h := I.wrow; rw [hwv] at h; exact h.cap
  have hc0 := hcell 0 (by decide)
  simp only [msgCell, List.getElem?_cons_zero, Nat.add_zero, Nat.mul_one] at hc0
  have hc : ∀ o, w.cell? ⟨nb, o, none⟩ = (netCells 3 M P)[o]? := fun o => cell_at I.blk o
  have hc9 : w.cell? ⟨nb, 9, none⟩ = some (.slice (some ⟨g, 0, none⟩) P.wire.length wcap) := by rw [hc 9, ← hwv]; rfl
  have hnl := I.lt
  have hall : ∀ (k : Nat) (m : Msg), P.wire[k]? = some m → w.cell? ⟨g, k, none⟩ = some (.string (bs (encOf m))) := fun k m hk => by
    obtain ⟨hk1, hk2⟩ := List.getElem?_eq_some_iff.1 hk
    obtain ⟨g', e, hcl, _⟩ := hev k hk1
    injection e with e
    injection e with e
    subst e
    have h := hcl 0 (by decide)
    simp only [msgCell, List.getElem?_cons_zero, Nat.add_zero, Nat.mul_one] at h
    rw [h, hk2]
  have flat : ∀ (ys : List Msg) (j : Nat) (u : Value), (ys.flatMap msgCell)[j]? = some u → ∃ m, ys[j]? = some m ∧ u = .string (bs (encOf m)) := by
    intro ys
    induction ys with
    | nil => intro j u h; simp at h
    | cons y r ih =>
      intro j u h
      cases j with
      | zero => simp [msgCell] at h; exact ⟨y, rfl, h.symm⟩
      | succ j =>
        simp only [List.flatMap_cons, msgCell, List.singleton_append, List.getElem?_cons_succ] at h
        exact ih j u h
  have hfin : Hid (∀ v' u, RowOf u 9 1 msgCell v' (P.wire.eraseIdx i) → Kept (fun i => M.wv.ownBlock = some i) w u → (∀ g, v'.ownBlock = some g → M.wv.ownBlock = some g ∨ w.heap.size ≤ g) → _) := hide (fun v' u h1 h2 h3 => I.wireTo h2 h1 h3)
  have hA : Hid (∀ u, Below w.heap.size w u → ∀ j x, ((P.wire.take i).flatMap msgCell)[j]? = some x → u.cell? ((⟨g, 0, none⟩ : Addr).add j) = some x) := hide (fun u hu j x hx => by
    obtain ⟨m, hm, rfl⟩ := flat _ _ _ hx
    have e : ((⟨g, 0, none⟩ : Addr).add j) = ⟨g, j, none⟩ := by unfold Addr.add; split <;> simp_all
    rw [e, hu.cell (p := ⟨g, j, none⟩) hgl]
    refine hall j m ?_
    rw [List.getElem?_take] at hm
    split at hm
    · exact hm
    · cases hm)
  have hB : Hid (∀ u, Below w.heap.size w u → ∀ j x, ((P.wire.drop (i + 1)).flatMap msgCell)[j]? = some x → u.cell? ((⟨g, i + 1, none⟩ : Addr).add j) = some x) := hide (fun u hu j x hx => by
    obtain ⟨m, hm, rfl⟩ := flat _ _ _ hx
    have e : ((⟨g, i + 1, none⟩ : Addr).add j) = ⟨g, i + 1 + j, none⟩ := by unfold Addr.add; split <;> simp_all
    rw [e, hu.cell (p := ⟨g, i + 1 + j, none⟩) hgl]
    refine hall _ m ?_
    rw [List.getElem?_drop] at hm
    exact hm)
  have hlA : (P.wire.take i).length = i := by rw [List.length_take]; omega
  have hlB : (P.wire.drop (i + 1)).length = P.wire.length - (i + 1) := by rw [List.length_drop]
  have hsplit : P.wire.take i ++ P.wire.drop (i + 1) = P.wire.eraseIdx i := by rw [List.eraseIdx_eq_take_drop_succ]
  rw [← hsplit] at hfin ⊢
  clear hc hev hcell hall flat
  generalize P.wire.take i = XA at *
  generalize P.wire.drop (i + 1) = XB' at *
  generalize P.wire[i] = m0 at *
  generalize P.wire.length = N at *
  have hiN : (i : Int) < (N : Int) := by omega
  have hiC : (i : Int) ≤ (wcap : Int) := by omega
  have W1 : IntKind.i64.wrap ((i : Int) + 1) = ((i + 1 : Nat) : Int) := by rw [IntKind.wrap_i64]; omega
  have hlA' := hide hlA
  have hlB' := hide hlB
  have hsub : IntKind.i64.wrap ((N : Int) - ((i + 1 : Nat) : Int)) = ((N - (i + 1) : Nat) : Int) := by rw [IntKind.wrap_i64]; omega
  have hle1 : ((i + 1 : Nat) : Int) ≤ (N : Int) := by omega
  have hle2 : (N : Int) ≤ (wcap : Int) := by omega
  clear hlA hlB hsplit
  replace I := hide I
  go_enter Try.func20, Try.ntmps20
  go_wp2_with (first | (at_builtin; refine stopAt ?_))
  refine hide ?_
  refine wpList_spread_at msgCell_length w (by rfl) _ _ 37 (by rfl) 9 i0 _ 16 Try.underlying37 hi0 y0 y1 y2 rfl (by decide) (.slice none 0 0) ⟨g, 0, none⟩ wcap [] XA (by rfl) (by rw [hlA'.out]; rfl) (RowOf.nil _ _) (hA.out w (Below.refl _ _)) (fun y _ => msg_one y) (by have := hlA'.out; unfold maxLen; simp only [List.length_nil]; omega) (by have := hlA'.out; simp only [List.length_nil]; omega) ?_
  intro v1 u1 h1 h2 h3
  have hb1 : Below w.heap.size w u1 := h2.below (Nat.le_refl _) (fun k hk => by simp [Value.ownBlock] at hk)
  have hv1o : ∀ k, v1.ownBlock = some k → w.heap.size ≤ k := fun k hk => by
    rcases h3 k hk with h | h
    · simp [Value.ownBlock] at h
    · exact h
  rw [List.nil_append] at h1
  obtain ⟨ad1, cap1, hv1⟩ := h1.slice
  have hc9' : u1.cell? ⟨nb, 9, none⟩ = some (.slice (some ⟨g, 0, none⟩) N wcap) := (hb1.cell (p := ⟨nb, 9, none⟩) hnl).trans hc9
  have hnl' : nb < u1.heap.size := Nat.lt_of_lt_of_le hnl hb1.size
  have h1' := hide h1
  have hv1o' := hide hv1o
  have hv1' := hide hv1
  rw [hlA'.out] at hv1
  subst hv1
  clear h1 h2 h3 hv1o hv1' hc9
  go_wp2_with (first | (at_builtin; refine stopAt ?_))
  all_goals (
    refine hide ?_
    first
      | (refine wpList_spread_at msgCell_length u1 (by rfl) _ _ 37 (by rfl) 9 i0 _ 16 Try.underlying37 hi0 y0 y1 y2 rfl (by decide) (.slice ad1 i cap1) ⟨g, i + 1, none⟩ (wcap - (i + 1)) XA XB' (by rfl) (by rw [hlB'.out]; rfl) h1'.out (hB.out u1 hb1) (fun y _ => msg_one y) (by have := hlA'.out; have := hlB'.out; unfold maxLen; omega) (by have := hlA'.out; have := hlB'.out; omega) ?_)
      | (refine wpList_spread_at msgCell_length u1 (by rfl) _ _ 37 (by rfl) 9 i0 _ 16 Try.underlying37 hi0 y0 y1 y2 rfl (by decide) (.slice ad1 i cap1) ⟨g, 0, none⟩ 0 XA XB' (by rfl) (by rw [hlB'.out]; rfl) h1'.out (fun j x hx => absurd hx (by have h0 : XB' = [] := List.length_eq_zero_iff.1 (by have := hlB'.out; omega); rw [h0]; simp)) (fun y _ => msg_one y) (by have := hlA'.out; have := hlB'.out; unfold maxLen; omega) (by have := hlA'.out; have := hlB'.out; omega) ?_)
    intro v2 u2 k1 k2 k3
    have hK : Kept (fun i => M.wv.ownBlock = some i) w u2 := (Kept.of_below hb1).trans k2 (fun k hk => .inr (hv1o'.out k hk))
    have hO : ∀ k, v2.ownBlock = some k → M.wv.ownBlock = some k ∨ w.heap.size ≤ k := fun k hk => by
      rcases k3 k hk with h | h
      · exact .inr (hv1o'.out k h)
      · exact .inr (Nat.le_trans hb1.size h)
    obtain ⟨hb, J, F⟩ := hfin.out v2 u2 k1 hK hO
    have hu9 : u2.cell? ⟨nb, 9, none⟩ = some M.wv := by rw [cell_at hb]; rfl
    have hf9 := fun o => frozen_at hb o
    have hul := block_lt hb
    obtain ⟨ad', cap', hv'⟩ := k1.slice
    subst hv'
    replace J := hide J
    replace F := hide F
    clear hfin k1 k2 k3 hb hA hB h1' hv1o' hK hO hc9' hwv
    generalize (XA ++ XB').length = L at *
    go_wp2
    go_ret
    exact ⟨rfl, _, _, J.out, F.out, rfl, rfl, rfl⟩)
end Go.Proofs.Ytjkhbjgfoopomab
