import Derived.Test.YtjkhbjgfoopomaaG35
/-
  A network in memory: an owner for each block of it.
-/
namespace Go.Proofs.Ytjkhbjgfoopomaa
open Go.RowKit
set_option linter.unusedVariables false
set_option linter.unusedSimpArgs false
/-- a bank's memory -/
structure MB where
  b : Nat
  ac : List Ac
  ls : List Lg
  va : Value
  vl : Value
/-- a network's memory -/
structure NM where
  bk : Nat → MB
  db : Nat
  ck : Nat
  ps : List Xp
  xv : Value
  wv : Value
def ptrTo (b : Nat) : Value := .pointer (some ⟨b, 0, none⟩)
def bankPtr (j k b : Nat) : Value := if k ≤ j then ptrTo b else .pointer none
def netCells (j : Nat) (M : NM) (P : PN) : Array Value := #[.pointer none, bankPtr j 1 (M.bk 1).b, bankPtr j 2 (M.bk 2).b, bankPtr j 3 (M.bk 3).b, ptrTo M.db, .string (bs (P.lg 0)), .string (bs (P.lg 1)), .string (bs (P.lg 2)), .string (bs (P.lg 3)), M.wv, .int .u64 (P.sm 0 : Int), .int .u64 (P.sm 1 : Int), .int .u64 (P.sm 2 : Int), .int .u64 (P.sm 3 : Int)]
/-- a bank that lies there, its blocks owned by o -/
structure BankAt (w : World) (own : Nat → Nat) (o k : Nat) (m : MB) (evs : List Ev) : Prop where
  x : XB w m.b k m.ac m.ls m.va m.vl
  ap : Apart m.b m.va m.vl
  own : ∀ i, xfoot m.b m.va m.vl i → own i = o
  rel : Rel evs m.ac m.ls
structure DeedAt (w : World) (own : Nat → Nat) (o : Nat) (B ck : Nat) (ps : List Xp) (v : Value) (A : List Dt) : Prop where
  x : XD w B ck ps v
  ap : XDap B ps v
  own : ∀ i, xdfoot B ps v i → own i = o
  rel : DRel A ck ps
def msgCell (m : Msg) : List Value := [.string (bs (encOf m))]
theorem msgCell_length (m : Msg) : (msgCell m).length = 1 := rfl
/-- a network lies at nb, j of its banks are there -/
structure NetAt (w : World) (own : Nat → Nat) (nb j : Nat) (M : NM) (P : PN) : Prop where
  blk : w.heap[nb]? = some (.cells (netCells j M P) 67 (0, 0))
  nown : own nb = 1
  bank : ∀ k, 1 ≤ k → k ≤ j → BankAt w own (3 + k) k (M.bk k) (P.E k)
  deed : DeedAt w own 2 M.db M.ck M.ps M.xv P.A
  wrow : RowOf w 9 1 msgCell M.wv P.wire
  wown : ∀ g, M.wv.ownBlock = some g → own g = 3
/-- from w to w' nothing else is touched; owners stay -/
structure Frame (w w' : World) (own own' : Nat → Nat) : Prop where
  kept : Kept (fun i => own i ≠ 0) w w'
  old : ∀ i, i < w.heap.size → own' i = own i
theorem Frame.trans {w u w' : World} {own own1 own' : Nat → Nat} (h : Frame w u own own1) (h2 : Frame u w' own1 own') : Frame w w' own own' := by
  refine ⟨h.kept.trans h2.kept (fun i hi => ?_), fun i hi => (h2.old i (Nat.lt_of_lt_of_le hi h.kept.size)).trans (h.old i hi)⟩
  rcases Nat.lt_or_ge i w.heap.size with hl | hl
  · exact .inl (fun e => hi ((h.old i hl).trans e))
  · exact .inr hl
theorem Frame.of_below {w w' : World} {own : Nat → Nat} (h : Below w.heap.size w w') : Frame w w' own own := ⟨Kept.of_below h, fun _ _ => rfl⟩
theorem Frame.refl (w : World) (own : Nat → Nat) : Frame w w own own := ⟨Kept.refl _ _, fun _ _ => rfl⟩
section
variable {w w' : World} {own own' : Nat → Nat} {nb j : Nat} {M : NM} {P : PN} {S : Nat → Prop}
theorem XB.keptS {B node : Nat} {ac : List Ac} {ls : List Lg} {va vl : Value} (h : XB w B node ac ls va vl) (hk : Kept S w w') (hS : ∀ i, xfoot B va vl i → ¬ S i) : XB w' B node ac ls va vl :=
  ⟨ty_of (by rw [hk.block _ h.lt (hS _ (.inl rfl))]; exact h.blk), h.arow.kept hk (fun g hg => hS g (.inr (.inl hg))), h.lrow.kept hk (fun g hg => hS g (.inr (.inr hg)))⟩
theorem XD.keptS {B ck : Nat} {ps : List Xp} {v : Value} (h : XD w B ck ps v) (hk : Kept S w w') (hS : ∀ i, xdfoot B ps v i → ¬ S i) : XD w' B ck ps v :=
  ⟨ty_of (by rw [hk.block _ h.lt (hS _ (.inl rfl))]; exact h.blk), h.row.kept hk (fun g hg => hS g (.inr (.inl hg))), fun x hx => (h.legs x hx).kept hk (fun g hg => hS g (.inr (.inr ⟨x, hx, hg⟩)))⟩
theorem XB.footlt {B node : Nat} {ac : List Ac} {ls : List Lg} {va vl : Value} (h : XB w B node ac ls va vl) {i : Nat} (hi : xfoot B va vl i) : i < w.heap.size := by
  rcases hi with rfl | hi | hi
  · exact h.lt
  · exact h.arow.lt hi
  · exact h.lrow.lt hi
theorem BankAt.kept {o k : Nat} {m : MB} {evs : List Ev} (h : BankAt w own o k m evs) (hk : Kept S w w') (hS : ∀ i, i < w.heap.size → S i → own i ≠ o) (hA : ∀ i, i < w.heap.size → own' i = own i) : BankAt w' own' o k m evs :=
  ⟨h.x.keptS hk (fun i hi hs => hS i (h.x.footlt hi) hs (h.own i hi)), h.ap, fun i hi => (hA i (h.x.footlt hi)).trans (h.own i hi), h.rel⟩
theorem DeedAt.kept {o B ck : Nat} {ps : List Xp} {v : Value} {A : List Dt} (h : DeedAt w own o B ck ps v A) (hk : Kept S w w') (hS : ∀ i, i < w.heap.size → S i → own i ≠ o) (hA : ∀ i, i < w.heap.size → own' i = own i) : DeedAt w' own' o B ck ps v A :=
  ⟨h.x.keptS hk (fun i hi hs => hS i (h.x.foot_lt hi) hs (h.own i hi)), h.ap, fun i hi => (hA i (h.x.foot_lt hi)).trans (h.own i hi), h.rel⟩
theorem NetAt.lt (I : NetAt w own nb j M P) : nb < w.heap.size := block_lt I.blk
/-- something else is touched -/
theorem NetAt.kept (I : NetAt w own nb j M P) (hk : Kept S w w') (hS : ∀ i, i < w.heap.size → S i → own i = 0) (hA : ∀ i, i < w.heap.size → own' i = own i) : NetAt w' own' nb j M P :=
  ⟨by rw [hk.block _ I.lt (fun hs => by have := hS _ I.lt hs; rw [I.nown] at this; omega)]; exact I.blk, (hA _ I.lt).trans I.nown,
    fun k h1 h2 => (I.bank k h1 h2).kept hk (fun i hi hs => by rw [hS i hi hs]; omega) hA, I.deed.kept hk (fun i hi hs => by rw [hS i hi hs]; omega) hA,
    I.wrow.kept hk (fun g hg hs => by have := hS g (I.wrow.lt hg) hs; rw [I.wown g hg] at this; omega), fun g hg => (hA g (I.wrow.lt hg)).trans (I.wown g hg)⟩
theorem NetAt.below (I : NetAt w own nb j M P) (hb : Below w.heap.size w w') : NetAt w' own nb j M P :=
  I.kept (S := fun _ => False) (Kept.of_below hb) (fun _ _ h => h.elim) (fun _ _ => rfl)
/-- blocks that are there are nobody's from here on -/
theorem NetAt.below0 (I : NetAt w own nb j M P) (hb : Below w.heap.size w w') : NetAt w' (fun i => if i < w.heap.size then own i else 0) nb j M P :=
  I.kept (S := fun _ => False) (Kept.of_below hb) (fun _ _ h => h.elim) (fun i hi => by simp [hi])
/-- bank k has gone on; lv: a list that came out -/
theorem NetAt.bankTo (I : NetAt w own nb j M P) {k : Nat} (h1 : 1 ≤ k) (h2 : k ≤ j) (h3 : j ≤ 3) {ac' : List Ac} {ls' : List Lg} {va' vl' : Value} {evs' : List Ev} (lv : Value) (hT : XBTo w w' (M.bk k).b k ac' ls' (M.bk k).va (M.bk k).vl va' vl') (hr : Rel evs' ac' ls') (hf : ∀ g, lv.ownBlock = some g → w.heap.size ≤ g ∧ va'.ownBlock ≠ some g ∧ vl'.ownBlock ≠ some g) :
    NetAt w' (fun i => if i < w.heap.size then own i else if lv.ownBlock = some i then 0 else 3 + k) nb j { M with bk := upd M.bk k ⟨(M.bk k).b, ac', ls', va', vl'⟩ } { P with E := upd P.E k evs' } ∧
    Frame w w' own (fun i => if i < w.heap.size then own i else if lv.ownBlock = some i then 0 else 3 + k) := by
  have H := I.bank k h1 h2
  have hA : ∀ i, i < w.heap.size → (fun i => if i < w.heap.size then own i else if lv.ownBlock = some i then 0 else 3 + k) i = own i := fun i hi => by simp [hi]
  have hS : ∀ i, xfoot (M.bk k).b (M.bk k).va (M.bk k).vl i → own i = 3 + k := H.own
  have hbb : ∀ t, (upd M.bk k ⟨(M.bk k).b, ac', ls', va', vl'⟩ t).b = (M.bk t).b := fun t => by
    unfold upd
    split
    · rename_i h; rw [h]
    · rfl
  refine ⟨⟨?_, (hA _ I.lt).trans I.nown, ?_, I.deed.kept hT.kept (fun i _ hs => by rw [hS i hs]; omega) hA, I.wrow.kept hT.kept (fun g hg hs => by have := hS g hs; rw [I.wown g hg] at this; omega), fun g hg => (hA g (I.wrow.lt hg)).trans (I.wown g hg)⟩, ⟨hT.kept.mono (fun i _ hs => by show own i ≠ 0; rw [hS i hs]; omega), hA⟩⟩
  · rw [hT.kept.block _ I.lt (fun hs => by have := hS _ hs; rw [I.nown] at this; omega), I.blk]
    unfold netCells
    simp only [hbb]
  · intro t t1 t2
    by_cases e : t = k
    · subst e
      simp only [upd_self]
      refine ⟨hT.xb, hT.ap, fun i hi => ?_, hr⟩
      have hold : xfoot (M.bk t).b (M.bk t).va (M.bk t).vl i → (if i < w.heap.size then own i else if lv.ownBlock = some i then 0 else 3 + t) = 3 + t := fun h => by
        rw [if_pos (H.x.footlt h)]; exact hS i h
      have hnew : w.heap.size ≤ i → lv.ownBlock ≠ some i → (if i < w.heap.size then own i else if lv.ownBlock = some i then 0 else 3 + t) = 3 + t := fun h hn => by
        rw [if_neg (by omega), if_neg hn]
      rcases hi with rfl | hi | hi
      · exact hold (.inl rfl)
      · rcases hT.owna i hi with h | h
        · exact hold (.inr (.inl h))
        · exact hnew h (fun e => (hf i e).2.1 hi)
      · rcases hT.ownl i hi with h | h
        · exact hold (.inr (.inr h))
        · exact hnew h (fun e => (hf i e).2.2 hi)
    · simp only [upd_ne _ _ e]
      exact (I.bank t t1 t2).kept hT.kept (fun i _ hs => by rw [hS i hs]; omega) hA
/-- the notary has gone on -/
theorem NetAt.deedTo (I : NetAt w own nb j M P) {ck' : Nat} {ps' : List Xp} {v' : Value} {A' : List Dt} (lv : Value) (hT : XDTo w w' M.db ck' M.ps ps' M.xv v') (hr : DRel A' ck' ps') (hf : ∀ g, lv.ownBlock = some g → w.heap.size ≤ g ∧ ¬ xdfoot M.db ps' v' g) :
    NetAt w' (fun i => if i < w.heap.size then own i else if lv.ownBlock = some i then 0 else 2) nb j { M with ck := ck', ps := ps', xv := v' } { P with A := A' } ∧
    Frame w w' own (fun i => if i < w.heap.size then own i else if lv.ownBlock = some i then 0 else 2) := by
  have H := I.deed
  have hA : ∀ i, i < w.heap.size → (fun i => if i < w.heap.size then own i else if lv.ownBlock = some i then 0 else 2) i = own i := fun i hi => by simp [hi]
  have hS : ∀ i, (i = M.db ∨ M.xv.ownBlock = some i) → own i = 2 := fun i hi => H.own i (hi.imp_right .inl)
  refine ⟨⟨?_, (hA _ I.lt).trans I.nown, fun t t1 t2 => (I.bank t t1 t2).kept hT.kept (fun i _ hs => by rw [hS i hs]; omega) hA, ⟨hT.xd, hT.ap, fun i hi => ?_, hr⟩, I.wrow.kept hT.kept (fun g hg hs => by have := hS g hs; rw [I.wown g hg] at this; omega), fun g hg => (hA g (I.wrow.lt hg)).trans (I.wown g hg)⟩, ⟨hT.kept.mono (fun i _ hs => by show own i ≠ 0; rw [hS i hs]; omega), hA⟩⟩
  · rw [hT.kept.block _ I.lt (fun hs => by have := hS _ hs; rw [I.nown] at this; omega), I.blk]
    rfl
  · rcases hT.own i hi with h | h
    · show (if i < w.heap.size then own i else if lv.ownBlock = some i then 0 else 2) = 2
      rw [if_pos (H.x.foot_lt h)]
      exact H.own i h
    · show (if i < w.heap.size then own i else if lv.ownBlock = some i then 0 else 2) = 2
      rw [if_neg (by omega), if_neg (fun e => (hf i e).2 hi)]
/-- the network's own struct is written (logs, sums, pointers), nothing else -/
theorem NetAt.cellTo (I : NetAt w own nb j M P) (i : Nat) (v : Value) {P' : PN} (hc : (netCells j M P).setIfInBounds i v = netCells j M P') (hE : P'.E = P.E) (hA : P'.A = P.A) (hw : P'.wire = P.wire) :
    NetAt (w.setCell ⟨nb, i, none⟩ v) own nb j M P' ∧ Frame w (w.setCell ⟨nb, i, none⟩ v) own own := by
  have hk := Kept.of_setCell w ⟨nb, i, none⟩ v
  have hK : ∀ a o : Nat, own a = o → o ≠ 1 → ¬ (a = nb) := fun a o h ho e => by rw [e, I.nown] at h; omega
  refine ⟨⟨?_, I.nown, fun k h1 h2 => by rw [hE]; exact (I.bank k h1 h2).kept hk (fun a _ hs => by have e : a = nb := hs; rw [e, I.nown]; omega) (fun _ _ => rfl), by rw [hA]; exact I.deed.kept hk (fun a _ hs => by have e : a = nb := hs; rw [e, I.nown]; omega) (fun _ _ => rfl), by rw [hw]; exact I.wrow.kept hk (fun g hg hs => hK g 3 (I.wown g hg) (by omega) hs), I.wown⟩, ⟨hk.mono (fun a _ hs => by have e : a = nb := hs; show own a ≠ 0; rw [e, I.nown]; omega), fun _ _ => rfl⟩⟩
  rw [heap_set_self I.blk i v, ← hc]
/-- another wire is laid down -/
theorem NetAt.wireTo {u : World} (I : NetAt w own nb j M P) {v' : Value} {wire' : List Msg} (hk : Kept (fun i => M.wv.ownBlock = some i) w u) (hrow : RowOf u 9 1 msgCell v' wire') (ho : ∀ g, v'.ownBlock = some g → M.wv.ownBlock = some g ∨ w.heap.size ≤ g) :
    u.heap[nb]? = some (.cells (netCells j M P) 67 (0, 0)) ∧
    NetAt (u.setCell ⟨nb, 9, none⟩ v') (fun i => if i < w.heap.size then own i else if v'.ownBlock = some i then 3 else 0) nb j { M with wv := v' } { P with wire := wire' } ∧
    Frame w (u.setCell ⟨nb, 9, none⟩ v') own (fun i => if i < w.heap.size then own i else if v'.ownBlock = some i then 3 else 0) := by
  have hA : ∀ i, i < w.heap.size → (fun i => if i < w.heap.size then own i else if v'.ownBlock = some i then 3 else 0) i = own i := fun i hi => by simp [hi]
  have hS : ∀ i, M.wv.ownBlock = some i → own i = 3 := I.wown
  have hnb : M.wv.ownBlock ≠ some nb := fun e => by have := hS _ e; rw [I.nown] at this; omega
  have hb : u.heap[nb]? = some (.cells (netCells j M P) 67 (0, 0)) := by rw [hk.block _ I.lt hnb]; exact I.blk
  have hk2 : Kept (fun i => M.wv.ownBlock = some i ∨ i = nb) w (u.setCell ⟨nb, 9, none⟩ v') := (hk.mono (fun i _ h => .inl h)).trans (Kept.of_setCell u ⟨nb, 9, none⟩ v') (fun i h => .inl (.inr h))
  have hcl : ∀ i, (M.wv.ownBlock = some i ∨ i = nb) → own i = 3 ∨ own i = 1 := by
    rintro i (h | rfl)
    · exact .inl (hS i h)
    · exact .inr I.nown
  refine ⟨hb, ⟨?_, (hA _ I.lt).trans I.nown, fun k h1 h2 => (I.bank k h1 h2).kept hk2 (fun i _ hs => by have := hcl i hs; omega) hA, I.deed.kept hk2 (fun i _ hs => by have := hcl i hs; omega) hA, hrow.kept (Kept.of_setCell u ⟨nb, 9, none⟩ v') (fun g hg e => ?_), fun g hg => ?_⟩, ⟨hk2.mono (fun i _ hs => by have := hcl i hs; show own i ≠ 0; omega), hA⟩⟩
  · rw [heap_set_self hb 9 v']
    rfl
  · have e' : g = nb := e
    subst e'
    rcases ho _ hg with h | h
    · exact hnb h
    · have := I.lt; omega
  · rcases ho g hg with h | h
    · exact (hA g (I.wrow.lt h)).trans (hS g h)
    · show (if g < w.heap.size then own g else if v'.ownBlock = some g then 3 else 0) = 3
      rw [if_neg (by omega), if_pos hg]
end
end Go.Proofs.Ytjkhbjgfoopomaa
