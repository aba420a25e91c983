import Derived.Test.YtjkhbjgfoopomaaG4
/-
  The program's notary in memory; find, status, hasLeg.
-/
namespace Go.Proofs.Ytjkhbjgfoopomaa
open Go.RowKit
set_option linter.unusedVariables false
set_option linter.unusedSimpArgs false
/-- a payment that the program's notary keeps -/
structure Xp where
  pm : Pm
  st : Nat
  held : Nat
  done : Nat
def Xp.ok (x : Xp) : Prop := x.pm.ok ∧ x.st < 256 ∧ x.held < 256 ∧ x.done < 256
def Xp.cells (x : Xp) : List Value := [.int .u32 (x.pm.id : Int), .int .u64 (x.pm.dl : Int), .string (bs x.pm.memo), .slice x.pm.la x.pm.legs.length x.pm.lc, .int .u8 (x.st : Int), .int .u8 (x.held : Int), .int .u8 (x.done : Int)]
theorem Xp.cells_length (x : Xp) : x.cells.length = 7 := rfl
/-- a notary of the program's lies at B -/
structure XD (w : World) (B ck : Nat) (ps : List Xp) (v : Value) : Prop where
  blk : w.heap[B]? = some (.cells #[.int .u64 (ck : Int), v] 113 (0, 0))
  row : RowOf w 139 7 Xp.cells v ps
  legs : ∀ x, x ∈ ps → RowOf w 57 4 Pl.cells x.pm.lv x.pm.legs
theorem XD.lt {w : World} {B ck : Nat} {ps : List Xp} {v : Value} (h : XD w B ck ps v) : B < w.heap.size := block_lt h.blk
theorem XD.below {w u : World} {B ck : Nat} {ps : List Xp} {v : Value} (h : XD w B ck ps v) (hb : Below w.heap.size w u) : XD u B ck ps v :=
  ⟨by rw [hb.block B h.lt]; exact h.blk, h.row.below hb, fun x hx => (h.legs x hx).below hb⟩
/-- where a payment stands; the list's length, if it is not kept -/
def findX (id : Nat) : List Xp → Nat
  | [] => 0
  | x :: r => if x.pm.id = id then 0 else findX id r + 1
theorem findX_le (id : Nat) : ∀ ps, findX id ps ≤ ps.length
  | [] => Nat.le_refl _
  | x :: r => by
    have := findX_le id r
    simp only [findX, List.length_cons]
    split <;> omega
theorem findX_at (id : Nat) : ∀ (ps : List Xp) (h : findX id ps < ps.length), ps[findX id ps].pm.id = id
  | [], h => by simp at h
  | x :: r, h => by
    simp only [findX] at h ⊢
    split at h
    · rename_i e
      simp [e]
    · rename_i e
      simp only [e, if_false, List.getElem_cons_succ]
      exact findX_at id r (by simpa using h)
theorem findX_no (id : Nat) : ∀ (ps : List Xp) (k : Nat) (h : k < ps.length), k < findX id ps → ps[k].pm.id ≠ id
  | [], k, h, _ => by simp at h
  | x :: r, k, h, hk => by
    simp only [findX] at hk
    split at hk
    · omega
    · rename_i e
      cases k with
      | zero => exact e
      | succ k => exact findX_no id r k (by simpa using h) (by omega)
theorem findX_is (id : Nat) (ps : List Xp) (k : Nat) (hk : k ≤ ps.length) (hno : ∀ j (hj : j < ps.length), j < k → ps[j].pm.id ≠ id) (hat : ∀ h : k < ps.length, ps[k].pm.id = id) : findX id ps = k := by
  have h1 := findX_le id ps
  rcases Nat.lt_trichotomy (findX id ps) k with h | h | h
  · have h2 : findX id ps < ps.length := by omega
    exact absurd (findX_at id ps h2) (hno _ h2 h)
  · exact h
  · have h2 : k < ps.length := by omega
    exact absurd (hat h2) (findX_no id ps k h2 h)
set_option maxRecDepth 100000 in
set_option maxHeartbeats 1000000 in
theorem xfind_any (id : Nat) (hid : id < 4294967296) (w : World) (B ck : Nat) (ps : List Xp) (v : Value) (hX : XD w B ck ps v) (hok : ∀ x, x ∈ ps → x.ok) (hlen : ps.length ≤ 1000000) :
    Calls Try.prog 73 #[.pointer (some ⟨B, 0, none⟩), .int .u32 (id : Int)] w fun e w' => e = .returned (.int .i64 (findX id ps : Int)) ∧ w' = w := by
  obtain ⟨ad, cap, hv, hev⟩ := hX.row.form Xp.cells_length
  subst hv
  have hc : ∀ o, w.cell? ⟨B, o, none⟩ = (#[.int .u64 (ck : Int), .slice ad ps.length cap] : Array Value)[o]? := fun o => cell_at hX.blk o
  go_enter Try.func73, Try.ntmps73
  go_wp2
  go_loopw [5] (fun c u => ∃ k : Nat, k ≤ ps.length ∧ c = .int .i64 k ∧ (∀ j (hj : j < ps.length), j < k → ps[j].pm.id ≠ id) ∧ u = w) (fun c _ => ps.length - (intOf c).toNat)
  case atStart => exact ⟨0, Nat.zero_le _, rfl, fun j hj h => by omega, rfl⟩
  case round =>
    obtain ⟨k, hk, rfl, hno, rfl⟩ := hrel
    replace hno := hide hno
    by_cases hlt : k < ps.length
    · obtain ⟨g, hg, hcell, _⟩ := hev k hlt
      subst hg
      have c0 := hcell 0 (by decide)
      have hek := hok ps[k] (List.getElem_mem hlt)
      have hlk : (k : Int) < (ps.length : Int) := by omega
      have dl : decide ((k : Int) < (ps.length : Int)) = true := by simp; omega
      have hnx : Hid (ps[k].pm.id ≠ id → ∀ j (hj : j < ps.length), j < k + 1 → ps[j].pm.id ≠ id) := hide (fun h j hj hj2 => by
        rcases Nat.lt_or_ge j k with x | x
        · exact hno.out j hj x
        · obtain rfl : j = k := by omega
          exact h)
      have hqq : Hid (ps[k].pm.id = id → findX id ps = k) := hide (fun h => findX_is id ps k hk hno.out (fun _ => h))
      clear hcell hev hno
      generalize ps[k] = E at *
      obtain ⟨⟨pi, pd, pm, pl, pa, pc⟩, st, he, dn⟩ := E
      obtain ⟨⟨hpi, _, _⟩, _⟩ := hek
      simp only [Xp.cells, List.getElem?_cons_zero, Nat.add_zero] at c0 hpi hnx hqq
      by_cases hi : pi = id
      · have di : ((pi : Int) != (id : Int)) = false := by simp; omega
        have hq := hide (hqq.out hi)
        clear hnx hqq hi
        go_wp2
        go_ret
        exact ⟨by rw [hq.out]; rfl, rfl⟩
      · have di : ((pi : Int) != (id : Int)) = true := by simp; omega
        have hq := hide (hnx.out hi)
        clear hnx hqq hi
        go_wp2
        exact ⟨⟨k + 1, hlt, by go_num, hq.out, trivial⟩, by simp [intOf]; omega⟩
    · obtain rfl : k = ps.length := by omega
      have hq : Hid (findX id ps = ps.length) := hide (findX_is id ps _ (Nat.le_refl _) hno.out (fun h => by omega))
      have dl : decide ((ps.length : Int) < (ps.length : Int)) = false := by simp
      clear hev hno
      go_wp2
      go_ret
      exact ⟨by rw [hq.out]; rfl, rfl⟩
/-- a payment in a box of its own -/
structure PBox (w : World) (b : Nat) (x : Xp) : Prop where
  blk : w.heap[b]? = some (.cells x.cells.toArray 139 (0, 0))
  legs : RowOf w 57 4 Pl.cells x.pm.lv x.pm.legs
theorem PBox.lt {w : World} {b : Nat} {x : Xp} (h : PBox w b x) : b < w.heap.size := block_lt h.blk
theorem PBox.below {w u : World} {b : Nat} {x : Xp} (h : PBox w b x) (hb : Below w.heap.size w u) : PBox u b x :=
  ⟨by rw [hb.block b h.lt]; exact h.blk, h.legs.below hb⟩
set_option maxRecDepth 100000 in
set_option maxHeartbeats 1000000 in
theorem pstatus_any (w : World) (b : Nat) (x : Xp) (hx : x.ok) (hP : PBox w b x) :
    Calls Try.prog 82 #[.pointer (some ⟨b, 0, none⟩)] w fun e w' => e = .returned (.agg #[.int .u8 (x.st : Int), .int .u8 (x.held : Int), .int .u8 (x.done : Int)]) ∧ Below w.heap.size w w' := by
  have hc := fun o => cell_at hP.blk o
  have hbl := hP.lt
  obtain ⟨⟨pi, pd, pm, pl, pa, pc⟩, st, he, dn⟩ := x
  simp only [Xp.cells] at *
  go_enter Try.func82, Try.ntmps82
  go_wp2_with fail
  go_region
  go_wp2
  refine bodyPost_ret (v := .agg #[.int .u8 (st : Int), .int .u8 (he : Int), .int .u8 (dn : Int)]) (by simp [results, Try.results82, go_sem]) rfl ⟨rfl, ?_⟩
  repeat' (first | exact Below.refl _ _ | refine Below.drew ?_ | refine Below.setCell ?_ (by simp) _ | refine Below.alloc ?_ (by simp) _)
end Go.Proofs.Ytjkhbjgfoopomaa
