import Derived.Test.YtjkhbjgfoopomaaGreatG14
/-
  The document's Status.
-/
namespace Go.Proofs.YtjkhbjgfoopomaaGreat
open Go.RowKit
set_option linter.unusedVariables false
set_option linter.unusedSimpArgs false
/-- P9 to P11: state, legs that are held, legs that are done, clock -/
def stStep (p : Pm) (s : Nat × Nat × Nat × Nat) (x : Dt) : Nat × Nat × Nat × Nat :=
  if x.kind = 0 then (if s.1 = 1 ∧ p.dl ≤ s.2.2.2 + 1 then 3 else s.1, s.2.1, s.2.2.1, s.2.2.2 + 1)
  else if x.kind = -1 then (if x.pay.id = p.id then 1 else s.1, s.2.1, s.2.2.1, s.2.2.2)
  else if x.msg.i ≠ p.id then s
  else if x.kind = 4 ∧ s.1 = 1 then (if withOf s.2.1 x.msg.l = fullOf p.legs.length then 2 else 1, withOf s.2.1 x.msg.l, s.2.2.1, s.2.2.2)
  else if x.kind = 5 ∧ s.1 = 1 then (3, s.2.1, s.2.2.1, s.2.2.2)
  else if x.kind = 6 then (s.1, s.2.1, withOf s.2.2.1 x.msg.l, s.2.2.2) else s
def stOf (p : Pm) (acts : List Dt) : Nat × Nat × Nat × Nat := acts.foldl (stStep p) (0, 0, 0, 0)
theorem stOf_snoc (p : Pm) (acts : List Dt) (x : Dt) : stOf p (acts ++ [x]) = stStep p (stOf p acts) x := by simp [stOf, List.foldl_append]
theorem withOf_lt (b l : Nat) (hb : b < 16) (hl : l < 4) : withOf b l < 16 := by
  have h : ∀ b : Fin 16, ∀ l : Fin 4, withOf b.1 l.1 < 16 := by decide
  exact h ⟨b, hb⟩ ⟨l, hl⟩
def few4 (x : Dt) : Prop := 4 ≤ x.kind → x.msg.l < 4
theorem stFold_bd (p : Pm) (acts : List Dt) (h4 : ∀ x, x ∈ acts → few4 x) : ∀ s : Nat × Nat × Nat × Nat, s.1 < 4 ∧ s.2.1 < 16 ∧ s.2.2.1 < 16 → (acts.foldl (stStep p) s).1 < 4 ∧ (acts.foldl (stStep p) s).2.1 < 16 ∧ (acts.foldl (stStep p) s).2.2.1 < 16 ∧ (acts.foldl (stStep p) s).2.2.2 ≤ s.2.2.2 + acts.length := by
  induction acts with
  | nil => intro s h; exact ⟨h.1, h.2.1, h.2.2, Nat.le_refl _⟩
  | cons x r ih =>
    intro s h
    have hx := h4 x (by simp)
    have h1 : ((stStep p s x).1 < 4 ∧ (stStep p s x).2.1 < 16 ∧ (stStep p s x).2.2.1 < 16) ∧ (stStep p s x).2.2.2 ≤ s.2.2.2 + 1 := by
      unfold stStep
      split
      · refine ⟨⟨?_, h.2.1, h.2.2⟩, Nat.le_refl _⟩
        show (if _ then 3 else s.1) < 4
        split <;> omega
      · split
        · refine ⟨⟨?_, h.2.1, h.2.2⟩, Nat.le_succ _⟩
          show (if _ then 1 else s.1) < 4
          split <;> omega
        · split
          · exact ⟨h, Nat.le_succ _⟩
          · split
            · rename_i hk
              refine ⟨⟨?_, withOf_lt _ _ h.2.1 (hx (by omega)), h.2.2⟩, Nat.le_succ _⟩
              show (if _ then 2 else 1) < 4
              split <;> omega
            · split
              · exact ⟨⟨by show (3 : Nat) < 4; omega, h.2.1, h.2.2⟩, Nat.le_succ _⟩
              · split
                · rename_i hk
                  exact ⟨⟨h.1, h.2.1, withOf_lt _ _ h.2.2 (hx (by omega))⟩, Nat.le_succ _⟩
                · exact ⟨h, Nat.le_succ _⟩
    have h2 := ih (fun y hy => h4 y (by simp [hy])) _ h1.1
    refine ⟨h2.1, h2.2.1, h2.2.2.1, ?_⟩
    have h3 := h2.2.2.2
    simp only [List.foldl_cons, List.length_cons]
    omega
theorem stOf_bd (p : Pm) (acts : List Dt) (h4 : ∀ x, x ∈ acts → few4 x) : (stOf p acts).1 < 4 ∧ (stOf p acts).2.1 < 16 ∧ (stOf p acts).2.2.1 < 16 ∧ (stOf p acts).2.2.2 ≤ acts.length := by
  have := stFold_bd p acts h4 (0, 0, 0, 0) ⟨by decide, by decide, by decide⟩
  simpa [stOf] using this
theorem dtSize : (Tryz.prog.info? 162).map (·.size) = some 14 := by kernel_rfl
theorem dt_one (x : Dt) : x.cells.toArray.all (·.oneCell') = true := by
  refine Array.all_eq_true_iff_forall_mem.2 (fun v hv => ?_)
  simp only [Dt.cells, Pm.lv, List.mem_toArray, List.mem_cons, List.not_mem_nil, or_false] at hv
  rcases hv with h | h | h | h | h | h | h | h | h | h | h | h | h | h <;> subst h <;> rfl

set_option maxRecDepth 100000 in
set_option maxHeartbeats 2000000 in
theorem status_any (p : Pm) (hp : p.ok) (hpl : p.legs.length ≤ 4) (w : World) (B : Nat) (acts : List Dt) (v : Value) (hR : RD w B acts v) (hok : ∀ x, x ∈ acts → x.ok) (h4 : ∀ x, x ∈ acts → few4 x) (hlen : acts.length ≤ 1000000000000) :
    Calls Tryz.prog 45 #[.pointer (some ⟨B, 0, none⟩), p.v] w fun e w' => e = .returned (.tuple #[.int .i64 ((stOf p acts).1 : Int), .int .i64 ((stOf p acts).2.1 : Int), .int .i64 ((stOf p acts).2.2.1 : Int)]) ∧ Below w.heap.size w w' := by
  obtain ⟨ad, cap, hv, hev⟩ := hR.row.form Dt.cells_length
  subst hv
  clear hev
  obtain ⟨pi, pd, pm, pl, pa, pc⟩ := p
  obtain ⟨hpi, hpd, _⟩ := hp
  simp only [Pm.v, Pm.lv] at *
  go_enter Tryz.func45, Tryz.ntmps45
  go_wp2
  go_loopw [7, 8, 9, 10, 11] (fun a b c d j u => ∃ k : Nat, k ≤ acts.length ∧ j = .int .i64 k ∧ a = .int .i64 ((stOf ⟨pi, pd, pm, pl, pa, pc⟩ (acts.take k)).1 : Int) ∧ b = .int .i64 ((stOf ⟨pi, pd, pm, pl, pa, pc⟩ (acts.take k)).2.1 : Int) ∧ c = .int .i64 ((stOf ⟨pi, pd, pm, pl, pa, pc⟩ (acts.take k)).2.2.1 : Int) ∧ d = .int .u64 ((stOf ⟨pi, pd, pm, pl, pa, pc⟩ (acts.take k)).2.2.2 : Int) ∧ Below (w.alloc (.cells #[.int .u32 (pi : Int), .int .u64 (pd : Int), .string (bs pm), .slice pa pl.length pc] 44)).heap.size (w.alloc (.cells #[.int .u32 (pi : Int), .int .u64 (pd : Int), .string (bs pm), .slice pa pl.length pc] 44)) u) (fun _ _ _ _ j _ => acts.length - (intOf j).toNat)
  case atStart => exact ⟨0, Nat.zero_le _, rfl, rfl, rfl, rfl, rfl, Below.refl _ _⟩
  case round =>
    obtain ⟨k, hk, rfl, rfl, rfl, rfl, rfl, hb⟩ := hrel
    have hbw := all_kept hb
    have hRu := hR.below hbw
    have hpw : w.heap.size < wr.heap.size := lt_kept hb
    have hpc := hide (fun o => cel_kept hb o)
    have hc : ∀ o, wr.cell? ⟨B, o, none⟩ = (#[.slice ad acts.length cap] : Array Value)[o]? := fun o => cell_at hRu.blk o
    have hBl := hRu.lt
    have hbd := stOf_bd ⟨pi, pd, pm, pl, pa, pc⟩ (acts.take k) (fun x hx => h4 x (List.mem_of_mem_take hx))
    have hkl : (acts.take k).length ≤ k := List.length_take_le _ _
    by_cases hlt : k < acts.length
    · obtain ⟨ad', cap', hv', hev'⟩ := hRu.row.form Dt.cells_length
      obtain ⟨g, hg, hcell, _⟩ := hev' k hlt
      have ead : ad = ad' := by injection hv'
      subst ead
      subst hg
      have hrng := hRu.row.range Dt.cells_length k hlt
      have hs : Hid (stOf ⟨pi, pd, pm, pl, pa, pc⟩ (acts.take (k + 1)) = stStep ⟨pi, pd, pm, pl, pa, pc⟩ (stOf ⟨pi, pd, pm, pl, pa, pc⟩ (acts.take k)) acts[k]) := hide (by rw [take_snoc_dt acts k hlt, stOf_snoc])
      have hek := hok acts[k] (List.getElem_mem hlt)
      have hf4 := h4 acts[k] (List.getElem_mem hlt)
      have hone := dt_one acts[k]
      clear hcell hev' hv' hRu
      generalize stOf ⟨pi, pd, pm, pl, pa, pc⟩ (acts.take k) = S at *
      generalize acts[k] = E at *
      obtain ⟨kind, ⟨ai, adl, am, al, aa, ac⟩, ⟨mk, mf, mt, mi, ml, mp, mg, ma, mm⟩⟩ := E
      obtain ⟨s1, s2, s3, s4⟩ := S
      obtain ⟨k1, k2, ⟨hai, hadl, _⟩, hmk, hmf, hmt, hmi, hml, hmp, hmg, hma⟩ := hek
      simp only [Dt.cells, Pm.lv] at hrng hone
      simp only [few4] at hf4
      simp only at hbd k1 k2 hai hadl hmi hml
      replace hrng := hide hrng
      replace hone := hide hone
      by_cases hz : kind = 0
      · subst hz
        by_cases h1 : s1 = 1
        · subst h1
          by_cases h2 : pd ≤ s4 + 1
          · have d2 : decide ((pd : Int) ≤ (s4 : Int) + 1) = true := by simp; omega
            have d2' : decide ((s4 : Int) + 1 ≥ (pd : Int)) = true := by simp; omega
            have hq : Hid (stOf ⟨pi, pd, pm, pl, pa, pc⟩ (acts.take (k + 1)) = (3, s2, s3, s4 + 1)) := hide (by rw [hs.out]; simp [stStep, h2])
            clear hs h2
            go_wp2_with (first | (with_reducible refine stopLd 162 ?_))
            refine hide ?_
            refine wpList_load_mid (by rfl) 162 _ (by rfl) g (k * 14) (by rfl) [.int .i64 0, .int .u32 (ai : Int), .int .u64 (adl : Int), .string (bs am), .slice aa al.length ac, .int .u8 (mk : Int), .int .u8 (mf : Int), .int .u8 (mt : Int), .int .u32 (mi : Int), .int .u8 (ml : Int), .int .u16 (mp : Int), .int .u16 (mg : Int), .int .u32 (ma : Int), .string (bs mm)] _ hrng.out Tryz.underlying162 rfl dtSize ?_
            go_wp2_with (first | (with_reducible refine stopSt 162 ?_))
            refine hide ?_
            refine wpList_store_mid (by rfl) 162 _ _ (by rfl) wr.heap.size 0 (List.toArray [.int .i64 0, .int .u32 (ai : Int), .int .u64 (adl : Int), .string (bs am), .slice aa al.length ac, .int .u8 (mk : Int), .int .u8 (mf : Int), .int .u8 (mt : Int), .int .u32 (mi : Int), .int .u8 (ml : Int), .int .u16 (mp : Int), .int .u16 (mg : Int), .int .u32 (ma : Int), .string (bs mm)]) (by rfl) (by rfl) (longThere _ _ _ _ (by simp)) dtSize hone.out ?_
            generalize hU' : World.setCells _ _ _ _ = U'
            obtain ⟨hUb, hUw⟩ := longBox hU' rfl
            have hcU : ∀ o, U'.cell? ⟨wr.heap.size, o, none⟩ = (#[.int .i64 0, .int .u32 (ai : Int), .int .u64 (adl : Int), .string (bs am), .slice aa al.length ac, .int .u8 (mk : Int), .int .u8 (mf : Int), .int .u8 (mt : Int), .int .u32 (mi : Int), .int .u8 (ml : Int), .int .u16 (mp : Int), .int .u16 (mg : Int), .int .u32 (ma : Int), .string (bs mm)] : Array Value)[o]? := fun o => cell_at hUb o
            have hcp : ∀ o, U'.cell? ⟨w.heap.size, o, none⟩ = (#[.int .u32 (pi : Int), .int .u64 (pd : Int), .string (bs pm), .slice pa pl.length pc] : Array Value)[o]? := fun o => by rw [hUw.cell (p := ⟨w.heap.size, o, none⟩) hpw]; exact hpc.out o
            have hUl := block_lt hUb
            have hpU : w.heap.size < U'.heap.size := Nat.lt_of_lt_of_le hpw hUw.size
            have hB2 := hide (hb.trans (hUw.mono hb.size))
            clear hU' hUb hrng hpc hUw hone hc
            go_wp2
            exact ⟨⟨k + 1, hlt, by go_num, by first | (rw [hq.out]; done) | (rw [hq.out]; rfl) | (rw [hq.out]; go_num), by first | (rw [hq.out]; done) | (rw [hq.out]; rfl) | (rw [hq.out]; go_num), by first | (rw [hq.out]; done) | (rw [hq.out]; rfl) | (rw [hq.out]; go_num), by first | (rw [hq.out]; done) | (rw [hq.out]; rfl) | (rw [hq.out]; go_num), hB2.out⟩, by simp [intOf]; omega⟩
          · have d2 : decide ((pd : Int) ≤ (s4 : Int) + 1) = false := by simp; omega
            have d2' : decide ((s4 : Int) + 1 ≥ (pd : Int)) = false := by simp; omega
            have hq : Hid (stOf ⟨pi, pd, pm, pl, pa, pc⟩ (acts.take (k + 1)) = (1, s2, s3, s4 + 1)) := hide (by rw [hs.out]; simp [stStep, h2])
            clear hs h2
            go_wp2_with (first | (with_reducible refine stopLd 162 ?_))
            refine hide ?_
            refine wpList_load_mid (by rfl) 162 _ (by rfl) g (k * 14) (by rfl) [.int .i64 0, .int .u32 (ai : Int), .int .u64 (adl : Int), .string (bs am), .slice aa al.length ac, .int .u8 (mk : Int), .int .u8 (mf : Int), .int .u8 (mt : Int), .int .u32 (mi : Int), .int .u8 (ml : Int), .int .u16 (mp : Int), .int .u16 (mg : Int), .int .u32 (ma : Int), .string (bs mm)] _ hrng.out Tryz.underlying162 rfl dtSize ?_
            go_wp2_with (first | (with_reducible refine stopSt 162 ?_))
            refine hide ?_
            refine wpList_store_mid (by rfl) 162 _ _ (by rfl) wr.heap.size 0 (List.toArray [.int .i64 0, .int .u32 (ai : Int), .int .u64 (adl : Int), .string (bs am), .slice aa al.length ac, .int .u8 (mk : Int), .int .u8 (mf : Int), .int .u8 (mt : Int), .int .u32 (mi : Int), .int .u8 (ml : Int), .int .u16 (mp : Int), .int .u16 (mg : Int), .int .u32 (ma : Int), .string (bs mm)]) (by rfl) (by rfl) (longThere _ _ _ _ (by simp)) dtSize hone.out ?_
            generalize hU' : World.setCells _ _ _ _ = U'
            obtain ⟨hUb, hUw⟩ := longBox hU' rfl
            have hcU : ∀ o, U'.cell? ⟨wr.heap.size, o, none⟩ = (#[.int .i64 0, .int .u32 (ai : Int), .int .u64 (adl : Int), .string (bs am), .slice aa al.length ac, .int .u8 (mk : Int), .int .u8 (mf : Int), .int .u8 (mt : Int), .int .u32 (mi : Int), .int .u8 (ml : Int), .int .u16 (mp : Int), .int .u16 (mg : Int), .int .u32 (ma : Int), .string (bs mm)] : Array Value)[o]? := fun o => cell_at hUb o
            have hcp : ∀ o, U'.cell? ⟨w.heap.size, o, none⟩ = (#[.int .u32 (pi : Int), .int .u64 (pd : Int), .string (bs pm), .slice pa pl.length pc] : Array Value)[o]? := fun o => by rw [hUw.cell (p := ⟨w.heap.size, o, none⟩) hpw]; exact hpc.out o
            have hUl := block_lt hUb
            have hpU : w.heap.size < U'.heap.size := Nat.lt_of_lt_of_le hpw hUw.size
            have hB2 := hide (hb.trans (hUw.mono hb.size))
            clear hU' hUb hrng hpc hUw hone hc
            go_wp2
            exact ⟨⟨k + 1, hlt, by go_num, by first | (rw [hq.out]; done) | (rw [hq.out]; rfl) | (rw [hq.out]; go_num), by first | (rw [hq.out]; done) | (rw [hq.out]; rfl) | (rw [hq.out]; go_num), by first | (rw [hq.out]; done) | (rw [hq.out]; rfl) | (rw [hq.out]; go_num), by first | (rw [hq.out]; done) | (rw [hq.out]; rfl) | (rw [hq.out]; go_num), hB2.out⟩, by simp [intOf]; omega⟩
        · have d1 : ((s1 : Int) == 1) = false := by simp; omega
          have hq : Hid (stOf ⟨pi, pd, pm, pl, pa, pc⟩ (acts.take (k + 1)) = (s1, s2, s3, s4 + 1)) := hide (by rw [hs.out]; simp [stStep, h1])
          clear hs h1
          go_wp2_with (first | (with_reducible refine stopLd 162 ?_))
          refine hide ?_
          refine wpList_load_mid (by rfl) 162 _ (by rfl) g (k * 14) (by rfl) [.int .i64 0, .int .u32 (ai : Int), .int .u64 (adl : Int), .string (bs am), .slice aa al.length ac, .int .u8 (mk : Int), .int .u8 (mf : Int), .int .u8 (mt : Int), .int .u32 (mi : Int), .int .u8 (ml : Int), .int .u16 (mp : Int), .int .u16 (mg : Int), .int .u32 (ma : Int), .string (bs mm)] _ hrng.out Tryz.underlying162 rfl dtSize ?_
          go_wp2_with (first | (with_reducible refine stopSt 162 ?_))
          refine hide ?_
          refine wpList_store_mid (by rfl) 162 _ _ (by rfl) wr.heap.size 0 (List.toArray [.int .i64 0, .int .u32 (ai : Int), .int .u64 (adl : Int), .string (bs am), .slice aa al.length ac, .int .u8 (mk : Int), .int .u8 (mf : Int), .int .u8 (mt : Int), .int .u32 (mi : Int), .int .u8 (ml : Int), .int .u16 (mp : Int), .int .u16 (mg : Int), .int .u32 (ma : Int), .string (bs mm)]) (by rfl) (by rfl) (longThere _ _ _ _ (by simp)) dtSize hone.out ?_
          generalize hU' : World.setCells _ _ _ _ = U'
          obtain ⟨hUb, hUw⟩ := longBox hU' rfl
          have hcU : ∀ o, U'.cell? ⟨wr.heap.size, o, none⟩ = (#[.int .i64 0, .int .u32 (ai : Int), .int .u64 (adl : Int), .string (bs am), .slice aa al.length ac, .int .u8 (mk : Int), .int .u8 (mf : Int), .int .u8 (mt : Int), .int .u32 (mi : Int), .int .u8 (ml : Int), .int .u16 (mp : Int), .int .u16 (mg : Int), .int .u32 (ma : Int), .string (bs mm)] : Array Value)[o]? := fun o => cell_at hUb o
          have hcp : ∀ o, U'.cell? ⟨w.heap.size, o, none⟩ = (#[.int .u32 (pi : Int), .int .u64 (pd : Int), .string (bs pm), .slice pa pl.length pc] : Array Value)[o]? := fun o => by rw [hUw.cell (p := ⟨w.heap.size, o, none⟩) hpw]; exact hpc.out o
          have hUl := block_lt hUb
          have hpU : w.heap.size < U'.heap.size := Nat.lt_of_lt_of_le hpw hUw.size
          have hB2 := hide (hb.trans (hUw.mono hb.size))
          clear hU' hUb hrng hpc hUw hone hc
          go_wp2
          exact ⟨⟨k + 1, hlt, by go_num, by first | (rw [hq.out]; done) | (rw [hq.out]; rfl) | (rw [hq.out]; go_num), by first | (rw [hq.out]; done) | (rw [hq.out]; rfl) | (rw [hq.out]; go_num), by first | (rw [hq.out]; done) | (rw [hq.out]; rfl) | (rw [hq.out]; go_num), by first | (rw [hq.out]; done) | (rw [hq.out]; rfl) | (rw [hq.out]; go_num), hB2.out⟩, by simp [intOf]; omega⟩
      · by_cases hm : kind = -1
        · subst hm
          by_cases h1 : ai = pi
          · have d1 : ((ai : Int) == (pi : Int)) = true := by simp; omega
            have hq : Hid (stOf ⟨pi, pd, pm, pl, pa, pc⟩ (acts.take (k + 1)) = (1, s2, s3, s4)) := hide (by rw [hs.out]; simp [stStep, h1])
            clear hs h1 hz
            go_wp2_with (first | (with_reducible refine stopLd 162 ?_))
            refine hide ?_
            refine wpList_load_mid (by rfl) 162 _ (by rfl) g (k * 14) (by rfl) [.int .i64 (-1), .int .u32 (ai : Int), .int .u64 (adl : Int), .string (bs am), .slice aa al.length ac, .int .u8 (mk : Int), .int .u8 (mf : Int), .int .u8 (mt : Int), .int .u32 (mi : Int), .int .u8 (ml : Int), .int .u16 (mp : Int), .int .u16 (mg : Int), .int .u32 (ma : Int), .string (bs mm)] _ hrng.out Tryz.underlying162 rfl dtSize ?_
            go_wp2_with (first | (with_reducible refine stopSt 162 ?_))
            refine hide ?_
            refine wpList_store_mid (by rfl) 162 _ _ (by rfl) wr.heap.size 0 (List.toArray [.int .i64 (-1), .int .u32 (ai : Int), .int .u64 (adl : Int), .string (bs am), .slice aa al.length ac, .int .u8 (mk : Int), .int .u8 (mf : Int), .int .u8 (mt : Int), .int .u32 (mi : Int), .int .u8 (ml : Int), .int .u16 (mp : Int), .int .u16 (mg : Int), .int .u32 (ma : Int), .string (bs mm)]) (by rfl) (by rfl) (longThere _ _ _ _ (by simp)) dtSize hone.out ?_
            generalize hU' : World.setCells _ _ _ _ = U'
            obtain ⟨hUb, hUw⟩ := longBox hU' rfl
            have hcU : ∀ o, U'.cell? ⟨wr.heap.size, o, none⟩ = (#[.int .i64 (-1), .int .u32 (ai : Int), .int .u64 (adl : Int), .string (bs am), .slice aa al.length ac, .int .u8 (mk : Int), .int .u8 (mf : Int), .int .u8 (mt : Int), .int .u32 (mi : Int), .int .u8 (ml : Int), .int .u16 (mp : Int), .int .u16 (mg : Int), .int .u32 (ma : Int), .string (bs mm)] : Array Value)[o]? := fun o => cell_at hUb o
            have hcp : ∀ o, U'.cell? ⟨w.heap.size, o, none⟩ = (#[.int .u32 (pi : Int), .int .u64 (pd : Int), .string (bs pm), .slice pa pl.length pc] : Array Value)[o]? := fun o => by rw [hUw.cell (p := ⟨w.heap.size, o, none⟩) hpw]; exact hpc.out o
            have hUl := block_lt hUb
            have hpU : w.heap.size < U'.heap.size := Nat.lt_of_lt_of_le hpw hUw.size
            have hB2 := hide (hb.trans (hUw.mono hb.size))
            clear hU' hUb hrng hpc hUw hone hc
            go_wp2
            exact ⟨⟨k + 1, hlt, by go_num, by first | (rw [hq.out]; done) | (rw [hq.out]; rfl) | (rw [hq.out]; go_num), by first | (rw [hq.out]; done) | (rw [hq.out]; rfl) | (rw [hq.out]; go_num), by first | (rw [hq.out]; done) | (rw [hq.out]; rfl) | (rw [hq.out]; go_num), by first | (rw [hq.out]; done) | (rw [hq.out]; rfl) | (rw [hq.out]; go_num), hB2.out⟩, by simp [intOf]; omega⟩
          · have d1 : ((ai : Int) == (pi : Int)) = false := by simp; omega
            have hq : Hid (stOf ⟨pi, pd, pm, pl, pa, pc⟩ (acts.take (k + 1)) = (s1, s2, s3, s4)) := hide (by rw [hs.out]; simp [stStep, h1])
            clear hs h1 hz
            go_wp2_with (first | (with_reducible refine stopLd 162 ?_))
            refine hide ?_
            refine wpList_load_mid (by rfl) 162 _ (by rfl) g (k * 14) (by rfl) [.int .i64 (-1), .int .u32 (ai : Int), .int .u64 (adl : Int), .string (bs am), .slice aa al.length ac, .int .u8 (mk : Int), .int .u8 (mf : Int), .int .u8 (mt : Int), .int .u32 (mi : Int), .int .u8 (ml : Int), .int .u16 (mp : Int), .int .u16 (mg : Int), .int .u32 (ma : Int), .string (bs mm)] _ hrng.out Tryz.underlying162 rfl dtSize ?_
            go_wp2_with (first | (with_reducible refine stopSt 162 ?_))
            refine hide ?_
            refine wpList_store_mid (by rfl) 162 _ _ (by rfl) wr.heap.size 0 (List.toArray [.int .i64 (-1), .int .u32 (ai : Int), .int .u64 (adl : Int), .string (bs am), .slice aa al.length ac, .int .u8 (mk : Int), .int .u8 (mf : Int), .int .u8 (mt : Int), .int .u32 (mi : Int), .int .u8 (ml : Int), .int .u16 (mp : Int), .int .u16 (mg : Int), .int .u32 (ma : Int), .string (bs mm)]) (by rfl) (by rfl) (longThere _ _ _ _ (by simp)) dtSize hone.out ?_
            generalize hU' : World.setCells _ _ _ _ = U'
            obtain ⟨hUb, hUw⟩ := longBox hU' rfl
            have hcU : ∀ o, U'.cell? ⟨wr.heap.size, o, none⟩ = (#[.int .i64 (-1), .int .u32 (ai : Int), .int .u64 (adl : Int), .string (bs am), .slice aa al.length ac, .int .u8 (mk : Int), .int .u8 (mf : Int), .int .u8 (mt : Int), .int .u32 (mi : Int), .int .u8 (ml : Int), .int .u16 (mp : Int), .int .u16 (mg : Int), .int .u32 (ma : Int), .string (bs mm)] : Array Value)[o]? := fun o => cell_at hUb o
            have hcp : ∀ o, U'.cell? ⟨w.heap.size, o, none⟩ = (#[.int .u32 (pi : Int), .int .u64 (pd : Int), .string (bs pm), .slice pa pl.length pc] : Array Value)[o]? := fun o => by rw [hUw.cell (p := ⟨w.heap.size, o, none⟩) hpw]; exact hpc.out o
            have hUl := block_lt hUb
            have hpU : w.heap.size < U'.heap.size := Nat.lt_of_lt_of_le hpw hUw.size
            have hB2 := hide (hb.trans (hUw.mono hb.size))
            clear hU' hUb hrng hpc hUw hone hc
            go_wp2
            exact ⟨⟨k + 1, hlt, by go_num, by first | (rw [hq.out]; done) | (rw [hq.out]; rfl) | (rw [hq.out]; go_num), by first | (rw [hq.out]; done) | (rw [hq.out]; rfl) | (rw [hq.out]; go_num), by first | (rw [hq.out]; done) | (rw [hq.out]; rfl) | (rw [hq.out]; go_num), by first | (rw [hq.out]; done) | (rw [hq.out]; rfl) | (rw [hq.out]; go_num), hB2.out⟩, by simp [intOf]; omega⟩
        · have dz : (kind == 0) = false := by simp [hz]
          have dm : (kind == -1) = false := by simp [hm]
          by_cases h1 : mi = pi
          · have d1 : ((mi : Int) != (pi : Int)) = false := by simp; omega
            by_cases h4k : kind = 4
            · subst h4k
              have hml4 : ml < 4 := hf4 (by omega)
              by_cases h2 : s1 = 1
              · subst h2
                by_cases h3 : withOf s2 ml = fullOf pl.length
                · have d3 : ((withOf s2 ml : Int) == (fullOf pl.length : Int)) = true := by simp [h3]
                  have hq : Hid (stOf ⟨pi, pd, pm, pl, pa, pc⟩ (acts.take (k + 1)) = (2, withOf s2 ml, s3, s4)) := hide (by rw [hs.out]; simp [stStep, h1, h3])
                  clear hs h1 h3 hz hm
                  go_wp2_with (first | (with_reducible refine stopLd 162 ?_))
                  refine hide ?_
                  refine wpList_load_mid (by rfl) 162 _ (by rfl) g (k * 14) (by rfl) [.int .i64 4, .int .u32 (ai : Int), .int .u64 (adl : Int), .string (bs am), .slice aa al.length ac, .int .u8 (mk : Int), .int .u8 (mf : Int), .int .u8 (mt : Int), .int .u32 (mi : Int), .int .u8 (ml : Int), .int .u16 (mp : Int), .int .u16 (mg : Int), .int .u32 (ma : Int), .string (bs mm)] _ hrng.out Tryz.underlying162 rfl dtSize ?_
                  go_wp2_with (first | (with_reducible refine stopSt 162 ?_))
                  refine hide ?_
                  refine wpList_store_mid (by rfl) 162 _ _ (by rfl) wr.heap.size 0 (List.toArray [.int .i64 4, .int .u32 (ai : Int), .int .u64 (adl : Int), .string (bs am), .slice aa al.length ac, .int .u8 (mk : Int), .int .u8 (mf : Int), .int .u8 (mt : Int), .int .u32 (mi : Int), .int .u8 (ml : Int), .int .u16 (mp : Int), .int .u16 (mg : Int), .int .u32 (ma : Int), .string (bs mm)]) (by rfl) (by rfl) (longThere _ _ _ _ (by simp)) dtSize hone.out ?_
                  generalize hU' : World.setCells _ _ _ _ = U'
                  obtain ⟨hUb, hUw⟩ := longBox hU' rfl
                  have hcU : ∀ o, U'.cell? ⟨wr.heap.size, o, none⟩ = (#[.int .i64 4, .int .u32 (ai : Int), .int .u64 (adl : Int), .string (bs am), .slice aa al.length ac, .int .u8 (mk : Int), .int .u8 (mf : Int), .int .u8 (mt : Int), .int .u32 (mi : Int), .int .u8 (ml : Int), .int .u16 (mp : Int), .int .u16 (mg : Int), .int .u32 (ma : Int), .string (bs mm)] : Array Value)[o]? := fun o => cell_at hUb o
                  have hcp : ∀ o, U'.cell? ⟨w.heap.size, o, none⟩ = (#[.int .u32 (pi : Int), .int .u64 (pd : Int), .string (bs pm), .slice pa pl.length pc] : Array Value)[o]? := fun o => by rw [hUw.cell (p := ⟨w.heap.size, o, none⟩) hpw]; exact hpc.out o
                  have hUl := block_lt hUb
                  have hpU : w.heap.size < U'.heap.size := Nat.lt_of_lt_of_le hpw hUw.size
                  have hB2 := hide (hb.trans (hUw.mono hb.size))
                  clear hU' hUb hrng hpc hUw hone hc
                  go_wp2_with fail
                  refine (with_any s2 ml (by omega) (by omega) _).mono ?_
                  rintro e u9 ⟨rfl, rfl⟩
                  go_wp2_with fail
                  refine (full_any pl.length (by omega) _).mono ?_
                  rintro e u8 ⟨rfl, rfl⟩
                  go_wp2
                  exact ⟨⟨k + 1, hlt, by go_num, by first | (rw [hq.out]; done) | (rw [hq.out]; rfl) | (rw [hq.out]; go_num), by first | (rw [hq.out]; done) | (rw [hq.out]; rfl) | (rw [hq.out]; go_num), by first | (rw [hq.out]; done) | (rw [hq.out]; rfl) | (rw [hq.out]; go_num), by first | (rw [hq.out]; done) | (rw [hq.out]; rfl) | (rw [hq.out]; go_num), hB2.out⟩, by simp [intOf]; omega⟩
                · have d3 : ((withOf s2 ml : Int) == (fullOf pl.length : Int)) = false := by simp; omega
                  have hq : Hid (stOf ⟨pi, pd, pm, pl, pa, pc⟩ (acts.take (k + 1)) = (1, withOf s2 ml, s3, s4)) := hide (by rw [hs.out]; simp [stStep, h1, h3])
                  clear hs h1 h3 hz hm
                  go_wp2_with (first | (with_reducible refine stopLd 162 ?_))
                  refine hide ?_
                  refine wpList_load_mid (by rfl) 162 _ (by rfl) g (k * 14) (by rfl) [.int .i64 4, .int .u32 (ai : Int), .int .u64 (adl : Int), .string (bs am), .slice aa al.length ac, .int .u8 (mk : Int), .int .u8 (mf : Int), .int .u8 (mt : Int), .int .u32 (mi : Int), .int .u8 (ml : Int), .int .u16 (mp : Int), .int .u16 (mg : Int), .int .u32 (ma : Int), .string (bs mm)] _ hrng.out Tryz.underlying162 rfl dtSize ?_
                  go_wp2_with (first | (with_reducible refine stopSt 162 ?_))
                  refine hide ?_
                  refine wpList_store_mid (by rfl) 162 _ _ (by rfl) wr.heap.size 0 (List.toArray [.int .i64 4, .int .u32 (ai : Int), .int .u64 (adl : Int), .string (bs am), .slice aa al.length ac, .int .u8 (mk : Int), .int .u8 (mf : Int), .int .u8 (mt : Int), .int .u32 (mi : Int), .int .u8 (ml : Int), .int .u16 (mp : Int), .int .u16 (mg : Int), .int .u32 (ma : Int), .string (bs mm)]) (by rfl) (by rfl) (longThere _ _ _ _ (by simp)) dtSize hone.out ?_
                  generalize hU' : World.setCells _ _ _ _ = U'
                  obtain ⟨hUb, hUw⟩ := longBox hU' rfl
                  have hcU : ∀ o, U'.cell? ⟨wr.heap.size, o, none⟩ = (#[.int .i64 4, .int .u32 (ai : Int), .int .u64 (adl : Int), .string (bs am), .slice aa al.length ac, .int .u8 (mk : Int), .int .u8 (mf : Int), .int .u8 (mt : Int), .int .u32 (mi : Int), .int .u8 (ml : Int), .int .u16 (mp : Int), .int .u16 (mg : Int), .int .u32 (ma : Int), .string (bs mm)] : Array Value)[o]? := fun o => cell_at hUb o
                  have hcp : ∀ o, U'.cell? ⟨w.heap.size, o, none⟩ = (#[.int .u32 (pi : Int), .int .u64 (pd : Int), .string (bs pm), .slice pa pl.length pc] : Array Value)[o]? := fun o => by rw [hUw.cell (p := ⟨w.heap.size, o, none⟩) hpw]; exact hpc.out o
                  have hUl := block_lt hUb
                  have hpU : w.heap.size < U'.heap.size := Nat.lt_of_lt_of_le hpw hUw.size
                  have hB2 := hide (hb.trans (hUw.mono hb.size))
                  clear hU' hUb hrng hpc hUw hone hc
                  go_wp2_with fail
                  refine (with_any s2 ml (by omega) (by omega) _).mono ?_
                  rintro e u9 ⟨rfl, rfl⟩
                  go_wp2_with fail
                  refine (full_any pl.length (by omega) _).mono ?_
                  rintro e u8 ⟨rfl, rfl⟩
                  go_wp2
                  exact ⟨⟨k + 1, hlt, by go_num, by first | (rw [hq.out]; done) | (rw [hq.out]; rfl) | (rw [hq.out]; go_num), by first | (rw [hq.out]; done) | (rw [hq.out]; rfl) | (rw [hq.out]; go_num), by first | (rw [hq.out]; done) | (rw [hq.out]; rfl) | (rw [hq.out]; go_num), by first | (rw [hq.out]; done) | (rw [hq.out]; rfl) | (rw [hq.out]; go_num), hB2.out⟩, by simp [intOf]; omega⟩
              · have d2 : ((s1 : Int) == 1) = false := by simp; omega
                have hq : Hid (stOf ⟨pi, pd, pm, pl, pa, pc⟩ (acts.take (k + 1)) = (s1, s2, s3, s4)) := hide (by rw [hs.out]; simp [stStep, h1, h2])
                clear hs h1 h2 hz hm
                go_wp2_with (first | (with_reducible refine stopLd 162 ?_))
                refine hide ?_
                refine wpList_load_mid (by rfl) 162 _ (by rfl) g (k * 14) (by rfl) [.int .i64 4, .int .u32 (ai : Int), .int .u64 (adl : Int), .string (bs am), .slice aa al.length ac, .int .u8 (mk : Int), .int .u8 (mf : Int), .int .u8 (mt : Int), .int .u32 (mi : Int), .int .u8 (ml : Int), .int .u16 (mp : Int), .int .u16 (mg : Int), .int .u32 (ma : Int), .string (bs mm)] _ hrng.out Tryz.underlying162 rfl dtSize ?_
                go_wp2_with (first | (with_reducible refine stopSt 162 ?_))
                refine hide ?_
                refine wpList_store_mid (by rfl) 162 _ _ (by rfl) wr.heap.size 0 (List.toArray [.int .i64 4, .int .u32 (ai : Int), .int .u64 (adl : Int), .string (bs am), .slice aa al.length ac, .int .u8 (mk : Int), .int .u8 (mf : Int), .int .u8 (mt : Int), .int .u32 (mi : Int), .int .u8 (ml : Int), .int .u16 (mp : Int), .int .u16 (mg : Int), .int .u32 (ma : Int), .string (bs mm)]) (by rfl) (by rfl) (longThere _ _ _ _ (by simp)) dtSize hone.out ?_
                generalize hU' : World.setCells _ _ _ _ = U'
                obtain ⟨hUb, hUw⟩ := longBox hU' rfl
                have hcU : ∀ o, U'.cell? ⟨wr.heap.size, o, none⟩ = (#[.int .i64 4, .int .u32 (ai : Int), .int .u64 (adl : Int), .string (bs am), .slice aa al.length ac, .int .u8 (mk : Int), .int .u8 (mf : Int), .int .u8 (mt : Int), .int .u32 (mi : Int), .int .u8 (ml : Int), .int .u16 (mp : Int), .int .u16 (mg : Int), .int .u32 (ma : Int), .string (bs mm)] : Array Value)[o]? := fun o => cell_at hUb o
                have hcp : ∀ o, U'.cell? ⟨w.heap.size, o, none⟩ = (#[.int .u32 (pi : Int), .int .u64 (pd : Int), .string (bs pm), .slice pa pl.length pc] : Array Value)[o]? := fun o => by rw [hUw.cell (p := ⟨w.heap.size, o, none⟩) hpw]; exact hpc.out o
                have hUl := block_lt hUb
                have hpU : w.heap.size < U'.heap.size := Nat.lt_of_lt_of_le hpw hUw.size
                have hB2 := hide (hb.trans (hUw.mono hb.size))
                clear hU' hUb hrng hpc hUw hone hc
                go_wp2
                exact ⟨⟨k + 1, hlt, by go_num, by first | (rw [hq.out]; done) | (rw [hq.out]; rfl) | (rw [hq.out]; go_num), by first | (rw [hq.out]; done) | (rw [hq.out]; rfl) | (rw [hq.out]; go_num), by first | (rw [hq.out]; done) | (rw [hq.out]; rfl) | (rw [hq.out]; go_num), by first | (rw [hq.out]; done) | (rw [hq.out]; rfl) | (rw [hq.out]; go_num), hB2.out⟩, by simp [intOf]; omega⟩
            · by_cases h5k : kind = 5
              · subst h5k
                by_cases h2 : s1 = 1
                · subst h2
                  have hq : Hid (stOf ⟨pi, pd, pm, pl, pa, pc⟩ (acts.take (k + 1)) = (3, s2, s3, s4)) := hide (by rw [hs.out]; simp [stStep, h1])
                  clear hs h1 hz hm
                  go_wp2_with (first | (with_reducible refine stopLd 162 ?_))
                  refine hide ?_
                  refine wpList_load_mid (by rfl) 162 _ (by rfl) g (k * 14) (by rfl) [.int .i64 5, .int .u32 (ai : Int), .int .u64 (adl : Int), .string (bs am), .slice aa al.length ac, .int .u8 (mk : Int), .int .u8 (mf : Int), .int .u8 (mt : Int), .int .u32 (mi : Int), .int .u8 (ml : Int), .int .u16 (mp : Int), .int .u16 (mg : Int), .int .u32 (ma : Int), .string (bs mm)] _ hrng.out Tryz.underlying162 rfl dtSize ?_
                  go_wp2_with (first | (with_reducible refine stopSt 162 ?_))
                  refine hide ?_
                  refine wpList_store_mid (by rfl) 162 _ _ (by rfl) wr.heap.size 0 (List.toArray [.int .i64 5, .int .u32 (ai : Int), .int .u64 (adl : Int), .string (bs am), .slice aa al.length ac, .int .u8 (mk : Int), .int .u8 (mf : Int), .int .u8 (mt : Int), .int .u32 (mi : Int), .int .u8 (ml : Int), .int .u16 (mp : Int), .int .u16 (mg : Int), .int .u32 (ma : Int), .string (bs mm)]) (by rfl) (by rfl) (longThere _ _ _ _ (by simp)) dtSize hone.out ?_
                  generalize hU' : World.setCells _ _ _ _ = U'
                  obtain ⟨hUb, hUw⟩ := longBox hU' rfl
                  have hcU : ∀ o, U'.cell? ⟨wr.heap.size, o, none⟩ = (#[.int .i64 5, .int .u32 (ai : Int), .int .u64 (adl : Int), .string (bs am), .slice aa al.length ac, .int .u8 (mk : Int), .int .u8 (mf : Int), .int .u8 (mt : Int), .int .u32 (mi : Int), .int .u8 (ml : Int), .int .u16 (mp : Int), .int .u16 (mg : Int), .int .u32 (ma : Int), .string (bs mm)] : Array Value)[o]? := fun o => cell_at hUb o
                  have hcp : ∀ o, U'.cell? ⟨w.heap.size, o, none⟩ = (#[.int .u32 (pi : Int), .int .u64 (pd : Int), .string (bs pm), .slice pa pl.length pc] : Array Value)[o]? := fun o => by rw [hUw.cell (p := ⟨w.heap.size, o, none⟩) hpw]; exact hpc.out o
                  have hUl := block_lt hUb
                  have hpU : w.heap.size < U'.heap.size := Nat.lt_of_lt_of_le hpw hUw.size
                  have hB2 := hide (hb.trans (hUw.mono hb.size))
                  clear hU' hUb hrng hpc hUw hone hc
                  go_wp2
                  exact ⟨⟨k + 1, hlt, by go_num, by first | (rw [hq.out]; done) | (rw [hq.out]; rfl) | (rw [hq.out]; go_num), by first | (rw [hq.out]; done) | (rw [hq.out]; rfl) | (rw [hq.out]; go_num), by first | (rw [hq.out]; done) | (rw [hq.out]; rfl) | (rw [hq.out]; go_num), by first | (rw [hq.out]; done) | (rw [hq.out]; rfl) | (rw [hq.out]; go_num), hB2.out⟩, by simp [intOf]; omega⟩
                · have d2 : ((s1 : Int) == 1) = false := by simp; omega
                  have hq : Hid (stOf ⟨pi, pd, pm, pl, pa, pc⟩ (acts.take (k + 1)) = (s1, s2, s3, s4)) := hide (by rw [hs.out]; simp [stStep, h1, h2])
                  clear hs h1 h2 hz hm
                  go_wp2_with (first | (with_reducible refine stopLd 162 ?_))
                  refine hide ?_
                  refine wpList_load_mid (by rfl) 162 _ (by rfl) g (k * 14) (by rfl) [.int .i64 5, .int .u32 (ai : Int), .int .u64 (adl : Int), .string (bs am), .slice aa al.length ac, .int .u8 (mk : Int), .int .u8 (mf : Int), .int .u8 (mt : Int), .int .u32 (mi : Int), .int .u8 (ml : Int), .int .u16 (mp : Int), .int .u16 (mg : Int), .int .u32 (ma : Int), .string (bs mm)] _ hrng.out Tryz.underlying162 rfl dtSize ?_
                  go_wp2_with (first | (with_reducible refine stopSt 162 ?_))
                  refine hide ?_
                  refine wpList_store_mid (by rfl) 162 _ _ (by rfl) wr.heap.size 0 (List.toArray [.int .i64 5, .int .u32 (ai : Int), .int .u64 (adl : Int), .string (bs am), .slice aa al.length ac, .int .u8 (mk : Int), .int .u8 (mf : Int), .int .u8 (mt : Int), .int .u32 (mi : Int), .int .u8 (ml : Int), .int .u16 (mp : Int), .int .u16 (mg : Int), .int .u32 (ma : Int), .string (bs mm)]) (by rfl) (by rfl) (longThere _ _ _ _ (by simp)) dtSize hone.out ?_
                  generalize hU' : World.setCells _ _ _ _ = U'
                  obtain ⟨hUb, hUw⟩ := longBox hU' rfl
                  have hcU : ∀ o, U'.cell? ⟨wr.heap.size, o, none⟩ = (#[.int .i64 5, .int .u32 (ai : Int), .int .u64 (adl : Int), .string (bs am), .slice aa al.length ac, .int .u8 (mk : Int), .int .u8 (mf : Int), .int .u8 (mt : Int), .int .u32 (mi : Int), .int .u8 (ml : Int), .int .u16 (mp : Int), .int .u16 (mg : Int), .int .u32 (ma : Int), .string (bs mm)] : Array Value)[o]? := fun o => cell_at hUb o
                  have hcp : ∀ o, U'.cell? ⟨w.heap.size, o, none⟩ = (#[.int .u32 (pi : Int), .int .u64 (pd : Int), .string (bs pm), .slice pa pl.length pc] : Array Value)[o]? := fun o => by rw [hUw.cell (p := ⟨w.heap.size, o, none⟩) hpw]; exact hpc.out o
                  have hUl := block_lt hUb
                  have hpU : w.heap.size < U'.heap.size := Nat.lt_of_lt_of_le hpw hUw.size
                  have hB2 := hide (hb.trans (hUw.mono hb.size))
                  clear hU' hUb hrng hpc hUw hone hc
                  go_wp2
                  exact ⟨⟨k + 1, hlt, by go_num, by first | (rw [hq.out]; done) | (rw [hq.out]; rfl) | (rw [hq.out]; go_num), by first | (rw [hq.out]; done) | (rw [hq.out]; rfl) | (rw [hq.out]; go_num), by first | (rw [hq.out]; done) | (rw [hq.out]; rfl) | (rw [hq.out]; go_num), by first | (rw [hq.out]; done) | (rw [hq.out]; rfl) | (rw [hq.out]; go_num), hB2.out⟩, by simp [intOf]; omega⟩
              · by_cases h6k : kind = 6
                · subst h6k
                  have hml4 : ml < 4 := hf4 (by omega)
                  have hq : Hid (stOf ⟨pi, pd, pm, pl, pa, pc⟩ (acts.take (k + 1)) = (s1, s2, withOf s3 ml, s4)) := hide (by rw [hs.out]; simp [stStep, h1])
                  clear hs h1 hz hm
                  go_wp2_with (first | (with_reducible refine stopLd 162 ?_))
                  refine hide ?_
                  refine wpList_load_mid (by rfl) 162 _ (by rfl) g (k * 14) (by rfl) [.int .i64 6, .int .u32 (ai : Int), .int .u64 (adl : Int), .string (bs am), .slice aa al.length ac, .int .u8 (mk : Int), .int .u8 (mf : Int), .int .u8 (mt : Int), .int .u32 (mi : Int), .int .u8 (ml : Int), .int .u16 (mp : Int), .int .u16 (mg : Int), .int .u32 (ma : Int), .string (bs mm)] _ hrng.out Tryz.underlying162 rfl dtSize ?_
                  go_wp2_with (first | (with_reducible refine stopSt 162 ?_))
                  refine hide ?_
                  refine wpList_store_mid (by rfl) 162 _ _ (by rfl) wr.heap.size 0 (List.toArray [.int .i64 6, .int .u32 (ai : Int), .int .u64 (adl : Int), .string (bs am), .slice aa al.length ac, .int .u8 (mk : Int), .int .u8 (mf : Int), .int .u8 (mt : Int), .int .u32 (mi : Int), .int .u8 (ml : Int), .int .u16 (mp : Int), .int .u16 (mg : Int), .int .u32 (ma : Int), .string (bs mm)]) (by rfl) (by rfl) (longThere _ _ _ _ (by simp)) dtSize hone.out ?_
                  generalize hU' : World.setCells _ _ _ _ = U'
                  obtain ⟨hUb, hUw⟩ := longBox hU' rfl
                  have hcU : ∀ o, U'.cell? ⟨wr.heap.size, o, none⟩ = (#[.int .i64 6, .int .u32 (ai : Int), .int .u64 (adl : Int), .string (bs am), .slice aa al.length ac, .int .u8 (mk : Int), .int .u8 (mf : Int), .int .u8 (mt : Int), .int .u32 (mi : Int), .int .u8 (ml : Int), .int .u16 (mp : Int), .int .u16 (mg : Int), .int .u32 (ma : Int), .string (bs mm)] : Array Value)[o]? := fun o => cell_at hUb o
                  have hcp : ∀ o, U'.cell? ⟨w.heap.size, o, none⟩ = (#[.int .u32 (pi : Int), .int .u64 (pd : Int), .string (bs pm), .slice pa pl.length pc] : Array Value)[o]? := fun o => by rw [hUw.cell (p := ⟨w.heap.size, o, none⟩) hpw]; exact hpc.out o
                  have hUl := block_lt hUb
                  have hpU : w.heap.size < U'.heap.size := Nat.lt_of_lt_of_le hpw hUw.size
                  have hB2 := hide (hb.trans (hUw.mono hb.size))
                  clear hU' hUb hrng hpc hUw hone hc
                  go_wp2_with fail
                  refine (with_any s3 ml (by omega) (by omega) _).mono ?_
                  rintro e u9 ⟨rfl, rfl⟩
                  go_wp2
                  exact ⟨⟨k + 1, hlt, by go_num, by first | (rw [hq.out]; done) | (rw [hq.out]; rfl) | (rw [hq.out]; go_num), by first | (rw [hq.out]; done) | (rw [hq.out]; rfl) | (rw [hq.out]; go_num), by first | (rw [hq.out]; done) | (rw [hq.out]; rfl) | (rw [hq.out]; go_num), by first | (rw [hq.out]; done) | (rw [hq.out]; rfl) | (rw [hq.out]; go_num), hB2.out⟩, by simp [intOf]; omega⟩
                · have hq : Hid (stOf ⟨pi, pd, pm, pl, pa, pc⟩ (acts.take (k + 1)) = (s1, s2, s3, s4)) := hide (by rw [hs.out]; simp [stStep, hz, hm, h1, h4k, h5k, h6k])
                  have d4 : (kind == 4) = false := by simp [h4k]
                  have d5 : (kind == 5) = false := by simp [h5k]
                  have d6 : (kind == 6) = false := by simp [h6k]
                  clear hs h1 hz hm h4k h5k h6k
                  go_wp2_with (first | (with_reducible refine stopLd 162 ?_))
                  refine hide ?_
                  refine wpList_load_mid (by rfl) 162 _ (by rfl) g (k * 14) (by rfl) [.int .i64 kind, .int .u32 (ai : Int), .int .u64 (adl : Int), .string (bs am), .slice aa al.length ac, .int .u8 (mk : Int), .int .u8 (mf : Int), .int .u8 (mt : Int), .int .u32 (mi : Int), .int .u8 (ml : Int), .int .u16 (mp : Int), .int .u16 (mg : Int), .int .u32 (ma : Int), .string (bs mm)] _ hrng.out Tryz.underlying162 rfl dtSize ?_
                  go_wp2_with (first | (with_reducible refine stopSt 162 ?_))
                  refine hide ?_
                  refine wpList_store_mid (by rfl) 162 _ _ (by rfl) wr.heap.size 0 (List.toArray [.int .i64 kind, .int .u32 (ai : Int), .int .u64 (adl : Int), .string (bs am), .slice aa al.length ac, .int .u8 (mk : Int), .int .u8 (mf : Int), .int .u8 (mt : Int), .int .u32 (mi : Int), .int .u8 (ml : Int), .int .u16 (mp : Int), .int .u16 (mg : Int), .int .u32 (ma : Int), .string (bs mm)]) (by rfl) (by rfl) (longThere _ _ _ _ (by simp)) dtSize hone.out ?_
                  generalize hU' : World.setCells _ _ _ _ = U'
                  obtain ⟨hUb, hUw⟩ := longBox hU' rfl
                  have hcU : ∀ o, U'.cell? ⟨wr.heap.size, o, none⟩ = (#[.int .i64 kind, .int .u32 (ai : Int), .int .u64 (adl : Int), .string (bs am), .slice aa al.length ac, .int .u8 (mk : Int), .int .u8 (mf : Int), .int .u8 (mt : Int), .int .u32 (mi : Int), .int .u8 (ml : Int), .int .u16 (mp : Int), .int .u16 (mg : Int), .int .u32 (ma : Int), .string (bs mm)] : Array Value)[o]? := fun o => cell_at hUb o
                  have hcp : ∀ o, U'.cell? ⟨w.heap.size, o, none⟩ = (#[.int .u32 (pi : Int), .int .u64 (pd : Int), .string (bs pm), .slice pa pl.length pc] : Array Value)[o]? := fun o => by rw [hUw.cell (p := ⟨w.heap.size, o, none⟩) hpw]; exact hpc.out o
                  have hUl := block_lt hUb
                  have hpU : w.heap.size < U'.heap.size := Nat.lt_of_lt_of_le hpw hUw.size
                  have hB2 := hide (hb.trans (hUw.mono hb.size))
                  clear hU' hUb hrng hpc hUw hone hc
                  go_wp2
                  exact ⟨⟨k + 1, hlt, by go_num, by first | (rw [hq.out]; done) | (rw [hq.out]; rfl) | (rw [hq.out]; go_num), by first | (rw [hq.out]; done) | (rw [hq.out]; rfl) | (rw [hq.out]; go_num), by first | (rw [hq.out]; done) | (rw [hq.out]; rfl) | (rw [hq.out]; go_num), by first | (rw [hq.out]; done) | (rw [hq.out]; rfl) | (rw [hq.out]; go_num), hB2.out⟩, by simp [intOf]; omega⟩
          · have d1 : ((mi : Int) != (pi : Int)) = true := by simp; omega
            have hq : Hid (stOf ⟨pi, pd, pm, pl, pa, pc⟩ (acts.take (k + 1)) = (s1, s2, s3, s4)) := hide (by rw [hs.out]; simp [stStep, hz, hm, h1])
            clear hs h1
            go_wp2_with (first | (with_reducible refine stopLd 162 ?_))
            refine hide ?_
            refine wpList_load_mid (by rfl) 162 _ (by rfl) g (k * 14) (by rfl) [.int .i64 kind, .int .u32 (ai : Int), .int .u64 (adl : Int), .string (bs am), .slice aa al.length ac, .int .u8 (mk : Int), .int .u8 (mf : Int), .int .u8 (mt : Int), .int .u32 (mi : Int), .int .u8 (ml : Int), .int .u16 (mp : Int), .int .u16 (mg : Int), .int .u32 (ma : Int), .string (bs mm)] _ hrng.out Tryz.underlying162 rfl dtSize ?_
            go_wp2_with (first | (with_reducible refine stopSt 162 ?_))
            refine hide ?_
            refine wpList_store_mid (by rfl) 162 _ _ (by rfl) wr.heap.size 0 (List.toArray [.int .i64 kind, .int .u32 (ai : Int), .int .u64 (adl : Int), .string (bs am), .slice aa al.length ac, .int .u8 (mk : Int), .int .u8 (mf : Int), .int .u8 (mt : Int), .int .u32 (mi : Int), .int .u8 (ml : Int), .int .u16 (mp : Int), .int .u16 (mg : Int), .int .u32 (ma : Int), .string (bs mm)]) (by rfl) (by rfl) (longThere _ _ _ _ (by simp)) dtSize hone.out ?_
            generalize hU' : World.setCells _ _ _ _ = U'
            obtain ⟨hUb, hUw⟩ := longBox hU' rfl
            have hcU : ∀ o, U'.cell? ⟨wr.heap.size, o, none⟩ = (#[.int .i64 kind, .int .u32 (ai : Int), .int .u64 (adl : Int), .string (bs am), .slice aa al.length ac, .int .u8 (mk : Int), .int .u8 (mf : Int), .int .u8 (mt : Int), .int .u32 (mi : Int), .int .u8 (ml : Int), .int .u16 (mp : Int), .int .u16 (mg : Int), .int .u32 (ma : Int), .string (bs mm)] : Array Value)[o]? := fun o => cell_at hUb o
            have hcp : ∀ o, U'.cell? ⟨w.heap.size, o, none⟩ = (#[.int .u32 (pi : Int), .int .u64 (pd : Int), .string (bs pm), .slice pa pl.length pc] : Array Value)[o]? := fun o => by rw [hUw.cell (p := ⟨w.heap.size, o, none⟩) hpw]; exact hpc.out o
            have hUl := block_lt hUb
            have hpU : w.heap.size < U'.heap.size := Nat.lt_of_lt_of_le hpw hUw.size
            have hB2 := hide (hb.trans (hUw.mono hb.size))
            clear hU' hUb hrng hpc hUw hone hc
            go_wp2
            exact ⟨⟨k + 1, hlt, by go_num, by first | (rw [hq.out]; done) | (rw [hq.out]; rfl) | (rw [hq.out]; go_num), by first | (rw [hq.out]; done) | (rw [hq.out]; rfl) | (rw [hq.out]; go_num), by first | (rw [hq.out]; done) | (rw [hq.out]; rfl) | (rw [hq.out]; go_num), by first | (rw [hq.out]; done) | (rw [hq.out]; rfl) | (rw [hq.out]; go_num), hB2.out⟩, by simp [intOf]; omega⟩
    · obtain rfl : k = acts.length := by omega
      simp only [List.take_length] at hbd ⊢
      generalize hS : stOf ⟨pi, pd, pm, pl, pa, pc⟩ acts = S at *
      have HS := hide hS
      clear hS hRu
      obtain ⟨s1, s2, s3, s4⟩ := S
      go_wp2
      go_ret3
      exact ⟨by rw [HS.out]; rfl, hbw⟩
end Go.Proofs.YtjkhbjgfoopomaaGreat
