/-
  The document's Bank.Leg.
-/
import Derived.Test.YtjkhbjgfoopomaaGreatRefBank
namespace Go.Proofs.YtjkhbjgfoopomaaGreat
open Go.RowKit
set_option linter.unusedVariables false

/-- two messages of ours: the first blocks behind w -/
structure Two (w : World) (x y : Msg) (u : World) : Prop where
  bel : Below w.heap.size w u
  one : u.heap[w.heap.size]? = some (.cells x.cells 40 (0, 0))
  two : u.heap[w.heap.size + 1]? = some (.cells y.cells 40 (0, 0))
theorem Two.mk0 (w : World) : Two w noMsg noMsg ((w.alloc (.cells noMsg.cells 40)).alloc (.cells noMsg.cells 40)) := by
  refine ⟨((Below.refl _ _).alloc (Nat.le_refl _) _).alloc (by simp) _, ?_, ?_⟩
  · rw [Below.heap_alloc _ _ _ (by simp)]
    exact heap_alloc_self _ _
  · rw [show w.heap.size + 1 = (w.alloc (.cells noMsg.cells 40)).heap.size from by simp]
    exact heap_alloc_self _ _
theorem Two.putOne {w u : World} {x y : Msg} (h : Two w x y u) (z : Msg) : Two w z y (putL u w.heap.size 0 z.cells.toList) :=
  have hk := putL_kept z.cells.toList u w.heap.size 0
  ⟨h.bel.trans (hk.below h.bel.size (fun k e => by omega)), putL_whole _ h.one rfl, by rw [hk.block _ (block_lt h.two) (by omega)]; exact h.two⟩
theorem Two.putTwo {w u : World} {x y : Msg} (h : Two w x y u) (z : Msg) : Two w x z (putL u (w.heap.size + 1) 0 z.cells.toList) :=
  have hk := putL_kept z.cells.toList u (w.heap.size + 1) 0
  ⟨h.bel.trans (hk.below h.bel.size (fun k e => by omega)), by rw [hk.block _ (block_lt h.one) (by omega)]; exact h.one, putL_whole _ h.two rfl⟩
theorem Two.alloc {w u : World} {x y : Msg} (h : Two w x y u) (o : Obj) : Two w x y (u.alloc o) := by
  have h1 := block_lt h.one
  have h2 := block_lt h.two
  exact ⟨h.bel.alloc h.bel.size _, by rw [Below.heap_alloc _ _ _ h1]; exact h.one, by rw [Below.heap_alloc _ _ _ h2]; exact h.two⟩
set_option maxRecDepth 100000 in
set_option maxHeartbeats 1000000 in
theorem leg_any (id l : Nat) (hid : id < 4294967296) (hl8 : l < 256) (w : World) (B node : Nat) (evs : List Ev) (v : Value) (hR : RB w B node evs v) (hok : ∀ e, e ∈ evs → e.ok) (hlen : evs.length ≤ 1000000) :
    Calls Tryz.prog 28 #[.pointer (some ⟨B, 0, none⟩), .int .u32 (id : Int), .int .u8 (l : Int)] w fun e w' =>
      e = .returned (.tuple #[.int .i64 ((legOf id l evs).1 : Int), (legOf id l evs).2.1.v, .bool (legOf id l evs).2.2]) ∧ Below w.heap.size w w' := by
  obtain ⟨ad, cap, hv, hev⟩ := hR.form
  subst hv
  go_enter Tryz.func28, Tryz.ntmps28
  go_wp2
  go_loopw [9, 11, 12] (fun x z c u => ∃ k : Nat, k ≤ evs.length ∧ c = .int .i64 k ∧ x = .int .i64 ((legOf id l (evs.take k)).1 : Int) ∧ z = .bool (legOf id l (evs.take k)).2.2 ∧ Two w noMsg (legOf id l (evs.take k)).2.1 u) (fun _ _ c _ => evs.length - (intOf c).toNat)
  case atStart => exact ⟨0, Nat.zero_le _, rfl, rfl, rfl, Two.mk0 w⟩
  case round =>
    obtain ⟨k, hk, rfl, rfl, rfl, hT⟩ := hrel
    have hb := hT.bel
    have hRu := hR.below hb
    have hc : ∀ o, _ = _ := fun o => cell_at hRu.blk o
    have hm : ∀ o, _ = _ := fun o => cell_at hT.two o
    have hfm : ∀ o, _ = _ := fun o => frozen_at hT.two o
    have hm0 : ∀ o, _ = _ := fun o => cell_at hT.one o
    have hfm0 : ∀ o, _ = _ := fun o => frozen_at hT.one o
    have hl1 := block_lt hT.one
    have hl2 := block_lt hT.two
    by_cases hlt : k < evs.length
    · obtain ⟨ad', cap', hv', hev'⟩ := hRu.form
      obtain ⟨g, hg, hcell, _⟩ := hev' k hlt
      have ead : ad = ad' := by injection hv'
      subst ead
      subst hg
      have hs : Hid (legOf id l (evs.take (k + 1)) = legStep id l (legOf id l (evs.take k)) evs[k]) := hide (by rw [take_snoc_ev evs k hlt, legOf_snoc])
      have c0 := hcell 0 (by decide)
      have c1 := hcell 1 (by decide)
      have c2 := hcell 2 (by decide)
      have c3 := hcell 3 (by decide)
      have c4 := hcell 4 (by decide)
      have c5 := hcell 5 (by decide)
      have c6 := hcell 6 (by decide)
      have c7 := hcell 7 (by decide)
      have c8 := hcell 8 (by decide)
      have c9 := hcell 9 (by decide)
      have c10 := hcell 10 (by decide)
      have hek := hok evs[k] (List.getElem_mem hlt)
      clear hcell hev hev' hv'
      generalize legOf id l (evs.take k) = S at *
      generalize evs[k] = E at *
      obtain ⟨kind, ⟨mk, mf, mt, mi, ml, mp, mg, ma, mm⟩, held⟩ := E
      obtain ⟨s1, ⟨nk, nf, nt, ni, nl, np, ng, na, nm⟩, s3⟩ := S
      obtain ⟨hk4, hmk, hmf, hmt, hmi, hml, hmp, hmg, hma⟩ := hek
      simp only [Ev.cells, List.getElem?_cons_zero, List.getElem?_cons_succ, Nat.add_zero] at c0 c1 c2 c3 c4 c5 c6 c7 c8 c9 c10 hk4 hmk hmf hmt hmi hml hmp hmg hma
      simp only [Msg.cells] at hm hm0
      by_cases hz : kind = 0
      · have dz : ((kind : Int) == 0) = true := by simp; omega
        have hq : Hid (legOf id l (evs.take (k + 1)) = (s1, ⟨nk, nf, nt, ni, nl, np, ng, na, nm⟩, s3)) := hide (by rw [hs.out]; simp [legStep, hz])
        clear hs hz
        go_wp2
        exact ⟨⟨k + 1, hlt, by go_num, by rw [hq.out], by rw [hq.out], by rw [hq.out]; exact hT.alloc _⟩, by simp [intOf]; omega⟩
      · have dz : ((kind : Int) == 0) = false := by simp; omega
        by_cases hi : mi = id
        · have di : ((mi : Int) != (id : Int)) = false := by simp; omega
          by_cases hl : ml = l
          · have dl : ((ml : Int) != (l : Int)) = false := by simp; omega
            by_cases h1 : kind = 1
            · have d1 : ((kind : Int) == 1) = true := by simp; omega
              cases held with
              | true =>
                have hq : Hid (legOf id l (evs.take (k + 1)) = (1, ⟨mk, mf, mt, mi, ml, mp, mg, ma, mm⟩, true)) := hide (by rw [hs.out]; simp [legStep, hi, hl, h1])
                clear hs hz hi hl h1
                go_wp2
                exact ⟨⟨k + 1, hlt, by go_num, by rw [hq.out]; rfl, by rw [hq.out], by rw [hq.out]; exact (hT.putTwo ⟨mk, mf, mt, mi, ml, mp, mg, ma, mm⟩).alloc _⟩, by simp [intOf]; omega⟩
              | false =>
                have hq : Hid (legOf id l (evs.take (k + 1)) = (2, ⟨mk, mf, mt, mi, ml, mp, mg, ma, mm⟩, true)) := hide (by rw [hs.out]; simp [legStep, hi, hl, h1])
                clear hs hz hi hl h1
                go_wp2
                exact ⟨⟨k + 1, hlt, by go_num, by rw [hq.out]; rfl, by rw [hq.out], by rw [hq.out]; exact (hT.putTwo ⟨mk, mf, mt, mi, ml, mp, mg, ma, mm⟩).alloc _⟩, by simp [intOf]; omega⟩
            · have d1 : ((kind : Int) == 1) = false := by simp; omega
              by_cases h2 : kind = 2
              · have d2 : ((kind : Int) == 2) = true := by simp; omega
                have hq : Hid (legOf id l (evs.take (k + 1)) = (3, ⟨nk, nf, nt, ni, nl, np, ng, na, nm⟩, s3)) := hide (by rw [hs.out]; simp [legStep, hi, hl, h2])
                clear hs hz hi hl h1 h2
                go_wp2
                exact ⟨⟨k + 1, hlt, by go_num, by rw [hq.out]; rfl, by rw [hq.out], by rw [hq.out]; exact hT.alloc _⟩, by simp [intOf]; omega⟩
              · have d2 : ((kind : Int) == 2) = false := by simp; omega
                have hq : Hid (legOf id l (evs.take (k + 1)) = (4, ⟨nk, nf, nt, ni, nl, np, ng, na, nm⟩, s3)) := hide (by rw [hs.out]; simp [legStep, hz, hi, hl, h1, h2])
                clear hs hz hi hl h1 h2
                go_wp2
                exact ⟨⟨k + 1, hlt, by go_num, by rw [hq.out]; rfl, by rw [hq.out], by rw [hq.out]; exact hT.alloc _⟩, by simp [intOf]; omega⟩
          · have dl : ((ml : Int) != (l : Int)) = true := by simp; omega
            have hq : Hid (legOf id l (evs.take (k + 1)) = (s1, ⟨nk, nf, nt, ni, nl, np, ng, na, nm⟩, s3)) := hide (by rw [hs.out]; simp [legStep, hl])
            clear hs hz hi hl
            go_wp2
            exact ⟨⟨k + 1, hlt, by go_num, by rw [hq.out], by rw [hq.out], by rw [hq.out]; exact hT.alloc _⟩, by simp [intOf]; omega⟩
        · have di : ((mi : Int) != (id : Int)) = true := by simp; omega
          have hq : Hid (legOf id l (evs.take (k + 1)) = (s1, ⟨nk, nf, nt, ni, nl, np, ng, na, nm⟩, s3)) := hide (by rw [hs.out]; simp [legStep, hi])
          clear hs hz hi
          go_wp2
          exact ⟨⟨k + 1, hlt, by go_num, by rw [hq.out], by rw [hq.out], by rw [hq.out]; exact hT.alloc _⟩, by simp [intOf]; omega⟩
    · obtain rfl : k = evs.length := by omega
      simp only [List.take_length] at hT hm ⊢
      have hbd := legOf_ok id l evs hok
      clear hev
      generalize hS : legOf id l evs = S at *
      have HS := hide hS
      clear hS
      obtain ⟨s1, z, s3⟩ := S
      have hT2 := hT.putOne z
      obtain ⟨nk, nf, nt, ni, nl, np, ng, na, nm⟩ := z
      simp only [Msg.cells, noMsg] at hm hm0 hT2
      go_wp2
      go_region
      go_wp2
      have hc2 := fun o => cell_at hT2.one o
      have hb2 := hT2.bel
      simp only [putL, Msg.cells] at hc2 hb2
      generalize World.setCell _ _ _ = u at *
      exact bodyPost_ret (v := .tuple #[.int .i64 (s1 : Int), .agg #[.int .u8 (nk : Int), .int .u8 (nf : Int), .int .u8 (nt : Int), .int .u32 (ni : Int), .int .u8 (nl : Int), .int .u16 (np : Int), .int .u16 (ng : Int), .int .u32 (na : Int), .string (bs nm)], .bool s3]) (by simp [results, Tryz.results28, go_sem, hc2]) rfl ⟨by rw [HS.out]; rfl, hb2.drew⟩
end Go.Proofs.YtjkhbjgfoopomaaGreat
