/-
  The document's Bank.Funds and Bank.can.
-/
import Derived.Test.YtjkhbjgfoopomaaGreatRefFirst
import Derived.Test.YtjkhbjgfoopomaaGreatMem2
import Derived.Deep.RegionHeld3
namespace Go.Proofs.YtjkhbjgfoopomaaGreat
open Go.RowKit
set_option linter.unusedVariables false
set_option linter.unusedSimpArgs false

set_option maxRecDepth 100000 in
set_option maxHeartbeats 1000000 in
theorem funds_any (a : Nat) (ha : a < 65536) (w : World) (B node : Nat) (evs : List Ev) (v : Value) (hR : RB w B node evs v) (hok : ∀ e, e ∈ evs → e.ok) (hlen : evs.length ≤ 1000000)
    (hge : outOf a evs (keysOf evs) ≤ (openedOf a evs).1 + inOf a evs (keysOf evs)) :
    Calls Tryz.prog 26 #[.pointer (some ⟨B, 0, none⟩), .int .u16 (a : Int)] w fun e w' =>
      e = .returned (.tuple #[.int .u64 (((openedOf a evs).1 + inOf a evs (keysOf evs) - outOf a evs (keysOf evs) : Nat) : Int), .int .u64 (staysOf a evs (keysOf evs) : Int), .int .u64 (comesOf a evs (keysOf evs) : Int), .bool (openedOf a evs).2.1]) ∧ Below w.heap.size w w' := by
  have hO := hide (opened_any a ha w B node evs v hR hok hlen)
  have hbd := openedOf_bd a evs hok
  obtain ⟨ad, cap, hv, hev⟩ := hR.form
  subst hv
  clear hev
  replace hge := hide hge
  generalize hS : openedOf a evs = S at *
  replace hS := hide hS
  obtain ⟨s1, s2, s3⟩ := S
  go_enter Tryz.func26, Tryz.ntmps26
  go_wp2_with fail
  refine hO.out.mono ?_
  rintro e w1 ⟨rfl, hb1⟩
  clear hO
  go_wp2
  go_loopw [11, 12, 13, 14, 15] (fun x y z t c u => ∃ k : Nat, k ≤ evs.length ∧ c = .int .i64 k ∧ x = .int .u64 (inOf a evs (keysTo evs k) : Int) ∧ y = .int .u64 (outOf a evs (keysTo evs k) : Int) ∧ z = .int .u64 (staysOf a evs (keysTo evs k) : Int) ∧ t = .int .u64 (comesOf a evs (keysTo evs k) : Int) ∧ Below w.heap.size w u) (fun _ _ _ _ c _ => evs.length - (intOf c).toNat)
  case atStart => exact ⟨0, Nat.zero_le _, rfl, rfl, rfl, rfl, rfl, hb1⟩
  case round =>
    obtain ⟨k, hk, rfl, rfl, rfl, rfl, rfl, hb⟩ := hrel
    have hRu := hR.below hb
    have hc : ∀ o, _ = _ := fun o => cell_at hRu.blk o
    have hkl := keysTo_length evs k
    have hsb := sums_bd a evs hok (keysTo evs k) (by omega)
    by_cases hlt : k < evs.length
    · have hy := hide (@keysTo_yes evs k hlt)
      have hn := hide (@keysTo_no evs k hlt)
      have hF := hide (first_any k wr B node evs _ hRu hok hlen hlt)
      generalize hf : firstB evs k = fv at *
      clear hf
      cases fv with
      | false =>
        have hq : Hid (keysTo evs (k + 1) = keysTo evs k) := hide (hn.out rfl)
        clear hy hn
        go_wp2_with fail
        refine hF.out.mono ?_
        rintro e w2 ⟨rfl, hb1⟩
        have hb2 := hb.trans (hb1.mono hb.size)
        clear hF hb1 hc
        go_wp2
        exact ⟨⟨k + 1, hlt, by go_num, by rw [hq.out], by rw [hq.out], by rw [hq.out], by rw [hq.out], hb2⟩, by simp [intOf]; omega⟩
      | true =>
        have hq : Hid (keysTo evs (k + 1) = keysTo evs k ++ [(evs[k].msg.i, evs[k].msg.l)]) := hide (hy.out rfl)
        clear hy hn
        go_wp2_with fail
        refine hF.out.mono ?_
        rintro e w2 ⟨rfl, hb1⟩
        have hb2 := hb.trans (hb1.mono hb.size)
        have hRv := hRu.below hb1
        clear hF hb1 hc
        have hc : ∀ o, _ = _ := fun o => cell_at hRv.blk o
        obtain ⟨ad', cap', hv', hev'⟩ := hRv.form
        obtain ⟨g, hg, hcell, _⟩ := hev' k hlt
        have ead : ad = ad' := by injection hv'
        subst ead
        subst hg
        have c4 := hcell 4 (by decide)
        have c5 := hcell 5 (by decide)
        simp only [Ev.cells, List.getElem?_cons_zero, List.getElem?_cons_succ] at c4 c5
        clear hcell hev' hv'
        have hBl : B < w2.heap.size := hRv.lt
        have hgl : g < w2.heap.size := hRv.row.lt rfl
        have hek := hok evs[k] (List.getElem_mem hlt)
        have hi4 := hek.2.2.2.2.1
        have hl8 := hek.2.2.2.2.2.1
        have hL := hide (fun u (hu : (u.cell? ⟨B, 1, none⟩ = some (.slice (some ⟨g, 0, none⟩) evs.length cap) ∧ u.cell? ⟨g, k * 11 + 4, none⟩ = some (.int .u32 (evs[k].msg.i : Int)) ∧ u.cell? ⟨g, k * 11 + 5, none⟩ = some (.int .u8 (evs[k].msg.l : Int))) ∧ Below w2.heap.size w2 u) => leg_any evs[k].msg.i evs[k].msg.l hi4 hl8 u B node evs _ (hRv.below hu.2) hok hlen)
        have hlo := legOf_ok evs[k].msg.i evs[k].msg.l evs hok
        clear hek
        generalize hii : evs[k].msg.i = ii at *
        generalize hll : evs[k].msg.l = il at *
        clear hii hll
        generalize hT : legOf ii il evs = T at *
        replace hT := hide hT
        obtain ⟨t1, ⟨nk, nf, nt, ni, nl, np, ng, na, nm⟩, t3⟩ := T
        simp only [Msg.v, Msg.cells] at hL
        have hin : Hid (inOf a evs (keysTo evs (k + 1)) = inOf a evs (keysTo evs k) + amtGet 3 a (t1, ⟨nk, nf, nt, ni, nl, np, ng, na, nm⟩, t3)) := hide (by rw [hq.out, ← hT.out]; exact sumBy_snoc _ _ _)
        have hout : Hid (outOf a evs (keysTo evs (k + 1)) = outOf a evs (keysTo evs k) + amtPay 3 a (t1, ⟨nk, nf, nt, ni, nl, np, ng, na, nm⟩, t3)) := hide (by rw [hq.out, ← hT.out]; exact sumBy_snoc _ _ _)
        have hst : Hid (staysOf a evs (keysTo evs (k + 1)) = staysOf a evs (keysTo evs k) + amtPay 1 a (t1, ⟨nk, nf, nt, ni, nl, np, ng, na, nm⟩, t3)) := hide (by rw [hq.out, ← hT.out]; exact sumBy_snoc _ _ _)
        have hco : Hid (comesOf a evs (keysTo evs (k + 1)) = comesOf a evs (keysTo evs k) + amtGet 1 a (t1, ⟨nk, nf, nt, ni, nl, np, ng, na, nm⟩, t3)) := hide (by rw [hq.out, ← hT.out]; exact sumBy_snoc _ _ _)
        have c1 : w2.cell? ⟨B, 1, none⟩ = some (.slice (some ⟨g, 0, none⟩) evs.length cap) := hc 1
        go_wp2_with fail
        go_region_held3 (fun u => (u.cell? ⟨B, 1, none⟩ = some (.slice (some ⟨g, 0, none⟩) evs.length cap) ∧ u.cell? ⟨g, k * 11 + 4, none⟩ = some (.int .u32 (ii : Int)) ∧ u.cell? ⟨g, k * 11 + 5, none⟩ = some (.int .u8 (il : Int))) ∧ Below w2.heap.size w2 u)
          (first
            | (with_reducible refine keep3_set hBl hgl hgl (by assumption) ?_; repeat (first | with_reducible exact Below.refl _ _ | with_reducible refine setHere ?_ (Nat.le_refl _)))
            | with_reducible exact keep3_drew ⟨c1, c4, c5⟩
            | with_reducible exact keep3_start hBl hgl hgl ⟨c1, c4, c5⟩ _
            | with_reducible exact keep3_alloc hBl hgl hgl (by assumption) _
            | with_reducible exact keep3_call hBl hgl hgl (by assumption) hb9
            | with_reducible exact keep3_again hBl hgl hgl hs9 _ (by assumption)
            | fail)
          (first
            | (go_at_call 28; refine (hL.out _ ?_).mono ?_; assumption; rintro e u2 ⟨rfl, hb9⟩; (try have hf9 : ∀ o, u2.frozen? ⟨w2.heap.size, o, none⟩ = false := fun o => fro_kept (undrew hb9) o); (try have hc9 : ∀ o, u2.cell? ⟨w2.heap.size, o, none⟩ = _ := fun o => cel_kept (undrew hb9) o); have hs9 : w2.heap.size ≤ u2.heap.size := (by first | exact hb9.size | exact Nat.le_of_lt (lt_kept (undrew hb9)))))
        · have hB2 := (undrew hb9).alloc hs9 (.cells #[.int .u8 (nk : Int), .int .u8 (nf : Int), .int .u8 (nt : Int), .int .u32 (ni : Int), .int .u8 (nl : Int), .int .u16 (np : Int), .int .u16 (ng : Int), .int .u32 (na : Int), .string (bs nm)] 40)
          have hB3 := hb2.trans (hB2.mono hb2.size)
          have hm : ∀ o, (u2.alloc (.cells #[.int .u8 (nk : Int), .int .u8 (nf : Int), .int .u8 (nt : Int), .int .u32 (ni : Int), .int .u8 (nl : Int), .int .u16 (np : Int), .int .u16 (ng : Int), .int .u32 (na : Int), .string (bs nm)] 40)).cell? ⟨u2.heap.size, o, none⟩ = (#[.int .u8 (nk : Int), .int .u8 (nf : Int), .int .u8 (nt : Int), .int .u32 (ni : Int), .int .u8 (nl : Int), .int .u16 (np : Int), .int .u16 (ng : Int), .int .u32 (na : Int), .string (bs nm)] : Array Value)[o]? := fun o => World.cell?_alloc_new ..
          clear hB2 hb9 hs9
          generalize u2.alloc _ = u3 at hB3 hm ⊢
          generalize u2.heap.size = mB at hm ⊢
          have hna : na < 4294967296 := hlo.2.2.2.2.2.2.2.2
          have hnp : np < 65536 := hlo.2.2.2.2.2.2.1
          have hng : ng < 65536 := hlo.2.2.2.2.2.2.2.1
          have ht5 : t1 < 5 := hlo.1
          obtain ⟨hb1', hb2', hb3', hb4'⟩ := hsb
          have W1 : IntKind.u64.wrap ((inOf a evs (keysTo evs k) : Int) + (na : Int)) = ((inOf a evs (keysTo evs k) + na : Nat) : Int) := by rw [IntKind.wrap_u64]; omega
          have W2 : IntKind.u64.wrap ((outOf a evs (keysTo evs k) : Int) + (na : Int)) = ((outOf a evs (keysTo evs k) + na : Nat) : Int) := by rw [IntKind.wrap_u64]; omega
          have W3 : IntKind.u64.wrap ((staysOf a evs (keysTo evs k) : Int) + (na : Int)) = ((staysOf a evs (keysTo evs k) + na : Nat) : Int) := by rw [IntKind.wrap_u64]; omega
          have W4 : IntKind.u64.wrap ((comesOf a evs (keysTo evs k) : Int) + (na : Int)) = ((comesOf a evs (keysTo evs k) + na : Nat) : Int) := by rw [IntKind.wrap_u64]; omega
          clear hlo c1 c4 c5 hc hL hT hq hgl hBl hRv hRu hR hb hb2
          cases t3 with
          | false =>
            have qi : Hid (inOf a evs (keysTo evs (k + 1)) = inOf a evs (keysTo evs k)) := hide (by rw [hin.out]; simp [amtGet, amtPay])
            have qo : Hid (outOf a evs (keysTo evs (k + 1)) = outOf a evs (keysTo evs k)) := hide (by rw [hout.out]; simp [amtGet, amtPay])
            have qs : Hid (staysOf a evs (keysTo evs (k + 1)) = staysOf a evs (keysTo evs k)) := hide (by rw [hst.out]; simp [amtGet, amtPay])
            have qc : Hid (comesOf a evs (keysTo evs (k + 1)) = comesOf a evs (keysTo evs k)) := hide (by rw [hco.out]; simp [amtGet, amtPay])
            clear hin hout hst hco
            go_wp2
            exact ⟨⟨k + 1, hlt, by go_num, by rw [qi.out], by rw [qo.out], by rw [qs.out], by rw [qc.out], hB3⟩, by simp [intOf]; omega⟩
          | true =>
            by_cases h3 : t1 = 3
            · have d3 : ((t1 : Int) == 3) = true := by simp; omega
              have d1 : ((t1 : Int) == 1) = false := by simp; omega
              by_cases hp : np = a
              · have dp : ((np : Int) == (a : Int)) = true := by simp; omega
                by_cases hg : ng = a
                · have dg : ((ng : Int) == (a : Int)) = true := by simp; omega
                  have qi : Hid (inOf a evs (keysTo evs (k + 1)) = inOf a evs (keysTo evs k) + na) := hide (by rw [hin.out]; simp [amtGet, amtPay, h3, hp, hg])
                  have qo : Hid (outOf a evs (keysTo evs (k + 1)) = outOf a evs (keysTo evs k) + na) := hide (by rw [hout.out]; simp [amtGet, amtPay, h3, hp, hg])
                  have qs : Hid (staysOf a evs (keysTo evs (k + 1)) = staysOf a evs (keysTo evs k)) := hide (by rw [hst.out]; simp [amtGet, amtPay, h3, hp, hg])
                  have qc : Hid (comesOf a evs (keysTo evs (k + 1)) = comesOf a evs (keysTo evs k)) := hide (by rw [hco.out]; simp [amtGet, amtPay, h3, hp, hg])
                  clear hin hout hst hco
                  clear hp hg h3
                  go_wp2
                  exact ⟨⟨k + 1, hlt, by go_num, by rw [qi.out]; go_num, by rw [qo.out]; go_num, by rw [qs.out], by rw [qc.out], hB3⟩, by simp [intOf]; omega⟩
                · have dg : ((ng : Int) == (a : Int)) = false := by simp; omega
                  have qi : Hid (inOf a evs (keysTo evs (k + 1)) = inOf a evs (keysTo evs k)) := hide (by rw [hin.out]; simp [amtGet, amtPay, h3, hp, hg])
                  have qo : Hid (outOf a evs (keysTo evs (k + 1)) = outOf a evs (keysTo evs k) + na) := hide (by rw [hout.out]; simp [amtGet, amtPay, h3, hp, hg])
                  have qs : Hid (staysOf a evs (keysTo evs (k + 1)) = staysOf a evs (keysTo evs k)) := hide (by rw [hst.out]; simp [amtGet, amtPay, h3, hp, hg])
                  have qc : Hid (comesOf a evs (keysTo evs (k + 1)) = comesOf a evs (keysTo evs k)) := hide (by rw [hco.out]; simp [amtGet, amtPay, h3, hp, hg])
                  clear hin hout hst hco
                  clear hp hg h3
                  go_wp2
                  exact ⟨⟨k + 1, hlt, by go_num, by rw [qi.out], by rw [qo.out]; go_num, by rw [qs.out], by rw [qc.out], hB3⟩, by simp [intOf]; omega⟩
              · have dp : ((np : Int) == (a : Int)) = false := by simp; omega
                by_cases hg : ng = a
                · have dg : ((ng : Int) == (a : Int)) = true := by simp; omega
                  have qi : Hid (inOf a evs (keysTo evs (k + 1)) = inOf a evs (keysTo evs k) + na) := hide (by rw [hin.out]; simp [amtGet, amtPay, h3, hp, hg])
                  have qo : Hid (outOf a evs (keysTo evs (k + 1)) = outOf a evs (keysTo evs k)) := hide (by rw [hout.out]; simp [amtGet, amtPay, h3, hp, hg])
                  have qs : Hid (staysOf a evs (keysTo evs (k + 1)) = staysOf a evs (keysTo evs k)) := hide (by rw [hst.out]; simp [amtGet, amtPay, h3, hp, hg])
                  have qc : Hid (comesOf a evs (keysTo evs (k + 1)) = comesOf a evs (keysTo evs k)) := hide (by rw [hco.out]; simp [amtGet, amtPay, h3, hp, hg])
                  clear hin hout hst hco
                  clear hp hg h3
                  go_wp2
                  exact ⟨⟨k + 1, hlt, by go_num, by rw [qi.out]; go_num, by rw [qo.out], by rw [qs.out], by rw [qc.out], hB3⟩, by simp [intOf]; omega⟩
                · have dg : ((ng : Int) == (a : Int)) = false := by simp; omega
                  have qi : Hid (inOf a evs (keysTo evs (k + 1)) = inOf a evs (keysTo evs k)) := hide (by rw [hin.out]; simp [amtGet, amtPay, h3, hp, hg])
                  have qo : Hid (outOf a evs (keysTo evs (k + 1)) = outOf a evs (keysTo evs k)) := hide (by rw [hout.out]; simp [amtGet, amtPay, h3, hp, hg])
                  have qs : Hid (staysOf a evs (keysTo evs (k + 1)) = staysOf a evs (keysTo evs k)) := hide (by rw [hst.out]; simp [amtGet, amtPay, h3, hp, hg])
                  have qc : Hid (comesOf a evs (keysTo evs (k + 1)) = comesOf a evs (keysTo evs k)) := hide (by rw [hco.out]; simp [amtGet, amtPay, h3, hp, hg])
                  clear hin hout hst hco
                  clear hp hg h3
                  go_wp2
                  exact ⟨⟨k + 1, hlt, by go_num, by rw [qi.out], by rw [qo.out], by rw [qs.out], by rw [qc.out], hB3⟩, by simp [intOf]; omega⟩
            · have d3 : ((t1 : Int) == 3) = false := by simp; omega
              by_cases h1 : t1 = 1
              · have d1 : ((t1 : Int) == 1) = true := by simp; omega
                by_cases hp : np = a
                · have dp : ((np : Int) == (a : Int)) = true := by simp; omega
                  by_cases hg : ng = a
                  · have dg : ((ng : Int) == (a : Int)) = true := by simp; omega
                    have qi : Hid (inOf a evs (keysTo evs (k + 1)) = inOf a evs (keysTo evs k)) := hide (by rw [hin.out]; simp [amtGet, amtPay, h1, hp, hg])
                    have qo : Hid (outOf a evs (keysTo evs (k + 1)) = outOf a evs (keysTo evs k)) := hide (by rw [hout.out]; simp [amtGet, amtPay, h1, hp, hg])
                    have qs : Hid (staysOf a evs (keysTo evs (k + 1)) = staysOf a evs (keysTo evs k) + na) := hide (by rw [hst.out]; simp [amtGet, amtPay, h1, hp, hg])
                    have qc : Hid (comesOf a evs (keysTo evs (k + 1)) = comesOf a evs (keysTo evs k) + na) := hide (by rw [hco.out]; simp [amtGet, amtPay, h1, hp, hg])
                    clear hin hout hst hco
                    clear hp hg h3 h1
                    go_wp2
                    exact ⟨⟨k + 1, hlt, by go_num, by rw [qi.out], by rw [qo.out], by rw [qs.out]; go_num, by rw [qc.out]; go_num, hB3⟩, by simp [intOf]; omega⟩
                  · have dg : ((ng : Int) == (a : Int)) = false := by simp; omega
                    have qi : Hid (inOf a evs (keysTo evs (k + 1)) = inOf a evs (keysTo evs k)) := hide (by rw [hin.out]; simp [amtGet, amtPay, h1, hp, hg])
                    have qo : Hid (outOf a evs (keysTo evs (k + 1)) = outOf a evs (keysTo evs k)) := hide (by rw [hout.out]; simp [amtGet, amtPay, h1, hp, hg])
                    have qs : Hid (staysOf a evs (keysTo evs (k + 1)) = staysOf a evs (keysTo evs k) + na) := hide (by rw [hst.out]; simp [amtGet, amtPay, h1, hp, hg])
                    have qc : Hid (comesOf a evs (keysTo evs (k + 1)) = comesOf a evs (keysTo evs k)) := hide (by rw [hco.out]; simp [amtGet, amtPay, h1, hp, hg])
                    clear hin hout hst hco
                    clear hp hg h3 h1
                    go_wp2
                    exact ⟨⟨k + 1, hlt, by go_num, by rw [qi.out], by rw [qo.out], by rw [qs.out]; go_num, by rw [qc.out], hB3⟩, by simp [intOf]; omega⟩
                · have dp : ((np : Int) == (a : Int)) = false := by simp; omega
                  by_cases hg : ng = a
                  · have dg : ((ng : Int) == (a : Int)) = true := by simp; omega
                    have qi : Hid (inOf a evs (keysTo evs (k + 1)) = inOf a evs (keysTo evs k)) := hide (by rw [hin.out]; simp [amtGet, amtPay, h1, hp, hg])
                    have qo : Hid (outOf a evs (keysTo evs (k + 1)) = outOf a evs (keysTo evs k)) := hide (by rw [hout.out]; simp [amtGet, amtPay, h1, hp, hg])
                    have qs : Hid (staysOf a evs (keysTo evs (k + 1)) = staysOf a evs (keysTo evs k)) := hide (by rw [hst.out]; simp [amtGet, amtPay, h1, hp, hg])
                    have qc : Hid (comesOf a evs (keysTo evs (k + 1)) = comesOf a evs (keysTo evs k) + na) := hide (by rw [hco.out]; simp [amtGet, amtPay, h1, hp, hg])
                    clear hin hout hst hco
                    clear hp hg h3 h1
                    go_wp2
                    exact ⟨⟨k + 1, hlt, by go_num, by rw [qi.out], by rw [qo.out], by rw [qs.out], by rw [qc.out]; go_num, hB3⟩, by simp [intOf]; omega⟩
                  · have dg : ((ng : Int) == (a : Int)) = false := by simp; omega
                    have qi : Hid (inOf a evs (keysTo evs (k + 1)) = inOf a evs (keysTo evs k)) := hide (by rw [hin.out]; simp [amtGet, amtPay, h1, hp, hg])
                    have qo : Hid (outOf a evs (keysTo evs (k + 1)) = outOf a evs (keysTo evs k)) := hide (by rw [hout.out]; simp [amtGet, amtPay, h1, hp, hg])
                    have qs : Hid (staysOf a evs (keysTo evs (k + 1)) = staysOf a evs (keysTo evs k)) := hide (by rw [hst.out]; simp [amtGet, amtPay, h1, hp, hg])
                    have qc : Hid (comesOf a evs (keysTo evs (k + 1)) = comesOf a evs (keysTo evs k)) := hide (by rw [hco.out]; simp [amtGet, amtPay, h1, hp, hg])
                    clear hin hout hst hco
                    clear hp hg h3 h1
                    go_wp2
                    exact ⟨⟨k + 1, hlt, by go_num, by rw [qi.out], by rw [qo.out], by rw [qs.out], by rw [qc.out], hB3⟩, by simp [intOf]; omega⟩
              · have d1 : ((t1 : Int) == 1) = false := by simp; omega
                have qi : Hid (inOf a evs (keysTo evs (k + 1)) = inOf a evs (keysTo evs k)) := hide (by rw [hin.out]; simp [amtGet, amtPay, h1, h3])
                have qo : Hid (outOf a evs (keysTo evs (k + 1)) = outOf a evs (keysTo evs k)) := hide (by rw [hout.out]; simp [amtGet, amtPay, h1, h3])
                have qs : Hid (staysOf a evs (keysTo evs (k + 1)) = staysOf a evs (keysTo evs k)) := hide (by rw [hst.out]; simp [amtGet, amtPay, h1, h3])
                have qc : Hid (comesOf a evs (keysTo evs (k + 1)) = comesOf a evs (keysTo evs k)) := hide (by rw [hco.out]; simp [amtGet, amtPay, h1, h3])
                clear hin hout hst hco
                clear h1 h3
                go_wp2
                exact ⟨⟨k + 1, hlt, by go_num, by rw [qi.out], by rw [qo.out], by rw [qs.out], by rw [qc.out], hB3⟩, by simp [intOf]; omega⟩
        · have hk9 := putL_kept [.int .u8 (nk : Int), .int .u8 (nf : Int), .int .u8 (nt : Int), .int .u32 (ni : Int), .int .u8 (nl : Int), .int .u16 (np : Int), .int .u16 (ng : Int), .int .u32 (na : Int), .string (bs nm)] u2 w2.heap.size 0
          have hB2 := (all_kept (undrew hb9)).trans (hk9.below hs9 (fun i e => by omega))
          have hB3 := hb2.trans (hB2.mono hb2.size)
          have hm := fun o => cell_at (putL_whole [.int .u8 (nk : Int), .int .u8 (nf : Int), .int .u8 (nt : Int), .int .u32 (ni : Int), .int .u8 (nl : Int), .int .u16 (np : Int), .int .u16 (ng : Int), .int .u32 (na : Int), .string (bs nm)] (blk_kept (undrew hb9)) rfl) o
          clear hB2 hb9 hs9 hk9 hf9 hc9
          simp only [putL] at hm hB3
          generalize World.setCell _ _ _ = u3 at hB3 hm ⊢
          generalize w2.heap.size = mB at hm ⊢
          have hna : na < 4294967296 := hlo.2.2.2.2.2.2.2.2
          have hnp : np < 65536 := hlo.2.2.2.2.2.2.1
          have hng : ng < 65536 := hlo.2.2.2.2.2.2.2.1
          have ht5 : t1 < 5 := hlo.1
          obtain ⟨hb1', hb2', hb3', hb4'⟩ := hsb
          have W1 : IntKind.u64.wrap ((inOf a evs (keysTo evs k) : Int) + (na : Int)) = ((inOf a evs (keysTo evs k) + na : Nat) : Int) := by rw [IntKind.wrap_u64]; omega
          have W2 : IntKind.u64.wrap ((outOf a evs (keysTo evs k) : Int) + (na : Int)) = ((outOf a evs (keysTo evs k) + na : Nat) : Int) := by rw [IntKind.wrap_u64]; omega
          have W3 : IntKind.u64.wrap ((staysOf a evs (keysTo evs k) : Int) + (na : Int)) = ((staysOf a evs (keysTo evs k) + na : Nat) : Int) := by rw [IntKind.wrap_u64]; omega
          have W4 : IntKind.u64.wrap ((comesOf a evs (keysTo evs k) : Int) + (na : Int)) = ((comesOf a evs (keysTo evs k) + na : Nat) : Int) := by rw [IntKind.wrap_u64]; omega
          clear hlo c1 c4 c5 hc hL hT hq hgl hBl hRv hRu hR hb hb2
          cases t3 with
          | false =>
            have qi : Hid (inOf a evs (keysTo evs (k + 1)) = inOf a evs (keysTo evs k)) := hide (by rw [hin.out]; simp [amtGet, amtPay])
            have qo : Hid (outOf a evs (keysTo evs (k + 1)) = outOf a evs (keysTo evs k)) := hide (by rw [hout.out]; simp [amtGet, amtPay])
            have qs : Hid (staysOf a evs (keysTo evs (k + 1)) = staysOf a evs (keysTo evs k)) := hide (by rw [hst.out]; simp [amtGet, amtPay])
            have qc : Hid (comesOf a evs (keysTo evs (k + 1)) = comesOf a evs (keysTo evs k)) := hide (by rw [hco.out]; simp [amtGet, amtPay])
            clear hin hout hst hco
            go_wp2
            exact ⟨⟨k + 1, hlt, by go_num, by rw [qi.out], by rw [qo.out], by rw [qs.out], by rw [qc.out], hB3⟩, by simp [intOf]; omega⟩
          | true =>
            by_cases h3 : t1 = 3
            · have d3 : ((t1 : Int) == 3) = true := by simp; omega
              have d1 : ((t1 : Int) == 1) = false := by simp; omega
              by_cases hp : np = a
              · have dp : ((np : Int) == (a : Int)) = true := by simp; omega
                by_cases hg : ng = a
                · have dg : ((ng : Int) == (a : Int)) = true := by simp; omega
                  have qi : Hid (inOf a evs (keysTo evs (k + 1)) = inOf a evs (keysTo evs k) + na) := hide (by rw [hin.out]; simp [amtGet, amtPay, h3, hp, hg])
                  have qo : Hid (outOf a evs (keysTo evs (k + 1)) = outOf a evs (keysTo evs k) + na) := hide (by rw [hout.out]; simp [amtGet, amtPay, h3, hp, hg])
                  have qs : Hid (staysOf a evs (keysTo evs (k + 1)) = staysOf a evs (keysTo evs k)) := hide (by rw [hst.out]; simp [amtGet, amtPay, h3, hp, hg])
                  have qc : Hid (comesOf a evs (keysTo evs (k + 1)) = comesOf a evs (keysTo evs k)) := hide (by rw [hco.out]; simp [amtGet, amtPay, h3, hp, hg])
                  clear hin hout hst hco
                  clear hp hg h3
                  go_wp2
                  exact ⟨⟨k + 1, hlt, by go_num, by rw [qi.out]; go_num, by rw [qo.out]; go_num, by rw [qs.out], by rw [qc.out], hB3⟩, by simp [intOf]; omega⟩
                · have dg : ((ng : Int) == (a : Int)) = false := by simp; omega
                  have qi : Hid (inOf a evs (keysTo evs (k + 1)) = inOf a evs (keysTo evs k)) := hide (by rw [hin.out]; simp [amtGet, amtPay, h3, hp, hg])
                  have qo : Hid (outOf a evs (keysTo evs (k + 1)) = outOf a evs (keysTo evs k) + na) := hide (by rw [hout.out]; simp [amtGet, amtPay, h3, hp, hg])
                  have qs : Hid (staysOf a evs (keysTo evs (k + 1)) = staysOf a evs (keysTo evs k)) := hide (by rw [hst.out]; simp [amtGet, amtPay, h3, hp, hg])
                  have qc : Hid (comesOf a evs (keysTo evs (k + 1)) = comesOf a evs (keysTo evs k)) := hide (by rw [hco.out]; simp [amtGet, amtPay, h3, hp, hg])
                  clear hin hout hst hco
                  clear hp hg h3
                  go_wp2
                  exact ⟨⟨k + 1, hlt, by go_num, by rw [qi.out], by rw [qo.out]; go_num, by rw [qs.out], by rw [qc.out], hB3⟩, by simp [intOf]; omega⟩
              · have dp : ((np : Int) == (a : Int)) = false := by simp; omega
                by_cases hg : ng = a
                · have dg : ((ng : Int) == (a : Int)) = true := by simp; omega
                  have qi : Hid (inOf a evs (keysTo evs (k + 1)) = inOf a evs (keysTo evs k) + na) := hide (by rw [hin.out]; simp [amtGet, amtPay, h3, hp, hg])
                  have qo : Hid (outOf a evs (keysTo evs (k + 1)) = outOf a evs (keysTo evs k)) := hide (by rw [hout.out]; simp [amtGet, amtPay, h3, hp, hg])
                  have qs : Hid (staysOf a evs (keysTo evs (k + 1)) = staysOf a evs (keysTo evs k)) := hide (by rw [hst.out]; simp [amtGet, amtPay, h3, hp, hg])
                  have qc : Hid (comesOf a evs (keysTo evs (k + 1)) = comesOf a evs (keysTo evs k)) := hide (by rw [hco.out]; simp [amtGet, amtPay, h3, hp, hg])
                  clear hin hout hst hco
                  clear hp hg h3
                  go_wp2
                  exact ⟨⟨k + 1, hlt, by go_num, by rw [qi.out]; go_num, by rw [qo.out], by rw [qs.out], by rw [qc.out], hB3⟩, by simp [intOf]; omega⟩
                · have dg : ((ng : Int) == (a : Int)) = false := by simp; omega
                  have qi : Hid (inOf a evs (keysTo evs (k + 1)) = inOf a evs (keysTo evs k)) := hide (by rw [hin.out]; simp [amtGet, amtPay, h3, hp, hg])
                  have qo : Hid (outOf a evs (keysTo evs (k + 1)) = outOf a evs (keysTo evs k)) := hide (by rw [hout.out]; simp [amtGet, amtPay, h3, hp, hg])
                  have qs : Hid (staysOf a evs (keysTo evs (k + 1)) = staysOf a evs (keysTo evs k)) := hide (by rw [hst.out]; simp [amtGet, amtPay, h3, hp, hg])
                  have qc : Hid (comesOf a evs (keysTo evs (k + 1)) = comesOf a evs (keysTo evs k)) := hide (by rw [hco.out]; simp [amtGet, amtPay, h3, hp, hg])
                  clear hin hout hst hco
                  clear hp hg h3
                  go_wp2
                  exact ⟨⟨k + 1, hlt, by go_num, by rw [qi.out], by rw [qo.out], by rw [qs.out], by rw [qc.out], hB3⟩, by simp [intOf]; omega⟩
            · have d3 : ((t1 : Int) == 3) = false := by simp; omega
              by_cases h1 : t1 = 1
              · have d1 : ((t1 : Int) == 1) = true := by simp; omega
                by_cases hp : np = a
                · have dp : ((np : Int) == (a : Int)) = true := by simp; omega
                  by_cases hg : ng = a
                  · have dg : ((ng : Int) == (a : Int)) = true := by simp; omega
                    have qi : Hid (inOf a evs (keysTo evs (k + 1)) = inOf a evs (keysTo evs k)) := hide (by rw [hin.out]; simp [amtGet, amtPay, h1, hp, hg])
                    have qo : Hid (outOf a evs (keysTo evs (k + 1)) = outOf a evs (keysTo evs k)) := hide (by rw [hout.out]; simp [amtGet, amtPay, h1, hp, hg])
                    have qs : Hid (staysOf a evs (keysTo evs (k + 1)) = staysOf a evs (keysTo evs k) + na) := hide (by rw [hst.out]; simp [amtGet, amtPay, h1, hp, hg])
                    have qc : Hid (comesOf a evs (keysTo evs (k + 1)) = comesOf a evs (keysTo evs k) + na) := hide (by rw [hco.out]; simp [amtGet, amtPay, h1, hp, hg])
                    clear hin hout hst hco
                    clear hp hg h3 h1
                    go_wp2
                    exact ⟨⟨k + 1, hlt, by go_num, by rw [qi.out], by rw [qo.out], by rw [qs.out]; go_num, by rw [qc.out]; go_num, hB3⟩, by simp [intOf]; omega⟩
                  · have dg : ((ng : Int) == (a : Int)) = false := by simp; omega
                    have qi : Hid (inOf a evs (keysTo evs (k + 1)) = inOf a evs (keysTo evs k)) := hide (by rw [hin.out]; simp [amtGet, amtPay, h1, hp, hg])
                    have qo : Hid (outOf a evs (keysTo evs (k + 1)) = outOf a evs (keysTo evs k)) := hide (by rw [hout.out]; simp [amtGet, amtPay, h1, hp, hg])
                    have qs : Hid (staysOf a evs (keysTo evs (k + 1)) = staysOf a evs (keysTo evs k) + na) := hide (by rw [hst.out]; simp [amtGet, amtPay, h1, hp, hg])
                    have qc : Hid (comesOf a evs (keysTo evs (k + 1)) = comesOf a evs (keysTo evs k)) := hide (by rw [hco.out]; simp [amtGet, amtPay, h1, hp, hg])
                    clear hin hout hst hco
                    clear hp hg h3 h1
                    go_wp2
                    exact ⟨⟨k + 1, hlt, by go_num, by rw [qi.out], by rw [qo.out], by rw [qs.out]; go_num, by rw [qc.out], hB3⟩, by simp [intOf]; omega⟩
                · have dp : ((np : Int) == (a : Int)) = false := by simp; omega
                  by_cases hg : ng = a
                  · have dg : ((ng : Int) == (a : Int)) = true := by simp; omega
                    have qi : Hid (inOf a evs (keysTo evs (k + 1)) = inOf a evs (keysTo evs k)) := hide (by rw [hin.out]; simp [amtGet, amtPay, h1, hp, hg])
                    have qo : Hid (outOf a evs (keysTo evs (k + 1)) = outOf a evs (keysTo evs k)) := hide (by rw [hout.out]; simp [amtGet, amtPay, h1, hp, hg])
                    have qs : Hid (staysOf a evs (keysTo evs (k + 1)) = staysOf a evs (keysTo evs k)) := hide (by rw [hst.out]; simp [amtGet, amtPay, h1, hp, hg])
                    have qc : Hid (comesOf a evs (keysTo evs (k + 1)) = comesOf a evs (keysTo evs k) + na) := hide (by rw [hco.out]; simp [amtGet, amtPay, h1, hp, hg])
                    clear hin hout hst hco
                    clear hp hg h3 h1
                    go_wp2
                    exact ⟨⟨k + 1, hlt, by go_num, by rw [qi.out], by rw [qo.out], by rw [qs.out], by rw [qc.out]; go_num, hB3⟩, by simp [intOf]; omega⟩
                  · have dg : ((ng : Int) == (a : Int)) = false := by simp; omega
                    have qi : Hid (inOf a evs (keysTo evs (k + 1)) = inOf a evs (keysTo evs k)) := hide (by rw [hin.out]; simp [amtGet, amtPay, h1, hp, hg])
                    have qo : Hid (outOf a evs (keysTo evs (k + 1)) = outOf a evs (keysTo evs k)) := hide (by rw [hout.out]; simp [amtGet, amtPay, h1, hp, hg])
                    have qs : Hid (staysOf a evs (keysTo evs (k + 1)) = staysOf a evs (keysTo evs k)) := hide (by rw [hst.out]; simp [amtGet, amtPay, h1, hp, hg])
                    have qc : Hid (comesOf a evs (keysTo evs (k + 1)) = comesOf a evs (keysTo evs k)) := hide (by rw [hco.out]; simp [amtGet, amtPay, h1, hp, hg])
                    clear hin hout hst hco
                    clear hp hg h3 h1
                    go_wp2
                    exact ⟨⟨k + 1, hlt, by go_num, by rw [qi.out], by rw [qo.out], by rw [qs.out], by rw [qc.out], hB3⟩, by simp [intOf]; omega⟩
              · have d1 : ((t1 : Int) == 1) = false := by simp; omega
                have qi : Hid (inOf a evs (keysTo evs (k + 1)) = inOf a evs (keysTo evs k)) := hide (by rw [hin.out]; simp [amtGet, amtPay, h1, h3])
                have qo : Hid (outOf a evs (keysTo evs (k + 1)) = outOf a evs (keysTo evs k)) := hide (by rw [hout.out]; simp [amtGet, amtPay, h1, h3])
                have qs : Hid (staysOf a evs (keysTo evs (k + 1)) = staysOf a evs (keysTo evs k)) := hide (by rw [hst.out]; simp [amtGet, amtPay, h1, h3])
                have qc : Hid (comesOf a evs (keysTo evs (k + 1)) = comesOf a evs (keysTo evs k)) := hide (by rw [hco.out]; simp [amtGet, amtPay, h1, h3])
                clear hin hout hst hco
                clear h1 h3
                go_wp2
                exact ⟨⟨k + 1, hlt, by go_num, by rw [qi.out], by rw [qo.out], by rw [qs.out], by rw [qc.out], hB3⟩, by simp [intOf]; omega⟩
    · obtain rfl : k = evs.length := by omega
      have hge' := hge.out
      change outOf a evs (keysTo evs evs.length) ≤ s1 + inOf a evs (keysTo evs evs.length) at hge'
      have W0 : IntKind.u64.wrap ((s1 : Int) + (inOf a evs (keysTo evs evs.length) : Int) - (outOf a evs (keysTo evs evs.length) : Int)) = ((s1 + inOf a evs (keysTo evs evs.length) - outOf a evs (keysTo evs evs.length) : Nat) : Int) := by rw [IntKind.wrap_u64]; omega
      clear hge'
      go_wp2
      exact bodyPost_ret (v := .tuple #[.int .u64 ((s1 + inOf a evs (keysTo evs evs.length) - outOf a evs (keysTo evs evs.length) : Nat) : Int), .int .u64 (staysOf a evs (keysTo evs evs.length) : Int), .int .u64 (comesOf a evs (keysTo evs evs.length) : Int), .bool s2]) (by simp [results, Tryz.results26]) rfl ⟨rfl, hb⟩
end Go.Proofs.YtjkhbjgfoopomaaGreat
