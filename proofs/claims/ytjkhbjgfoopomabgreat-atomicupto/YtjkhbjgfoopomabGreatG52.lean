import Derived.Test.YtjkhbjgfoopomabGreatG51
/-
  The statement Atomic: the walk.
-/
namespace Go.Proofs.YtjkhbjgfoopomabGreat
open Go.RowKit
set_option linter.unusedVariables false
set_option linter.unusedSimpArgs false
set_option maxRecDepth 100000 in
set_option maxHeartbeats 2000000 in
theorem atomic_walk (w : World) (fv : Value) (fs : List Int) (hF : FundsAt w fv fs) (sv : Value) (ss : List Stp) (hSS : Steps w sv ss) :
    Calls Tryz.prog 3 #[fv, sv] w fun e w' => e = .returned (.bool true) ∧ Below w.heap.size w w' := by
  obtain ⟨ad, cap, rfl, hst⟩ := hSS.at
  have hsok := hide hSS.ok
  have hslen := hSS.len
  replace hst := hide hst
  have hNe := hide (network_any w fv fs hF)
  have hPd := hide (fun u => paid_any u)
  clear hSS hF
  go_enter Tryz.func3, Tryz.ntmps3
  go_wp2_with fail
  refine hNe.out.mono ?_
  rintro e w2 ⟨nb, own, M, rfl, hnb, I2, ho2, hb2⟩
  have S2 := hide (RunSt.start (w := w) I2 ho2 hb2)
  clear hNe I2 ho2 hb2 hnb
  go_wp2_with fail
  refine (hPd.out _).mono ?_
  rintro e w3 ⟨rfl, hb3⟩
  have S3 := hide (S2.out.below hb3)
  clear S2 hPd hb3
  go_wp2_with fail
  go_loopw [8] (fun c u => ∃ k : Nat, k ≤ ss.length ∧ c = .int .i64 (k : Int) ∧ ∃ own M P, RunSt w u nb fs k own M P) (fun c _ => ss.length + 1 - (intOf c).toNat)
  case atStart => exact ⟨0, Nat.zero_le _, rfl, _, _, _, S3.out⟩
  case round =>
    clear S3
    obtain ⟨k, hk, rfl, own, M, P, S⟩ := hrel
    by_cases hlt : k < ss.length
    · have hki : (k : Int) < (ss.length : Int) := by omega
      obtain ⟨a, la, lc, ea, hL, hcs⟩ := hst.out k hlt
      subst ea
      obtain ⟨c0, c1, c2, c3⟩ := hcs wr S.bel
      have hPl := hide (S.play (by omega) ss[k] (hsok.out _ (List.getElem_mem hlt)) la lc hL)
      clear hcs S hL
      generalize ss[k] = X at *
      obtain ⟨xk, xa, xb, xl⟩ := X
      simp only at c0 c1 c2 c3
      go_wp2_with fail
      refine hPl.out.mono ?_
      rintro e w4 ⟨rfl, own4, M4, P4, S4, _, _⟩
      have hAt := hide (atomic_any w4 own4 nb M4 P4 S4.net S4.sound.inv)
      have hSb := hide (fun u (hu : Below w4.heap.size w4 u) => S4.below hu)
      clear hPl S4 c0 c1 c2 c3
      go_wp2_with fail
      refine hAt.out.mono ?_
      rintro e w5 ⟨rfl, hb5⟩
      have S5 := hide (hSb.out _ hb5)
      clear hAt hSb hb5
      go_wp2
      exact ⟨⟨k + 1, hlt, by go_num, own4, M4, P4, S5.out⟩, by simp [intOf]; omega⟩
    · obtain rfl : k = ss.length := by omega
      have hFl := hide (flush_any (Sound fs) (Sound.steady fs) wr own nb M P S.net S.sound.inv S.sound (by have := S.wl; omega) (fun q => by have := S.ll q; omega))
      have hfr := hide (fun u own' (F : Frame wr u own own') => (S.frame F).2)
      clear S
      go_wp2_with fail
      refine hFl.out.mono ?_
      rintro e w4 ⟨rfl, own4, M4, P4, I4, F4, hI4, _, _, _⟩
      have hAt := hide (atomic_any w4 own4 nb M4 P4 I4 hI4)
      have hb4 := hide (hfr.out _ _ F4)
      clear hFl I4 F4 hI4 hfr
      go_wp2_with fail
      refine hAt.out.mono ?_
      rintro e w5 ⟨rfl, hb5⟩
      clear hAt
      go_wp2
      go_ret
      exact ⟨rfl, hb4.out.trans (hb5.mono hb4.out.size)⟩
end Go.Proofs.YtjkhbjgfoopomabGreat
