/-
  The call Sum.
-/
import Derived.Test.YtjkhbjgfoopomaaLaw
namespace Go.Proofs.Ytjkhbjgfoopomaa
open Go.RowKit

theorem escrowSum_any (s : ByteArray) (hs : s.size ≤ maxLen) (w : World) :
    Calls Try.prog 13 #[.string s] w fun e w' => e = .returned (.int .u32 ((sumOf s.data.toList : Nat) : Int)) ∧ w' = w := by
  go_enter Try.func13, Try.ntmps13
  go_wp2_with (go_at_call 41; refine (frameSum_any s hs _).mono ?_; rintro e w' ⟨rfl, rfl⟩)
  go_ret
  exact ⟨rfl, rfl⟩
end Go.Proofs.Ytjkhbjgfoopomaa
