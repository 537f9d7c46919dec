/- The contract of num.Add. -/
import Derived.Test.YtkcledkfgmdcgaaAddMath
namespace Go.Proofs.Ytkcledkfgmdcgaa
open Go.RowKit

set_option maxHeartbeats 400000 in
theorem add_any (a b : Int) (w : World) (a0 : 0 ≤ a) (a1 : a ≤ 18446744073709551615) (b0 : 0 ≤ b) (b1 : b ≤ 18446744073709551615) :
    Calls Try.prog 32 #[.int .u64 a, .int .u64 b] w fun e w' => e = .returned (.tuple #[.int .u64 (addN a b), .bool (addB a b)]) ∧ w' = w := by
  by_cases h1 : a ≤ 4611686018427387904
  · by_cases h2 : b ≤ 4611686018427387904 - a
    · have e1 : addN a b = a + b := by unfold addN; rw [if_pos (by omega)]
      have e2 : addB a b = true := by simp [addB]; omega
      rw [e1, e2]
      go_enter Try.func32, Try.ntmps32
      go_wp2
      go_ret2
      exact ⟨rfl, rfl⟩
    · have e1 : addN a b = 0 := by unfold addN; rw [if_neg (by omega)]
      have e2 : addB a b = false := by simp [addB]; omega
      rw [e1, e2]
      go_enter Try.func32, Try.ntmps32
      go_wp2
      go_ret2
      exact ⟨rfl, rfl⟩
  · have e1 : addN a b = 0 := by unfold addN; rw [if_neg (by omega)]
    have e2 : addB a b = false := by simp [addB]; omega
    rw [e1, e2]
    go_enter Try.func32, Try.ntmps32
    go_wp2
    go_ret2
    exact ⟨rfl, rfl⟩
end Go.Proofs.Ytkcledkfgmdcgaa
