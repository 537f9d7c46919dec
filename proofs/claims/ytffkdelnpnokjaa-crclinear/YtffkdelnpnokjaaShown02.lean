/- The contract of the head of layer 2's statements: the document's example holds. -/
import Derived.Test.YtffkdelnpnokjaaCrcMore
import Derived.Test.YtffkdelnpnokjaaCuts
namespace Go.Proofs.Ytffkdelnpnokjaa
open Go.RowKit
set_option linter.unusedVariables false

theorem example02 : ofL [49, 50, 51, 52, 53, 54, 55, 56, 57] = 3421780262 := by decide +kernel

set_option maxRecDepth 100000 in
set_option maxHeartbeats 4000000 in
theorem shown_any (w : World) : Calls Try.prog 8 #[] w fun e w' => e = .returned (.bool true) ∧ Below w.heap.size w w' := by
  have kc := fun (w : World) (C : Array Value) (n c : Nat) => Lib.run_convert_bytes_const (P := Try.prog) w 22 5 C n c Try.underlying22 Try.underlying5
  go_enter Try.func8, Try.ntmps8
  go_wp2_with fail
  refine (of_any _ 9 9 [49, 50, 51, 52, 53, 54, 55, 56, 57] _ (reads_const w (([49, 50, 51, 52, 53, 54, 55, 56, 57] : List Int).map (.int .u8)) 5 (9, 10) (by decide)) (by simp [isBytes])).mono ?_
  rintro e w1 ⟨rfl, hb⟩
  rw [example02]
  have hb2 : Below w.heap.size w w1 := Below.trans ((Below.refl w.heap.size w).alloc (Nat.le_refl _) _) (hb.mono (by simp))
  clear hb
  go_wp2
  go_ret
  exact ⟨rfl, hb2⟩
#print axioms shown_any
end Go.Proofs.Ytffkdelnpnokjaa
