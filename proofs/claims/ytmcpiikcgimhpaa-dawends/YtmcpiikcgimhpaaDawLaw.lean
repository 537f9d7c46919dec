/- Of what Build tells, for the statements on automata. -/
import Derived.Test.YtmcpiikcgimhpaaShown14
import Derived.Test.YtmcpiikcgimhpaaFewMath
namespace Go.Proofs.Ytmcpiikcgimhpaa
open Go.RowKit
set_option linter.unusedVariables false
set_option linter.unusedSimpArgs false

/-- Has of what was built. -/
theorem bhas_any {w : World} {ao : Option Addr} {len cap : Nat} {zs : List Wd} (h : ReadsA w ao len cap (zA (buildL zs))) (hs : (zs.map List.length).sum ≤ 1000000000) (k : Wd) (hk : k.length ≤ 140737488351232) :
    Calls Try.prog 11 #[.slice ao len cap, strV k] w fun e w' => e = .returned (.bool (decide (k ∈ zs))) ∧ Below w.heap.size w w' := by
  obtain ⟨f1, f2⟩ := built_fit hs
  have := has_any h k hk (by have := h.count; omega) f1
  rwa [built_has] at this
end Go.Proofs.Ytmcpiikcgimhpaa
