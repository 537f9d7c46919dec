/- What stands at the head of the statements on index. -/
import Derived.Test.YtkcledkfgmdcgaaIndexFew
import Derived.Test.YtkcledkfgmdcgaaFew15
import Derived.Test.YtkcledkfgmdcgaaRef14Build
import Derived.Test.YtkcledkfgmdcgaaSame15
namespace Go.Proofs.Ytkcledkfgmdcgaa
open Go.RowKit
set_option linter.unusedVariables false
set_option linter.unusedSimpArgs false

set_option maxRecDepth 100000 in
set_option maxHeartbeats 4000000 in
theorem shown_any (w : World) : Calls Try.prog 9 #[] w fun e w' => e = .returned (.bool true) ∧ Below w.heap.size w w' := by
  have p1 := rbuild_any (zs := [[97, 98], [99, 98]]) (reads_new w [strV [97, 98], strV [99, 98]] 9 (by decide)) (by decide) (by decide)
  have hne : [] ∉ ([[97, 98], [99, 98]] : List Wd) := by decide
  have hri : RiseW [[97, 98], [99, 98]] := by decide
  have hsm : (([[97, 98], [99, 98]] : List Wd).map List.length).sum ≤ 1000000 := by decide
  rw [show buildR [[97, 98], [99, 98]] = (zA (buildL [[97, 98], [99, 98]]), 0) by unfold buildR; rw [if_neg hne, if_pos hri]] at p1
  have Hne := hid hne
  have Hri := hid hri
  have Hsm := hid hsm
  clear hne hri hsm
  go_enter Try.func9, Try.ntmps9
  go_wp2_with fail
  refine p1.mono ?_
  rintro e w1 ⟨ag, m, c, rfl, hr, hB⟩
  have HB1 : Hid (Below w.heap.size w w1) := ((Below.refl _ _).alloc (Nat.le_refl _) _).trans (hB.mono (by simp))
  have p2 := iof_any hr Hne.out Hri.out Hsm.out [99, 98] (by decide)
  rw [show placeR [[97, 98], [99, 98]] [99, 98] = (1, true) by decide] at p2
  have HR := hid hr
  clear p1 hr hB
  go_wp2_with fail
  refine p2.mono ?_
  rintro e w2 ⟨rfl, hB⟩
  have p3 := iword_any (HR.out.later hB (Nat.le_refl _)) Hne.out Hri.out Hsm.out 0 (by decide) (by decide)
  rw [show wordR [[97, 98], [99, 98]] 0 = ([97, 98], true) by decide] at p3
  have HB2 := hid (HB1.out.trans (hB.mono HB1.out.size))
  clear p2 hB
  go_wp2_with fail
  refine p3.mono ?_
  rintro e w3 ⟨rfl, hB⟩
  have HB3 := hid (HB2.out.trans (hB.mono HB2.out.size))
  clear p3 hB
  go_wp2
  go_ret
  exact ⟨rfl, HB3.out⟩
end Go.Proofs.Ytkcledkfgmdcgaa
