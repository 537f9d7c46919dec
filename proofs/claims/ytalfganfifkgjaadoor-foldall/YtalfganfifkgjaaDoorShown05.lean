/- The contract of the head of layer 5's statements: the document's examples hold. -/
import Derived.Test.YtalfganfifkgjaaDoorFoldCode
namespace Go.Proofs.YtalfganfifkgjaaDoor
open Go.RowKit
set_option linter.unusedVariables false

theorem example05 : textF [195, 132, 206, 163] = [195, 164, 207, 131] := by decide +kernel
theorem example05s : strOfNums [195, 132, 206, 163] = ⟨#[195, 132, 206, 163]⟩ := by rfl
theorem example05t : strOfNums [195, 164, 207, 131] = ⟨#[195, 164, 207, 131]⟩ := by rfl
theorem example05f : foldF 376 = 255 ∧ letterF 122 = true ∧ markF 8217 = true := by decide +kernel

set_option maxRecDepth 100000 in
set_option maxHeartbeats 4000000 in
theorem shown_any (w : World) (ht : Tabs w := by first | assumption | exact Tabs.grow (by assumption) (by assumption)) : Calls Tryd.prog 8 #[] w fun e w' => e = .returned (.bool true) ∧ Below w.heap.size w w' := by
  have hx := fun (W : World) (hW : Tabs W) => ftext_any [195, 132, 206, 163] W (by simp [isBytes]) (by decide) hW
  simp only [example05, example05s, example05t] at hx
  go_enter Tryd.func8, Tryd.ntmps8
  go_wp2_with fail
  refine (ffold_any 376 w (by decide)).mono ?_
  rintro e w1 ⟨rfl, hb1⟩
  rw [example05f.1]
  go_wp2_with fail
  refine (hx _ (Tabs.grow hb1 ht)).mono ?_
  rintro e w2 ⟨rfl, hb2⟩
  have hB2 := Grow.trans hb1 hb2
  clear hb1 hb2 hx
  go_wp2_with fail
  refine (fletter_any 122 _ (by decide)).mono ?_
  rintro e w3 ⟨rfl, hb3⟩
  rw [example05f.2.1]
  have hB3 := Grow.trans hB2 hb3
  clear hB2 hb3
  go_wp2_with fail
  refine (fmark_any 8217 _ (by decide)).mono ?_
  rintro e w4 ⟨rfl, hb4⟩
  rw [example05f.2.2]
  have hB4 := Grow.trans hB3 hb4
  clear hB3 hb4
  go_wp2
  go_ret
  exact ⟨rfl, hB4⟩
#print axioms shown_any
end Go.Proofs.YtalfganfifkgjaaDoor
