/- The contract of the head of layer 4's statements: the document's example holds. -/
import Derived.Test.YtchafajebkfieaaDoorUtfCode
namespace Go.Proofs.YtchafajebkfieaaDoor
open Go.RowKit
set_option linter.unusedVariables false

theorem example04 : feedU [226] = ([], [226]) := by decide +kernel
theorem example04b : feedU [226, 130, 172] = ([8364], []) := by decide +kernel

set_option maxRecDepth 100000 in
set_option maxHeartbeats 4000000 in
theorem shown_any (w : World) (ht : Tabs w := by first | assumption | exact Tabs.grow (by assumption) (by assumption)) : Calls Tryd.prog 9 #[] w fun e w' => e = .returned (.bool true) ∧ Below w.heap.size w w' := by
  go_enter Tryd.func9, Tryd.ntmps9
  go_wp2_with fail
  refine (ufeed_any none 0 0 [] _ 1 1 [226] _ (Reads.nil _) (reads_one w (.int .u8 226) 5) (by simp [isBytes]) (by simp [isBytes]) (by omega) (by omega) (ht.later ((Below.refl w.heap.size w).alloc (Nat.le_refl _) _) (Nat.le_refl _))).mono ?_
  rintro e w1 ⟨ag1, c1, m1, bg1, d1, k1, rfl, hm1, hk1, hown1, rp1, -, -, hb1⟩
  simp only [List.nil_append, example04] at hm1 hk1 rp1
  have hm1' : m1 = 0 := hm1
  have hk1' : k1 = 1 := hk1
  clear hm1 hk1 hown1
  subst hm1' hk1'
  have hB1 : Below w.heap.size w w1 := Below.trans ((Below.refl w.heap.size w).alloc (Nat.le_refl _) _) (hb1.mono (by simp))
  clear hb1
  have rp2 := rp1.later ((Below.refl w1.heap.size w1).alloc (Nat.le_refl _) (.cells #[.int .u8 130, .int .u8 172] 5)) (Nat.le_refl _)
  go_wp2_with fail
  refine (ufeed_any _ _ _ [226] _ 2 2 [130, 172] _ rp2 (reads_new w1 (([130, 172] : List Int).map (.int .u8)) 5 (by decide)) (by simp [isBytes]) (by simp [isBytes]) (by omega) (by omega) ((ht.later hB1 (Nat.le_refl _)).later ((Below.refl w1.heap.size w1).alloc (Nat.le_refl _) _) (Nat.le_refl _))).mono ?_
  rintro e w2 ⟨ag2, c2, m2, bg2, d2, k2, rfl, hm2, hk2, hown2, rp3, -, -, hb2⟩
  have hap : ([226] ++ [130, 172] : List Int) = [226, 130, 172] := rfl
  simp only [hap, example04b] at hm2 hk2 hown2
  have hm2' : m2 = 1 := hm2
  have hk2' : k2 = 0 := hk2
  clear hm2 hk2 rp3 rp1 rp2 hap
  subst hm2' hk2'
  have hB2 : Below w.heap.size w w2 := Grow.trans hB1 (Below.trans ((Below.refl w1.heap.size w1).alloc (Nat.le_refl _) _) (hb2.mono (by simp)))
  clear hb2 hB1
  obtain ⟨b, off, rfl, _, hc⟩ := Reads.at (zs := [8364]) (Reads.own hown2) (by decide)
  have hc0 : w2.cell? ⟨b, off, none⟩ = some (.int .i32 8364) := hc 0 (by decide)
  clear hc hown2
  go_wp2
  go_ret
  exact ⟨rfl, hB2⟩
#print axioms shown_any
end Go.Proofs.YtchafajebkfieaaDoor
