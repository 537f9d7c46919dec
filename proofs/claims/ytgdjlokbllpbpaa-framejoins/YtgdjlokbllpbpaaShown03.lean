/- The contract of the head of layer 3's statements: the document's example holds. -/
import Derived.Test.YtgdjlokbllpbpaaFramePut
import Derived.Test.YtgdjlokbllpbpaaArr
import Derived.Lib.SlBytesConst
namespace Go.Proofs.Ytgdjlokbllpbpaa
open Go.RowKit
set_option linter.unusedVariables false

theorem example03 : recL [] = [0, 0, 0, 0, 0] := by decide +kernel
theorem example03b : (recL [97, 98]).length = 7 := by decide +kernel

set_option maxRecDepth 100000 in
set_option maxHeartbeats 4000000 in
theorem shown_any (w : World) : Calls Try.prog 8 #[] w fun e w' => e = .returned (.bool true) ∧ Below w.heap.size w w' := by
  have kc := fun (w : World) (C : Array Value) (n c : Nat) => Lib.run_convert_bytes_const (P := Try.prog) w 22 5 C n c Try.underlying22 Try.underlying5
  go_enter Try.func8, Try.ntmps8
  go_wp2_with fail
  refine (fput_ok none 0 0 [] none 0 0 [] w (Reads.nil _) (Reads.nil _) (by simp [isBytes]) (by omega) (by omega)).mono ?_
  rintro e w1 ⟨ag1, c1, m1, hm1, rfl, hown1, hb1⟩
  replace hm1 : m1 = 5 := by rw [hm1, example03]; rfl
  subst hm1
  rw [example03] at hown1
  go_wp2_with fail
  refine (fput_ok none 0 0 [] _ 2 2 [97, 98] _ (Reads.nil _) (reads_const w1 (([97, 98] : List Int).map (.int .u8)) 5 (2, 3) (by decide)) (by simp [isBytes]) (by omega) (by omega)).mono ?_
  rintro e w2 ⟨ag2, c2, m2, hm2, rfl, hown2, hb2⟩
  replace hm2 : m2 = 7 := by rw [hm2, example03b]
  subst hm2
  have hB2 : Below w1.heap.size w1 w2 := Below.trans ((Below.refl w1.heap.size w1).alloc (Nat.le_refl _) _) (hb2.mono (by simp))
  have hB : Below w.heap.size w w2 := Grow.trans hb1 hB2
  have q1 := conv_of Try.underlying22 Try.underlying5 Try.underlying9 ((Reads.own hown1).later hB2 (Nat.le_refl _))
  have q2 : (convert 22 9 (.slice (some ⟨w2.heap.size, 0, none⟩) 5 5)).run Try.prog (w2.alloc (.cells #[.int .u8 0, .int .u8 0, .int .u8 0, .int .u8 0, .int .u8 0] 5)) = .ok (.string (strOfNums [0, 0, 0, 0, 0])) (w2.alloc (.cells #[.int .u8 0, .int .u8 0, .int .u8 0, .int .u8 0, .int .u8 0] 5)) := conv_of (zs := [0, 0, 0, 0, 0]) Try.underlying22 Try.underlying5 Try.underlying9 (reads_new w2 (([0, 0, 0, 0, 0] : List Int).map (.int .u8)) 5 (by decide))
  simp only [List.nil_append] at q1
  have hB' := hB.alloc hB.size (.cells #[.int .u8 0, .int .u8 0, .int .u8 0, .int .u8 0, .int .u8 0] 5)
  clear hown1 hown2 hb1 hb2 hB2
  go_wp2
  go_ret
  exact ⟨rfl, hB'⟩
#print axioms shown_any
end Go.Proofs.Ytgdjlokbllpbpaa
