/- The contracts of the document's own answers for letters: Letter, Mark, Fold. -/
import Derived.Test.YtdhbbknjnbdplaaDoorRef05Even
import Derived.Test.YtdhbbknjnbdplaaDoorRef05Odd
import Derived.Test.YtdhbbknjnbdplaaDoorOwn
namespace Go.Proofs.YtdhbbknjnbdplaaDoor
open Go.RowKit
set_option linter.unusedVariables false

set_option maxRecDepth 100000 in
set_option maxHeartbeats 4000000 in
theorem rletter_any (c : Int) (w : World) : Calls Tryd.prog 59 #[.int .i32 c] w fun e w' => e = .returned (.bool (letterF c)) ∧ w' = w := by
  have hcase : c ≤ 64 ∨ (65 ≤ c ∧ c ≤ 90) ∨ (91 ≤ c ∧ c ≤ 96) ∨ (97 ≤ c ∧ c ≤ 122) ∨ (123 ≤ c ∧ c ≤ 191) ∨ (192 ≤ c ∧ c ≤ 214) ∨ c = 215 ∨ (216 ≤ c ∧ c ≤ 246) ∨ c = 247 ∨ (248 ≤ c ∧ c ≤ 383) ∨ (384 ≤ c ∧ c ≤ 912) ∨ (913 ≤ c ∧ c ≤ 929) ∨ c = 930 ∨ (931 ≤ c ∧ c ≤ 974) ∨ (975 ≤ c ∧ c ≤ 1023) ∨ (1024 ≤ c ∧ c ≤ 1119) ∨ 1120 ≤ c := by omega
  rcases hcase with h | h | h | h | h | h | h | h | h | h | h | h | h | h | h | h | h
  · have g65 : decide ((65 : Int) ≤ c) = false := by rw [decide_eq_false_iff_not]; omega
    have g97 : decide ((97 : Int) ≤ c) = false := by rw [decide_eq_false_iff_not]; omega
    have g192 : decide ((192 : Int) ≤ c) = false := by rw [decide_eq_false_iff_not]; omega
    have g913 : decide ((913 : Int) ≤ c) = false := by rw [decide_eq_false_iff_not]; omega
    have g1024 : decide ((1024 : Int) ≤ c) = false := by rw [decide_eq_false_iff_not]; omega
    have l90 : decide (c ≤ (90 : Int)) = true := by rw [decide_eq_true_eq]; omega
    have l122 : decide (c ≤ (122 : Int)) = true := by rw [decide_eq_true_eq]; omega
    have l383 : decide (c ≤ (383 : Int)) = true := by rw [decide_eq_true_eq]; omega
    have l974 : decide (c ≤ (974 : Int)) = true := by rw [decide_eq_true_eq]; omega
    have l1119 : decide (c ≤ (1119 : Int)) = true := by rw [decide_eq_true_eq]; omega
    have n215 : (c == 215) = false := by rw [beq_eq_false_iff_ne]; omega
    have n247 : (c == 247) = false := by rw [beq_eq_false_iff_ne]; omega
    have n930 : (c == 930) = false := by rw [beq_eq_false_iff_ne]; omega
    have hE : Hid (letterF c = false) := by show _ = _; unfold letterF; rw [decide_eq_false_iff_not]; omega
    clear h
    go_enter Tryd.func59, Tryd.ntmps59
    go_wp2
    go_ret
    exact ⟨by rw [hE.out]; rfl, rfl⟩
  · have g65 : decide ((65 : Int) ≤ c) = true := by rw [decide_eq_true_eq]; omega
    have g97 : decide ((97 : Int) ≤ c) = false := by rw [decide_eq_false_iff_not]; omega
    have g192 : decide ((192 : Int) ≤ c) = false := by rw [decide_eq_false_iff_not]; omega
    have g913 : decide ((913 : Int) ≤ c) = false := by rw [decide_eq_false_iff_not]; omega
    have g1024 : decide ((1024 : Int) ≤ c) = false := by rw [decide_eq_false_iff_not]; omega
    have l90 : decide (c ≤ (90 : Int)) = true := by rw [decide_eq_true_eq]; omega
    have l122 : decide (c ≤ (122 : Int)) = true := by rw [decide_eq_true_eq]; omega
    have l383 : decide (c ≤ (383 : Int)) = true := by rw [decide_eq_true_eq]; omega
    have l974 : decide (c ≤ (974 : Int)) = true := by rw [decide_eq_true_eq]; omega
    have l1119 : decide (c ≤ (1119 : Int)) = true := by rw [decide_eq_true_eq]; omega
    have n215 : (c == 215) = false := by rw [beq_eq_false_iff_ne]; omega
    have n247 : (c == 247) = false := by rw [beq_eq_false_iff_ne]; omega
    have n930 : (c == 930) = false := by rw [beq_eq_false_iff_ne]; omega
    have hE : Hid (letterF c = true) := by show _ = _; unfold letterF; rw [decide_eq_true_eq]; omega
    have hlo : (65 : Int) ≤ c := by omega
    have hhi : c ≤ (90 : Int) := by omega
    clear h
    go_enter Tryd.func59, Tryd.ntmps59
    go_wp2
    go_ret
    exact ⟨by rw [hE.out]; rfl, rfl⟩
  · have g65 : decide ((65 : Int) ≤ c) = true := by rw [decide_eq_true_eq]; omega
    have g97 : decide ((97 : Int) ≤ c) = false := by rw [decide_eq_false_iff_not]; omega
    have g192 : decide ((192 : Int) ≤ c) = false := by rw [decide_eq_false_iff_not]; omega
    have g913 : decide ((913 : Int) ≤ c) = false := by rw [decide_eq_false_iff_not]; omega
    have g1024 : decide ((1024 : Int) ≤ c) = false := by rw [decide_eq_false_iff_not]; omega
    have l90 : decide (c ≤ (90 : Int)) = false := by rw [decide_eq_false_iff_not]; omega
    have l122 : decide (c ≤ (122 : Int)) = true := by rw [decide_eq_true_eq]; omega
    have l383 : decide (c ≤ (383 : Int)) = true := by rw [decide_eq_true_eq]; omega
    have l974 : decide (c ≤ (974 : Int)) = true := by rw [decide_eq_true_eq]; omega
    have l1119 : decide (c ≤ (1119 : Int)) = true := by rw [decide_eq_true_eq]; omega
    have n215 : (c == 215) = false := by rw [beq_eq_false_iff_ne]; omega
    have n247 : (c == 247) = false := by rw [beq_eq_false_iff_ne]; omega
    have n930 : (c == 930) = false := by rw [beq_eq_false_iff_ne]; omega
    have hE : Hid (letterF c = false) := by show _ = _; unfold letterF; rw [decide_eq_false_iff_not]; omega
    have hlo : (91 : Int) ≤ c := by omega
    have hhi : c ≤ (96 : Int) := by omega
    clear h
    go_enter Tryd.func59, Tryd.ntmps59
    go_wp2
    go_ret
    exact ⟨by rw [hE.out]; rfl, rfl⟩
  · have g65 : decide ((65 : Int) ≤ c) = true := by rw [decide_eq_true_eq]; omega
    have g97 : decide ((97 : Int) ≤ c) = true := by rw [decide_eq_true_eq]; omega
    have g192 : decide ((192 : Int) ≤ c) = false := by rw [decide_eq_false_iff_not]; omega
    have g913 : decide ((913 : Int) ≤ c) = false := by rw [decide_eq_false_iff_not]; omega
    have g1024 : decide ((1024 : Int) ≤ c) = false := by rw [decide_eq_false_iff_not]; omega
    have l90 : decide (c ≤ (90 : Int)) = false := by rw [decide_eq_false_iff_not]; omega
    have l122 : decide (c ≤ (122 : Int)) = true := by rw [decide_eq_true_eq]; omega
    have l383 : decide (c ≤ (383 : Int)) = true := by rw [decide_eq_true_eq]; omega
    have l974 : decide (c ≤ (974 : Int)) = true := by rw [decide_eq_true_eq]; omega
    have l1119 : decide (c ≤ (1119 : Int)) = true := by rw [decide_eq_true_eq]; omega
    have n215 : (c == 215) = false := by rw [beq_eq_false_iff_ne]; omega
    have n247 : (c == 247) = false := by rw [beq_eq_false_iff_ne]; omega
    have n930 : (c == 930) = false := by rw [beq_eq_false_iff_ne]; omega
    have hE : Hid (letterF c = true) := by show _ = _; unfold letterF; rw [decide_eq_true_eq]; omega
    have hlo : (97 : Int) ≤ c := by omega
    have hhi : c ≤ (122 : Int) := by omega
    clear h
    go_enter Tryd.func59, Tryd.ntmps59
    go_wp2
    go_ret
    exact ⟨by rw [hE.out]; rfl, rfl⟩
  · have g65 : decide ((65 : Int) ≤ c) = true := by rw [decide_eq_true_eq]; omega
    have g97 : decide ((97 : Int) ≤ c) = true := by rw [decide_eq_true_eq]; omega
    have g192 : decide ((192 : Int) ≤ c) = false := by rw [decide_eq_false_iff_not]; omega
    have g913 : decide ((913 : Int) ≤ c) = false := by rw [decide_eq_false_iff_not]; omega
    have g1024 : decide ((1024 : Int) ≤ c) = false := by rw [decide_eq_false_iff_not]; omega
    have l90 : decide (c ≤ (90 : Int)) = false := by rw [decide_eq_false_iff_not]; omega
    have l122 : decide (c ≤ (122 : Int)) = false := by rw [decide_eq_false_iff_not]; omega
    have l383 : decide (c ≤ (383 : Int)) = true := by rw [decide_eq_true_eq]; omega
    have l974 : decide (c ≤ (974 : Int)) = true := by rw [decide_eq_true_eq]; omega
    have l1119 : decide (c ≤ (1119 : Int)) = true := by rw [decide_eq_true_eq]; omega
    have n215 : (c == 215) = false := by rw [beq_eq_false_iff_ne]; omega
    have n247 : (c == 247) = false := by rw [beq_eq_false_iff_ne]; omega
    have n930 : (c == 930) = false := by rw [beq_eq_false_iff_ne]; omega
    have hE : Hid (letterF c = false) := by show _ = _; unfold letterF; rw [decide_eq_false_iff_not]; omega
    have hlo : (123 : Int) ≤ c := by omega
    have hhi : c ≤ (191 : Int) := by omega
    clear h
    go_enter Tryd.func59, Tryd.ntmps59
    go_wp2
    go_ret
    exact ⟨by rw [hE.out]; rfl, rfl⟩
  · have g65 : decide ((65 : Int) ≤ c) = true := by rw [decide_eq_true_eq]; omega
    have g97 : decide ((97 : Int) ≤ c) = true := by rw [decide_eq_true_eq]; omega
    have g192 : decide ((192 : Int) ≤ c) = true := by rw [decide_eq_true_eq]; omega
    have g913 : decide ((913 : Int) ≤ c) = false := by rw [decide_eq_false_iff_not]; omega
    have g1024 : decide ((1024 : Int) ≤ c) = false := by rw [decide_eq_false_iff_not]; omega
    have l90 : decide (c ≤ (90 : Int)) = false := by rw [decide_eq_false_iff_not]; omega
    have l122 : decide (c ≤ (122 : Int)) = false := by rw [decide_eq_false_iff_not]; omega
    have l383 : decide (c ≤ (383 : Int)) = true := by rw [decide_eq_true_eq]; omega
    have l974 : decide (c ≤ (974 : Int)) = true := by rw [decide_eq_true_eq]; omega
    have l1119 : decide (c ≤ (1119 : Int)) = true := by rw [decide_eq_true_eq]; omega
    have n215 : (c == 215) = false := by rw [beq_eq_false_iff_ne]; omega
    have n247 : (c == 247) = false := by rw [beq_eq_false_iff_ne]; omega
    have n930 : (c == 930) = false := by rw [beq_eq_false_iff_ne]; omega
    have hE : Hid (letterF c = true) := by show _ = _; unfold letterF; rw [decide_eq_true_eq]; omega
    have hlo : (192 : Int) ≤ c := by omega
    have hhi : c ≤ (214 : Int) := by omega
    clear h
    go_enter Tryd.func59, Tryd.ntmps59
    go_wp2
    go_ret
    exact ⟨by rw [hE.out]; rfl, rfl⟩
  · subst h
    have hE : Hid (letterF 215 = false) := by show _ = _; decide +kernel
    go_enter Tryd.func59, Tryd.ntmps59
    go_wp2
    go_ret
    exact ⟨by rw [hE.out]; rfl, rfl⟩
  · have g65 : decide ((65 : Int) ≤ c) = true := by rw [decide_eq_true_eq]; omega
    have g97 : decide ((97 : Int) ≤ c) = true := by rw [decide_eq_true_eq]; omega
    have g192 : decide ((192 : Int) ≤ c) = true := by rw [decide_eq_true_eq]; omega
    have g913 : decide ((913 : Int) ≤ c) = false := by rw [decide_eq_false_iff_not]; omega
    have g1024 : decide ((1024 : Int) ≤ c) = false := by rw [decide_eq_false_iff_not]; omega
    have l90 : decide (c ≤ (90 : Int)) = false := by rw [decide_eq_false_iff_not]; omega
    have l122 : decide (c ≤ (122 : Int)) = false := by rw [decide_eq_false_iff_not]; omega
    have l383 : decide (c ≤ (383 : Int)) = true := by rw [decide_eq_true_eq]; omega
    have l974 : decide (c ≤ (974 : Int)) = true := by rw [decide_eq_true_eq]; omega
    have l1119 : decide (c ≤ (1119 : Int)) = true := by rw [decide_eq_true_eq]; omega
    have n215 : (c == 215) = false := by rw [beq_eq_false_iff_ne]; omega
    have n247 : (c == 247) = false := by rw [beq_eq_false_iff_ne]; omega
    have n930 : (c == 930) = false := by rw [beq_eq_false_iff_ne]; omega
    have hE : Hid (letterF c = true) := by show _ = _; unfold letterF; rw [decide_eq_true_eq]; omega
    have hlo : (216 : Int) ≤ c := by omega
    have hhi : c ≤ (246 : Int) := by omega
    clear h
    go_enter Tryd.func59, Tryd.ntmps59
    go_wp2
    go_ret
    exact ⟨by rw [hE.out]; rfl, rfl⟩
  · subst h
    have hE : Hid (letterF 247 = false) := by show _ = _; decide +kernel
    go_enter Tryd.func59, Tryd.ntmps59
    go_wp2
    go_ret
    exact ⟨by rw [hE.out]; rfl, rfl⟩
  · have g65 : decide ((65 : Int) ≤ c) = true := by rw [decide_eq_true_eq]; omega
    have g97 : decide ((97 : Int) ≤ c) = true := by rw [decide_eq_true_eq]; omega
    have g192 : decide ((192 : Int) ≤ c) = true := by rw [decide_eq_true_eq]; omega
    have g913 : decide ((913 : Int) ≤ c) = false := by rw [decide_eq_false_iff_not]; omega
    have g1024 : decide ((1024 : Int) ≤ c) = false := by rw [decide_eq_false_iff_not]; omega
    have l90 : decide (c ≤ (90 : Int)) = false := by rw [decide_eq_false_iff_not]; omega
    have l122 : decide (c ≤ (122 : Int)) = false := by rw [decide_eq_false_iff_not]; omega
    have l383 : decide (c ≤ (383 : Int)) = true := by rw [decide_eq_true_eq]; omega
    have l974 : decide (c ≤ (974 : Int)) = true := by rw [decide_eq_true_eq]; omega
    have l1119 : decide (c ≤ (1119 : Int)) = true := by rw [decide_eq_true_eq]; omega
    have n215 : (c == 215) = false := by rw [beq_eq_false_iff_ne]; omega
    have n247 : (c == 247) = false := by rw [beq_eq_false_iff_ne]; omega
    have n930 : (c == 930) = false := by rw [beq_eq_false_iff_ne]; omega
    have hE : Hid (letterF c = true) := by show _ = _; unfold letterF; rw [decide_eq_true_eq]; omega
    have hlo : (248 : Int) ≤ c := by omega
    have hhi : c ≤ (383 : Int) := by omega
    clear h
    go_enter Tryd.func59, Tryd.ntmps59
    go_wp2
    go_ret
    exact ⟨by rw [hE.out]; rfl, rfl⟩
  · have g65 : decide ((65 : Int) ≤ c) = true := by rw [decide_eq_true_eq]; omega
    have g97 : decide ((97 : Int) ≤ c) = true := by rw [decide_eq_true_eq]; omega
    have g192 : decide ((192 : Int) ≤ c) = true := by rw [decide_eq_true_eq]; omega
    have g913 : decide ((913 : Int) ≤ c) = false := by rw [decide_eq_false_iff_not]; omega
    have g1024 : decide ((1024 : Int) ≤ c) = false := by rw [decide_eq_false_iff_not]; omega
    have l90 : decide (c ≤ (90 : Int)) = false := by rw [decide_eq_false_iff_not]; omega
    have l122 : decide (c ≤ (122 : Int)) = false := by rw [decide_eq_false_iff_not]; omega
    have l383 : decide (c ≤ (383 : Int)) = false := by rw [decide_eq_false_iff_not]; omega
    have l974 : decide (c ≤ (974 : Int)) = true := by rw [decide_eq_true_eq]; omega
    have l1119 : decide (c ≤ (1119 : Int)) = true := by rw [decide_eq_true_eq]; omega
    have n215 : (c == 215) = false := by rw [beq_eq_false_iff_ne]; omega
    have n247 : (c == 247) = false := by rw [beq_eq_false_iff_ne]; omega
    have n930 : (c == 930) = false := by rw [beq_eq_false_iff_ne]; omega
    have hE : Hid (letterF c = false) := by show _ = _; unfold letterF; rw [decide_eq_false_iff_not]; omega
    have hlo : (384 : Int) ≤ c := by omega
    have hhi : c ≤ (912 : Int) := by omega
    clear h
    go_enter Tryd.func59, Tryd.ntmps59
    go_wp2
    go_ret
    exact ⟨by rw [hE.out]; rfl, rfl⟩
  · have g65 : decide ((65 : Int) ≤ c) = true := by rw [decide_eq_true_eq]; omega
    have g97 : decide ((97 : Int) ≤ c) = true := by rw [decide_eq_true_eq]; omega
    have g192 : decide ((192 : Int) ≤ c) = true := by rw [decide_eq_true_eq]; omega
    have g913 : decide ((913 : Int) ≤ c) = true := by rw [decide_eq_true_eq]; omega
    have g1024 : decide ((1024 : Int) ≤ c) = false := by rw [decide_eq_false_iff_not]; omega
    have l90 : decide (c ≤ (90 : Int)) = false := by rw [decide_eq_false_iff_not]; omega
    have l122 : decide (c ≤ (122 : Int)) = false := by rw [decide_eq_false_iff_not]; omega
    have l383 : decide (c ≤ (383 : Int)) = false := by rw [decide_eq_false_iff_not]; omega
    have l974 : decide (c ≤ (974 : Int)) = true := by rw [decide_eq_true_eq]; omega
    have l1119 : decide (c ≤ (1119 : Int)) = true := by rw [decide_eq_true_eq]; omega
    have n215 : (c == 215) = false := by rw [beq_eq_false_iff_ne]; omega
    have n247 : (c == 247) = false := by rw [beq_eq_false_iff_ne]; omega
    have n930 : (c == 930) = false := by rw [beq_eq_false_iff_ne]; omega
    have hE : Hid (letterF c = true) := by show _ = _; unfold letterF; rw [decide_eq_true_eq]; omega
    have hlo : (913 : Int) ≤ c := by omega
    have hhi : c ≤ (929 : Int) := by omega
    clear h
    go_enter Tryd.func59, Tryd.ntmps59
    go_wp2
    go_ret
    exact ⟨by rw [hE.out]; rfl, rfl⟩
  · subst h
    have hE : Hid (letterF 930 = false) := by show _ = _; decide +kernel
    go_enter Tryd.func59, Tryd.ntmps59
    go_wp2
    go_ret
    exact ⟨by rw [hE.out]; rfl, rfl⟩
  · have g65 : decide ((65 : Int) ≤ c) = true := by rw [decide_eq_true_eq]; omega
    have g97 : decide ((97 : Int) ≤ c) = true := by rw [decide_eq_true_eq]; omega
    have g192 : decide ((192 : Int) ≤ c) = true := by rw [decide_eq_true_eq]; omega
    have g913 : decide ((913 : Int) ≤ c) = true := by rw [decide_eq_true_eq]; omega
    have g1024 : decide ((1024 : Int) ≤ c) = false := by rw [decide_eq_false_iff_not]; omega
    have l90 : decide (c ≤ (90 : Int)) = false := by rw [decide_eq_false_iff_not]; omega
    have l122 : decide (c ≤ (122 : Int)) = false := by rw [decide_eq_false_iff_not]; omega
    have l383 : decide (c ≤ (383 : Int)) = false := by rw [decide_eq_false_iff_not]; omega
    have l974 : decide (c ≤ (974 : Int)) = true := by rw [decide_eq_true_eq]; omega
    have l1119 : decide (c ≤ (1119 : Int)) = true := by rw [decide_eq_true_eq]; omega
    have n215 : (c == 215) = false := by rw [beq_eq_false_iff_ne]; omega
    have n247 : (c == 247) = false := by rw [beq_eq_false_iff_ne]; omega
    have n930 : (c == 930) = false := by rw [beq_eq_false_iff_ne]; omega
    have hE : Hid (letterF c = true) := by show _ = _; unfold letterF; rw [decide_eq_true_eq]; omega
    have hlo : (931 : Int) ≤ c := by omega
    have hhi : c ≤ (974 : Int) := by omega
    clear h
    go_enter Tryd.func59, Tryd.ntmps59
    go_wp2
    go_ret
    exact ⟨by rw [hE.out]; rfl, rfl⟩
  · have g65 : decide ((65 : Int) ≤ c) = true := by rw [decide_eq_true_eq]; omega
    have g97 : decide ((97 : Int) ≤ c) = true := by rw [decide_eq_true_eq]; omega
    have g192 : decide ((192 : Int) ≤ c) = true := by rw [decide_eq_true_eq]; omega
    have g913 : decide ((913 : Int) ≤ c) = true := by rw [decide_eq_true_eq]; omega
    have g1024 : decide ((1024 : Int) ≤ c) = false := by rw [decide_eq_false_iff_not]; omega
    have l90 : decide (c ≤ (90 : Int)) = false := by rw [decide_eq_false_iff_not]; omega
    have l122 : decide (c ≤ (122 : Int)) = false := by rw [decide_eq_false_iff_not]; omega
    have l383 : decide (c ≤ (383 : Int)) = false := by rw [decide_eq_false_iff_not]; omega
    have l974 : decide (c ≤ (974 : Int)) = false := by rw [decide_eq_false_iff_not]; omega
    have l1119 : decide (c ≤ (1119 : Int)) = true := by rw [decide_eq_true_eq]; omega
    have n215 : (c == 215) = false := by rw [beq_eq_false_iff_ne]; omega
    have n247 : (c == 247) = false := by rw [beq_eq_false_iff_ne]; omega
    have n930 : (c == 930) = false := by rw [beq_eq_false_iff_ne]; omega
    have hE : Hid (letterF c = false) := by show _ = _; unfold letterF; rw [decide_eq_false_iff_not]; omega
    have hlo : (975 : Int) ≤ c := by omega
    have hhi : c ≤ (1023 : Int) := by omega
    clear h
    go_enter Tryd.func59, Tryd.ntmps59
    go_wp2
    go_ret
    exact ⟨by rw [hE.out]; rfl, rfl⟩
  · have g65 : decide ((65 : Int) ≤ c) = true := by rw [decide_eq_true_eq]; omega
    have g97 : decide ((97 : Int) ≤ c) = true := by rw [decide_eq_true_eq]; omega
    have g192 : decide ((192 : Int) ≤ c) = true := by rw [decide_eq_true_eq]; omega
    have g913 : decide ((913 : Int) ≤ c) = true := by rw [decide_eq_true_eq]; omega
    have g1024 : decide ((1024 : Int) ≤ c) = true := by rw [decide_eq_true_eq]; omega
    have l90 : decide (c ≤ (90 : Int)) = false := by rw [decide_eq_false_iff_not]; omega
    have l122 : decide (c ≤ (122 : Int)) = false := by rw [decide_eq_false_iff_not]; omega
    have l383 : decide (c ≤ (383 : Int)) = false := by rw [decide_eq_false_iff_not]; omega
    have l974 : decide (c ≤ (974 : Int)) = false := by rw [decide_eq_false_iff_not]; omega
    have l1119 : decide (c ≤ (1119 : Int)) = true := by rw [decide_eq_true_eq]; omega
    have n215 : (c == 215) = false := by rw [beq_eq_false_iff_ne]; omega
    have n247 : (c == 247) = false := by rw [beq_eq_false_iff_ne]; omega
    have n930 : (c == 930) = false := by rw [beq_eq_false_iff_ne]; omega
    have hE : Hid (letterF c = true) := by show _ = _; unfold letterF; rw [decide_eq_true_eq]; omega
    have hlo : (1024 : Int) ≤ c := by omega
    have hhi : c ≤ (1119 : Int) := by omega
    clear h
    go_enter Tryd.func59, Tryd.ntmps59
    go_wp2
    go_ret
    exact ⟨by rw [hE.out]; rfl, rfl⟩
  · have g65 : decide ((65 : Int) ≤ c) = true := by rw [decide_eq_true_eq]; omega
    have g97 : decide ((97 : Int) ≤ c) = true := by rw [decide_eq_true_eq]; omega
    have g192 : decide ((192 : Int) ≤ c) = true := by rw [decide_eq_true_eq]; omega
    have g913 : decide ((913 : Int) ≤ c) = true := by rw [decide_eq_true_eq]; omega
    have g1024 : decide ((1024 : Int) ≤ c) = true := by rw [decide_eq_true_eq]; omega
    have l90 : decide (c ≤ (90 : Int)) = false := by rw [decide_eq_false_iff_not]; omega
    have l122 : decide (c ≤ (122 : Int)) = false := by rw [decide_eq_false_iff_not]; omega
    have l383 : decide (c ≤ (383 : Int)) = false := by rw [decide_eq_false_iff_not]; omega
    have l974 : decide (c ≤ (974 : Int)) = false := by rw [decide_eq_false_iff_not]; omega
    have l1119 : decide (c ≤ (1119 : Int)) = false := by rw [decide_eq_false_iff_not]; omega
    have n215 : (c == 215) = false := by rw [beq_eq_false_iff_ne]; omega
    have n247 : (c == 247) = false := by rw [beq_eq_false_iff_ne]; omega
    have n930 : (c == 930) = false := by rw [beq_eq_false_iff_ne]; omega
    have hE : Hid (letterF c = false) := by show _ = _; unfold letterF; rw [decide_eq_false_iff_not]; omega
    clear h
    go_enter Tryd.func59, Tryd.ntmps59
    go_wp2
    go_ret
    exact ⟨by rw [hE.out]; rfl, rfl⟩

set_option maxRecDepth 100000 in
theorem rmark_any (c : Int) (w : World) : Calls Tryd.prog 58 #[.int .i32 c] w fun e w' => e = .returned (.bool (markF c)) ∧ w' = w := by
  by_cases h1 : c = 39
  · subst h1
    go_enter Tryd.func58, Tryd.ntmps58
    go_wp2
    go_ret
    exact ⟨rfl, rfl⟩
  have n1 : (c == 39) = false := by rw [beq_eq_false_iff_ne]; exact h1
  by_cases h2 : c = 8217
  · subst h2
    go_enter Tryd.func58, Tryd.ntmps58
    go_wp2
    go_ret
    exact ⟨rfl, rfl⟩
  have n2 : (c == 8217) = false := by rw [beq_eq_false_iff_ne]; exact h2
  have hE : Hid (markF c = false) := by show _ = _; unfold markF; rw [decide_eq_false_iff_not]; omega
  clear h1 h2
  go_enter Tryd.func58, Tryd.ntmps58
  go_wp2
  go_ret
  exact ⟨by rw [hE.out]; rfl, rfl⟩

theorem rfold_any (c : Int) (w : World) : Calls Tryd.prog 43 #[.int .i32 c] w fun e w' => e = .returned (.int .i32 (foldF c)) ∧ w' = w := by
  by_cases hp : c % 2 = 0
  · exact rfold_even c w hp
  · exact rfold_odd c w (by omega)
#print axioms rfold_any
end Go.Proofs.YtdhbbknjnbdplaaDoor
