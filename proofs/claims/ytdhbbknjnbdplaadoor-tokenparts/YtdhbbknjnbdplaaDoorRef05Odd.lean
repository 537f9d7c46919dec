/- The contract of the document's Fold, at odd code points. -/
import Derived.Test.YtdhbbknjnbdplaaDoorFoldMath
import Derived.Test.YtdhbbknjnbdplaaDoorOwn
namespace Go.Proofs.YtdhbbknjnbdplaaDoor
open Go.RowKit
set_option linter.unusedVariables false

set_option maxRecDepth 100000 in
set_option maxHeartbeats 4000000 in
theorem rfold_odd (c : Int) (w : World) (hp : c % 2 = 1) : Calls Tryd.prog 43 #[.int .i32 c] w fun e w' => e = .returned (.int .i32 (foldF c)) ∧ w' = w := by
  have hcase : c ≤ -1 ∨ (0 ≤ c ∧ c ≤ 64) ∨ (65 ≤ c ∧ c ≤ 90) ∨ (91 ≤ c ∧ c ≤ 191) ∨ (192 ≤ c ∧ c ≤ 214) ∨ c = 215 ∨ (216 ≤ c ∧ c ≤ 222) ∨ (223 ≤ c ∧ c ≤ 255) ∨ (256 ≤ c ∧ c ≤ 302) ∨ (303 ≤ c ∧ c ≤ 305) ∨ (306 ≤ c ∧ c ≤ 310) ∨ (311 ≤ c ∧ c ≤ 312) ∨ (313 ≤ c ∧ c ≤ 327) ∨ (328 ≤ c ∧ c ≤ 329) ∨ (330 ≤ c ∧ c ≤ 374) ∨ c = 375 ∨ (377 ≤ c ∧ c ≤ 381) ∨ (382 ≤ c ∧ c ≤ 912) ∨ (913 ≤ c ∧ c ≤ 929) ∨ (931 ≤ c ∧ c ≤ 939) ∨ (940 ≤ c ∧ c ≤ 961) ∨ (963 ≤ c ∧ c ≤ 1023) ∨ (1024 ≤ c ∧ c ≤ 1039) ∨ (1040 ≤ c ∧ c ≤ 1071) ∨ 1072 ≤ c := by omega
  rcases hcase with h | h | h | h | h | h | h | h | h | h | h | h | h | h | h | h | h | h | h | h | h | h | h | h | h
  · have g65 : decide ((65 : Int) ≤ c) = false := by rw [decide_eq_false_iff_not]; omega
    have g192 : decide ((192 : Int) ≤ c) = false := by rw [decide_eq_false_iff_not]; omega
    have g256 : decide ((256 : Int) ≤ c) = false := by rw [decide_eq_false_iff_not]; omega
    have g306 : decide ((306 : Int) ≤ c) = false := by rw [decide_eq_false_iff_not]; omega
    have g313 : decide ((313 : Int) ≤ c) = false := by rw [decide_eq_false_iff_not]; omega
    have g330 : decide ((330 : Int) ≤ c) = false := by rw [decide_eq_false_iff_not]; omega
    have g377 : decide ((377 : Int) ≤ c) = false := by rw [decide_eq_false_iff_not]; omega
    have g913 : decide ((913 : Int) ≤ c) = false := by rw [decide_eq_false_iff_not]; omega
    have g1024 : decide ((1024 : Int) ≤ c) = false := by rw [decide_eq_false_iff_not]; omega
    have g1040 : decide ((1040 : Int) ≤ c) = false := by rw [decide_eq_false_iff_not]; omega
    have l90 : decide (c ≤ (90 : Int)) = true := by rw [decide_eq_true_eq]; omega
    have l222 : decide (c ≤ (222 : Int)) = true := by rw [decide_eq_true_eq]; omega
    have l302 : decide (c ≤ (302 : Int)) = true := by rw [decide_eq_true_eq]; omega
    have l310 : decide (c ≤ (310 : Int)) = true := by rw [decide_eq_true_eq]; omega
    have l327 : decide (c ≤ (327 : Int)) = true := by rw [decide_eq_true_eq]; omega
    have l374 : decide (c ≤ (374 : Int)) = true := by rw [decide_eq_true_eq]; omega
    have l381 : decide (c ≤ (381 : Int)) = true := by rw [decide_eq_true_eq]; omega
    have l939 : decide (c ≤ (939 : Int)) = true := by rw [decide_eq_true_eq]; omega
    have l1039 : decide (c ≤ (1039 : Int)) = true := by rw [decide_eq_true_eq]; omega
    have l1071 : decide (c ≤ (1071 : Int)) = true := by rw [decide_eq_true_eq]; omega
    have n215 : (c == 215) = false := by rw [beq_eq_false_iff_ne]; omega
    have n376 : (c == 376) = false := by rw [beq_eq_false_iff_ne]; omega
    have n930 : (c == 930) = false := by rw [beq_eq_false_iff_ne]; omega
    have n962 : (c == 962) = false := by rw [beq_eq_false_iff_ne]; omega
    have ht : Int.tmod c 2 = -1 := by rw [show c = -(-c) from (by omega), Int.neg_tmod, Int.tmod_eq_emod_of_nonneg (by omega)]; omega
    have hE : Hid (foldF c = c) := by show _ = _; unfold foldF; rw [if_neg (by unfold twentyF; omega), if_neg (by unfold oneMoreF; omega), if_neg (by omega), if_neg (by omega)]
    clear h
    go_enter Tryd.func43, Tryd.ntmps43
    go_wp2
    go_ret
    exact ⟨by rw [hE.out]; rfl, rfl⟩
  · have g65 : decide ((65 : Int) ≤ c) = false := by rw [decide_eq_false_iff_not]; omega
    have g192 : decide ((192 : Int) ≤ c) = false := by rw [decide_eq_false_iff_not]; omega
    have g256 : decide ((256 : Int) ≤ c) = false := by rw [decide_eq_false_iff_not]; omega
    have g306 : decide ((306 : Int) ≤ c) = false := by rw [decide_eq_false_iff_not]; omega
    have g313 : decide ((313 : Int) ≤ c) = false := by rw [decide_eq_false_iff_not]; omega
    have g330 : decide ((330 : Int) ≤ c) = false := by rw [decide_eq_false_iff_not]; omega
    have g377 : decide ((377 : Int) ≤ c) = false := by rw [decide_eq_false_iff_not]; omega
    have g913 : decide ((913 : Int) ≤ c) = false := by rw [decide_eq_false_iff_not]; omega
    have g1024 : decide ((1024 : Int) ≤ c) = false := by rw [decide_eq_false_iff_not]; omega
    have g1040 : decide ((1040 : Int) ≤ c) = false := by rw [decide_eq_false_iff_not]; omega
    have l90 : decide (c ≤ (90 : Int)) = true := by rw [decide_eq_true_eq]; omega
    have l222 : decide (c ≤ (222 : Int)) = true := by rw [decide_eq_true_eq]; omega
    have l302 : decide (c ≤ (302 : Int)) = true := by rw [decide_eq_true_eq]; omega
    have l310 : decide (c ≤ (310 : Int)) = true := by rw [decide_eq_true_eq]; omega
    have l327 : decide (c ≤ (327 : Int)) = true := by rw [decide_eq_true_eq]; omega
    have l374 : decide (c ≤ (374 : Int)) = true := by rw [decide_eq_true_eq]; omega
    have l381 : decide (c ≤ (381 : Int)) = true := by rw [decide_eq_true_eq]; omega
    have l939 : decide (c ≤ (939 : Int)) = true := by rw [decide_eq_true_eq]; omega
    have l1039 : decide (c ≤ (1039 : Int)) = true := by rw [decide_eq_true_eq]; omega
    have l1071 : decide (c ≤ (1071 : Int)) = true := by rw [decide_eq_true_eq]; omega
    have n215 : (c == 215) = false := by rw [beq_eq_false_iff_ne]; omega
    have n376 : (c == 376) = false := by rw [beq_eq_false_iff_ne]; omega
    have n930 : (c == 930) = false := by rw [beq_eq_false_iff_ne]; omega
    have n962 : (c == 962) = false := by rw [beq_eq_false_iff_ne]; omega
    have ht : Int.tmod c 2 = 1 := by rw [Int.tmod_eq_emod_of_nonneg (by omega)]; exact hp
    have hE : Hid (foldF c = c) := by show _ = _; unfold foldF; rw [if_neg (by unfold twentyF; omega), if_neg (by unfold oneMoreF; omega), if_neg (by omega), if_neg (by omega)]
    have hlo : (0 : Int) ≤ c := by omega
    have hhi : c ≤ (64 : Int) := by omega
    clear h
    go_enter Tryd.func43, Tryd.ntmps43
    go_wp2
    go_ret
    exact ⟨by rw [hE.out]; rfl, rfl⟩
  · have g65 : decide ((65 : Int) ≤ c) = true := by rw [decide_eq_true_eq]; omega
    have g192 : decide ((192 : Int) ≤ c) = false := by rw [decide_eq_false_iff_not]; omega
    have g256 : decide ((256 : Int) ≤ c) = false := by rw [decide_eq_false_iff_not]; omega
    have g306 : decide ((306 : Int) ≤ c) = false := by rw [decide_eq_false_iff_not]; omega
    have g313 : decide ((313 : Int) ≤ c) = false := by rw [decide_eq_false_iff_not]; omega
    have g330 : decide ((330 : Int) ≤ c) = false := by rw [decide_eq_false_iff_not]; omega
    have g377 : decide ((377 : Int) ≤ c) = false := by rw [decide_eq_false_iff_not]; omega
    have g913 : decide ((913 : Int) ≤ c) = false := by rw [decide_eq_false_iff_not]; omega
    have g1024 : decide ((1024 : Int) ≤ c) = false := by rw [decide_eq_false_iff_not]; omega
    have g1040 : decide ((1040 : Int) ≤ c) = false := by rw [decide_eq_false_iff_not]; omega
    have l90 : decide (c ≤ (90 : Int)) = true := by rw [decide_eq_true_eq]; omega
    have l222 : decide (c ≤ (222 : Int)) = true := by rw [decide_eq_true_eq]; omega
    have l302 : decide (c ≤ (302 : Int)) = true := by rw [decide_eq_true_eq]; omega
    have l310 : decide (c ≤ (310 : Int)) = true := by rw [decide_eq_true_eq]; omega
    have l327 : decide (c ≤ (327 : Int)) = true := by rw [decide_eq_true_eq]; omega
    have l374 : decide (c ≤ (374 : Int)) = true := by rw [decide_eq_true_eq]; omega
    have l381 : decide (c ≤ (381 : Int)) = true := by rw [decide_eq_true_eq]; omega
    have l939 : decide (c ≤ (939 : Int)) = true := by rw [decide_eq_true_eq]; omega
    have l1039 : decide (c ≤ (1039 : Int)) = true := by rw [decide_eq_true_eq]; omega
    have l1071 : decide (c ≤ (1071 : Int)) = true := by rw [decide_eq_true_eq]; omega
    have n215 : (c == 215) = false := by rw [beq_eq_false_iff_ne]; omega
    have n376 : (c == 376) = false := by rw [beq_eq_false_iff_ne]; omega
    have n930 : (c == 930) = false := by rw [beq_eq_false_iff_ne]; omega
    have n962 : (c == 962) = false := by rw [beq_eq_false_iff_ne]; omega
    have ht : Int.tmod c 2 = 1 := by rw [Int.tmod_eq_emod_of_nonneg (by omega)]; exact hp
    have hE : Hid (foldF c = c + 32) := by show _ = _; unfold foldF; rw [if_pos (by unfold twentyF; omega)]
    have hlo : (65 : Int) ≤ c := by omega
    have hhi : c ≤ (90 : Int) := by omega
    clear h
    go_enter Tryd.func43, Tryd.ntmps43
    go_wp2
    go_ret
    exact ⟨by rw [hE.out]; rfl, rfl⟩
  · have g65 : decide ((65 : Int) ≤ c) = true := by rw [decide_eq_true_eq]; omega
    have g192 : decide ((192 : Int) ≤ c) = false := by rw [decide_eq_false_iff_not]; omega
    have g256 : decide ((256 : Int) ≤ c) = false := by rw [decide_eq_false_iff_not]; omega
    have g306 : decide ((306 : Int) ≤ c) = false := by rw [decide_eq_false_iff_not]; omega
    have g313 : decide ((313 : Int) ≤ c) = false := by rw [decide_eq_false_iff_not]; omega
    have g330 : decide ((330 : Int) ≤ c) = false := by rw [decide_eq_false_iff_not]; omega
    have g377 : decide ((377 : Int) ≤ c) = false := by rw [decide_eq_false_iff_not]; omega
    have g913 : decide ((913 : Int) ≤ c) = false := by rw [decide_eq_false_iff_not]; omega
    have g1024 : decide ((1024 : Int) ≤ c) = false := by rw [decide_eq_false_iff_not]; omega
    have g1040 : decide ((1040 : Int) ≤ c) = false := by rw [decide_eq_false_iff_not]; omega
    have l90 : decide (c ≤ (90 : Int)) = false := by rw [decide_eq_false_iff_not]; omega
    have l222 : decide (c ≤ (222 : Int)) = true := by rw [decide_eq_true_eq]; omega
    have l302 : decide (c ≤ (302 : Int)) = true := by rw [decide_eq_true_eq]; omega
    have l310 : decide (c ≤ (310 : Int)) = true := by rw [decide_eq_true_eq]; omega
    have l327 : decide (c ≤ (327 : Int)) = true := by rw [decide_eq_true_eq]; omega
    have l374 : decide (c ≤ (374 : Int)) = true := by rw [decide_eq_true_eq]; omega
    have l381 : decide (c ≤ (381 : Int)) = true := by rw [decide_eq_true_eq]; omega
    have l939 : decide (c ≤ (939 : Int)) = true := by rw [decide_eq_true_eq]; omega
    have l1039 : decide (c ≤ (1039 : Int)) = true := by rw [decide_eq_true_eq]; omega
    have l1071 : decide (c ≤ (1071 : Int)) = true := by rw [decide_eq_true_eq]; omega
    have n215 : (c == 215) = false := by rw [beq_eq_false_iff_ne]; omega
    have n376 : (c == 376) = false := by rw [beq_eq_false_iff_ne]; omega
    have n930 : (c == 930) = false := by rw [beq_eq_false_iff_ne]; omega
    have n962 : (c == 962) = false := by rw [beq_eq_false_iff_ne]; omega
    have ht : Int.tmod c 2 = 1 := by rw [Int.tmod_eq_emod_of_nonneg (by omega)]; exact hp
    have hE : Hid (foldF c = c) := by show _ = _; unfold foldF; rw [if_neg (by unfold twentyF; omega), if_neg (by unfold oneMoreF; omega), if_neg (by omega), if_neg (by omega)]
    have hlo : (91 : Int) ≤ c := by omega
    have hhi : c ≤ (191 : Int) := by omega
    clear h
    go_enter Tryd.func43, Tryd.ntmps43
    go_wp2
    go_ret
    exact ⟨by rw [hE.out]; rfl, rfl⟩
  · have g65 : decide ((65 : Int) ≤ c) = true := by rw [decide_eq_true_eq]; omega
    have g192 : decide ((192 : Int) ≤ c) = true := by rw [decide_eq_true_eq]; omega
    have g256 : decide ((256 : Int) ≤ c) = false := by rw [decide_eq_false_iff_not]; omega
    have g306 : decide ((306 : Int) ≤ c) = false := by rw [decide_eq_false_iff_not]; omega
    have g313 : decide ((313 : Int) ≤ c) = false := by rw [decide_eq_false_iff_not]; omega
    have g330 : decide ((330 : Int) ≤ c) = false := by rw [decide_eq_false_iff_not]; omega
    have g377 : decide ((377 : Int) ≤ c) = false := by rw [decide_eq_false_iff_not]; omega
    have g913 : decide ((913 : Int) ≤ c) = false := by rw [decide_eq_false_iff_not]; omega
    have g1024 : decide ((1024 : Int) ≤ c) = false := by rw [decide_eq_false_iff_not]; omega
    have g1040 : decide ((1040 : Int) ≤ c) = false := by rw [decide_eq_false_iff_not]; omega
    have l90 : decide (c ≤ (90 : Int)) = false := by rw [decide_eq_false_iff_not]; omega
    have l222 : decide (c ≤ (222 : Int)) = true := by rw [decide_eq_true_eq]; omega
    have l302 : decide (c ≤ (302 : Int)) = true := by rw [decide_eq_true_eq]; omega
    have l310 : decide (c ≤ (310 : Int)) = true := by rw [decide_eq_true_eq]; omega
    have l327 : decide (c ≤ (327 : Int)) = true := by rw [decide_eq_true_eq]; omega
    have l374 : decide (c ≤ (374 : Int)) = true := by rw [decide_eq_true_eq]; omega
    have l381 : decide (c ≤ (381 : Int)) = true := by rw [decide_eq_true_eq]; omega
    have l939 : decide (c ≤ (939 : Int)) = true := by rw [decide_eq_true_eq]; omega
    have l1039 : decide (c ≤ (1039 : Int)) = true := by rw [decide_eq_true_eq]; omega
    have l1071 : decide (c ≤ (1071 : Int)) = true := by rw [decide_eq_true_eq]; omega
    have n215 : (c == 215) = false := by rw [beq_eq_false_iff_ne]; omega
    have n376 : (c == 376) = false := by rw [beq_eq_false_iff_ne]; omega
    have n930 : (c == 930) = false := by rw [beq_eq_false_iff_ne]; omega
    have n962 : (c == 962) = false := by rw [beq_eq_false_iff_ne]; omega
    have ht : Int.tmod c 2 = 1 := by rw [Int.tmod_eq_emod_of_nonneg (by omega)]; exact hp
    have hE : Hid (foldF c = c + 32) := by show _ = _; unfold foldF; rw [if_pos (by unfold twentyF; omega)]
    have hlo : (192 : Int) ≤ c := by omega
    have hhi : c ≤ (214 : Int) := by omega
    clear h
    go_enter Tryd.func43, Tryd.ntmps43
    go_wp2
    go_ret
    exact ⟨by rw [hE.out]; rfl, rfl⟩
  · subst h
    have hE : Hid (foldF 215 = 215) := by show _ = _; decide +kernel
    go_enter Tryd.func43, Tryd.ntmps43
    go_wp2
    go_ret
    exact ⟨by rw [hE.out]; rfl, rfl⟩
  · have g65 : decide ((65 : Int) ≤ c) = true := by rw [decide_eq_true_eq]; omega
    have g192 : decide ((192 : Int) ≤ c) = true := by rw [decide_eq_true_eq]; omega
    have g256 : decide ((256 : Int) ≤ c) = false := by rw [decide_eq_false_iff_not]; omega
    have g306 : decide ((306 : Int) ≤ c) = false := by rw [decide_eq_false_iff_not]; omega
    have g313 : decide ((313 : Int) ≤ c) = false := by rw [decide_eq_false_iff_not]; omega
    have g330 : decide ((330 : Int) ≤ c) = false := by rw [decide_eq_false_iff_not]; omega
    have g377 : decide ((377 : Int) ≤ c) = false := by rw [decide_eq_false_iff_not]; omega
    have g913 : decide ((913 : Int) ≤ c) = false := by rw [decide_eq_false_iff_not]; omega
    have g1024 : decide ((1024 : Int) ≤ c) = false := by rw [decide_eq_false_iff_not]; omega
    have g1040 : decide ((1040 : Int) ≤ c) = false := by rw [decide_eq_false_iff_not]; omega
    have l90 : decide (c ≤ (90 : Int)) = false := by rw [decide_eq_false_iff_not]; omega
    have l222 : decide (c ≤ (222 : Int)) = true := by rw [decide_eq_true_eq]; omega
    have l302 : decide (c ≤ (302 : Int)) = true := by rw [decide_eq_true_eq]; omega
    have l310 : decide (c ≤ (310 : Int)) = true := by rw [decide_eq_true_eq]; omega
    have l327 : decide (c ≤ (327 : Int)) = true := by rw [decide_eq_true_eq]; omega
    have l374 : decide (c ≤ (374 : Int)) = true := by rw [decide_eq_true_eq]; omega
    have l381 : decide (c ≤ (381 : Int)) = true := by rw [decide_eq_true_eq]; omega
    have l939 : decide (c ≤ (939 : Int)) = true := by rw [decide_eq_true_eq]; omega
    have l1039 : decide (c ≤ (1039 : Int)) = true := by rw [decide_eq_true_eq]; omega
    have l1071 : decide (c ≤ (1071 : Int)) = true := by rw [decide_eq_true_eq]; omega
    have n215 : (c == 215) = false := by rw [beq_eq_false_iff_ne]; omega
    have n376 : (c == 376) = false := by rw [beq_eq_false_iff_ne]; omega
    have n930 : (c == 930) = false := by rw [beq_eq_false_iff_ne]; omega
    have n962 : (c == 962) = false := by rw [beq_eq_false_iff_ne]; omega
    have ht : Int.tmod c 2 = 1 := by rw [Int.tmod_eq_emod_of_nonneg (by omega)]; exact hp
    have hE : Hid (foldF c = c + 32) := by show _ = _; unfold foldF; rw [if_pos (by unfold twentyF; omega)]
    have hlo : (216 : Int) ≤ c := by omega
    have hhi : c ≤ (222 : Int) := by omega
    clear h
    go_enter Tryd.func43, Tryd.ntmps43
    go_wp2
    go_ret
    exact ⟨by rw [hE.out]; rfl, rfl⟩
  · have g65 : decide ((65 : Int) ≤ c) = true := by rw [decide_eq_true_eq]; omega
    have g192 : decide ((192 : Int) ≤ c) = true := by rw [decide_eq_true_eq]; omega
    have g256 : decide ((256 : Int) ≤ c) = false := by rw [decide_eq_false_iff_not]; omega
    have g306 : decide ((306 : Int) ≤ c) = false := by rw [decide_eq_false_iff_not]; omega
    have g313 : decide ((313 : Int) ≤ c) = false := by rw [decide_eq_false_iff_not]; omega
    have g330 : decide ((330 : Int) ≤ c) = false := by rw [decide_eq_false_iff_not]; omega
    have g377 : decide ((377 : Int) ≤ c) = false := by rw [decide_eq_false_iff_not]; omega
    have g913 : decide ((913 : Int) ≤ c) = false := by rw [decide_eq_false_iff_not]; omega
    have g1024 : decide ((1024 : Int) ≤ c) = false := by rw [decide_eq_false_iff_not]; omega
    have g1040 : decide ((1040 : Int) ≤ c) = false := by rw [decide_eq_false_iff_not]; omega
    have l90 : decide (c ≤ (90 : Int)) = false := by rw [decide_eq_false_iff_not]; omega
    have l222 : decide (c ≤ (222 : Int)) = false := by rw [decide_eq_false_iff_not]; omega
    have l302 : decide (c ≤ (302 : Int)) = true := by rw [decide_eq_true_eq]; omega
    have l310 : decide (c ≤ (310 : Int)) = true := by rw [decide_eq_true_eq]; omega
    have l327 : decide (c ≤ (327 : Int)) = true := by rw [decide_eq_true_eq]; omega
    have l374 : decide (c ≤ (374 : Int)) = true := by rw [decide_eq_true_eq]; omega
    have l381 : decide (c ≤ (381 : Int)) = true := by rw [decide_eq_true_eq]; omega
    have l939 : decide (c ≤ (939 : Int)) = true := by rw [decide_eq_true_eq]; omega
    have l1039 : decide (c ≤ (1039 : Int)) = true := by rw [decide_eq_true_eq]; omega
    have l1071 : decide (c ≤ (1071 : Int)) = true := by rw [decide_eq_true_eq]; omega
    have n215 : (c == 215) = false := by rw [beq_eq_false_iff_ne]; omega
    have n376 : (c == 376) = false := by rw [beq_eq_false_iff_ne]; omega
    have n930 : (c == 930) = false := by rw [beq_eq_false_iff_ne]; omega
    have n962 : (c == 962) = false := by rw [beq_eq_false_iff_ne]; omega
    have ht : Int.tmod c 2 = 1 := by rw [Int.tmod_eq_emod_of_nonneg (by omega)]; exact hp
    have hE : Hid (foldF c = c) := by show _ = _; unfold foldF; rw [if_neg (by unfold twentyF; omega), if_neg (by unfold oneMoreF; omega), if_neg (by omega), if_neg (by omega)]
    have hlo : (223 : Int) ≤ c := by omega
    have hhi : c ≤ (255 : Int) := by omega
    clear h
    go_enter Tryd.func43, Tryd.ntmps43
    go_wp2
    go_ret
    exact ⟨by rw [hE.out]; rfl, rfl⟩
  · have g65 : decide ((65 : Int) ≤ c) = true := by rw [decide_eq_true_eq]; omega
    have g192 : decide ((192 : Int) ≤ c) = true := by rw [decide_eq_true_eq]; omega
    have g256 : decide ((256 : Int) ≤ c) = true := by rw [decide_eq_true_eq]; omega
    have g306 : decide ((306 : Int) ≤ c) = false := by rw [decide_eq_false_iff_not]; omega
    have g313 : decide ((313 : Int) ≤ c) = false := by rw [decide_eq_false_iff_not]; omega
    have g330 : decide ((330 : Int) ≤ c) = false := by rw [decide_eq_false_iff_not]; omega
    have g377 : decide ((377 : Int) ≤ c) = false := by rw [decide_eq_false_iff_not]; omega
    have g913 : decide ((913 : Int) ≤ c) = false := by rw [decide_eq_false_iff_not]; omega
    have g1024 : decide ((1024 : Int) ≤ c) = false := by rw [decide_eq_false_iff_not]; omega
    have g1040 : decide ((1040 : Int) ≤ c) = false := by rw [decide_eq_false_iff_not]; omega
    have l90 : decide (c ≤ (90 : Int)) = false := by rw [decide_eq_false_iff_not]; omega
    have l222 : decide (c ≤ (222 : Int)) = false := by rw [decide_eq_false_iff_not]; omega
    have l302 : decide (c ≤ (302 : Int)) = true := by rw [decide_eq_true_eq]; omega
    have l310 : decide (c ≤ (310 : Int)) = true := by rw [decide_eq_true_eq]; omega
    have l327 : decide (c ≤ (327 : Int)) = true := by rw [decide_eq_true_eq]; omega
    have l374 : decide (c ≤ (374 : Int)) = true := by rw [decide_eq_true_eq]; omega
    have l381 : decide (c ≤ (381 : Int)) = true := by rw [decide_eq_true_eq]; omega
    have l939 : decide (c ≤ (939 : Int)) = true := by rw [decide_eq_true_eq]; omega
    have l1039 : decide (c ≤ (1039 : Int)) = true := by rw [decide_eq_true_eq]; omega
    have l1071 : decide (c ≤ (1071 : Int)) = true := by rw [decide_eq_true_eq]; omega
    have n215 : (c == 215) = false := by rw [beq_eq_false_iff_ne]; omega
    have n376 : (c == 376) = false := by rw [beq_eq_false_iff_ne]; omega
    have n930 : (c == 930) = false := by rw [beq_eq_false_iff_ne]; omega
    have n962 : (c == 962) = false := by rw [beq_eq_false_iff_ne]; omega
    have ht : Int.tmod c 2 = 1 := by rw [Int.tmod_eq_emod_of_nonneg (by omega)]; exact hp
    have hE : Hid (foldF c = c) := by show _ = _; unfold foldF; rw [if_neg (by unfold twentyF; omega), if_neg (by unfold oneMoreF; omega), if_neg (by omega), if_neg (by omega)]
    have hlo : (256 : Int) ≤ c := by omega
    have hhi : c ≤ (302 : Int) := by omega
    clear h
    go_enter Tryd.func43, Tryd.ntmps43
    go_wp2
    go_ret
    exact ⟨by rw [hE.out]; rfl, rfl⟩
  · have g65 : decide ((65 : Int) ≤ c) = true := by rw [decide_eq_true_eq]; omega
    have g192 : decide ((192 : Int) ≤ c) = true := by rw [decide_eq_true_eq]; omega
    have g256 : decide ((256 : Int) ≤ c) = true := by rw [decide_eq_true_eq]; omega
    have g306 : decide ((306 : Int) ≤ c) = false := by rw [decide_eq_false_iff_not]; omega
    have g313 : decide ((313 : Int) ≤ c) = false := by rw [decide_eq_false_iff_not]; omega
    have g330 : decide ((330 : Int) ≤ c) = false := by rw [decide_eq_false_iff_not]; omega
    have g377 : decide ((377 : Int) ≤ c) = false := by rw [decide_eq_false_iff_not]; omega
    have g913 : decide ((913 : Int) ≤ c) = false := by rw [decide_eq_false_iff_not]; omega
    have g1024 : decide ((1024 : Int) ≤ c) = false := by rw [decide_eq_false_iff_not]; omega
    have g1040 : decide ((1040 : Int) ≤ c) = false := by rw [decide_eq_false_iff_not]; omega
    have l90 : decide (c ≤ (90 : Int)) = false := by rw [decide_eq_false_iff_not]; omega
    have l222 : decide (c ≤ (222 : Int)) = false := by rw [decide_eq_false_iff_not]; omega
    have l302 : decide (c ≤ (302 : Int)) = false := by rw [decide_eq_false_iff_not]; omega
    have l310 : decide (c ≤ (310 : Int)) = true := by rw [decide_eq_true_eq]; omega
    have l327 : decide (c ≤ (327 : Int)) = true := by rw [decide_eq_true_eq]; omega
    have l374 : decide (c ≤ (374 : Int)) = true := by rw [decide_eq_true_eq]; omega
    have l381 : decide (c ≤ (381 : Int)) = true := by rw [decide_eq_true_eq]; omega
    have l939 : decide (c ≤ (939 : Int)) = true := by rw [decide_eq_true_eq]; omega
    have l1039 : decide (c ≤ (1039 : Int)) = true := by rw [decide_eq_true_eq]; omega
    have l1071 : decide (c ≤ (1071 : Int)) = true := by rw [decide_eq_true_eq]; omega
    have n215 : (c == 215) = false := by rw [beq_eq_false_iff_ne]; omega
    have n376 : (c == 376) = false := by rw [beq_eq_false_iff_ne]; omega
    have n930 : (c == 930) = false := by rw [beq_eq_false_iff_ne]; omega
    have n962 : (c == 962) = false := by rw [beq_eq_false_iff_ne]; omega
    have ht : Int.tmod c 2 = 1 := by rw [Int.tmod_eq_emod_of_nonneg (by omega)]; exact hp
    have hE : Hid (foldF c = c) := by show _ = _; unfold foldF; rw [if_neg (by unfold twentyF; omega), if_neg (by unfold oneMoreF; omega), if_neg (by omega), if_neg (by omega)]
    have hlo : (303 : Int) ≤ c := by omega
    have hhi : c ≤ (305 : Int) := by omega
    clear h
    go_enter Tryd.func43, Tryd.ntmps43
    go_wp2
    go_ret
    exact ⟨by rw [hE.out]; rfl, rfl⟩
  · have g65 : decide ((65 : Int) ≤ c) = true := by rw [decide_eq_true_eq]; omega
    have g192 : decide ((192 : Int) ≤ c) = true := by rw [decide_eq_true_eq]; omega
    have g256 : decide ((256 : Int) ≤ c) = true := by rw [decide_eq_true_eq]; omega
    have g306 : decide ((306 : Int) ≤ c) = true := by rw [decide_eq_true_eq]; omega
    have g313 : decide ((313 : Int) ≤ c) = false := by rw [decide_eq_false_iff_not]; omega
    have g330 : decide ((330 : Int) ≤ c) = false := by rw [decide_eq_false_iff_not]; omega
    have g377 : decide ((377 : Int) ≤ c) = false := by rw [decide_eq_false_iff_not]; omega
    have g913 : decide ((913 : Int) ≤ c) = false := by rw [decide_eq_false_iff_not]; omega
    have g1024 : decide ((1024 : Int) ≤ c) = false := by rw [decide_eq_false_iff_not]; omega
    have g1040 : decide ((1040 : Int) ≤ c) = false := by rw [decide_eq_false_iff_not]; omega
    have l90 : decide (c ≤ (90 : Int)) = false := by rw [decide_eq_false_iff_not]; omega
    have l222 : decide (c ≤ (222 : Int)) = false := by rw [decide_eq_false_iff_not]; omega
    have l302 : decide (c ≤ (302 : Int)) = false := by rw [decide_eq_false_iff_not]; omega
    have l310 : decide (c ≤ (310 : Int)) = true := by rw [decide_eq_true_eq]; omega
    have l327 : decide (c ≤ (327 : Int)) = true := by rw [decide_eq_true_eq]; omega
    have l374 : decide (c ≤ (374 : Int)) = true := by rw [decide_eq_true_eq]; omega
    have l381 : decide (c ≤ (381 : Int)) = true := by rw [decide_eq_true_eq]; omega
    have l939 : decide (c ≤ (939 : Int)) = true := by rw [decide_eq_true_eq]; omega
    have l1039 : decide (c ≤ (1039 : Int)) = true := by rw [decide_eq_true_eq]; omega
    have l1071 : decide (c ≤ (1071 : Int)) = true := by rw [decide_eq_true_eq]; omega
    have n215 : (c == 215) = false := by rw [beq_eq_false_iff_ne]; omega
    have n376 : (c == 376) = false := by rw [beq_eq_false_iff_ne]; omega
    have n930 : (c == 930) = false := by rw [beq_eq_false_iff_ne]; omega
    have n962 : (c == 962) = false := by rw [beq_eq_false_iff_ne]; omega
    have ht : Int.tmod c 2 = 1 := by rw [Int.tmod_eq_emod_of_nonneg (by omega)]; exact hp
    have hE : Hid (foldF c = c) := by show _ = _; unfold foldF; rw [if_neg (by unfold twentyF; omega), if_neg (by unfold oneMoreF; omega), if_neg (by omega), if_neg (by omega)]
    have hlo : (306 : Int) ≤ c := by omega
    have hhi : c ≤ (310 : Int) := by omega
    clear h
    go_enter Tryd.func43, Tryd.ntmps43
    go_wp2
    go_ret
    exact ⟨by rw [hE.out]; rfl, rfl⟩
  · have g65 : decide ((65 : Int) ≤ c) = true := by rw [decide_eq_true_eq]; omega
    have g192 : decide ((192 : Int) ≤ c) = true := by rw [decide_eq_true_eq]; omega
    have g256 : decide ((256 : Int) ≤ c) = true := by rw [decide_eq_true_eq]; omega
    have g306 : decide ((306 : Int) ≤ c) = true := by rw [decide_eq_true_eq]; omega
    have g313 : decide ((313 : Int) ≤ c) = false := by rw [decide_eq_false_iff_not]; omega
    have g330 : decide ((330 : Int) ≤ c) = false := by rw [decide_eq_false_iff_not]; omega
    have g377 : decide ((377 : Int) ≤ c) = false := by rw [decide_eq_false_iff_not]; omega
    have g913 : decide ((913 : Int) ≤ c) = false := by rw [decide_eq_false_iff_not]; omega
    have g1024 : decide ((1024 : Int) ≤ c) = false := by rw [decide_eq_false_iff_not]; omega
    have g1040 : decide ((1040 : Int) ≤ c) = false := by rw [decide_eq_false_iff_not]; omega
    have l90 : decide (c ≤ (90 : Int)) = false := by rw [decide_eq_false_iff_not]; omega
    have l222 : decide (c ≤ (222 : Int)) = false := by rw [decide_eq_false_iff_not]; omega
    have l302 : decide (c ≤ (302 : Int)) = false := by rw [decide_eq_false_iff_not]; omega
    have l310 : decide (c ≤ (310 : Int)) = false := by rw [decide_eq_false_iff_not]; omega
    have l327 : decide (c ≤ (327 : Int)) = true := by rw [decide_eq_true_eq]; omega
    have l374 : decide (c ≤ (374 : Int)) = true := by rw [decide_eq_true_eq]; omega
    have l381 : decide (c ≤ (381 : Int)) = true := by rw [decide_eq_true_eq]; omega
    have l939 : decide (c ≤ (939 : Int)) = true := by rw [decide_eq_true_eq]; omega
    have l1039 : decide (c ≤ (1039 : Int)) = true := by rw [decide_eq_true_eq]; omega
    have l1071 : decide (c ≤ (1071 : Int)) = true := by rw [decide_eq_true_eq]; omega
    have n215 : (c == 215) = false := by rw [beq_eq_false_iff_ne]; omega
    have n376 : (c == 376) = false := by rw [beq_eq_false_iff_ne]; omega
    have n930 : (c == 930) = false := by rw [beq_eq_false_iff_ne]; omega
    have n962 : (c == 962) = false := by rw [beq_eq_false_iff_ne]; omega
    have ht : Int.tmod c 2 = 1 := by rw [Int.tmod_eq_emod_of_nonneg (by omega)]; exact hp
    have hE : Hid (foldF c = c) := by show _ = _; unfold foldF; rw [if_neg (by unfold twentyF; omega), if_neg (by unfold oneMoreF; omega), if_neg (by omega), if_neg (by omega)]
    have hlo : (311 : Int) ≤ c := by omega
    have hhi : c ≤ (312 : Int) := by omega
    clear h
    go_enter Tryd.func43, Tryd.ntmps43
    go_wp2
    go_ret
    exact ⟨by rw [hE.out]; rfl, rfl⟩
  · have g65 : decide ((65 : Int) ≤ c) = true := by rw [decide_eq_true_eq]; omega
    have g192 : decide ((192 : Int) ≤ c) = true := by rw [decide_eq_true_eq]; omega
    have g256 : decide ((256 : Int) ≤ c) = true := by rw [decide_eq_true_eq]; omega
    have g306 : decide ((306 : Int) ≤ c) = true := by rw [decide_eq_true_eq]; omega
    have g313 : decide ((313 : Int) ≤ c) = true := by rw [decide_eq_true_eq]; omega
    have g330 : decide ((330 : Int) ≤ c) = false := by rw [decide_eq_false_iff_not]; omega
    have g377 : decide ((377 : Int) ≤ c) = false := by rw [decide_eq_false_iff_not]; omega
    have g913 : decide ((913 : Int) ≤ c) = false := by rw [decide_eq_false_iff_not]; omega
    have g1024 : decide ((1024 : Int) ≤ c) = false := by rw [decide_eq_false_iff_not]; omega
    have g1040 : decide ((1040 : Int) ≤ c) = false := by rw [decide_eq_false_iff_not]; omega
    have l90 : decide (c ≤ (90 : Int)) = false := by rw [decide_eq_false_iff_not]; omega
    have l222 : decide (c ≤ (222 : Int)) = false := by rw [decide_eq_false_iff_not]; omega
    have l302 : decide (c ≤ (302 : Int)) = false := by rw [decide_eq_false_iff_not]; omega
    have l310 : decide (c ≤ (310 : Int)) = false := by rw [decide_eq_false_iff_not]; omega
    have l327 : decide (c ≤ (327 : Int)) = true := by rw [decide_eq_true_eq]; omega
    have l374 : decide (c ≤ (374 : Int)) = true := by rw [decide_eq_true_eq]; omega
    have l381 : decide (c ≤ (381 : Int)) = true := by rw [decide_eq_true_eq]; omega
    have l939 : decide (c ≤ (939 : Int)) = true := by rw [decide_eq_true_eq]; omega
    have l1039 : decide (c ≤ (1039 : Int)) = true := by rw [decide_eq_true_eq]; omega
    have l1071 : decide (c ≤ (1071 : Int)) = true := by rw [decide_eq_true_eq]; omega
    have n215 : (c == 215) = false := by rw [beq_eq_false_iff_ne]; omega
    have n376 : (c == 376) = false := by rw [beq_eq_false_iff_ne]; omega
    have n930 : (c == 930) = false := by rw [beq_eq_false_iff_ne]; omega
    have n962 : (c == 962) = false := by rw [beq_eq_false_iff_ne]; omega
    have ht : Int.tmod c 2 = 1 := by rw [Int.tmod_eq_emod_of_nonneg (by omega)]; exact hp
    have hE : Hid (foldF c = c + 1) := by show _ = _; unfold foldF; rw [if_neg (by unfold twentyF; omega), if_pos (by unfold oneMoreF; omega)]
    have hlo : (313 : Int) ≤ c := by omega
    have hhi : c ≤ (327 : Int) := by omega
    clear h
    go_enter Tryd.func43, Tryd.ntmps43
    go_wp2
    go_ret
    exact ⟨by rw [hE.out]; rfl, rfl⟩
  · have g65 : decide ((65 : Int) ≤ c) = true := by rw [decide_eq_true_eq]; omega
    have g192 : decide ((192 : Int) ≤ c) = true := by rw [decide_eq_true_eq]; omega
    have g256 : decide ((256 : Int) ≤ c) = true := by rw [decide_eq_true_eq]; omega
    have g306 : decide ((306 : Int) ≤ c) = true := by rw [decide_eq_true_eq]; omega
    have g313 : decide ((313 : Int) ≤ c) = true := by rw [decide_eq_true_eq]; omega
    have g330 : decide ((330 : Int) ≤ c) = false := by rw [decide_eq_false_iff_not]; omega
    have g377 : decide ((377 : Int) ≤ c) = false := by rw [decide_eq_false_iff_not]; omega
    have g913 : decide ((913 : Int) ≤ c) = false := by rw [decide_eq_false_iff_not]; omega
    have g1024 : decide ((1024 : Int) ≤ c) = false := by rw [decide_eq_false_iff_not]; omega
    have g1040 : decide ((1040 : Int) ≤ c) = false := by rw [decide_eq_false_iff_not]; omega
    have l90 : decide (c ≤ (90 : Int)) = false := by rw [decide_eq_false_iff_not]; omega
    have l222 : decide (c ≤ (222 : Int)) = false := by rw [decide_eq_false_iff_not]; omega
    have l302 : decide (c ≤ (302 : Int)) = false := by rw [decide_eq_false_iff_not]; omega
    have l310 : decide (c ≤ (310 : Int)) = false := by rw [decide_eq_false_iff_not]; omega
    have l327 : decide (c ≤ (327 : Int)) = false := by rw [decide_eq_false_iff_not]; omega
    have l374 : decide (c ≤ (374 : Int)) = true := by rw [decide_eq_true_eq]; omega
    have l381 : decide (c ≤ (381 : Int)) = true := by rw [decide_eq_true_eq]; omega
    have l939 : decide (c ≤ (939 : Int)) = true := by rw [decide_eq_true_eq]; omega
    have l1039 : decide (c ≤ (1039 : Int)) = true := by rw [decide_eq_true_eq]; omega
    have l1071 : decide (c ≤ (1071 : Int)) = true := by rw [decide_eq_true_eq]; omega
    have n215 : (c == 215) = false := by rw [beq_eq_false_iff_ne]; omega
    have n376 : (c == 376) = false := by rw [beq_eq_false_iff_ne]; omega
    have n930 : (c == 930) = false := by rw [beq_eq_false_iff_ne]; omega
    have n962 : (c == 962) = false := by rw [beq_eq_false_iff_ne]; omega
    have ht : Int.tmod c 2 = 1 := by rw [Int.tmod_eq_emod_of_nonneg (by omega)]; exact hp
    have hE : Hid (foldF c = c) := by show _ = _; unfold foldF; rw [if_neg (by unfold twentyF; omega), if_neg (by unfold oneMoreF; omega), if_neg (by omega), if_neg (by omega)]
    have hlo : (328 : Int) ≤ c := by omega
    have hhi : c ≤ (329 : Int) := by omega
    clear h
    go_enter Tryd.func43, Tryd.ntmps43
    go_wp2
    go_ret
    exact ⟨by rw [hE.out]; rfl, rfl⟩
  · have g65 : decide ((65 : Int) ≤ c) = true := by rw [decide_eq_true_eq]; omega
    have g192 : decide ((192 : Int) ≤ c) = true := by rw [decide_eq_true_eq]; omega
    have g256 : decide ((256 : Int) ≤ c) = true := by rw [decide_eq_true_eq]; omega
    have g306 : decide ((306 : Int) ≤ c) = true := by rw [decide_eq_true_eq]; omega
    have g313 : decide ((313 : Int) ≤ c) = true := by rw [decide_eq_true_eq]; omega
    have g330 : decide ((330 : Int) ≤ c) = true := by rw [decide_eq_true_eq]; omega
    have g377 : decide ((377 : Int) ≤ c) = false := by rw [decide_eq_false_iff_not]; omega
    have g913 : decide ((913 : Int) ≤ c) = false := by rw [decide_eq_false_iff_not]; omega
    have g1024 : decide ((1024 : Int) ≤ c) = false := by rw [decide_eq_false_iff_not]; omega
    have g1040 : decide ((1040 : Int) ≤ c) = false := by rw [decide_eq_false_iff_not]; omega
    have l90 : decide (c ≤ (90 : Int)) = false := by rw [decide_eq_false_iff_not]; omega
    have l222 : decide (c ≤ (222 : Int)) = false := by rw [decide_eq_false_iff_not]; omega
    have l302 : decide (c ≤ (302 : Int)) = false := by rw [decide_eq_false_iff_not]; omega
    have l310 : decide (c ≤ (310 : Int)) = false := by rw [decide_eq_false_iff_not]; omega
    have l327 : decide (c ≤ (327 : Int)) = false := by rw [decide_eq_false_iff_not]; omega
    have l374 : decide (c ≤ (374 : Int)) = true := by rw [decide_eq_true_eq]; omega
    have l381 : decide (c ≤ (381 : Int)) = true := by rw [decide_eq_true_eq]; omega
    have l939 : decide (c ≤ (939 : Int)) = true := by rw [decide_eq_true_eq]; omega
    have l1039 : decide (c ≤ (1039 : Int)) = true := by rw [decide_eq_true_eq]; omega
    have l1071 : decide (c ≤ (1071 : Int)) = true := by rw [decide_eq_true_eq]; omega
    have n215 : (c == 215) = false := by rw [beq_eq_false_iff_ne]; omega
    have n376 : (c == 376) = false := by rw [beq_eq_false_iff_ne]; omega
    have n930 : (c == 930) = false := by rw [beq_eq_false_iff_ne]; omega
    have n962 : (c == 962) = false := by rw [beq_eq_false_iff_ne]; omega
    have ht : Int.tmod c 2 = 1 := by rw [Int.tmod_eq_emod_of_nonneg (by omega)]; exact hp
    have hE : Hid (foldF c = c) := by show _ = _; unfold foldF; rw [if_neg (by unfold twentyF; omega), if_neg (by unfold oneMoreF; omega), if_neg (by omega), if_neg (by omega)]
    have hlo : (330 : Int) ≤ c := by omega
    have hhi : c ≤ (374 : Int) := by omega
    clear h
    go_enter Tryd.func43, Tryd.ntmps43
    go_wp2
    go_ret
    exact ⟨by rw [hE.out]; rfl, rfl⟩
  · subst h
    have hE : Hid (foldF 375 = 375) := by show _ = _; decide +kernel
    go_enter Tryd.func43, Tryd.ntmps43
    go_wp2
    go_ret
    exact ⟨by rw [hE.out]; rfl, rfl⟩
  · have g65 : decide ((65 : Int) ≤ c) = true := by rw [decide_eq_true_eq]; omega
    have g192 : decide ((192 : Int) ≤ c) = true := by rw [decide_eq_true_eq]; omega
    have g256 : decide ((256 : Int) ≤ c) = true := by rw [decide_eq_true_eq]; omega
    have g306 : decide ((306 : Int) ≤ c) = true := by rw [decide_eq_true_eq]; omega
    have g313 : decide ((313 : Int) ≤ c) = true := by rw [decide_eq_true_eq]; omega
    have g330 : decide ((330 : Int) ≤ c) = true := by rw [decide_eq_true_eq]; omega
    have g377 : decide ((377 : Int) ≤ c) = true := by rw [decide_eq_true_eq]; omega
    have g913 : decide ((913 : Int) ≤ c) = false := by rw [decide_eq_false_iff_not]; omega
    have g1024 : decide ((1024 : Int) ≤ c) = false := by rw [decide_eq_false_iff_not]; omega
    have g1040 : decide ((1040 : Int) ≤ c) = false := by rw [decide_eq_false_iff_not]; omega
    have l90 : decide (c ≤ (90 : Int)) = false := by rw [decide_eq_false_iff_not]; omega
    have l222 : decide (c ≤ (222 : Int)) = false := by rw [decide_eq_false_iff_not]; omega
    have l302 : decide (c ≤ (302 : Int)) = false := by rw [decide_eq_false_iff_not]; omega
    have l310 : decide (c ≤ (310 : Int)) = false := by rw [decide_eq_false_iff_not]; omega
    have l327 : decide (c ≤ (327 : Int)) = false := by rw [decide_eq_false_iff_not]; omega
    have l374 : decide (c ≤ (374 : Int)) = false := by rw [decide_eq_false_iff_not]; omega
    have l381 : decide (c ≤ (381 : Int)) = true := by rw [decide_eq_true_eq]; omega
    have l939 : decide (c ≤ (939 : Int)) = true := by rw [decide_eq_true_eq]; omega
    have l1039 : decide (c ≤ (1039 : Int)) = true := by rw [decide_eq_true_eq]; omega
    have l1071 : decide (c ≤ (1071 : Int)) = true := by rw [decide_eq_true_eq]; omega
    have n215 : (c == 215) = false := by rw [beq_eq_false_iff_ne]; omega
    have n376 : (c == 376) = false := by rw [beq_eq_false_iff_ne]; omega
    have n930 : (c == 930) = false := by rw [beq_eq_false_iff_ne]; omega
    have n962 : (c == 962) = false := by rw [beq_eq_false_iff_ne]; omega
    have ht : Int.tmod c 2 = 1 := by rw [Int.tmod_eq_emod_of_nonneg (by omega)]; exact hp
    have hE : Hid (foldF c = c + 1) := by show _ = _; unfold foldF; rw [if_neg (by unfold twentyF; omega), if_pos (by unfold oneMoreF; omega)]
    have hlo : (377 : Int) ≤ c := by omega
    have hhi : c ≤ (381 : Int) := by omega
    clear h
    go_enter Tryd.func43, Tryd.ntmps43
    go_wp2
    go_ret
    exact ⟨by rw [hE.out]; rfl, rfl⟩
  · have g65 : decide ((65 : Int) ≤ c) = true := by rw [decide_eq_true_eq]; omega
    have g192 : decide ((192 : Int) ≤ c) = true := by rw [decide_eq_true_eq]; omega
    have g256 : decide ((256 : Int) ≤ c) = true := by rw [decide_eq_true_eq]; omega
    have g306 : decide ((306 : Int) ≤ c) = true := by rw [decide_eq_true_eq]; omega
    have g313 : decide ((313 : Int) ≤ c) = true := by rw [decide_eq_true_eq]; omega
    have g330 : decide ((330 : Int) ≤ c) = true := by rw [decide_eq_true_eq]; omega
    have g377 : decide ((377 : Int) ≤ c) = true := by rw [decide_eq_true_eq]; omega
    have g913 : decide ((913 : Int) ≤ c) = false := by rw [decide_eq_false_iff_not]; omega
    have g1024 : decide ((1024 : Int) ≤ c) = false := by rw [decide_eq_false_iff_not]; omega
    have g1040 : decide ((1040 : Int) ≤ c) = false := by rw [decide_eq_false_iff_not]; omega
    have l90 : decide (c ≤ (90 : Int)) = false := by rw [decide_eq_false_iff_not]; omega
    have l222 : decide (c ≤ (222 : Int)) = false := by rw [decide_eq_false_iff_not]; omega
    have l302 : decide (c ≤ (302 : Int)) = false := by rw [decide_eq_false_iff_not]; omega
    have l310 : decide (c ≤ (310 : Int)) = false := by rw [decide_eq_false_iff_not]; omega
    have l327 : decide (c ≤ (327 : Int)) = false := by rw [decide_eq_false_iff_not]; omega
    have l374 : decide (c ≤ (374 : Int)) = false := by rw [decide_eq_false_iff_not]; omega
    have l381 : decide (c ≤ (381 : Int)) = false := by rw [decide_eq_false_iff_not]; omega
    have l939 : decide (c ≤ (939 : Int)) = true := by rw [decide_eq_true_eq]; omega
    have l1039 : decide (c ≤ (1039 : Int)) = true := by rw [decide_eq_true_eq]; omega
    have l1071 : decide (c ≤ (1071 : Int)) = true := by rw [decide_eq_true_eq]; omega
    have n215 : (c == 215) = false := by rw [beq_eq_false_iff_ne]; omega
    have n376 : (c == 376) = false := by rw [beq_eq_false_iff_ne]; omega
    have n930 : (c == 930) = false := by rw [beq_eq_false_iff_ne]; omega
    have n962 : (c == 962) = false := by rw [beq_eq_false_iff_ne]; omega
    have ht : Int.tmod c 2 = 1 := by rw [Int.tmod_eq_emod_of_nonneg (by omega)]; exact hp
    have hE : Hid (foldF c = c) := by show _ = _; unfold foldF; rw [if_neg (by unfold twentyF; omega), if_neg (by unfold oneMoreF; omega), if_neg (by omega), if_neg (by omega)]
    have hlo : (382 : Int) ≤ c := by omega
    have hhi : c ≤ (912 : Int) := by omega
    clear h
    go_enter Tryd.func43, Tryd.ntmps43
    go_wp2
    go_ret
    exact ⟨by rw [hE.out]; rfl, rfl⟩
  · have g65 : decide ((65 : Int) ≤ c) = true := by rw [decide_eq_true_eq]; omega
    have g192 : decide ((192 : Int) ≤ c) = true := by rw [decide_eq_true_eq]; omega
    have g256 : decide ((256 : Int) ≤ c) = true := by rw [decide_eq_true_eq]; omega
    have g306 : decide ((306 : Int) ≤ c) = true := by rw [decide_eq_true_eq]; omega
    have g313 : decide ((313 : Int) ≤ c) = true := by rw [decide_eq_true_eq]; omega
    have g330 : decide ((330 : Int) ≤ c) = true := by rw [decide_eq_true_eq]; omega
    have g377 : decide ((377 : Int) ≤ c) = true := by rw [decide_eq_true_eq]; omega
    have g913 : decide ((913 : Int) ≤ c) = true := by rw [decide_eq_true_eq]; omega
    have g1024 : decide ((1024 : Int) ≤ c) = false := by rw [decide_eq_false_iff_not]; omega
    have g1040 : decide ((1040 : Int) ≤ c) = false := by rw [decide_eq_false_iff_not]; omega
    have l90 : decide (c ≤ (90 : Int)) = false := by rw [decide_eq_false_iff_not]; omega
    have l222 : decide (c ≤ (222 : Int)) = false := by rw [decide_eq_false_iff_not]; omega
    have l302 : decide (c ≤ (302 : Int)) = false := by rw [decide_eq_false_iff_not]; omega
    have l310 : decide (c ≤ (310 : Int)) = false := by rw [decide_eq_false_iff_not]; omega
    have l327 : decide (c ≤ (327 : Int)) = false := by rw [decide_eq_false_iff_not]; omega
    have l374 : decide (c ≤ (374 : Int)) = false := by rw [decide_eq_false_iff_not]; omega
    have l381 : decide (c ≤ (381 : Int)) = false := by rw [decide_eq_false_iff_not]; omega
    have l939 : decide (c ≤ (939 : Int)) = true := by rw [decide_eq_true_eq]; omega
    have l1039 : decide (c ≤ (1039 : Int)) = true := by rw [decide_eq_true_eq]; omega
    have l1071 : decide (c ≤ (1071 : Int)) = true := by rw [decide_eq_true_eq]; omega
    have n215 : (c == 215) = false := by rw [beq_eq_false_iff_ne]; omega
    have n376 : (c == 376) = false := by rw [beq_eq_false_iff_ne]; omega
    have n930 : (c == 930) = false := by rw [beq_eq_false_iff_ne]; omega
    have n962 : (c == 962) = false := by rw [beq_eq_false_iff_ne]; omega
    have ht : Int.tmod c 2 = 1 := by rw [Int.tmod_eq_emod_of_nonneg (by omega)]; exact hp
    have hE : Hid (foldF c = c + 32) := by show _ = _; unfold foldF; rw [if_pos (by unfold twentyF; omega)]
    have hlo : (913 : Int) ≤ c := by omega
    have hhi : c ≤ (929 : Int) := by omega
    clear h
    go_enter Tryd.func43, Tryd.ntmps43
    go_wp2
    go_ret
    exact ⟨by rw [hE.out]; rfl, rfl⟩
  · have g65 : decide ((65 : Int) ≤ c) = true := by rw [decide_eq_true_eq]; omega
    have g192 : decide ((192 : Int) ≤ c) = true := by rw [decide_eq_true_eq]; omega
    have g256 : decide ((256 : Int) ≤ c) = true := by rw [decide_eq_true_eq]; omega
    have g306 : decide ((306 : Int) ≤ c) = true := by rw [decide_eq_true_eq]; omega
    have g313 : decide ((313 : Int) ≤ c) = true := by rw [decide_eq_true_eq]; omega
    have g330 : decide ((330 : Int) ≤ c) = true := by rw [decide_eq_true_eq]; omega
    have g377 : decide ((377 : Int) ≤ c) = true := by rw [decide_eq_true_eq]; omega
    have g913 : decide ((913 : Int) ≤ c) = true := by rw [decide_eq_true_eq]; omega
    have g1024 : decide ((1024 : Int) ≤ c) = false := by rw [decide_eq_false_iff_not]; omega
    have g1040 : decide ((1040 : Int) ≤ c) = false := by rw [decide_eq_false_iff_not]; omega
    have l90 : decide (c ≤ (90 : Int)) = false := by rw [decide_eq_false_iff_not]; omega
    have l222 : decide (c ≤ (222 : Int)) = false := by rw [decide_eq_false_iff_not]; omega
    have l302 : decide (c ≤ (302 : Int)) = false := by rw [decide_eq_false_iff_not]; omega
    have l310 : decide (c ≤ (310 : Int)) = false := by rw [decide_eq_false_iff_not]; omega
    have l327 : decide (c ≤ (327 : Int)) = false := by rw [decide_eq_false_iff_not]; omega
    have l374 : decide (c ≤ (374 : Int)) = false := by rw [decide_eq_false_iff_not]; omega
    have l381 : decide (c ≤ (381 : Int)) = false := by rw [decide_eq_false_iff_not]; omega
    have l939 : decide (c ≤ (939 : Int)) = true := by rw [decide_eq_true_eq]; omega
    have l1039 : decide (c ≤ (1039 : Int)) = true := by rw [decide_eq_true_eq]; omega
    have l1071 : decide (c ≤ (1071 : Int)) = true := by rw [decide_eq_true_eq]; omega
    have n215 : (c == 215) = false := by rw [beq_eq_false_iff_ne]; omega
    have n376 : (c == 376) = false := by rw [beq_eq_false_iff_ne]; omega
    have n930 : (c == 930) = false := by rw [beq_eq_false_iff_ne]; omega
    have n962 : (c == 962) = false := by rw [beq_eq_false_iff_ne]; omega
    have ht : Int.tmod c 2 = 1 := by rw [Int.tmod_eq_emod_of_nonneg (by omega)]; exact hp
    have hE : Hid (foldF c = c + 32) := by show _ = _; unfold foldF; rw [if_pos (by unfold twentyF; omega)]
    have hlo : (931 : Int) ≤ c := by omega
    have hhi : c ≤ (939 : Int) := by omega
    clear h
    go_enter Tryd.func43, Tryd.ntmps43
    go_wp2
    go_ret
    exact ⟨by rw [hE.out]; rfl, rfl⟩
  · have g65 : decide ((65 : Int) ≤ c) = true := by rw [decide_eq_true_eq]; omega
    have g192 : decide ((192 : Int) ≤ c) = true := by rw [decide_eq_true_eq]; omega
    have g256 : decide ((256 : Int) ≤ c) = true := by rw [decide_eq_true_eq]; omega
    have g306 : decide ((306 : Int) ≤ c) = true := by rw [decide_eq_true_eq]; omega
    have g313 : decide ((313 : Int) ≤ c) = true := by rw [decide_eq_true_eq]; omega
    have g330 : decide ((330 : Int) ≤ c) = true := by rw [decide_eq_true_eq]; omega
    have g377 : decide ((377 : Int) ≤ c) = true := by rw [decide_eq_true_eq]; omega
    have g913 : decide ((913 : Int) ≤ c) = true := by rw [decide_eq_true_eq]; omega
    have g1024 : decide ((1024 : Int) ≤ c) = false := by rw [decide_eq_false_iff_not]; omega
    have g1040 : decide ((1040 : Int) ≤ c) = false := by rw [decide_eq_false_iff_not]; omega
    have l90 : decide (c ≤ (90 : Int)) = false := by rw [decide_eq_false_iff_not]; omega
    have l222 : decide (c ≤ (222 : Int)) = false := by rw [decide_eq_false_iff_not]; omega
    have l302 : decide (c ≤ (302 : Int)) = false := by rw [decide_eq_false_iff_not]; omega
    have l310 : decide (c ≤ (310 : Int)) = false := by rw [decide_eq_false_iff_not]; omega
    have l327 : decide (c ≤ (327 : Int)) = false := by rw [decide_eq_false_iff_not]; omega
    have l374 : decide (c ≤ (374 : Int)) = false := by rw [decide_eq_false_iff_not]; omega
    have l381 : decide (c ≤ (381 : Int)) = false := by rw [decide_eq_false_iff_not]; omega
    have l939 : decide (c ≤ (939 : Int)) = false := by rw [decide_eq_false_iff_not]; omega
    have l1039 : decide (c ≤ (1039 : Int)) = true := by rw [decide_eq_true_eq]; omega
    have l1071 : decide (c ≤ (1071 : Int)) = true := by rw [decide_eq_true_eq]; omega
    have n215 : (c == 215) = false := by rw [beq_eq_false_iff_ne]; omega
    have n376 : (c == 376) = false := by rw [beq_eq_false_iff_ne]; omega
    have n930 : (c == 930) = false := by rw [beq_eq_false_iff_ne]; omega
    have n962 : (c == 962) = false := by rw [beq_eq_false_iff_ne]; omega
    have ht : Int.tmod c 2 = 1 := by rw [Int.tmod_eq_emod_of_nonneg (by omega)]; exact hp
    have hE : Hid (foldF c = c) := by show _ = _; unfold foldF; rw [if_neg (by unfold twentyF; omega), if_neg (by unfold oneMoreF; omega), if_neg (by omega), if_neg (by omega)]
    have hlo : (940 : Int) ≤ c := by omega
    have hhi : c ≤ (961 : Int) := by omega
    clear h
    go_enter Tryd.func43, Tryd.ntmps43
    go_wp2
    go_ret
    exact ⟨by rw [hE.out]; rfl, rfl⟩
  · have g65 : decide ((65 : Int) ≤ c) = true := by rw [decide_eq_true_eq]; omega
    have g192 : decide ((192 : Int) ≤ c) = true := by rw [decide_eq_true_eq]; omega
    have g256 : decide ((256 : Int) ≤ c) = true := by rw [decide_eq_true_eq]; omega
    have g306 : decide ((306 : Int) ≤ c) = true := by rw [decide_eq_true_eq]; omega
    have g313 : decide ((313 : Int) ≤ c) = true := by rw [decide_eq_true_eq]; omega
    have g330 : decide ((330 : Int) ≤ c) = true := by rw [decide_eq_true_eq]; omega
    have g377 : decide ((377 : Int) ≤ c) = true := by rw [decide_eq_true_eq]; omega
    have g913 : decide ((913 : Int) ≤ c) = true := by rw [decide_eq_true_eq]; omega
    have g1024 : decide ((1024 : Int) ≤ c) = false := by rw [decide_eq_false_iff_not]; omega
    have g1040 : decide ((1040 : Int) ≤ c) = false := by rw [decide_eq_false_iff_not]; omega
    have l90 : decide (c ≤ (90 : Int)) = false := by rw [decide_eq_false_iff_not]; omega
    have l222 : decide (c ≤ (222 : Int)) = false := by rw [decide_eq_false_iff_not]; omega
    have l302 : decide (c ≤ (302 : Int)) = false := by rw [decide_eq_false_iff_not]; omega
    have l310 : decide (c ≤ (310 : Int)) = false := by rw [decide_eq_false_iff_not]; omega
    have l327 : decide (c ≤ (327 : Int)) = false := by rw [decide_eq_false_iff_not]; omega
    have l374 : decide (c ≤ (374 : Int)) = false := by rw [decide_eq_false_iff_not]; omega
    have l381 : decide (c ≤ (381 : Int)) = false := by rw [decide_eq_false_iff_not]; omega
    have l939 : decide (c ≤ (939 : Int)) = false := by rw [decide_eq_false_iff_not]; omega
    have l1039 : decide (c ≤ (1039 : Int)) = true := by rw [decide_eq_true_eq]; omega
    have l1071 : decide (c ≤ (1071 : Int)) = true := by rw [decide_eq_true_eq]; omega
    have n215 : (c == 215) = false := by rw [beq_eq_false_iff_ne]; omega
    have n376 : (c == 376) = false := by rw [beq_eq_false_iff_ne]; omega
    have n930 : (c == 930) = false := by rw [beq_eq_false_iff_ne]; omega
    have n962 : (c == 962) = false := by rw [beq_eq_false_iff_ne]; omega
    have ht : Int.tmod c 2 = 1 := by rw [Int.tmod_eq_emod_of_nonneg (by omega)]; exact hp
    have hE : Hid (foldF c = c) := by show _ = _; unfold foldF; rw [if_neg (by unfold twentyF; omega), if_neg (by unfold oneMoreF; omega), if_neg (by omega), if_neg (by omega)]
    have hlo : (963 : Int) ≤ c := by omega
    have hhi : c ≤ (1023 : Int) := by omega
    clear h
    go_enter Tryd.func43, Tryd.ntmps43
    go_wp2
    go_ret
    exact ⟨by rw [hE.out]; rfl, rfl⟩
  · have g65 : decide ((65 : Int) ≤ c) = true := by rw [decide_eq_true_eq]; omega
    have g192 : decide ((192 : Int) ≤ c) = true := by rw [decide_eq_true_eq]; omega
    have g256 : decide ((256 : Int) ≤ c) = true := by rw [decide_eq_true_eq]; omega
    have g306 : decide ((306 : Int) ≤ c) = true := by rw [decide_eq_true_eq]; omega
    have g313 : decide ((313 : Int) ≤ c) = true := by rw [decide_eq_true_eq]; omega
    have g330 : decide ((330 : Int) ≤ c) = true := by rw [decide_eq_true_eq]; omega
    have g377 : decide ((377 : Int) ≤ c) = true := by rw [decide_eq_true_eq]; omega
    have g913 : decide ((913 : Int) ≤ c) = true := by rw [decide_eq_true_eq]; omega
    have g1024 : decide ((1024 : Int) ≤ c) = true := by rw [decide_eq_true_eq]; omega
    have g1040 : decide ((1040 : Int) ≤ c) = false := by rw [decide_eq_false_iff_not]; omega
    have l90 : decide (c ≤ (90 : Int)) = false := by rw [decide_eq_false_iff_not]; omega
    have l222 : decide (c ≤ (222 : Int)) = false := by rw [decide_eq_false_iff_not]; omega
    have l302 : decide (c ≤ (302 : Int)) = false := by rw [decide_eq_false_iff_not]; omega
    have l310 : decide (c ≤ (310 : Int)) = false := by rw [decide_eq_false_iff_not]; omega
    have l327 : decide (c ≤ (327 : Int)) = false := by rw [decide_eq_false_iff_not]; omega
    have l374 : decide (c ≤ (374 : Int)) = false := by rw [decide_eq_false_iff_not]; omega
    have l381 : decide (c ≤ (381 : Int)) = false := by rw [decide_eq_false_iff_not]; omega
    have l939 : decide (c ≤ (939 : Int)) = false := by rw [decide_eq_false_iff_not]; omega
    have l1039 : decide (c ≤ (1039 : Int)) = true := by rw [decide_eq_true_eq]; omega
    have l1071 : decide (c ≤ (1071 : Int)) = true := by rw [decide_eq_true_eq]; omega
    have n215 : (c == 215) = false := by rw [beq_eq_false_iff_ne]; omega
    have n376 : (c == 376) = false := by rw [beq_eq_false_iff_ne]; omega
    have n930 : (c == 930) = false := by rw [beq_eq_false_iff_ne]; omega
    have n962 : (c == 962) = false := by rw [beq_eq_false_iff_ne]; omega
    have ht : Int.tmod c 2 = 1 := by rw [Int.tmod_eq_emod_of_nonneg (by omega)]; exact hp
    have hE : Hid (foldF c = c + 80) := by show _ = _; unfold foldF; rw [if_neg (by unfold twentyF; omega), if_neg (by unfold oneMoreF; omega), if_neg (by omega), if_pos (by omega)]
    have hlo : (1024 : Int) ≤ c := by omega
    have hhi : c ≤ (1039 : Int) := by omega
    clear h
    go_enter Tryd.func43, Tryd.ntmps43
    go_wp2
    go_ret
    exact ⟨by rw [hE.out]; rfl, rfl⟩
  · have g65 : decide ((65 : Int) ≤ c) = true := by rw [decide_eq_true_eq]; omega
    have g192 : decide ((192 : Int) ≤ c) = true := by rw [decide_eq_true_eq]; omega
    have g256 : decide ((256 : Int) ≤ c) = true := by rw [decide_eq_true_eq]; omega
    have g306 : decide ((306 : Int) ≤ c) = true := by rw [decide_eq_true_eq]; omega
    have g313 : decide ((313 : Int) ≤ c) = true := by rw [decide_eq_true_eq]; omega
    have g330 : decide ((330 : Int) ≤ c) = true := by rw [decide_eq_true_eq]; omega
    have g377 : decide ((377 : Int) ≤ c) = true := by rw [decide_eq_true_eq]; omega
    have g913 : decide ((913 : Int) ≤ c) = true := by rw [decide_eq_true_eq]; omega
    have g1024 : decide ((1024 : Int) ≤ c) = true := by rw [decide_eq_true_eq]; omega
    have g1040 : decide ((1040 : Int) ≤ c) = true := by rw [decide_eq_true_eq]; omega
    have l90 : decide (c ≤ (90 : Int)) = false := by rw [decide_eq_false_iff_not]; omega
    have l222 : decide (c ≤ (222 : Int)) = false := by rw [decide_eq_false_iff_not]; omega
    have l302 : decide (c ≤ (302 : Int)) = false := by rw [decide_eq_false_iff_not]; omega
    have l310 : decide (c ≤ (310 : Int)) = false := by rw [decide_eq_false_iff_not]; omega
    have l327 : decide (c ≤ (327 : Int)) = false := by rw [decide_eq_false_iff_not]; omega
    have l374 : decide (c ≤ (374 : Int)) = false := by rw [decide_eq_false_iff_not]; omega
    have l381 : decide (c ≤ (381 : Int)) = false := by rw [decide_eq_false_iff_not]; omega
    have l939 : decide (c ≤ (939 : Int)) = false := by rw [decide_eq_false_iff_not]; omega
    have l1039 : decide (c ≤ (1039 : Int)) = false := by rw [decide_eq_false_iff_not]; omega
    have l1071 : decide (c ≤ (1071 : Int)) = true := by rw [decide_eq_true_eq]; omega
    have n215 : (c == 215) = false := by rw [beq_eq_false_iff_ne]; omega
    have n376 : (c == 376) = false := by rw [beq_eq_false_iff_ne]; omega
    have n930 : (c == 930) = false := by rw [beq_eq_false_iff_ne]; omega
    have n962 : (c == 962) = false := by rw [beq_eq_false_iff_ne]; omega
    have ht : Int.tmod c 2 = 1 := by rw [Int.tmod_eq_emod_of_nonneg (by omega)]; exact hp
    have hE : Hid (foldF c = c + 32) := by show _ = _; unfold foldF; rw [if_pos (by unfold twentyF; omega)]
    have hlo : (1040 : Int) ≤ c := by omega
    have hhi : c ≤ (1071 : Int) := by omega
    clear h
    go_enter Tryd.func43, Tryd.ntmps43
    go_wp2
    go_ret
    exact ⟨by rw [hE.out]; rfl, rfl⟩
  · have g65 : decide ((65 : Int) ≤ c) = true := by rw [decide_eq_true_eq]; omega
    have g192 : decide ((192 : Int) ≤ c) = true := by rw [decide_eq_true_eq]; omega
    have g256 : decide ((256 : Int) ≤ c) = true := by rw [decide_eq_true_eq]; omega
    have g306 : decide ((306 : Int) ≤ c) = true := by rw [decide_eq_true_eq]; omega
    have g313 : decide ((313 : Int) ≤ c) = true := by rw [decide_eq_true_eq]; omega
    have g330 : decide ((330 : Int) ≤ c) = true := by rw [decide_eq_true_eq]; omega
    have g377 : decide ((377 : Int) ≤ c) = true := by rw [decide_eq_true_eq]; omega
    have g913 : decide ((913 : Int) ≤ c) = true := by rw [decide_eq_true_eq]; omega
    have g1024 : decide ((1024 : Int) ≤ c) = true := by rw [decide_eq_true_eq]; omega
    have g1040 : decide ((1040 : Int) ≤ c) = true := by rw [decide_eq_true_eq]; omega
    have l90 : decide (c ≤ (90 : Int)) = false := by rw [decide_eq_false_iff_not]; omega
    have l222 : decide (c ≤ (222 : Int)) = false := by rw [decide_eq_false_iff_not]; omega
    have l302 : decide (c ≤ (302 : Int)) = false := by rw [decide_eq_false_iff_not]; omega
    have l310 : decide (c ≤ (310 : Int)) = false := by rw [decide_eq_false_iff_not]; omega
    have l327 : decide (c ≤ (327 : Int)) = false := by rw [decide_eq_false_iff_not]; omega
    have l374 : decide (c ≤ (374 : Int)) = false := by rw [decide_eq_false_iff_not]; omega
    have l381 : decide (c ≤ (381 : Int)) = false := by rw [decide_eq_false_iff_not]; omega
    have l939 : decide (c ≤ (939 : Int)) = false := by rw [decide_eq_false_iff_not]; omega
    have l1039 : decide (c ≤ (1039 : Int)) = false := by rw [decide_eq_false_iff_not]; omega
    have l1071 : decide (c ≤ (1071 : Int)) = false := by rw [decide_eq_false_iff_not]; omega
    have n215 : (c == 215) = false := by rw [beq_eq_false_iff_ne]; omega
    have n376 : (c == 376) = false := by rw [beq_eq_false_iff_ne]; omega
    have n930 : (c == 930) = false := by rw [beq_eq_false_iff_ne]; omega
    have n962 : (c == 962) = false := by rw [beq_eq_false_iff_ne]; omega
    have ht : Int.tmod c 2 = 1 := by rw [Int.tmod_eq_emod_of_nonneg (by omega)]; exact hp
    have hE : Hid (foldF c = c) := by show _ = _; unfold foldF; rw [if_neg (by unfold twentyF; omega), if_neg (by unfold oneMoreF; omega), if_neg (by omega), if_neg (by omega)]
    clear h
    go_enter Tryd.func43, Tryd.ntmps43
    go_wp2
    go_ret
    exact ⟨by rw [hE.out]; rfl, rfl⟩
end Go.Proofs.YtdhbbknjnbdplaaDoor
