/- 'few' of stage 15's statements. -/
import Derived.Test.YtkcledkfgmdcgaaSame14
import Derived.Test.YtkcledkfgmdcgaaFewMath
namespace Go.Proofs.Ytkcledkfgmdcgaa
open Go.RowKit
set_option linter.unusedVariables false
set_option linter.unusedSimpArgs false
set_option maxRecDepth 100000 in
set_option maxHeartbeats 4000000 in
theorem few15_any {w : World} {ao : Option Addr} {len cap : Nat} {x : List Wd} (hr : Reads w ao len cap (x.map strV)) :
    Calls Try.prog 10 #[.slice ao len cap] w fun e w' => e = .returned (.bool (fewS x)) ∧ w' = w := by
  have hl := strs_len14 hr
  have hm1 := Nat.le_trans hr.le hr.most
  unfold maxLen at hm1
  have hm3 : (len : Int) ≤ 9223372036854775807 := by omega
  have Hl : Hid _ := hl
  clear hm1 hl
  go_enter Try.func10, Try.ntmps10
  go_wp2_with fail
  go_loop [3] (fun i => ∃ j : Nat, i = .int .i64 j ∧ j ≤ len ∧ j ≤ 61 ∧ Hid (∀ k ∈ x.take j, k.length ≤ 20)) (fun i => (len - intOf i).toNat)
  case atStart => exact ⟨0, rfl, by omega, by omega, (show ∀ k ∈ x.take 0, k.length ≤ 20 from fun k hk => by simp at hk)⟩
  case round =>
    obtain ⟨j, rfl, hj, hj6, hA⟩ := hrel
    by_cases hjl : j < len ∧ j < 61
    · obtain ⟨h1, h2⟩ := hjl
      have q1 : (j : Int) < len := by omega
      have q2 : (j : Int) < 61 := by omega
      obtain ⟨b1, o1, rfl, hb1, hat1⟩ := hr.atW (by omega)
      obtain ⟨p, hp⟩ : ∃ p, x[j]? = some p := ⟨_, List.getElem?_eq_getElem (by rw [Hl.out]; exact h1)⟩
      have hc1 := hat1 j p hp
      have hmem := List.mem_of_getElem? hp
      have t1 : x.take (j + 1) = x.take j ++ [p] := by rw [List.take_add_one, hp]; rfl
      by_cases h20 : p.length ≤ 20
      · have i1 : ¬ (20 : Int) < p.length := by omega
        have hA' : Hid (∀ k ∈ x.take (j + 1), k.length ≤ 20) := by
          show ∀ k ∈ _, _
          rw [t1]
          intro k hk
          rcases List.mem_append.1 hk with hk | hk
          · exact hA.out k hk
          · simp at hk; subst hk; exact h20
        clear hA hp hmem t1 h20 hat1 hb1
        go_wp2
        go_round
        case rel => exact ⟨j + 1, by go_num, by omega, by omega, hA'⟩
        case measure => simp [intOf]; omega
      · have i1 : (20 : Int) < p.length := by omega
        have hE : Hid (fewS x = false) := decide_eq_false fun hh => h20 (hh.2 p hmem)
        clear hA hp hmem t1 h20 hat1 hb1
        go_wp2
        go_ret
        exact ⟨by rw [hE.out]; rfl, rfl⟩
    · have hE : Hid (fewS x = decide ((len : Int) ≤ 60)) := by
        show _ = _
        unfold fewS
        rw [Hl.out]
        by_cases h6 : len ≤ 60
        · have hje : j = len := by omega
          have := hA.out
          rw [hje, List.take_of_length_le (by rw [Hl.out]; exact Nat.le_refl _)] at this
          rw [decide_eq_true (p := len ≤ 60 ∧ _) ⟨h6, this⟩, decide_eq_true (by omega)]
        · rw [decide_eq_false (p := len ≤ 60 ∧ _) (fun hh => h6 hh.1), decide_eq_false (by omega)]
      have hsp : ¬ (j : Int) < len ∨ ((j : Int) < len ∧ ¬ (j : Int) < 61) := by omega
      clear hA hjl
      rcases hsp with q1 | ⟨q1, q2⟩
      all_goals go_wp2
      all_goals go_ret
      all_goals exact ⟨by rw [hE.out]; rfl, rfl⟩
#print axioms few15_any
end Go.Proofs.Ytkcledkfgmdcgaa
