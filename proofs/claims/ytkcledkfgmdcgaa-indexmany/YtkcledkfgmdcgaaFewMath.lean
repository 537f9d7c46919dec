/- Few words, and what Build tells of them. -/
import Derived.Test.YtkcledkfgmdcgaaDawZ
namespace Go.Proofs.Ytkcledkfgmdcgaa
open Go.RowKit
set_option linter.unusedVariables false
set_option linter.unusedSimpArgs false

def fewS (x : List Wd) : Bool := decide (x.length ≤ 60 ∧ ∀ k ∈ x, k.length ≤ 20)
theorem fewS_iff {x : List Wd} : fewS x = true ↔ x.length ≤ 60 ∧ ∀ k ∈ x, k.length ≤ 20 := decide_eq_true_iff
theorem sum_le_times : ∀ {x : List Wd} {m : Nat}, (∀ k ∈ x, k.length ≤ m) → (x.map List.length).sum ≤ x.length * m
  | [], m, _ => by simp
  | a :: x, m, h => by
    have ih := sum_le_times (x := x) (m := m) fun k hk => h k (by simp [hk])
    have := h a (by simp)
    rw [List.map_cons, List.sum_cons, List.length_cons, Nat.add_mul]; omega
theorem len_le_sum : ∀ {x : List Wd} {k : Wd}, k ∈ x → k.length ≤ (x.map List.length).sum
  | a :: x, k, h => by
    rw [List.map_cons, List.sum_cons]
    rcases List.mem_cons.1 h with rfl | h
    · omega
    · have := len_le_sum h; omega
theorem few_sum {x : List Wd} (h : fewS x = true) : x.length ≤ 60 ∧ (x.map List.length).sum ≤ 1200 := by
  obtain ⟨h1, h2⟩ := fewS_iff.1 h
  have h3 := sum_le_times h2
  have h4 := Nat.mul_le_mul_right 20 h1
  exact ⟨h1, by omega⟩
theorem build_cases (zs : List Wd) : (∃ d, 1 ≤ d ∧ d ≤ 9 ∧ buildR zs = ([], d)) ∨ ([] ∉ zs ∧ RiseW zs ∧ buildR zs = (zA (buildL zs), 0)) := by
  unfold buildR
  by_cases h1 : [] ∈ zs
  · rw [if_pos h1]; exact .inl ⟨1, by omega, by omega, rfl⟩
  · rw [if_neg h1]
    by_cases h2 : RiseW zs
    · rw [if_pos h2]; exact .inr ⟨h1, h2, rfl⟩
    · rw [if_neg h2]; exact .inl ⟨9, by omega, by omega, rfl⟩
theorem built_fit {zs : List Wd} (h : (zs.map List.length).sum ≤ 1000000000) : (∀ s ∈ zA (buildL zs), ∀ e ∈ s.2, -9223372036854775808 ≤ e.2 ∧ e.2 ≤ 9223372036854775807) ∧ (zA (buildL zs)).length ≤ 1000000001 := by
  have hl := (build_len zs).2
  refine ⟨fun s hs e he => ?_, by rw [zA_len]; omega⟩
  obtain ⟨t, ht, rfl⟩ := List.mem_map.1 hs
  obtain ⟨d, hd, rfl⟩ := List.mem_map.1 he
  obtain ⟨i, hi, rfl⟩ := List.getElem_of_mem ht
  have := (build_good zs).low i _ (List.getElem?_eq_getElem hi) d hd
  simp only
  omega
end Go.Proofs.Ytkcledkfgmdcgaa
