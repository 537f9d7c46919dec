/- Counts, Of and Word of whatever states. -/
import Derived.Test.YtkcledkfgmdcgaaIndexCode
import Derived.Test.YtkcledkfgmdcgaaIndexAll
import Derived.Test.YtkcledkfgmdcgaaDawForm
namespace Go.Proofs.Ytkcledkfgmdcgaa
open Go.RowKit
set_option linter.unusedVariables false
set_option linter.unusedSimpArgs false

theorem icounts_all {w : World} {ao : Option Addr} {len cap : Nat} {A : List StZ} (h : ReadsA w ao len cap A) (hl : len ≤ 10000000000000) (hz : ∀ s ∈ A, ∀ e ∈ s.2, -9223372036854775808 ≤ e.2 ∧ e.2 ≤ 9223372036854775807) :
    Calls Try.prog 12 #[.slice ao len cap] w fun e w' => CountsAll w A len e w' := by
  by_cases hM : MayP A
  · obtain ⟨zs, h1, h2, rfl⟩ := may_built.1 hM
    have hc := h.count
    rw [zA_len] at hc
    refine (icounts_gen h h1 h2 (by omega)).mono ?_
    rintro e w' ⟨ag, m, c, rfl, hr, hB⟩
    refine ⟨ag, m, c, _, rfl, .inl ⟨hM, ?_⟩, hB⟩
    have hl2 := hr.length
    unfold countsR at hl2 ⊢
    by_cases h3 : ∀ i, i < (buildL zs).length → (langS (buildL zs) i).length ≤ 4611686018427387904
    · rw [if_pos h3] at hl2 ⊢
      left
      refine ⟨rfl, ?_⟩
      simp only [zN, List.length_map, counts_len] at hl2
      omega
    · rw [if_neg h3]; exact .inr rfl
  · refine (icounts_not h hl hz hM).mono ?_
    rintro e w' ⟨ag, c, rfl, hB⟩
    exact ⟨ag, 0, c, 1, rfl, .inr ⟨hM, rfl, rfl⟩, hB⟩
theorem iof_all {w : World} {ao : Option Addr} {len cap : Nat} {A : List StZ} (h : ReadsA w ao len cap A) (hl : len ≤ 10000000000000) (hz : ∀ s ∈ A, ∀ e ∈ s.2, -9223372036854775808 ≤ e.2 ∧ e.2 ≤ 9223372036854775807) (k : Wd) (hk : k.length ≤ 140737488351232) :
    Calls Try.prog 14 #[.slice ao len cap, strV k] w fun e w' => OfAll w A e w' := by
  by_cases hM : MayP A
  · obtain ⟨zs, h1, h2, rfl⟩ := may_built.1 hM
    have hc := h.count
    rw [zA_len] at hc
    refine (iof_gen h h1 h2 (by omega) k hk).mono ?_
    rintro e w' ⟨rfl, hB⟩
    exact ⟨_, _, rfl, .inl hM, hB⟩
  · refine (iof_not h hl hz hM k hk).mono ?_
    rintro e w' ⟨rfl, hB⟩
    exact ⟨_, _, rfl, .inr ⟨rfl, rfl⟩, hB⟩
theorem iword_all {w : World} {ao : Option Addr} {len cap : Nat} {A : List StZ} (h : ReadsA w ao len cap A) (hl : len ≤ 10000000000000) (hz : ∀ s ∈ A, ∀ e ∈ s.2, -9223372036854775808 ≤ e.2 ∧ e.2 ≤ 9223372036854775807) (n : Int) (hn0 : -9223372036854775808 ≤ n) (hn1 : n ≤ 9223372036854775807) :
    Calls Try.prog 16 #[.slice ao len cap, .int .i64 n] w fun e w' => WordAll w A e w' := by
  by_cases hM : MayP A
  · obtain ⟨zs, h1, h2, rfl⟩ := may_built.1 hM
    have hc := h.count
    rw [zA_len] at hc
    refine (iword_gen h h1 h2 (by omega) n hn0 hn1).mono ?_
    rintro e w' ⟨rfl, hB⟩
    exact ⟨_, _, rfl, .inl hM, hB⟩
  · refine (iword_not h hl hz hM n hn0 hn1).mono ?_
    rintro e w' ⟨rfl, hB⟩
    exact ⟨_, _, rfl, .inr ⟨rfl, rfl⟩, hB⟩
end Go.Proofs.Ytkcledkfgmdcgaa
