/- Plain mathematics of records: payloads are bytes; where records end. -/
import Derived.Test.YtgnhnhachhfafaaFrameMath
namespace Go.Proofs.Ytgnhnhachhfafaa

theorem get_bytes {zs : List Int} (h8 : isBytes zs) : isBytes (getR zs).1 := by
  have h0 : isBytes [] := fun z hz => by simp at hz
  unfold getR
  split
  · exact h0
  · split
    · exact h0
    · split
      · exact h0
      · split
        · exact fun z hz => h8 z (List.mem_of_mem_drop (List.mem_of_mem_take hz))
        · exact h0

theorem get_errs (zs : List Int) : (getR zs).2.2 = 0 ∨ (getR zs).2.2 = 2 ∨ (getR zs).2.2 = 3 ∨ (getR zs).2.2 = 4 := by
  have h := scan_err zs 0 0 (getL zs).1 (getL zs).2.1 (getL zs).2.2 rfl
  unfold getR
  split
  · simp only; omega
  · split
    · simp
    · split
      · simp
      · split <;> simp

theorem scanF_bytes (f : Nat) : ∀ (zs : List Int), isBytes zs → ∀ l ∈ (scanF f zs).1, isBytes l := by
  induction f with
  | zero => intro zs _ l hl; simp [scanF] at hl
  | succ f ih =>
    intro zs h8 l hl
    unfold scanF at hl
    split at hl
    · simp only [List.mem_cons] at hl
      rcases hl with rfl | hl
      · exact get_bytes h8
      · exact ih _ (fun z hz => h8 z (List.mem_of_mem_drop hz)) l hl
    · simp at hl

theorem scan_bytes {zs : List Int} (h8 : isBytes zs) : ∀ l ∈ (scanR zs).1, isBytes l := scanF_bytes _ zs h8

theorem scanF_len (f : Nat) : ∀ (zs : List Int), 4 * (scanF f zs).1.length ≤ zs.length ∧ (scanF f zs).2 ≤ zs.length := by
  induction f with
  | zero => intro zs; simp [scanF]
  | succ f ih =>
    intro zs
    unfold scanF
    split
    · rename_i h0
      rcases hr : getR zs with ⟨p, m, e⟩
      rw [hr] at h0
      have h0 : e = 0 := h0
      subst h0
      obtain ⟨g1, g2⟩ := get_len hr
      have := ih (zs.drop m)
      simp only [List.length_drop] at this
      simp only [List.length_cons]
      omega
    · simp
theorem scan_len (zs : List Int) : 4 * (scanR zs).1.length ≤ zs.length ∧ (scanR zs).2 ≤ zs.length := scanF_len _ zs
end Go.Proofs.Ytgnhnhachhfafaa
