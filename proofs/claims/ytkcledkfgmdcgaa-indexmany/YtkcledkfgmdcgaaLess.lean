/- The order of words, byte by byte. -/
import Derived.Test.YtkcledkfgmdcgaaFound
import Derived.Lib.Bytealg
namespace Go.Proofs.Ytkcledkfgmdcgaa
set_option linter.unusedVariables false
set_option linter.unusedSimpArgs false

abbrev Wd := List UInt8
abbrev En := List UInt8 × Nat
/-- The order of words, byte by byte. -/
abbrev lessB : Wd → Wd → Bool := Go.Op.bytesLess

theorem less_nil (a : Wd) : lessB a [] = false := by cases a <;> rfl
theorem less_cons (a b : UInt8) (x y : Wd) : lessB (a :: x) (b :: y) = (decide (a < b) || (a == b && lessB x y)) := rfl
theorem less_irrefl : ∀ a : Wd, lessB a a = false
  | [] => rfl
  | a :: x => by rw [less_cons, less_irrefl x]; simp
theorem less_trans : ∀ a b c : Wd, lessB a b = true → lessB b c = true → lessB a c = true
  | _, [], _, h, _ => by rw [less_nil] at h; cases h
  | _, _ :: _, [], _, h => by rw [less_nil] at h; cases h
  | [], _ :: _, _ :: _, _, _ => rfl
  | a :: x, b :: y, c :: z, h, k => by
    rw [less_cons] at h k ⊢
    simp only [Bool.or_eq_true, decide_eq_true_eq, Bool.and_eq_true, beq_iff_eq] at h k ⊢
    rcases h with h | ⟨rfl, h⟩
    · rcases k with k | ⟨rfl, k⟩
      · exact .inl (UInt8.lt_trans h k)
      · exact .inl h
    · rcases k with k | ⟨rfl, k⟩
      · exact .inl k
      · exact .inr ⟨rfl, less_trans x y z h k⟩
theorem less_tri : ∀ a b : Wd, lessB a b = false → lessB b a = false → a = b
  | [], [], _, _ => rfl
  | [], _ :: _, h, _ => by cases h
  | _ :: _, [], _, h => by cases h
  | a :: x, b :: y, h, k => by
    rw [less_cons] at h k
    simp only [Bool.or_eq_false_iff, decide_eq_false_iff_not, Bool.and_eq_false_iff, beq_eq_false_iff_ne] at h k
    have e : a = b := by
      apply UInt8.toNat_inj.1
      have h1 := h.1
      have k1 := k.1
      rw [UInt8.lt_iff_toNat_lt] at h1 k1
      omega
    subst e
    rw [less_tri x y (by rcases h.2 with h | h; exact absurd rfl h; exact h) (by rcases k.2 with k | k; exact absurd rfl k; exact k)]
theorem less_asymm (a b : Wd) (h : lessB a b = true) : lessB b a = false := by
  cases e : lessB b a with
  | false => rfl
  | true => have := less_trans a b a h e; rw [less_irrefl] at this; cases this
theorem less_ne {a b : Wd} (h : lessB a b = true) : a ≠ b := fun e => by subst e; rw [less_irrefl] at h; cases h
theorem cmp_less : ∀ a b : Wd, decide (Lib.compareBytes a b < 0) = lessB a b
  | [], [] => rfl
  | [], _ :: _ => rfl
  | _ :: _, [] => rfl
  | a :: x, b :: y => by
    rw [less_cons]
    unfold Lib.compareBytes
    by_cases h : a < b
    · simp [h]
    · by_cases k : b < a
      · have hne : a ≠ b := fun e => by subst e; exact h k
        simp [h, k, hne]
      · have e : a = b := by
          apply UInt8.toNat_inj.1
          rw [UInt8.lt_iff_toNat_lt] at h k
          omega
        subst e
        rw [if_neg h, if_neg h, cmp_less x y]
        simp
end Go.Proofs.Ytkcledkfgmdcgaa
