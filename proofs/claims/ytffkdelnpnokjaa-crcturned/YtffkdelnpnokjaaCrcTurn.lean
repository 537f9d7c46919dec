/- Plain mathematics: bytes of which one is another one, or two stand in each other's places. -/
import Derived.Test.YtffkdelnpnokjaaCrcMath
namespace Go.Proofs.Ytffkdelnpnokjaa

theorem cut_at (zs : List Int) (k : Nat) (h : k < zs.length) : zs = zs.take k ++ zs.getD k 0 :: zs.drop (k + 1) := by
  rw [← drop_at zs k h, List.take_append_drop]

theorem set_at (zs : List Int) (k : Nat) (y : Int) (h : k < zs.length) : zs.set k y = zs.take k ++ y :: zs.drop (k + 1) := by
  rw [List.set_eq_take_append_cons_drop, if_pos h]

theorem turned_set {zs : List Int} {k : Nat} {y : Int} (h8 : isBytes zs) (h : k < zs.length) (hy : 0 ≤ y ∧ y ≤ 255) (hne : y ≠ zs.getD k 0) : ofL (zs.set k y) ≠ ofL zs := by
  intro he
  rw [set_at zs k y h] at he
  conv at he => rhs; rw [cut_at zs k h]
  exact hne (of_turned (by rw [← cut_at zs k h]; exact h8) hy he)

theorem swap_list (zs : List Int) (k : Nat) (h : k + 1 < zs.length) :
    (zs.set k (zs.getD (k + 1) 0)).set (k + 1) (zs.getD k 0) = zs.take k ++ zs.getD (k + 1) 0 :: zs.getD k 0 :: zs.drop (k + 2) ∧ zs = zs.take k ++ zs.getD k 0 :: zs.getD (k + 1) 0 :: zs.drop (k + 2) := by
  have e2 : zs = zs.take k ++ zs.getD k 0 :: zs.getD (k + 1) 0 :: zs.drop (k + 2) := by
    rw [← drop_at zs (k + 1) h, ← drop_at zs k (by omega), List.take_append_drop]
  refine ⟨?_, e2⟩
  generalize zs.getD k 0 = x at *
  generalize zs.getD (k + 1) 0 = y at *
  have hl : (zs.take k).length = k := by simp; omega
  conv => lhs; rw [e2]
  generalize zs.take k = p at *
  generalize zs.drop (k + 2) = q at *
  subst hl
  simp

theorem swap_ne {zs : List Int} {k : Nat} (h8 : isBytes zs) (h : k + 1 < zs.length) (hne : zs.getD k 0 ≠ zs.getD (k + 1) 0) : ofL ((zs.set k (zs.getD (k + 1) 0)).set (k + 1) (zs.getD k 0)) ≠ ofL zs := by
  obtain ⟨e1, e2⟩ := swap_list zs k h
  intro he
  rw [e1] at he
  conv at he => rhs; rw [e2]
  exact hne (of_swapped (by rw [← e2]; exact h8) he)

theorem swap_eq {zs : List Int} {k : Nat} (h : k + 1 < zs.length) (he : zs.getD k 0 = zs.getD (k + 1) 0) : (zs.set k (zs.getD (k + 1) 0)).set (k + 1) (zs.getD k 0) = zs := by
  obtain ⟨e1, e2⟩ := swap_list zs k h
  rw [e1]
  conv => rhs; rw [e2]
  rw [he]

theorem isBytes.set {zs : List Int} {k : Nat} {y : Int} (h8 : isBytes zs) (hy : 0 ≤ y ∧ y ≤ 255) : isBytes (zs.set k y) := fun z hz => by
  rcases List.mem_or_eq_of_mem_set hz with h | h
  · exact h8 z h
  · rw [h]; exact hy

theorem turn_ne (x y : Nat) : x ^^^ (y ||| 1) ≠ x := by
  intro h
  have h1 : x ^^^ (y ||| 1) = x ^^^ 0 := by rw [h, Nat.xor_zero]
  have h2 := xor_inj h1
  have h3 : 1 ≤ y ||| 1 := Nat.right_le_or
  omega
end Go.Proofs.Ytffkdelnpnokjaa
