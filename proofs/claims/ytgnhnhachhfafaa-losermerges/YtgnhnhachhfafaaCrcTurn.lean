/- Plain mathematics: bytes of which one is another one, or two stand in each other's places. -/
import Derived.Test.YtgnhnhachhfafaaCrcMath
namespace Go.Proofs.Ytgnhnhachhfafaa

theorem cut_at (zs : List Int) (k : Nat) (h : k < zs.length) : zs = zs.take k ++ zs.getD k 0 :: zs.drop (k + 1) := by
  rw [← drop_at zs k h, List.take_append_drop]

theorem set_at (zs : List Int) (k : Nat) (y : Int) (h : k < zs.length) : zs.set k y = zs.take k ++ y :: zs.drop (k + 1) := by
  rw [List.set_eq_take_append_cons_drop, if_pos h]

theorem turned_set {zs : List Int} {k : Nat} {y : Int} (h8 : isBytes zs) (h : k < zs.length) (hy : 0 ≤ y ∧ y ≤ 255) (hne : y ≠ zs.getD k 0) : ofL (zs.set k y) ≠ ofL zs := by
  intro he
  rw [set_at zs k y h] at he
  conv at he => rhs; rw [cut_at zs k h]
  exact hne (of_turned (by rw [← cut_at zs k h]; exact h8) hy he)

theorem swap_list (zs : List Int) (k : Nat) (h : k + 1 < zs.length) :
    (zs.set k (zs.getD (k + 1) 0)).set (k + 1) (zs.getD k 0) = zs.take k ++ zs.getD (k + 1) 0 :: zs.getD k 0 :: zs.drop (k + 2) ∧ zs = zs.take k ++ zs.getD k 0 :: zs.getD (k + 1) 0 :: zs.drop (k + 2) := by
  have e2 : zs = zs.take k ++ zs.getD k 0 :: zs.getD (k + 1) 0 :: zs.drop (k + 2) := by
    rw [← drop_at zs (k + 1) h, ← drop_at zs k (by omega), List.take_append_drop]
  refine ⟨?_, e2⟩
  generalize zs.getD k 0 = x at *
  generalize zs.getD (k + 1) 0 = y at *
  have hl : (zs.take k).length = k := by simp; omega
  conv => lhs; rw [e2]
  generalize zs.take k = p at *
  generalize zs.drop (k + 2) = q at *
  subst hl
  simp

theorem swap_ne {zs : List Int} {k : Nat} (h8 : isBytes zs) (h : k + 1 < zs.length) (hne : zs.getD k 0 ≠ zs.getD (k + 1) 0) : ofL ((zs.set k (zs.getD (k + 1) 0)).set (k + 1) (zs.getD k 0)) ≠ ofL zs := by
  obtain ⟨e1, e2⟩ := swap_list zs k h
  intro he
  rw [e1] at he
  conv at he => rhs; rw [e2]
  exact hne (of_swapped (by rw [← e2]; exact h8) he)

theorem swap_eq {zs : List Int} {k : Nat} (h : k + 1 < zs.length) (he : zs.getD k 0 = zs.getD (k + 1) 0) : (zs.set k (zs.getD (k + 1) 0)).set (k + 1) (zs.getD k 0) = zs := by
  obtain ⟨e1, e2⟩ := swap_list zs k h
  rw [e1]
  conv => rhs; rw [e2]
  rw [he]

theorem isBytes.set {zs : List Int} {k : Nat} {y : Int} (h8 : isBytes zs) (hy : 0 ≤ y ∧ y ≤ 255) : isBytes (zs.set k y) := fun z hz => by
  rcases List.mem_or_eq_of_mem_set hz with h | h
  · exact h8 z h
  · rw [h]; exact hy

theorem xor3_take : ∀ (j : Nat) (l bs cs : List Int), j < l.length → j < bs.length → j < cs.length →
    xor3 (l.take (j + 1)) (bs.take (j + 1)) (cs.take (j + 1)) = xor3 (l.take j) (bs.take j) (cs.take j) ++ [(((l.getD j 0).toNat ^^^ (bs.getD j 0).toNat ^^^ (cs.getD j 0).toNat : Nat) : Int)]
  | j, [], _, _, h, _, _ => by simp at h
  | j, _ :: _, [], _, _, h, _ => by simp at h
  | j, _ :: _, _ :: _, [], _, _, h => by simp at h
  | 0, a :: l, b :: bs, c :: cs, _, _, _ => by simp [xor3]
  | j + 1, a :: l, b :: bs, c :: cs, h1, h2, h3 => by
    have := xor3_take j l bs cs (by simpa using h1) (by simpa using h2) (by simpa using h3)
    simp only [List.take_succ_cons, xor3, List.getD_cons_succ, List.cons_append, this]

theorem xor3_bytes : ∀ (l bs cs : List Int), isBytes l → isBytes bs → isBytes cs → isBytes (xor3 l bs cs)
  | [], _, _, _, _, _ => fun z hz => by simp [xor3] at hz
  | _ :: _, [], _, _, _, _ => fun z hz => by simp [xor3] at hz
  | _ :: _, _ :: _, [], _, _, _ => fun z hz => by simp [xor3] at hz
  | a :: l, b :: bs, c :: cs, h1, h2, h3 => fun z hz => by
    simp only [xor3, List.mem_cons] at hz
    rcases hz with rfl | hz
    · have e1 := byte_lt (h1 a List.mem_cons_self)
      have e2 := byte_lt (h2 b List.mem_cons_self)
      have e3 := byte_lt (h3 c List.mem_cons_self)
      have := Nat.xor_lt_two_pow (n := 8) (Nat.xor_lt_two_pow (n := 8) e1 e2) e3
      omega
    · exact xor3_bytes l bs cs h1.tail h2.tail h3.tail z hz

theorem turn_ne (x y : Nat) : x ^^^ (y ||| 1) ≠ x := by
  intro h
  have h1 : x ^^^ (y ||| 1) = x ^^^ 0 := by rw [h, Nat.xor_zero]
  have h2 := xor_inj h1
  have h3 : 1 ≤ y ||| 1 := Nat.right_le_or
  omega
end Go.Proofs.Ytgnhnhachhfafaa
