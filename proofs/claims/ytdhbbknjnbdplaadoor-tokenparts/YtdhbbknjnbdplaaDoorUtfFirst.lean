/- Plain mathematics: the first place from which on all is pending, wherever it is looked for; what a first byte tells of its sequence. -/
import Derived.Test.YtdhbbknjnbdplaaDoorUtfMath
namespace Go.Proofs.YtdhbbknjnbdplaaDoor

theorem head_lead {b : List Int} (h : pendU b) : ¬ (0x80 ≤ headU b ∧ headU b ≤ 0xBF) := fun hc => by
  have := h.2.2.2
  rw [size_cont hc] at this
  omega

theorem goodT_lead (f : Int) : ∀ (n k : Nat) (r : List Int) (x : Int) (s : List Int), ¬ (0x80 ≤ x ∧ x ≤ 0xBF) → goodT f n k (r ++ x :: s) = goodT f n k r
  | _, 0, _, _, _, _ => by simp [goodT]
  | n, k + 1, [], x, s, hx => by
    have : fitsU f n x = false := by
      cases h : fitsU f n x with
      | false => rfl
      | true => exact absurd (fits_range h) hx
    simp [goodT, this]
  | n, k + 1, c :: r, x, s, hx => by
    simp only [List.cons_append, goodT, goodT_lead f (n + 1) k r x s hx]
theorem one_lead {b : List Int} (hb : b ≠ []) {s : List Int} (hs : s ≠ []) (hx : ¬ (0x80 ≤ headU s ∧ headU s ≤ 0xBF)) : oneU (b ++ s) = oneU b := by
  cases s with
  | nil => exact absurd rfl hs
  | cons x s =>
    refine one_app_of hb ?_
    cases b with
    | nil => exact absurd rfl hb
    | cons c r => simp only [List.cons_append, goodU, goodT_lead _ _ _ r x s (by simpa [headU] using hx)]

/-- All but the first byte of a sequence, up to its end, go on. -/
theorem goodT_conts (f : Int) : ∀ (n k : Nat) (r : List Int) (j : Nat), j < goodT f n k r → 0x80 ≤ r.getD j 0 ∧ r.getD j 0 ≤ 0xBF
  | _, 0, _, _, h => by simp [goodT] at h
  | _, _ + 1, [], _, h => by simp [goodT] at h
  | n, k + 1, c :: r, j, h => by
    simp only [goodT] at h
    by_cases hf : fitsU f n c = true
    · simp only [hf, if_true] at h
      cases j with
      | zero => simpa using fits_range hf
      | succ j => simpa using goodT_conts f (n + 1) k r j (by omega)
    · simp [hf] at h
theorem head_drop (b : List Int) (j : Nat) : headU (b.drop j) = b.getD j 0 := by
  unfold headU
  rw [List.getD, ← List.head?_drop]
  cases b.drop j <;> rfl
theorem good_conts {b : List Int} {j : Nat} (h0 : 0 < j) (h : j < goodU b) : 0x80 ≤ headU (b.drop j) ∧ headU (b.drop j) ≤ 0xBF := by
  rw [head_drop]
  cases b with
  | nil => simp [goodU] at h
  | cons c r =>
    simp only [goodU] at h
    split at h
    · omega
    · cases j with
      | zero => omega
      | succ j => simpa using goodT_conts c 1 (sizeU c - 1) r j (by omega)

theorem in_one {b : List Int} {j : Nat} (h0 : 0 < j) (h : j < (oneU b).2) : ¬ pendU (b.drop j) := fun hp => by
  refine head_lead hp (good_conts h0 ?_)
  unfold oneU at h
  split at h
  · simp at h; omega
  · rename_i hc
    simp only at h
    omega
theorem in_pend {b : List Int} {j : Nat} (hb : pendU b) (h0 : 0 < j) (h : j < b.length) : ¬ pendU (b.drop j) := fun hp =>
  head_lead hp (good_conts h0 (by rw [hb.2.2.1]; exact h))

theorem pend_ne {b : List Int} (h : pendU b) : b ≠ [] := fun e => by have := h.1; rw [e] at this; simp at this

/-- Wherever what is left is pending, that is what Feed leaves. -/
theorem feed_at (b : List Int) : ∀ j, pendU (b.drop j) → feedU b = (allU (b.take j), b.drop j) := by
  refine along (Q := fun b => ∀ j, pendU (b.drop j) → feedU b = (allU (b.take j), b.drop j)) (fun j h => absurd (pend_ne h) (by simp)) (fun b hb ih j hj => ?_) b
  have hjl : j < b.length := by
    have := pend_ne hj
    rcases Nat.lt_or_ge j b.length with h | h
    · exact h
    · exact absurd (List.drop_of_length_le h) this
  by_cases h0 : j = 0
  · subst h0
    rw [feed_pend (by simpa using hj)]; simp [all_nil]
  by_cases hp : pendU b
  · exact absurd hj (in_pend hp (by omega) hjl)
  have hk : (oneU b).2 ≤ j := by
    rcases Nat.lt_or_ge j (oneU b).2 with h | h
    · exact absurd hj (in_one (by omega) h)
    · exact h
  have hd : (b.drop (oneU b).2).drop (j - (oneU b).2) = b.drop j := by rw [List.drop_drop]; congr 1; omega
  have hi := ih (j - (oneU b).2) (by rw [hd]; exact hj)
  have ht : b.take j ≠ [] := by
    intro e
    have := congrArg List.length e
    rw [List.length_take, List.length_nil] at this
    omega
  have h1 : oneU b = oneU (b.take j) := by
    have := one_lead ht (s := b.drop j) (pend_ne hj) (head_lead hj)
    rwa [List.take_append_drop] at this
  rw [feed_step hb hp, hi, all_step ht, ← h1, hd, List.drop_take]

/-- The first place, among the last three, from which on all is pending; the end, if there is none. -/
theorem feed_first {b : List Int} {j : Nat} (hj : j ≤ b.length) (h1 : ∀ i, b.length - 3 ≤ i → i < j → ¬ pendU (b.drop i)) (h2 : j = b.length ∨ pendU (b.drop j)) : feedU b = (allU (b.take j), b.drop j) := by
  rcases h2 with rfl | h2
  · obtain ⟨a, ha⟩ := feed_end b
    have hn : (feedU b).2 = [] := by
      rcases feed_rest b with h | h
      · exact h
      · have hl := congrArg List.length ha
        rw [List.length_append] at hl
        have h3 := h.2.1
        have h0 := h.1
        have hd : b.drop a.length = (feedU b).2 := by
          conv => lhs; rw [ha]
          simp
        exact absurd (by rw [hd]; exact h) (h1 a.length (by omega) (by omega))
    have hall := feed_all b
    rw [hn, all_nil, List.append_nil] at hall
    rw [List.take_length, List.drop_length, hall, ← hn]
  · exact feed_at b j h2

/-! What FullRune asks: by how many bytes there are. -/
theorem pend_short {c : Int} {r : List Int} (h : sizeU c ≤ r.length + 1) : ¬ pendU (c :: r) := fun hp => by
  have := hp.2.2.2
  simp [headU] at this
  omega
theorem pend_1 {c : Int} (h : 2 ≤ sizeU c) : pendU [c] := by
  rw [pend_iff (by simp)]
  simp only [goodU, headU, List.headD_cons, List.length_cons, List.length_nil]
  rw [if_neg (by omega)]
  have : goodT c 1 (sizeU c - 1) [] = 0 := by cases sizeU c - 1 <;> simp [goodT]
  omega
theorem pend_2 {c d : Int} (h : 3 ≤ sizeU c) : pendU [c, d] ↔ fitsU c 1 d = true := by
  rw [pend_iff (by simp)]
  simp only [goodU, headU, List.headD_cons, List.length_cons, List.length_nil]
  rw [if_neg (by omega)]
  obtain ⟨k, hk⟩ : ∃ k, sizeU c - 1 = k + 1 + 1 := ⟨sizeU c - 3, by omega⟩
  rw [hk]
  by_cases hf : fitsU c 1 d = true
  · simp [goodT, hf]; omega
  · simp [goodT, hf]
theorem pend_3 {c d e : Int} (h : 4 ≤ sizeU c) : pendU [c, d, e] ↔ fitsU c 1 d = true ∧ (0x80 ≤ e ∧ e ≤ 0xBF) := by
  rw [pend_iff (by simp)]
  simp only [goodU, headU, List.headD_cons, List.length_cons, List.length_nil]
  rw [if_neg (by omega)]
  obtain ⟨k, hk⟩ : ∃ k, sizeU c - 1 = k + 1 + 1 + 1 := ⟨sizeU c - 4, by omega⟩
  have h2 : fitsU c 2 e = decide (0x80 ≤ e ∧ e ≤ 0xBF) := by simp [fitsU]
  rw [hk]
  by_cases hf : fitsU c 1 d = true
  · by_cases hg : 0x80 ≤ e ∧ e ≤ 0xBF
    · simp [goodT, hf, h2, hg]; omega
    · simp [goodT, hf, h2, hg]
  · simp [goodT, hf]
#print axioms feed_first
end Go.Proofs.YtdhbbknjnbdplaaDoor
