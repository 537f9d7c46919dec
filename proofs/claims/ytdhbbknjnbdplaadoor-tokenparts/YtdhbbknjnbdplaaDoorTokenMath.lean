/- Plain mathematics of bytes as words: joined, counted, and piece by piece. -/
import Derived.Test.YtdhbbknjnbdplaaDoorWordsMath
import Derived.Test.YtdhbbknjnbdplaaDoorNumMath
namespace Go.Proofs.YtdhbbknjnbdplaaDoor
set_option linter.unusedVariables false

theorem all_range {zs : List Int} (h8 : isBytes zs) : ∀ z ∈ allU zs, -2147483648 ≤ z ∧ z ≤ 2147483647 := fun z hz => by
  have h1 := all_valid zs h8 z hz
  have h2 := fix_ok z
  omega
theorem feed_range {zs : List Int} (h8 : isBytes zs) : ∀ z ∈ (feedU zs).1, -2147483648 ≤ z ∧ z ≤ 2147483647 := fun z hz =>
  all_range h8 z (by rw [feed_all]; exact List.mem_append_left _ hz)
theorem feed_rest_bytes {zs : List Int} (h8 : isBytes zs) : isBytes (feedU zs).2 := fun z hz => by
  obtain ⟨a, ha⟩ := feed_end zs
  exact h8 z (by rw [ha]; exact List.mem_append_right _ hz)
theorem feed_rest_len (zs : List Int) : (feedU zs).2.length ≤ 3 := by
  rcases feed_rest zs with h | h
  · rw [h]; simp
  · exact h.2.1
theorem all_leT : ∀ (b : List Int), (allU b).length ≤ b.length :=
  along (by simp [all_nil]) fun b hb ih => by
    rw [all_step hb]
    have h1 := one_pos b
    have h2 := one_le hb
    rw [List.length_drop] at ih
    simp only [List.length_cons]
    omega
theorem feed_runes_le (b : List Int) : (feedU b).1.length ≤ b.length := by
  have := all_leT b
  rw [feed_all, List.length_append] at this
  omega

/-- A rune that is neither letter nor mark parts words. -/
theorem words_joins (l r : List Int) (c : Int) (hl : letterF c = false) (hm : markF c = false) : wordsW (l ++ c :: r) = wordsW l ++ wordsW r := by
  rw [← feed_words (l ++ c :: r), ← feed_words l, ← feed_words r, feedW_app]
  have hs : ∀ s, stepW s c = (tellW s, zeroW) := fun s => by simp [stepW, hl, hm]
  simp only [feedW, hs, List.append_assoc]
/-- A byte below 128 parts bytes. -/
theorem all_joins (x : Int) (hx : 0 ≤ x ∧ x < 128) (b : List Int) : ∀ a : List Int, allU (a ++ x :: b) = allU a ++ x :: allU b :=
  along (by
    have h1 : oneU (x :: b) = (x, 1) := by
      have hs : sizeU x = 1 := by unfold sizeU; rw [if_pos hx.2]
      have hg : goodU (x :: b) = 1 := by simp [goodU, hs, goodT]
      simp [oneU, headU, hs, hg, valU]
    rw [List.nil_append, all_step (by simp), h1, all_nil]
    simp) fun a ha ih => by
    have h1 := one_stop ha x b hx.2
    rw [all_step (by simp), h1, all_step ha, List.drop_append_of_le_length (one_le ha), ih]
    simp
theorem token_joins (a b : List Int) : wordsW (allU (a ++ 10 :: b)) = wordsW (allU a) ++ wordsW (allU b) := by
  rw [all_joins 10 (by decide), words_joins _ _ 10 (by decide) (by decide)]

/-- How many letters there are. -/
def nlet (l : List Int) : Nat := (l.filter letterF).length
theorem nlet_cons (c : Int) (l : List Int) : nlet (c :: l) = (if letterF c then 1 else 0) + nlet l := by
  unfold nlet
  rw [List.filter_cons]
  split <;> simp <;> omega
theorem nlet_le (c : Int) (l : List Int) : nlet (c :: l) ≤ 1 + nlet l := by rw [nlet_cons]; split <;> omega
theorem told_count : ∀ (l : List Int) (u : UnderW), (feedW u l).1.length + (tellW (feedW u l).2).length ≤ (tellW u).length + nlet l
  | [], u => by simp [feedW, nlet]
  | c :: r, u => by
    have ih := told_count r (stepW u c).2
    have hs : (stepW u c).1.length + (tellW (stepW u c).2).length ≤ (tellW u).length + (if letterF c then 1 else 0) := by
      unfold stepW
      cases hc : letterF c with
      | true =>
        simp only [if_true, List.length_nil, Nat.zero_add]
        have : ∀ v : UnderW, (tellW v).length ≤ 1 := fun v => by unfold tellW; split <;> simp
        have := this (if u.long = true ∨ 32 < (moreW u c).length then ⟨[], false, true⟩ else ⟨moreW u c, false, false⟩)
        omega
      | false =>
        simp only [Bool.false_eq_true, if_false]
        split
        · simp [tellW]
        · simp [tellW, zeroW]
    rw [nlet_cons]
    simp only [feedW, List.length_append]
    omega
theorem nlet_all : ∀ (b : List Int), nlet (allU b) ≤ b.length :=
  along (by simp [all_nil, nlet]) fun b hb ih => by
    rw [all_step hb]
    have h0 := nlet_le (oneU b).1 (allU (b.drop (oneU b).2))
    have h1 := one_pos b
    have h2 := one_le hb
    rw [List.length_drop] at ih
    omega
theorem nlet_conts (b : List Int) : ∀ (q : List Int), (∀ c ∈ q, 0x80 ≤ c ∧ c ≤ 0xBF) → nlet (allU (q ++ b)) ≤ b.length
  | [], _ => nlet_all b
  | c :: q, h => by
    have h1 : oneU ((c :: q) ++ b) = (65533, 1) := by simp [oneU, headU, size_cont (h c (by simp))]
    rw [all_step (by simp), h1]
    have := nlet_conts b q (fun x hx => h x (by simp [hx]))
    rw [nlet_cons, if_neg (by decide)]
    simpa using this
theorem nlet_pend (p b : List Int) (h : p = [] ∨ pendU p) : nlet (allU (p ++ b)) ≤ b.length := by
  rcases h with rfl | h
  · exact nlet_all b
  · have hne : p ≠ [] := fun e => by rw [e] at h; have := h.1; simp at this
    have hne2 : p ++ b ≠ [] := by simp [hne]
    rw [all_step hne2]
    by_cases ho : sizeU (headU (p ++ b)) = 0 ∨ goodU (p ++ b) < sizeU (headU (p ++ b))
    · have h1 : oneU (p ++ b) = (65533, 1) := by unfold oneU; rw [if_pos ho]
      rw [h1, nlet_cons, if_neg (by decide)]
      cases p with
      | nil => exact absurd rfl hne
      | cons f r =>
        have hg : goodU (f :: r) = (f :: r).length := h.2.2.1
        have hc : ∀ c ∈ r, 0x80 ≤ c ∧ c ≤ 0xBF := by
          refine goodT_all f 1 (sizeU f - 1) r ?_
          simp only [goodU, List.length_cons] at hg
          split at hg <;> omega
        simpa using nlet_conts b r hc
    · have h1 : oneU (p ++ b) = (valU (p ++ b), sizeU (headU (p ++ b))) := by unfold oneU; rw [if_neg ho]
      have h2 := one_le hne2
      have h3 := h.2.2.2
      rw [← head_app (s := b) hne] at h3
      rw [h1] at h2 ⊢
      simp only at h2 ⊢
      have h4 := nlet_le (valU (p ++ b)) (allU ((p ++ b).drop (sizeU (headU (p ++ b)))))
      have h5 := nlet_all ((p ++ b).drop (sizeU (headU (p ++ b))))
      rw [List.length_drop] at h5
      rw [List.length_append] at h2 h5
      omega
theorem words_count (a : List Int) : (wordsW (allU a)).length ≤ a.length := by
  rw [← feed_words, List.length_append]
  have h1 := told_count (allU a) zeroW
  have h2 := nlet_all a
  have h3 : (tellW zeroW).length = 0 := rfl
  omega

/-- What is pending and under way, when so many bytes were fed. -/
def pendT (a : List Int) : List Int := (feedU a).2
def toldT (a : List Int) : List (List Int) := (feedW zeroW (feedU a).1).1
def underT (a : List Int) : UnderW := (feedW zeroW (feedU a).1).2
theorem told_more (a c : List Int) : toldT (a ++ c) = toldT a ++ (feedW (underT a) (feedU (pendT a ++ c)).1).1 := by
  unfold toldT underT pendT
  rw [feed_parts, feedW_app]
theorem under_more (a c : List Int) : underT (a ++ c) = (feedW (underT a) (feedU (pendT a ++ c)).1).2 := by
  unfold underT pendT
  rw [feed_parts, feedW_app]
theorem pend_more (a c : List Int) : pendT (a ++ c) = (feedU (pendT a ++ c)).2 := by
  unfold pendT
  rw [feed_parts]
/-- The words of what is pending and under way at the end. -/
def endT (p : List Int) (u : UnderW) : List (List Int) := (feedW u (allU p)).1 ++ tellW (feedW u (allU p)).2
theorem end_all (a : List Int) : toldT a ++ endT (pendT a) (underT a) = wordsW (allU a) := by
  rw [← feed_words (allU a), feed_all a, feedW_app]
  unfold toldT endT underT pendT
  simp [List.append_assoc]
theorem under_ok (a : List Int) : OkW (underT a) := feed_ok _ zero_ok
theorem pend_ok (a : List Int) : pendT a = [] ∨ pendU (pendT a) := feed_rest a
theorem end_count (p : List Int) (u : UnderW) (b : List Int) (h : p = [] ∨ pendU p) :
    (feedW u (feedU (p ++ b)).1).1.length + (endT (feedU (p ++ b)).2 (feedW u (feedU (p ++ b)).1).2).length ≤ b.length + 1 := by
  have h1 := told_count (allU (p ++ b)) u
  have h2 := nlet_pend p b h
  have h3 : (tellW u).length ≤ 1 := by unfold tellW; split <;> simp
  rw [feed_all (p ++ b), feedW_app] at h1
  simp only [List.length_append] at h1
  rw [← feed_all] at h1
  unfold endT
  rw [List.length_append]
  omega
end Go.Proofs.YtdhbbknjnbdplaaDoor
