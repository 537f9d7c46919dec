/- Plain mathematics of runes as words: stretch by stretch, and by a machine that is fed piece by piece. -/
import Derived.Test.YtdhbbknjnbdplaaDoorFoldMath
namespace Go.Proofs.YtdhbbknjnbdplaaDoor
set_option linter.unusedVariables false

/-- A stretch's word, if it is short. -/
def flushW (acc : List Int) : List (List Int) := if acc = [] ∨ 32 < acc.length then [] else [acc]
def nextL : List Int → Bool
  | [] => false
  | c :: _ => letterF c
/-- The words of runes, behind a letter or not, with the stretch so far. -/
def goW : Bool → List Int → List Int → List (List Int)
  | _, acc, [] => flushW acc
  | prev, acc, c :: r => if letterF c then goW true (acc ++ [foldF c]) r else if (markF c && prev && nextL r) = true then goW false (acc ++ [39]) r else flushW acc ++ goW false [] r
def wordsW (l : List Int) : List (List Int) := goW false [] l

theorem flush_nil : flushW [] = [] := by simp [flushW]
theorem goW_letter {prev : Bool} {acc : List Int} {c : Int} {r : List Int} (h : letterF c = true) : goW prev acc (c :: r) = goW true (acc ++ [foldF c]) r := by simp [goW, h]
theorem goW_mark {acc : List Int} {c : Int} {r : List Int} (h : letterF c = false) (hm : markF c = true) (hn : nextL r = true) : goW true acc (c :: r) = goW false (acc ++ [39]) r := by simp [goW, h, hm, hn]
theorem goW_end {prev : Bool} {acc : List Int} {c : Int} {r : List Int} (h : letterF c = false) (hm : (markF c && prev && nextL r) = false) : goW prev acc (c :: r) = flushW acc ++ goW false [] r := by
  rw [goW, h, hm]; simp

/-- What is under way: the word up to its last letter, whether a mark stands behind it, whether it is too long. -/
structure UnderW where
  word : List Int
  mark : Bool
  long : Bool
def zeroW : UnderW := ⟨[], false, false⟩
def tellW (s : UnderW) : List (List Int) := if s.word = [] then [] else [s.word]
def moreW (s : UnderW) (c : Int) : List Int := s.word ++ (if s.mark then [39] else []) ++ [foldF c]
def stepW (s : UnderW) (c : Int) : List (List Int) × UnderW :=
  if letterF c then ([], if s.long = true ∨ 32 < (moreW s c).length then ⟨[], false, true⟩ else ⟨moreW s c, false, false⟩)
  else if markF c = true ∧ s.mark = false ∧ (s.word ≠ [] ∨ s.long = true) then ([], ⟨s.word, true, s.long⟩)
  else (tellW s, zeroW)
def feedW : UnderW → List Int → List (List Int) × UnderW
  | s, [] => ([], s)
  | s, c :: r => ((stepW s c).1 ++ (feedW (stepW s c).2 r).1, (feedW (stepW s c).2 r).2)

theorem feedW_app : ∀ (a b : List Int) (s : UnderW), feedW s (a ++ b) = ((feedW s a).1 ++ (feedW (feedW s a).2 b).1, (feedW (feedW s a).2 b).2)
  | [], b, s => by simp [feedW]
  | c :: a, b, s => by simp [feedW, feedW_app a b]

/-- A State that can be. -/
structure OkW (s : UnderW) : Prop where
  short : s.word.length ≤ 32
  long : s.long = true → s.word = []
  mark : s.mark = true → s.word ≠ [] ∨ s.long = true
theorem zero_ok : OkW zeroW := ⟨by simp [zeroW], fun h => rfl, fun h => by simp [zeroW] at h⟩
theorem step_ok {s : UnderW} (h : OkW s) (c : Int) : OkW (stepW s c).2 := by
  unfold stepW
  split
  · dsimp only
    split
    · exact ⟨by simp, fun _ => rfl, fun h => by simp at h⟩
    · rename_i hn
      exact ⟨by dsimp only; omega, fun h => by simp at h, fun h => by simp at h⟩
  · split
    · rename_i hm
      exact ⟨h.short, h.long, fun _ => hm.2.2⟩
    · exact zero_ok
theorem feed_ok : ∀ (l : List Int) {s : UnderW}, OkW s → OkW (feedW s l).2
  | [], s, h => h
  | c :: l, s, h => feed_ok l (step_ok h c)

/-- How what is under way stands to the stretch. -/
structure RelW (s : UnderW) (acc : List Int) : Prop where
  long : s.long = true → s.word = [] ∧ 32 < acc.length
  short : s.long = false → acc = s.word ∧ s.word.length ≤ 32
  mark : s.mark = true → acc ≠ []
theorem RelW.tell {s : UnderW} {acc : List Int} (h : RelW s acc) : tellW s = flushW acc := by
  unfold tellW flushW
  cases hL : s.long with
  | true => obtain ⟨h1, h2⟩ := h.long hL; rw [if_pos h1, if_pos (.inr h2)]
  | false =>
    obtain ⟨h1, h2⟩ := h.short hL
    subst h1
    by_cases hw : s.word = []
    · rw [if_pos hw, if_pos (.inl hw)]
    · rw [if_neg hw, if_neg (by rintro (h | h); exact hw h; omega)]
theorem RelW.under {s : UnderW} {acc : List Int} (h : RelW s acc) : (s.word ≠ [] ∨ s.long = true) ↔ acc ≠ [] := by
  cases hL : s.long with
  | true =>
    obtain ⟨h1, h2⟩ := h.long hL
    exact ⟨fun _ e => by rw [e] at h2; simp at h2, fun _ => .inr rfl⟩
  | false => obtain ⟨h1, h2⟩ := h.short hL; rw [h1]; simp
theorem zero_rel : RelW zeroW [] := ⟨fun h => by simp [zeroW] at h, fun _ => ⟨rfl, by simp [zeroW]⟩, fun h => by simp [zeroW] at h⟩

def restW (s : UnderW) (acc l : List Int) : List (List Int) :=
  if s.mark = true then (if nextL l = true then goW false (acc ++ [39]) l else flushW acc ++ goW false [] l) else goW (decide (acc ≠ [])) acc l

theorem feedW_rest : ∀ (l : List Int) (s : UnderW) (acc : List Int), RelW s acc → (feedW s l).1 ++ tellW (feedW s l).2 = restW s acc l
  | [], s, acc, h => by
    have := h.tell
    unfold restW
    simp [feedW, goW, nextL, flush_nil, this]
  | c :: r, s, acc, h => by
    simp only [feedW, List.append_assoc]
    cases hc : letterF c with
    | true =>
      have hS : stepW s c = ([], if s.long = true ∨ 32 < (moreW s c).length then ⟨[], false, true⟩ else ⟨moreW s c, false, false⟩) := by simp [stepW, hc]
      rw [hS]
      simp only [List.nil_append]
      generalize hacc : acc ++ (if s.mark = true then [39] else []) ++ [foldF c] = acc'
      have hne : acc' ≠ [] := by rw [← hacc]; simp
      have hrel : RelW (if s.long = true ∨ 32 < (moreW s c).length then ⟨[], false, true⟩ else ⟨moreW s c, false, false⟩) acc' := by
        cases hL : s.long with
        | true =>
          obtain ⟨h1, h2⟩ := h.long hL
          rw [if_pos (.inl rfl)]
          exact ⟨fun _ => ⟨rfl, by rw [← hacc]; simp; omega⟩, fun h => by simp at h, fun h => by simp at h⟩
        | false =>
          obtain ⟨h1, h2⟩ := h.short hL
          have e : moreW s c = acc' := by unfold moreW; rw [← hacc, h1]
          rw [e]
          split
          · rename_i hl
            exact ⟨fun _ => ⟨rfl, by rcases hl with hl | hl; simp at hl; exact hl⟩, fun h => by simp at h, fun h => by simp at h⟩
          · rename_i hl
            exact ⟨fun h => by simp at h, fun _ => ⟨rfl, by dsimp only; omega⟩, fun h => by simp at h⟩
      rw [feedW_rest r _ acc' hrel]
      have hm0 : (if s.long = true ∨ 32 < (moreW s c).length then (⟨[], false, true⟩ : UnderW) else ⟨moreW s c, false, false⟩).mark = false := by split <;> rfl
      unfold restW
      rw [hm0]
      have e1 : (decide (acc' ≠ [])) = true := by simpa using hne
      rw [e1]
      cases hm : s.mark with
      | true =>
        simp only [hm, if_true] at hacc
        simp only [nextL, hc, if_true, Bool.false_eq_true, if_false]
        rw [goW_letter hc, hacc]
      | false =>
        simp only [hm, Bool.false_eq_true, if_false, List.append_nil] at hacc
        simp only [Bool.false_eq_true, if_false]
        rw [goW_letter hc, hacc]
    | false =>
      by_cases hM : markF c = true ∧ s.mark = false ∧ (s.word ≠ [] ∨ s.long = true)
      · have hS : stepW s c = ([], ⟨s.word, true, s.long⟩) := by simp only [stepW, hc, Bool.false_eq_true, if_false]; rw [if_pos hM]
        have hne := h.under.1 hM.2.2
        rw [hS]
        simp only [List.nil_append]
        rw [feedW_rest r ⟨s.word, true, s.long⟩ acc ⟨h.long, h.short, fun _ => hne⟩]
        unfold restW
        simp only [if_true, hM.2.1, Bool.false_eq_true, if_false]
        have e1 : (decide (acc ≠ [])) = true := by simpa using hne
        rw [e1]
        cases hn : nextL r with
        | true => rw [goW_mark hc hM.1 hn]; simp
        | false => rw [goW_end hc (by simp [hn])]; simp
      · have hS : stepW s c = (tellW s, zeroW) := by simp only [stepW, hc, Bool.false_eq_true, if_false]; rw [if_neg hM]
        rw [hS]
        dsimp only
        rw [feedW_rest r _ [] zero_rel, h.tell]
        have hz : restW zeroW [] r = goW false [] r := by simp [restW, zeroW]
        rw [hz]
        unfold restW
        cases hm : s.mark with
        | true =>
          simp only [nextL, hc, Bool.false_eq_true, if_false, if_true]
          rw [goW_end (prev := false) hc (by simp), flush_nil]; simp
        | false =>
          simp only [Bool.false_eq_true, if_false]
          rw [goW_end hc ?_]
          by_cases hne : acc = []
          · simp [hne]
          · have hk : markF c = false := by
              cases hk : markF c with
              | false => rfl
              | true => exact absurd ⟨hk, hm, h.under.2 hne⟩ hM
            simp [hk]

/-- Fed from nothing on, and ended, all words are told. -/
theorem feed_words (l : List Int) : (feedW zeroW l).1 ++ tellW (feedW zeroW l).2 = wordsW l := by
  rw [feedW_rest l zeroW [] zero_rel]
  simp [restW, zeroW, wordsW]
end Go.Proofs.YtdhbbknjnbdplaaDoor
