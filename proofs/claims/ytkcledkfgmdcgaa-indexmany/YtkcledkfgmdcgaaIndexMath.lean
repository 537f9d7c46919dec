/- What the states of what was built take. -/
import Derived.Test.YtkcledkfgmdcgaaRef14Build
import Derived.Test.YtkcledkfgmdcgaaRef15C
import Derived.Test.YtkcledkfgmdcgaaFewMath
namespace Go.Proofs.Ytkcledkfgmdcgaa
open Go.RowKit
set_option linter.unusedVariables false
set_option linter.unusedSimpArgs false

theorem build_lang {l : List Wd} (hl : RiseW l) : langS (buildL l) ((buildL l).length - 1) = l :=
  build_words hl (by have := (build_len l).1; omega)
theorem leaveN_langs {S : List Stt} (h : GoodS S) (t : Node) (hs : ∀ i, S.length ≤ i → i < (leaveK S t.2).1.length → (langS (leaveK S t.2).1 i).length ≤ (listK t.2).length) :
    ∀ i, S.length ≤ i → i < (leaveN S t).1.length → (langS (leaveN S t).1 i).length ≤ (listN t).length := by
  intro i h1 h2
  have hle : (listK t.2).length ≤ (listN t).length := by unfold listN; rw [List.length_append]; omega
  obtain ⟨a1, a2, a3⟩ := leave_good t.2 S h
  by_cases hm : (t.1, (leaveK S t.2).2) ∈ (leaveK S t.2).1
  · have he : (leaveN S t).1 = (leaveK S t.2).1 := by unfold leaveN putS; rw [if_pos hm]
    rw [he] at h2 ⊢
    exact Nat.le_trans (hs i h1 h2) hle
  · have he : (leaveN S t).1 = (leaveK S t.2).1 ++ [(t.1, (leaveK S t.2).2)] := by unfold leaveN putS; rw [if_neg hm]
    have hg := (leaveN_good h t).2.1
    rw [he] at h2 hg ⊢
    by_cases hi : i < (leaveK S t.2).1.length
    · rw [lang_pre a2 hg (List.prefix_append _ _) i hi]
      exact Nat.le_trans (hs i h1 hi) hle
    · have : i = (leaveK S t.2).1.length := by simp at h2; omega
      rw [this, lang_last a2 hg a3, leave_words_of t h]
      exact Nat.le_refl _
theorem leaveK_langs : ∀ (k : Kids) (S : List Stt), GoodS S → ∀ i, S.length ≤ i → i < (leaveK S k).1.length → (langS (leaveK S k).1 i).length ≤ (listK k).length
  | .nil, S, h, i, h1, h2 => by
    have h3 : i < S.length := h2
    omega
  | .cons c f sub rest, S, h, i, h1, h2 => by
    have hN := leaveN_langs h (f, sub) (leaveK_langs sub S h)
    obtain ⟨p1, p2, p3⟩ := leaveN_good h (f, sub)
    have hL : (listK (.cons c f sub rest)).length = (listN (f, sub)).length + (listK rest).length := by
      show (((if f then [[]] else []) ++ listK sub).map (c :: ·) ++ listK rest).length = _
      rw [List.length_append, List.length_map]
      rfl
    rw [leaveK_cons] at h2 ⊢
    simp only at h2 ⊢
    rw [hL]
    by_cases hi : i < (leaveN S (f, sub)).1.length
    · obtain ⟨q1, q2, q3⟩ := leave_good rest _ p2
      rw [lang_pre p2 q2 q1 i hi]
      exact Nat.le_trans (hN i h1 hi) (Nat.le_add_right _ _)
    · exact Nat.le_trans (leaveK_langs rest _ p2 i (by omega) h2) (Nat.le_add_left _ _)
theorem build_langs {l : List Wd} (hl : RiseW l) {i : Nat} (hi : i < (buildL l).length) : (langS (buildL l) i).length ≤ l.length := by
  have := leaveN_langs GoodS.nil (trieW l) (leaveK_langs _ _ GoodS.nil) i (Nat.zero_le _) hi
  rw [list_words hl] at this
  exact this
/-- What Counts tells of states. -/
def countsR (S : List Stt) : List Nat × Nat := if ∀ i, i < S.length → (langS S i).length ≤ 4611686018427387904 then (countsL S, 0) else ([], 5)
theorem len_le {l : List Wd} (h : [] ∉ l) : l.length ≤ (l.map List.length).sum := by
  induction l with
  | nil => simp
  | cons a l ih =>
    have h1 := ih fun hh => h (List.mem_cons_of_mem _ hh)
    have h2 : a ≠ [] := fun e => h (e ▸ List.mem_cons_self)
    have h3 : 1 ≤ a.length := List.length_pos_iff.2 h2
    rw [List.map_cons, List.sum_cons, List.length_cons]
    omega
theorem counts_few {l : List Wd} (hl : RiseW l) (hne : [] ∉ l) (hs : (l.map List.length).sum ≤ 1000000) : countsR (buildL l) = (countsL (buildL l), 0) := by
  unfold countsR
  rw [if_pos]
  intro i hi
  have h1 := build_langs hl hi
  have h2 := len_le hne
  omega
theorem rise_ne {l : List Wd} (hl : RiseW l) {i j : Nat} {u v : Wd} (hij : i < j) (hu : l[i]? = some u) (hv : l[j]? = some v) : u ≠ v := by
  have h1 := (List.getElem?_eq_some_iff.1 hv).1
  have := List.pairwise_iff_getElem.1 hl i j (by omega) h1 hij
  rw [(List.getElem?_eq_some_iff.1 hu).2, (List.getElem?_eq_some_iff.1 hv).2] at this
  exact less_ne this
theorem place_at {l : List Wd} (hl : RiseW l) {j : Nat} {v : Wd} (h : l[j]? = some v) : placeR l v = (j, true) :=
  place_step h (fun i hi u hu => rise_ne hl hi hu h) rfl
theorem word_at {l : List Wd} {j : Nat} {v : Wd} (h : l[j]? = some v) : wordR l (j : Nat) = (v, true) := by
  have h1 := (List.getElem?_eq_some_iff.1 h).1
  unfold wordR
  rw [if_pos ⟨by omega, by omega⟩, Int.toNat_natCast, List.getD_eq_getElem?_getD, h]; rfl
theorem word_out {l : List Wd} {n : Int} (h : n < 0 ∨ (l.length : Int) ≤ n) : wordR l n = ([], false) := by
  unfold wordR
  rw [if_neg (by omega)]
theorem cell_in {B : Nat} {w w' : World} (h : Below B w w') {b i : Nat} (hb : b < B) {v : Value} (hc : w.cell? ⟨b, i, none⟩ = some v) : w'.cell? ⟨b, i, none⟩ = some v := by
  rw [cell_agree (a := ⟨b, i, none⟩) (h.block b hb)]; exact hc
theorem rise_lt {l : List Wd} (hl : RiseW l) {i j : Nat} {u v : Wd} (hu : l[i]? = some u) (hv : l[j]? = some v) : decide (i < j) = lessB u v ∧ decide (i = j) = (u == v) := by
  rcases Nat.lt_trichotomy i j with h | h | h
  · have h1 := (List.getElem?_eq_some_iff.1 hv).1
    have h2 := List.pairwise_iff_getElem.1 hl i j (by omega) h1 h
    rw [(List.getElem?_eq_some_iff.1 hu).2, (List.getElem?_eq_some_iff.1 hv).2] at h2
    rw [decide_eq_true h, h2, decide_eq_false (by omega)]
    exact ⟨rfl, (beq_eq_false_iff_ne.2 (less_ne h2)).symm⟩
  · subst h
    rw [hu] at hv
    cases hv
    rw [less_irrefl, decide_eq_false (by omega), decide_eq_true rfl]
    exact ⟨rfl, by simp⟩
  · have h1 := (List.getElem?_eq_some_iff.1 hu).1
    have h2 := List.pairwise_iff_getElem.1 hl j i (by omega) h1 h
    rw [(List.getElem?_eq_some_iff.1 hu).2, (List.getElem?_eq_some_iff.1 hv).2] at h2
    rw [less_asymm _ _ h2, decide_eq_false (by omega), decide_eq_false (by omega)]
    exact ⟨rfl, (beq_eq_false_iff_ne.2 (fun e => less_ne h2 e.symm)).symm⟩
end Go.Proofs.Ytkcledkfgmdcgaa
