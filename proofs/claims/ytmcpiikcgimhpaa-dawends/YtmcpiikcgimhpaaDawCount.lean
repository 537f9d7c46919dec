/- How many words are taken from each state on; each state but the first is led to from a higher one. -/
import Derived.Test.YtmcpiikcgimhpaaRestMath
import Derived.Test.YtmcpiikcgimhpaaDawTurn
namespace Go.Proofs.Ytmcpiikcgimhpaa
open Go.RowKit
set_option linter.unusedVariables false
set_option linter.unusedSimpArgs false

theorem leave_led : ∀ (k : Kids) (S : List Stt), GoodS S → ∀ i, S.length ≤ i → i < (leaveK S k).1.length → (∃ e ∈ (leaveK S k).2, e.2 = i) ∨ ∃ p s, i < p ∧ (leaveK S k).1[p]? = some s ∧ ∃ e ∈ s.2, e.2 = i
  | .nil, S, h, i, h1, h2 => absurd h2 (by show ¬ i < S.length; omega)
  | .cons c f sub rest, S, h, i, h1, h2 => by
    obtain ⟨a1, a2, a3⟩ := leave_good sub S h
    obtain ⟨b1, b2, b3, b4⟩ := leaveN_good h (f, sub)
    have c1 := (leave_good rest _ b2).1
    rw [leaveK_cons] at h2 ⊢
    simp only at h2 ⊢
    by_cases hi : i < (leaveN S (f, sub)).1.length
    · by_cases hi2 : i < (leaveK S sub).1.length
      · right
        rcases leave_led sub S h i h1 hi2 with ⟨e, he, hei⟩ | ⟨p, s, hp, hs, hes⟩
        · refine ⟨(leaveN S (f, sub)).2, _, ?_, pre_at c1 b4, e, he, hei⟩
          have := b2.low _ _ b4 e he
          omega
        · exact ⟨p, s, hp, pre_at ((show (leaveK S sub).1 <+: (leaveN S (f, sub)).1 from put_pre _ _).trans c1) hs, hes⟩
      · left
        refine ⟨_, List.mem_cons_self, ?_⟩
        have hnot : (f, (leaveK S sub).2) ∉ (leaveK S sub).1 := by
          intro hm
          have : (leaveN S (f, sub)).1 = (leaveK S sub).1 := by show (putS _ _).1 = _; unfold putS; rw [if_pos hm]
          rw [this] at hi
          exact hi2 hi
        have h5 : leaveN S (f, sub) = ((leaveK S sub).1 ++ [(f, (leaveK S sub).2)], (leaveK S sub).1.length) := by show putS _ _ = _; unfold putS; rw [if_neg hnot]
        rw [h5] at hi ⊢
        simp at hi ⊢
        omega
    · rcases leave_led rest _ b2 i (by omega) h2 with ⟨e, he, hei⟩ | h3
      · exact .inl ⟨e, List.mem_cons_of_mem _ he, hei⟩
      · exact .inr h3
theorem build_led {l : List Wd} {i : Nat} (h : i + 1 < (buildL l).length) : ∃ p s, i < p ∧ (buildL l)[p]? = some s ∧ ∃ e ∈ s.2, e.2 = i := by
  obtain ⟨h1, _⟩ := build_is l
  have hlen : (buildL l).length = (leaveK [] (trieW l).2).1.length + 1 := by rw [h1]; simp
  rcases leave_led (trieW l).2 [] GoodS.nil i (Nat.zero_le _) (by omega) with ⟨e, he, hei⟩ | ⟨p, s, hp, hs, hes⟩
  · refine ⟨(leaveK [] (trieW l).2).1.length, ((trieW l).1, (leaveK [] (trieW l).2).2), by omega, ?_, e, he, hei⟩
    rw [h1]; simp
  · refine ⟨p, s, hp, ?_, hes⟩
    rw [h1]
    exact (List.getElem?_append_left (List.getElem?_eq_some_iff.1 hs).1).trans hs
theorem flat_part (S : List Stt) {es : List (UInt8 × Nat)} {e : UInt8 × Nat} (he : e ∈ es) : (langS S e.2).length ≤ (flatS S es).length := by
  induction es with
  | nil => cases he
  | cons a es ih =>
    show _ ≤ ((langS S a.2).map (a.1 :: ·) ++ flatS S es).length
    rw [List.length_append, List.length_map]
    rcases List.mem_cons.1 he with rfl | he
    · omega
    · have := ih he; omega
theorem lang_root {l : List Wd} (hr : RiseW l) : langS (buildL l) ((buildL l).length - 1) = l := by
  have h1 := (build_len l).1
  unfold langS
  exact build_words hr (by omega)
theorem lang_le {l : List Wd} : ∀ (d i : Nat), i + d + 1 = (buildL l).length → (langS (buildL l) i).length ≤ (langS (buildL l) ((buildL l).length - 1)).length := by
  intro d
  induction d using Nat.strongRecOn with
  | ind d ih =>
    intro i hi
    by_cases h0 : d = 0
    · rw [show (buildL l).length - 1 = i by omega]; exact Nat.le_refl _
    · obtain ⟨p, s, hp, hs, e, he, hei⟩ := build_led (l := l) (i := i) (by omega)
      have hpl := (List.getElem?_eq_some_iff.1 hs).1
      have h1 := ih ((buildL l).length - 1 - p) (by omega) p (by omega)
      have h2 : (langS (buildL l) i).length ≤ (langS (buildL l) p).length := by
        rw [lang_at (build_good l) hs]
        unfold wordsOf
        rw [List.length_append]
        have := flat_part (buildL l) he
        rw [hei] at this
        omega
      omega
theorem lang_all {l : List Wd} (hr : RiseW l) {i : Nat} (hi : i < (buildL l).length) : (langS (buildL l) i).length ≤ l.length := by
  have := lang_le (l := l) ((buildL l).length - 1 - i) i (by omega)
  rw [lang_root hr] at this
  exact this
end Go.Proofs.Ytmcpiikcgimhpaa
