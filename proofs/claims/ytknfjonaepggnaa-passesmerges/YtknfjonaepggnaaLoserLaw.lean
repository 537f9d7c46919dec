/- What the merger's statements lean on. -/
import Derived.Test.YtknfjonaepggnaaLoserBase
namespace Go.Proofs.Ytknfjonaepggnaa
set_option linter.unusedVariables false
set_option linter.unusedSimpArgs false

theorem sumK_perm {a b : List (List En)} (h : a.Perm b) (k : Wd) : sumK a k = sumK b k := by
  unfold sumK
  exact (h.map _).sum_nat
theorem sumK_app (a b : List (List En)) (k : Wd) : sumK (a ++ b) k = sumK a k + sumK b k := by simp [sumK]
theorem merge_perm {a b : List (List En)} (h : b.Perm a) (hl : a.length ≤ 256) (hb : badL a = 0) : mergeL b = mergeL a := by
  have hb' : badL b = 0 := all_bad fun l hl => bad_all hb l (h.mem_iff.1 hl)
  have hl' : b.length ≤ 256 := by rw [h.length_eq]; exact hl
  rcases merge_cases hl hb with ⟨out, h1, h2, h3, h4⟩ | ⟨h1, k, h2⟩
  · rw [h1]; exact merge_is hl' hb' h2.rise h2.pos fun k => by rw [h4, sumK_perm h]
  · rw [h1]; exact merge_over hl' hb' (k := k) (by rw [sumK_perm h]; exact h2)
theorem merge_err {ls : List (List En)} (hl : ls.length ≤ 256) (h : (mergeL ls).2 ≠ 0) : (mergeL ls).1 = [] := by
  by_cases hb : badL ls = 0
  · rcases merge_cases hl hb with ⟨out, h1, _⟩ | ⟨h1, _⟩
    · rw [h1] at h; exact absurd rfl h
    · rw [h1]
  · unfold mergeL
    rw [if_neg (by omega), if_neg hb]
/-- What was merged without an error. -/
theorem merge_ok {ls : List (List En)} (hl : ls.length ≤ 256) (h : (mergeL ls).2 = 0) : badL ls = 0 ∧ GoodE (mergeL ls).1 ∧ (∀ k, getE (mergeL ls).1 k = sumK ls k) ∧ mayE (mergeL ls).1 = 0 ∧ (mergeL ls).1.length ≤ totL ls := by
  by_cases hb : badL ls = 0
  · rcases merge_cases hl hb with ⟨out, h1, h2, h3, h4⟩ | ⟨h1, _⟩
    · rw [h1]; exact ⟨hb, h2, h4, merge_may hb h2.rise h2.pos h4, h3⟩
    · rw [h1] at h; cases h
  · unfold mergeL at h
    rw [if_neg (by omega), if_neg hb] at h
    exact absurd h hb
theorem bad_sub {a b : List (List En)} (h : badL a = 0) (hs : ∀ l ∈ b, l ∈ a) : badL b = 0 := all_bad fun l hl => bad_all h l (hs l hl)
/-- Of lists that merge, some merge as well. -/
theorem merge_part {ls a : List (List En)} (hl : ls.length ≤ 256) (h : (mergeL ls).2 = 0) (ha : a.length ≤ 256) (hs : ∀ l ∈ a, l ∈ ls) (hk : ∀ k, sumK a k ≤ sumK ls k) : (mergeL a).2 = 0 := by
  obtain ⟨h1, h2, h3, h4, _⟩ := merge_ok hl h
  rcases merge_cases ha (bad_sub h1 hs) with ⟨out, g1, _⟩ | ⟨g1, k, g2⟩
  · rw [g1]
  · exfalso
    have := getE_most h2.pos k
    rw [h3] at this
    have := hk k
    omega
theorem merge_twice {ls : List (List En)} (hl : ls.length ≤ 200) (h : (mergeL ls).2 = 0) (c : Nat) :
    (mergeL (ls.take c)).2 = 0 ∧ (mergeL (ls.drop c)).2 = 0 ∧ mergeL [(mergeL (ls.take c)).1, [], (mergeL (ls.drop c)).1] = ((mergeL ls).1, 0) ∧ mergeL [[], (mergeL ls).1] = ((mergeL ls).1, 0) := by
  have hsum : ∀ k, sumK ls k = sumK (ls.take c) k + sumK (ls.drop c) k := fun k => by rw [← sumK_app, List.take_append_drop]
  have hlt : (ls.take c).length ≤ 256 := by rw [List.length_take]; omega
  have hld : (ls.drop c).length ≤ 256 := by rw [List.length_drop]; omega
  have h1 := merge_part (by omega) h hlt (fun l hl => List.mem_of_mem_take hl) fun k => by rw [hsum]; omega
  have h2 := merge_part (by omega) h hld (fun l hl => List.mem_of_mem_drop hl) fun k => by rw [hsum]; omega
  obtain ⟨_, g2, g3, g4, _⟩ := merge_ok (by omega) h
  obtain ⟨_, a2, a3, a4, _⟩ := merge_ok hlt h1
  obtain ⟨_, b2, b3, b4, _⟩ := merge_ok hld h2
  have h0 : mayE [] = 0 := by decide
  refine ⟨h1, h2, ?_, ?_⟩
  · refine merge_is (by simp) (all_bad fun l hl => ?_) g2.rise g2.pos fun k => ?_
    · simp at hl
      rcases hl with rfl | rfl | rfl
      · exact a4
      · exact h0
      · exact b4
    · rw [g3, hsum, ← a3, ← b3]; simp [sumK, getE]
  · refine merge_is (by simp) (all_bad fun l hl => ?_) g2.rise g2.pos fun k => ?_
    · simp at hl
      rcases hl with rfl | rfl
      · exact h0
      · exact g4
    · simp [sumK, getE]
/-- A row turned round at a place. -/
def rotL {α : Type} (l : List α) (k : Nat) : List α := (l.drop k ++ l.take k).reverse
theorem rot_perm {α : Type} (l : List α) (k : Nat) : (rotL l k).Perm l := by
  unfold rotL
  refine (List.reverse_perm _).trans ?_
  refine List.perm_append_comm.trans ?_
  rw [List.take_append_drop]
theorem rot_len {α : Type} (l : List α) (k : Nat) : (rotL l k).length = l.length := (rot_perm l k).length_eq
theorem rot_at {α : Type} {l : List α} {k j : Nat} (hk : k < l.length) (hj : j < l.length) : (rotL l k)[j]? = l[(l.length - 1 - j + k) % l.length]? := by
  unfold rotL
  rw [List.getElem?_reverse (by simp; omega)]
  have hl : (l.drop k ++ l.take k).length = l.length := by simp; omega
  rw [hl]
  generalize hi : l.length - 1 - j = i
  by_cases h : i < l.length - k
  · rw [List.getElem?_append_left (by simp; omega), List.getElem?_drop, Nat.mod_eq_of_lt (by omega), Nat.add_comm]
  · rw [List.getElem?_append_right (by simp; omega), List.length_drop, List.getElem?_take_of_lt (by omega)]
    congr 1
    have : (i + k) % l.length = i + k - l.length := by
      rw [Nat.mod_eq_sub_mod (by omega), Nat.mod_eq_of_lt (by omega)]
    omega
/-- Copies of one list. -/
theorem sumK_rep (l : List En) (n : Nat) (k : Wd) : sumK (List.replicate n l) k = n * getE l k := by simp [sumK, List.map_replicate, List.sum_replicate_nat]
def timesE (l : List En) (n : Nat) : List En := l.map fun e => (e.1, n * e.2)
theorem getE_times (l : List En) (n : Nat) (k : Wd) : getE (timesE l n) k = n * getE l k := by
  induction l with
  | nil => rfl
  | cons e l ih =>
    simp only [timesE, List.map_cons, getE] at ih ⊢
    split
    · rfl
    · exact ih
theorem copies_ok {l : List En} {n : Nat} (hm : mayE l = 0) (hn : 1 ≤ n) (hn2 : n ≤ 256) (h : ∀ e ∈ l, n * e.2 ≤ 4611686018427387904) : mergeL (List.replicate n l) = (timesE l n, 0) := by
  refine merge_is (by simp; exact hn2) (all_bad fun x hx => by rw [List.eq_of_mem_replicate hx]; exact hm) ?_ ?_ fun k => by rw [getE_times, sumK_rep]
  · unfold timesE RiseE
    rw [List.pairwise_map]
    exact may_rise hm
  · intro e he
    obtain ⟨x, hx, rfl⟩ := List.mem_map.1 he
    exact ⟨Nat.mul_pos hn (may_pos hm x hx).1, h x hx⟩
theorem copies_over {l : List En} {n : Nat} (hm : mayE l = 0) (hn2 : n ≤ 256) {e : En} (he : e ∈ l) (h : 4611686018427387904 < n * e.2) : mergeL (List.replicate n l) = ([], 5) := by
  refine merge_over (by simp; exact hn2) (all_bad fun x hx => by rw [List.eq_of_mem_replicate hx]; exact hm) (k := e.1) ?_
  rw [sumK_rep, get_mem (rise_keys (may_rise hm)) he]; exact h
theorem copies_none (l : List En) : mergeL (List.replicate 0 l) = ([], 0) := rfl
theorem tot_cut (ls : List (List En)) (k : Nat) : totL (ls.take k) ≤ totL ls ∧ totL (ls.drop k) ≤ totL ls := by
  have : totL ls = totL (ls.take k) + totL (ls.drop k) := by
    unfold totL
    rw [← List.length_append, ← List.flatten_append, List.take_append_drop]
  omega
theorem may_small {l : List En} (h : mayE l = 0) : ∀ z ∈ l, z.1.length ≤ 140737488351232 ∧ z.2 ≤ 18446744073709551615 := fun z hz => by
  have := (may_iff.1 h).1 z hz
  omega
end Go.Proofs.Ytknfjonaepggnaa
