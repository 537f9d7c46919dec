/- Words counted: what a table tells of the words that came, in whatever order. -/
import Derived.Test.YthnpeeiiekmkcaaTabMath
namespace Go.Proofs.Ythnpeeiiekmkcaa
set_option linter.unusedVariables false
set_option linter.unusedSimpArgs false

/-- Each word that came, c a time. -/
def CountsE (es : List En) (zs : List Wd) (c : Nat) : Prop := ∀ k, getE es k = if k = [] then 0 else c * zs.count k
def sumE (es : List En) : Nat := (es.map Prod.snd).sum
def fullW (zs : List Wd) : Nat := (zs.filter fun k => !k.isEmpty).length
theorem counts_nil (c : Nat) : CountsE [] [] c := fun k => by simp [getE]
theorem count_one (zs : List Wd) (k k' : Wd) : (zs ++ [k]).count k' = zs.count k' + if k = k' then 1 else 0 := by
  rw [List.count_append]
  by_cases h : k = k'
  · simp [h]
  · simp [h]
theorem set_sum : ∀ (es : List En) (k : Wd) (s : Nat), (∃ e ∈ es, e.1 = k) → sumE (setE es k s) + getE es k = sumE es + s
  | [], k, s, h => by obtain ⟨e, he, _⟩ := h; cases he
  | a :: es, k, s, h => by
    rw [setE, getE]
    by_cases ha : a.1 = k
    · rw [if_pos ha, if_pos ha]; simp [sumE]; omega
    · rw [if_neg ha, if_neg ha]
      have h' : ∃ e ∈ es, e.1 = k := by
        obtain ⟨e, he, e'⟩ := h
        rcases List.mem_cons.1 he with rfl | he
        · exact absurd e' ha
        · exact ⟨e, he, e'⟩
      have := set_sum es k s h'
      simp [sumE] at this ⊢; omega
theorem count_le (zs : List Wd) (k : Wd) : zs.count k ≤ zs.length := List.count_le_length

/-- One word more. -/
theorem add_step {room : Nat} {es : List En} {zs : List Wd} {c : Nat} (hT : TabE room es) (hc : 1 ≤ c) (hcap : c * (zs.length + 1) ≤ 4611686018427387904) (hC : CountsE es zs c) (hlen : es.length ≤ zs.length) (hroom : zs.length < room) (k : Wd) :
    (addE room es k c).2 = (if k = [] then 1 else 0) ∧ CountsE (addE room es k c).1 (zs ++ [k]) c ∧ (addE room es k c).1.length ≤ (zs ++ [k]).length ∧ sumE (addE room es k c).1 = sumE es + (if k = [] then 0 else c) := by
  have hl2 : (zs ++ [k]).length = zs.length + 1 := by simp
  unfold addE
  by_cases hk : k = []
  · rw [if_pos (.inl hk), if_pos hk, if_pos hk]
    refine ⟨rfl, fun k' => ?_, by show es.length ≤ _; omega, rfl⟩
    rw [hC k', count_one]
    by_cases hk' : k' = []
    · rw [if_pos hk', if_pos hk']
    · have : ¬ k = k' := fun e => hk' (by rw [← e]; exact hk)
      rw [if_neg hk', if_neg hk', if_neg this]; rfl
  have h1 : ¬ (k = [] ∨ c = 0) := fun h => by rcases h with h | h; exact hk h; omega
  rw [if_neg h1, if_neg hk, if_neg hk]
  have hg := hC k
  rw [if_neg hk] at hg
  have hb : c * zs.count k + c ≤ 4611686018427387904 := by
    have h1 := Nat.mul_le_mul_left c (count_le zs k)
    rw [Nat.mul_add, Nat.mul_one] at hcap
    omega
  rw [if_neg (by omega)]
  by_cases h3 : 0 < getE es k
  · rw [if_pos h3]
    have hm : ∃ e ∈ es, e.1 = k := ⟨_, get_pos h3, rfl⟩
    refine ⟨rfl, fun k' => ?_, by rw [set_length]; omega, ?_⟩
    · rw [get_set es k k' _ hm, count_one]
      by_cases e : k = k'
      · subst e; rw [if_pos rfl, if_neg hk, if_pos rfl, hg, Nat.mul_add, Nat.mul_one]
      · rw [if_neg e, if_neg e, hC k']; rfl
    · have := set_sum es k (getE es k + c) hm
      simp only at this ⊢; omega
  rw [if_neg h3, if_neg (by omega)]
  have hz := get_none hT.pos (k := k) (by omega)
  refine ⟨rfl, fun k' => ?_, by simp; omega, by simp [sumE]⟩
  rw [count_one]
  by_cases e : k = k'
  · subst e
    have hc0 : c * zs.count k = 0 := by omega
    rw [get_app_out es k k c hz, if_pos rfl, if_neg hk, if_pos rfl, Nat.mul_add, hc0]; omega
  · rw [if_neg e, Nat.add_zero, ← hC k']
    by_cases hm : ∃ e ∈ es, e.1 = k'
    · rw [get_app_in es k k' c hm]
    · rw [get_app_out es k k' c (fun e he e' => hm ⟨e, he, e'⟩), if_neg e, get_zero fun e he e' => hm ⟨e, he, e'⟩]
theorem add_next {room j : Nat} {es : List En} {zs : List Wd} {c : Nat} (hT : TabE room es) (hc : 1 ≤ c) (hcap : c * (j + 1) ≤ 4611686018427387904) (hz : zs.length = j) (hC : CountsE es zs c ∧ es.length ≤ j) (hroom : j < room) (k : Wd) :
    (addE room es k c).2 = (if k = [] then 1 else 0) ∧ (CountsE (addE room es k c).1 (zs ++ [k]) c ∧ (addE room es k c).1.length ≤ j + 1) ∧ sumE (addE room es k c).1 = sumE es + (if k = [] then 0 else c) := by
  subst hz
  obtain ⟨h1, h2, h3, h4⟩ := add_step hT hc hcap hC.1 hC.2 hroom k
  exact ⟨h1, ⟨h2, by simpa using h3⟩, h4⟩
/-- A new word, where there is room. -/
theorem add_new {room : Nat} {es : List En} {k : Wd} {n : Nat} (hk : k ≠ []) (hn : 1 ≤ n) (hn2 : n ≤ 4611686018427387904) (hz : ∀ e ∈ es, e.1 ≠ k) (hr : es.length < room) : addE room es k n = (es ++ [(k, n)], 0) := by
  unfold addE
  rw [get_zero hz, if_neg (fun h => by rcases h with h | h; exact hk h; omega), if_neg (by omega), if_neg (by omega), if_neg (by omega)]
/-- An old word. -/
theorem add_old {room : Nat} {es : List En} {k : Wd} {n c : Nat} (hk : k ≠ []) (hn : 1 ≤ n) (hc : getE es k = c) (h1 : 1 ≤ c) (h2 : c + n ≤ 4611686018427387904) : addE room es k n = (setE es k (c + n), 0) := by
  unfold addE
  rw [hc, if_neg (fun h => by rcases h with h | h; exact hk h; omega), if_neg (by omega), if_pos (by omega)]
theorem rev_at {d : List En} {m : Nat} (hm : m < d.length) {e : En} (he : d[d.length - 1 - m]? = some e) : d.reverse.take (m + 1) = d.reverse.take m ++ [e] := by
  rw [List.take_add_one, List.getElem?_reverse hm, he]; rfl
theorem rev_new {d : List En} (hk : KeysE d) {m : Nat} (hm : m < d.length) {e : En} (he : d[d.length - 1 - m]? = some e) : ∀ x ∈ d.reverse.take m, x.1 ≠ e.1 := by
  intro x hx
  obtain ⟨i, hi, hxi⟩ := List.getElem_of_mem hx
  rw [List.length_take, List.length_reverse] at hi
  have h1 : d.reverse[i]? = some x := by
    rw [← hxi, List.getElem_take, List.getElem?_eq_getElem (by simp; omega)]
  rw [List.getElem?_reverse (by omega)] at h1
  intro h
  have := keys_at hk h1 he h
  omega
theorem full_one (zs : List Wd) (k : Wd) : fullW (zs ++ [k]) = fullW zs + if k = [] then 0 else 1 := by
  unfold fullW
  rw [List.filter_append]
  by_cases h : k = []
  · subst h; simp
  · have : k.isEmpty = false := by cases k with
      | nil => exact absurd rfl h
      | cons a l => rfl
    simp [h, this]
theorem perm_sum {es d : List En} (h : d.Perm es) : sumE d = sumE es := by
  unfold sumE
  exact (h.map Prod.snd).sum_nat
theorem take_next {zs : List Wd} {j : Nat} {k : Wd} (h : zs[j]? = some k) : zs.take (j + 1) = zs.take j ++ [k] := by rw [List.take_add_one, h]; rfl

/-! In another order. -/
def turnW (z : List Wd) (n by' : Nat) (j : Nat) : List Wd := (List.range j).map fun i => z.getD ((n - 1 - i + by') % n) []
theorem turn_next (z : List Wd) (n by' j : Nat) : turnW z n by' (j + 1) = turnW z n by' j ++ [z.getD ((n - 1 - j + by') % n) []] := by
  unfold turnW
  rw [List.range_succ, List.map_append]; rfl
theorem turn_len (z : List Wd) (n by' j : Nat) : (turnW z n by' j).length = j := by simp [turnW]
theorem turn_eq (z : List Wd) (n by' : Nat) (hn : 0 < n) (hl : n ≤ z.length) : turnW z n by' n = ((z.take n).drop (by' % n) ++ (z.take n).take (by' % n)).reverse := by
  have hr : by' % n < n := Nat.mod_lt _ hn
  have hlen : ((z.take n).drop (by' % n) ++ (z.take n).take (by' % n)).length = n := by simp; omega
  apply List.ext_getElem?
  intro i
  by_cases hi : i < n
  · rw [List.getElem?_reverse (by omega), hlen]
    unfold turnW
    rw [List.getElem?_map, List.getElem?_range hi]
    simp only [Option.map_some]
    have hm : (n - 1 - i + by') % n = if n - 1 - i + by' % n < n then n - 1 - i + by' % n else n - 1 - i + by' % n - n := by
      rw [Nat.add_mod, Nat.mod_eq_of_lt (show n - 1 - i < n by omega)]
      split
      · rw [Nat.mod_eq_of_lt (by assumption)]
      · rw [Nat.mod_eq_sub_mod (by omega), Nat.mod_eq_of_lt (by omega)]
    rw [hm]
    have hd : ((z.take n).drop (by' % n)).length = n - by' % n := by simp; omega
    by_cases hc : n - 1 - i + by' % n < n
    · rw [if_pos hc, List.getElem?_append_left (by omega), List.getElem?_drop, List.getElem?_take_of_lt (by omega), List.getD, show by' % n + (n - 1 - i) = n - 1 - i + by' % n by omega, List.getElem?_eq_getElem (show n - 1 - i + by' % n < z.length by omega)]; rfl
    · rw [if_neg hc, List.getElem?_append_right (by omega), hd, List.getElem?_take_of_lt (by omega), List.getElem?_take_of_lt (by omega), List.getD, show n - 1 - i - (n - by' % n) = n - 1 - i + by' % n - n by omega, List.getElem?_eq_getElem (show n - 1 - i + by' % n - n < z.length by omega)]; rfl
  · rw [List.getElem?_eq_none (by rw [turn_len]; omega), List.getElem?_eq_none (by rw [List.length_reverse, hlen]; omega)]
theorem turn_perm (z : List Wd) (n by' : Nat) (hl : n ≤ z.length) : (turnW z n by' n).Perm (z.take n) := by
  rcases Nat.eq_zero_or_pos n with h0 | h0
  · subst h0; simp [turnW]
  · rw [turn_eq z n by' h0 hl]
    refine (List.reverse_perm _).trans (List.perm_append_comm.trans ?_)
    rw [List.take_append_drop]
/-- Two tables of the same words, in whatever order, drained. -/
theorem drained_same {ra rb : Nat} {ea eb da db : List En} {za zb : List Wd} {c : Nat} (ha : CountsE ea za c) (hb : CountsE eb zb c) (hz : zb.Perm za) (hda : da.Perm ea) (hdb : db.Perm eb) (ra' : RiseE da) (rb' : RiseE db) (ta : TabE ra ea) (tb : TabE rb eb) : da = db :=
  rise_ext ra' rb' (perm_pos hda ta.pos) (perm_pos hdb tb.pos) fun k => by rw [get_perm hda ta.keys, get_perm hdb tb.keys, ha k, hb k, hz.count_eq]
end Go.Proofs.Ythnpeeiiekmkcaa
