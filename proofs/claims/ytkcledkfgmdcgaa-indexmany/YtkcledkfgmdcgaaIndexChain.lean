/- States each of which leads twice to the one below it: what is left of the full trie. -/
import Derived.Test.YtkcledkfgmdcgaaIndexMath
namespace Go.Proofs.Ytkcledkfgmdcgaa
open Go.RowKit
set_option linter.unusedVariables false
set_option linter.unusedSimpArgs false

def fullN : Nat → Node
  | 0 => (true, .nil)
  | k + 1 => (false, .cons 97 (fullN k).1 (fullN k).2 (.cons 98 (fullN k).1 (fullN k).2 .nil))
def linkS (i : Nat) : Stt := (false, [(97, i), (98, i)])
def chainS (k : Nat) : List Stt := (true, []) :: (List.range k).map linkS
theorem links_len (k : Nat) : (chainS k).length = k + 1 := by simp [chainS]
theorem chain_succ (k : Nat) : chainS (k + 1) = chainS k ++ [linkS k] := by simp [chainS, List.range_succ]
theorem chain_at {k i : Nat} (h : i < k) : (chainS k)[i + 1]? = some (linkS i) := by simp [chainS, h]
theorem link_inj {i j : Nat} (h : linkS i = linkS j) : i = j := by
  unfold linkS at h
  simp only [Prod.mk.injEq, List.cons.injEq, true_and] at h
  exact h.1
theorem link_mem {k j : Nat} : linkS j ∈ chainS k ↔ j < k := by
  unfold chainS
  constructor
  · intro h
    rcases List.mem_cons.1 h with h | h
    · cases h
    · obtain ⟨i, hi, he⟩ := List.mem_map.1 h
      rw [← link_inj he]; exact List.mem_range.1 hi
  · intro h
    exact List.mem_cons_of_mem _ (List.mem_map.2 ⟨j, List.mem_range.2 h, rfl⟩)
theorem chain_nodup (k : Nat) : (chainS k).Nodup := by
  induction k with
  | zero => simp [chainS]
  | succ k ih =>
    rw [chain_succ, List.nodup_append]
    refine ⟨ih, by simp, fun a ha b hb => ?_⟩
    rw [List.mem_singleton] at hb
    subst hb
    intro e
    subst e
    have := link_mem.1 ha
    omega
theorem idx_at {S : List Stt} (hn : S.Nodup) {i : Nat} {s : Stt} (h : S[i]? = some s) : S.idxOf s = i := by
  obtain ⟨hi, he⟩ := List.getElem?_eq_some_iff.1 h
  have hm : s ∈ S := he ▸ List.getElem_mem hi
  have hl := List.idxOf_lt_length_iff.2 hm
  have h2 : S[S.idxOf s]'hl = S[i]'hi := by rw [List.getElem_idxOf, he]
  exact (List.getElem_inj hn).1 h2
theorem leaveN_full (f : Bool) (t : Kids) (S : List Stt) : leaveN S (f, t) = putS (leaveK S t).1 (f, (leaveK S t).2) := rfl
theorem full_step (S : List Stt) (k : Nat) {T : List Stt} (h1 : leaveN S (fullN k) = (T, k)) (h2 : leaveN T (fullN k) = (T, k)) : leaveN S (fullN (k + 1)) = putS T (linkS k) := by
  have e : ∀ S, leaveN S ((fullN k).1, (fullN k).2) = leaveN S (fullN k) := fun _ => rfl
  show putS (leaveK S (.cons 97 (fullN k).1 (fullN k).2 (.cons 98 (fullN k).1 (fullN k).2 .nil))).1 (false, (leaveK S (.cons 97 (fullN k).1 (fullN k).2 (.cons 98 (fullN k).1 (fullN k).2 .nil))).2) = _
  rw [leaveK_cons, e, h1]
  simp only
  rw [leaveK_cons, e, h2]
  rfl
theorem chain_again : ∀ (k m : Nat), k ≤ m → leaveN (chainS m) (fullN k) = (chainS m, k)
  | 0, m, _ => by
    show putS (chainS m) (true, []) = _
    unfold putS
    rw [if_pos (by simp [chainS]), idx_at (chain_nodup m) (i := 0) (by simp [chainS])]
  | k + 1, m, h => by
    have ih := chain_again k m (by omega)
    rw [full_step _ k ih ih]
    unfold putS
    rw [if_pos (link_mem.2 (by omega)), idx_at (chain_nodup m) (i := k + 1) (chain_at (by omega))]
theorem chain_leave : ∀ k : Nat, leaveN [] (fullN k) = (chainS k, k)
  | 0 => rfl
  | k + 1 => by
    rw [full_step _ k (chain_leave k) (chain_again k k (Nat.le_refl _))]
    unfold putS
    rw [if_neg (fun h => by have := link_mem.1 h; omega), ← chain_succ, links_len]
theorem full_rise : ∀ k : Nat, RiseK (fullN k).2
  | 0 => trivial
  | k + 1 => by
    have ih := full_rise k
    exact ⟨⟨by decide, trivial⟩, ih, ⟨trivial, ih, trivial⟩⟩
theorem full_live : ∀ k : Nat, liveK (fullN k).2 ∧ ((fullN k).1 = true ∨ (fullN k).2 ≠ .nil)
  | 0 => ⟨trivial, .inl rfl⟩
  | k + 1 => by
    obtain ⟨h1, h2⟩ := full_live k
    exact ⟨⟨h2, h1, h2, h1, trivial⟩, .inr (by intro h; cases h)⟩
theorem full_count : ∀ k : Nat, (listN (fullN k)).length = 2 ^ k
  | 0 => rfl
  | k + 1 => by
    have ih := full_count k
    have e : listN (fullN (k + 1)) = (listN (fullN k)).map (97 :: ·) ++ ((listN (fullN k)).map (98 :: ·) ++ []) := rfl
    rw [e, List.length_append, List.length_append, List.length_map, List.length_map, ih, Nat.pow_succ]
    simp; omega
theorem full_words : ∀ (k : Nat) (w : Wd), w ∈ listN (fullN k) → w.length = k
  | 0, w, h => by
    have : w ∈ ([[]] : List Wd) := h
    rw [List.mem_singleton] at this
    rw [this]; rfl
  | k + 1, w, h => by
    have e : listN (fullN (k + 1)) = (listN (fullN k)).map (97 :: ·) ++ ((listN (fullN k)).map (98 :: ·) ++ []) := rfl
    rw [e] at h
    rcases List.mem_append.1 h with h | h
    · obtain ⟨v, hv, rfl⟩ := List.mem_map.1 h
      rw [List.length_cons, full_words k v hv]
    · rw [List.append_nil] at h
      obtain ⟨v, hv, rfl⟩ := List.mem_map.1 h
      rw [List.length_cons, full_words k v hv]
theorem wordsOf_pre {U T : List Stt} (hU : GoodS U) (hT : GoodS T) (hp : U <+: T) {s : Stt} (hs : ∀ e ∈ s.2, e.2 < U.length) : wordsOf T s = wordsOf U s := by
  have h : ∀ es : List (UInt8 × Nat), (∀ e ∈ es, e.2 < U.length) → flatS T es = flatS U es := by
    intro es
    induction es with
    | nil => intro _; rfl
    | cons a es ih =>
      intro h
      show (langS T a.2).map (a.1 :: ·) ++ flatS T es = (langS U a.2).map (a.1 :: ·) ++ flatS U es
      rw [ih fun e he => h e (List.mem_cons_of_mem _ he), lang_pre hU hT hp a.2 (h a (by simp))]
  unfold wordsOf
  rw [h s.2 hs]
/-- What the state takes that a node is left as. -/
theorem lang_leave {S : List Stt} (h : GoodS S) (t : Node) : langS (leaveN S t).1 (leaveN S t).2 = listN t := by
  obtain ⟨a1, a2, a3⟩ := leave_good t.2 S h
  obtain ⟨p1, p2, p3, p4⟩ := leaveN_good h t
  rw [lang_at p2 p4, wordsOf_pre a2 p2 (put_pre _ _) a3, leave_words_of t h]
theorem chain_good (k : Nat) : GoodS (chainS k) := by
  have := (leaveN_good GoodS.nil (fullN k)).2.1
  rwa [chain_leave] at this
theorem chain_lang {k i : Nat} (h : i ≤ k) : langS (chainS k) i = listN (fullN i) := by
  have := lang_leave (chain_good k) (fullN i)
  rwa [chain_again i k h] at this
theorem chain_count {k i : Nat} (h : i ≤ k) : (langS (chainS k) i).length = 2 ^ i := by rw [chain_lang h, full_count]
theorem chain_words (k : Nat) : RiseW (langS (chainS k) k) ∧ ∀ w ∈ langS (chainS k) k, w.length = k := by
  rw [chain_lang (Nat.le_refl _)]
  exact ⟨listN_rise _ (full_rise k), full_words k⟩
theorem two_groups {l : List Wd} (hl : l ≠ []) : trieW (l.map (97 :: ·) ++ l.map (98 :: ·)) = (false, .cons 97 (trieW l).1 (trieW l).2 (.cons 98 (trieW l).1 (trieW l).2 .nil)) := by
  have h1 : trieW (l.map (97 :: ·) ++ l.map (98 :: ·)) = (l.map (98 :: ·)).foldl insN ((l.map (97 :: ·)).foldl insN (false, .nil)) := List.foldl_append ..
  have h2 := group_trie (k := .nil) (c := 97) false trivial hl
  have h3 := group_trie (k := .cons 97 (trieW l).1 (trieW l).2 .nil) (c := 98) false ⟨by decide, trivial⟩ hl
  rw [h1, h2]
  exact h3
theorem full_trie : ∀ k : Nat, trieW (listN (fullN k)) = fullN k
  | 0 => rfl
  | k + 1 => by
    have e : listN (fullN (k + 1)) = (listN (fullN k)).map (97 :: ·) ++ (listN (fullN k)).map (98 :: ·) := by
      show (listN (fullN k)).map (97 :: ·) ++ ((listN (fullN k)).map (98 :: ·) ++ []) = _
      rw [List.append_nil]
    have hne : listN (fullN k) ≠ [] := fun h => by
      have := full_count k
      rw [h] at this
      have h2 : 0 < 2 ^ k := Nat.pow_pos (by decide)
      simp at this
      omega
    rw [e, two_groups hne, full_trie k]
    rfl
theorem chain_built (k : Nat) : buildL (listN (fullN k)) = chainS k := by
  unfold buildL
  rw [full_trie, chain_leave]
theorem full_no_nil (k : Nat) (hk : 1 ≤ k) : [] ∉ listN (fullN k) := fun h => by
  have := full_words k [] h
  simp at this
  omega
/-- Counts of the chain: from 62 on too many. -/
theorem chain_counts {k : Nat} (h : k ≤ 62) : countsR (chainS k) = (countsL (chainS k), 0) := by
  unfold countsR
  rw [if_pos]
  intro i hi
  rw [links_len] at hi
  rw [chain_count (by omega)]
  calc 2 ^ i ≤ 2 ^ 62 := Nat.pow_le_pow_right (by decide) (by omega)
    _ = 4611686018427387904 := by decide
theorem chain_over {k : Nat} (h : 62 < k) : countsR (chainS k) = ([], 5) := by
  unfold countsR
  rw [if_neg]
  intro hh
  have h1 := hh 63 (by rw [links_len]; omega)
  rw [chain_count (by omega)] at h1
  revert h1
  decide
theorem chain_top (k : Nat) : (countsL (chainS k))[k]? = some (2 ^ k) := by
  rw [counts_at (by rw [links_len]; omega), chain_count (Nat.le_refl _)]
/-- A place of the chain's words, and the word's place. -/
theorem chain_place {k n : Nat} (h : n < 2 ^ k) : ∃ w : Wd, wordR (listN (fullN k)) (n : Nat) = (w, true) ∧ placeR (listN (fullN k)) w = (n, true) ∧ w.length = k := by
  obtain ⟨w, hw⟩ : ∃ w, (listN (fullN k))[n]? = some w := ⟨_, List.getElem?_eq_getElem (by rw [full_count]; exact h)⟩
  exact ⟨w, word_at hw, place_at (listN_rise _ (full_rise k)) hw, full_words k w (List.mem_of_getElem? hw)⟩
theorem chain_no_place {k n : Nat} (h : 2 ^ k ≤ n) : wordR (listN (fullN k)) (n : Nat) = ([], false) := word_out (.inr (by rw [full_count]; exact_mod_cast h))
end Go.Proofs.Ytkcledkfgmdcgaa
