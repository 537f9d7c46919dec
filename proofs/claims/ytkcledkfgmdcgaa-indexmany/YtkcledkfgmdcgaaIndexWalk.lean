/- A word's place, and a place's word, by counts along an automaton. -/
import Derived.Test.YtkcledkfgmdcgaaRef15
namespace Go.Proofs.Ytkcledkfgmdcgaa
open Go.RowKit
set_option linter.unusedVariables false
set_option linter.unusedSimpArgs false

theorem place_iff {l : List Wd} {k : Wd} : placeR l k = if k ∈ l then (l.idxOf k, true) else (0, false) := rfl
theorem place_append (x y : List Wd) (k : Wd) : placeR (x ++ y) k = if k ∈ x then (x.idxOf k, true) else if k ∈ y then (x.length + y.idxOf k, true) else (0, false) := by
  unfold placeR
  rw [List.idxOf_append]
  by_cases h1 : k ∈ x
  · rw [if_pos h1, if_pos (List.mem_append.2 (.inl h1)), if_pos h1]
  · rw [if_neg h1, if_neg h1]
    by_cases h2 : k ∈ y
    · rw [if_pos (List.mem_append.2 (.inr h2)), if_pos h2, Nat.add_comm]
    · rw [if_neg (fun h => (List.mem_append.1 h).elim h1 h2), if_neg h2]
theorem mem_cons_map {c d : UInt8} {v : Wd} {l : List Wd} : c :: v ∈ l.map (d :: ·) ↔ c = d ∧ v ∈ l := by
  simp only [List.mem_map, List.cons.injEq]
  constructor
  · rintro ⟨u, hu, h1, h2⟩; subst h1 h2; exact ⟨rfl, hu⟩
  · rintro ⟨rfl, h⟩; exact ⟨v, h, rfl, rfl⟩
theorem idx_map (c : UInt8) (v : Wd) : ∀ l : List Wd, (l.map (c :: ·)).idxOf (c :: v) = l.idxOf v
  | [] => rfl
  | a :: l => by
    rw [List.map_cons, List.idxOf_cons, List.idxOf_cons, idx_map c v l]
    by_cases h : a = v
    · subst h; simp
    · have h1 : (a == v) = false := by simpa using h
      have h2 : ((c :: a) == (c :: v)) = false := by simpa using h
      rw [h1, h2]
theorem flat_mem (S : List Stt) (c : UInt8) (v : Wd) : ∀ {es : List (UInt8 × Nat)}, c :: v ∈ flatS S es → ∃ e ∈ es, e.1 = c
  | [], h => by simp [flatS] at h
  | e :: es, h => by
    have h' : c :: v ∈ (langS S e.2).map (e.1 :: ·) ++ flatS S es := h
    rcases List.mem_append.1 h' with h1 | h1
    · exact ⟨e, List.mem_cons_self, (mem_cons_map.1 h1).1.symm⟩
    · obtain ⟨d, hd, he⟩ := flat_mem S c v h1
      exact ⟨d, List.mem_cons_of_mem _ hd, he⟩
/-- How many words are taken by the edges ahead of a byte's. -/
def offE (S : List Stt) : List (UInt8 × Nat) → UInt8 → Nat
  | [], _ => 0
  | e :: es, c => if e.1 = c then 0 else (langS S e.2).length + offE S es c
theorem place_edges (S : List Stt) (c : UInt8) (v : Wd) : ∀ {es : List (UInt8 × Nat)}, RiseEd es → placeR (flatS S es) (c :: v) = match stepE es c with
    | none => (0, false)
    | some m => if (placeR (langS S m) v).2 = true then (offE S es c + (placeR (langS S m) v).1, true) else (0, false)
  | [], _ => rfl
  | e :: es, hr => by
    have hr2 : RiseEd es := (List.pairwise_cons.1 hr).2
    have hlt := (List.pairwise_cons.1 hr).1
    have ih := place_edges S c v hr2
    show placeR ((langS S e.2).map (e.1 :: ·) ++ flatS S es) (c :: v) = _
    rw [place_append, stepE, offE]
    by_cases hc : e.1 = c
    · rw [if_pos hc, if_pos hc]
      subst hc
      have hnot : ¬ e.1 :: v ∈ flatS S es := fun h => by
        obtain ⟨d, hd, he⟩ := flat_mem S e.1 v h
        have := hlt d hd
        rw [he] at this
        exact UInt8.lt_irrefl _ this
      simp only
      rw [place_iff]
      by_cases hv : v ∈ langS S e.2
      · rw [if_pos (mem_cons_map.2 ⟨rfl, hv⟩), if_pos hv, if_pos rfl, idx_map, Nat.zero_add]
      · rw [if_neg (fun h => hv (mem_cons_map.1 h).2), if_neg hnot, if_neg hv]
        simp
    · rw [if_neg hc, if_neg hc, if_neg (fun h => hc (mem_cons_map.1 h).1.symm)]
      rw [place_iff] at ih
      cases hs : stepE es c with
      | none =>
        rw [hs] at ih
        simp only at ih ⊢
        by_cases h : c :: v ∈ flatS S es
        · rw [if_pos h] at ih; exact absurd (congrArg Prod.snd ih) (by simp)
        · rw [if_neg h]
      | some m =>
        rw [hs] at ih
        simp only at ih ⊢
        by_cases h : c :: v ∈ flatS S es
        · rw [if_pos h] at ih ⊢
          by_cases hp : (placeR (langS S m) v).2 = true
          · rw [if_pos hp] at ih ⊢
            simp only [Prod.mk.injEq, and_true] at ih
            rw [ih, List.length_map, Nat.add_assoc]
          · rw [if_neg hp] at ih; exact absurd (congrArg Prod.snd ih) (by simp)
        · rw [if_neg h] at ih ⊢
          by_cases hp : (placeR (langS S m) v).2 = true
          · rw [if_pos hp] at ih; exact absurd (congrArg Prod.snd ih) (by simp)
          · rw [if_neg hp]
theorem place_end {S : List Stt} (h : GoodS S) {n : Nat} {s : Stt} (hs : S[n]? = some s) : placeR (langS S n) [] = (0, s.1) := by
  rw [lang_at h hs]
  unfold wordsOf
  rw [place_append]
  have hno : ([] : Wd) ∉ flatS S s.2 := fun hm => by
    obtain ⟨e, he, hm⟩ := List.mem_flatMap.1 hm
    obtain ⟨u, _, hu⟩ := List.mem_map.1 hm
    cases hu
  cases hf : s.1 with
  | true => simp
  | false => rw [if_neg (by simp), if_neg hno]
theorem place_cons {S : List Stt} (h : GoodS S) {n : Nat} {s : Stt} (hs : S[n]? = some s) (hr : RiseEd s.2) (c : UInt8) (v : Wd) : placeR (langS S n) (c :: v) = match stepE s.2 c with
    | none => (0, false)
    | some m => if (placeR (langS S m) v).2 = true then ((if s.1 then 1 else 0) + offE S s.2 c + (placeR (langS S m) v).1, true) else (0, false) := by
  rw [lang_at h hs]
  unfold wordsOf
  rw [place_append, if_neg (by cases s.1 <;> simp)]
  have hp := place_edges S c v hr
  rw [place_iff] at hp
  have hl : ((if s.1 = true then [[]] else []) : List Wd).length = if s.1 then 1 else 0 := by cases s.1 <;> rfl
  rw [hl]
  cases he : stepE s.2 c with
  | none =>
    rw [he] at hp
    simp only at hp ⊢
    by_cases hm : c :: v ∈ flatS S s.2
    · rw [if_pos hm] at hp; exact absurd (congrArg Prod.snd hp) (by simp)
    · rw [if_neg hm]
  | some m =>
    rw [he] at hp
    simp only at hp ⊢
    by_cases hm : c :: v ∈ flatS S s.2
    · rw [if_pos hm] at hp ⊢
      by_cases hq : (placeR (langS S m) v).2 = true
      · rw [if_pos hq] at hp ⊢
        simp only [Prod.mk.injEq, and_true] at hp
        rw [hp, Nat.add_assoc]
      · rw [if_neg hq] at hp; exact absurd (congrArg Prod.snd hp) (by simp)
    · rw [if_neg hm] at hp ⊢
      by_cases hq : (placeR (langS S m) v).2 = true
      · rw [if_pos hq] at hp; exact absurd (congrArg Prod.snd hp) (by simp)
      · rw [if_neg hq]
theorem off_le (S : List Stt) (c : UInt8) : ∀ es : List (UInt8 × Nat), offE S es c ≤ (flatS S es).length
  | [] => Nat.zero_le _
  | e :: es => by
    have ih := off_le S c es
    show offE S (e :: es) c ≤ ((langS S e.2).map (e.1 :: ·) ++ flatS S es).length
    rw [List.length_append, List.length_map, offE]
    split <;> omega
/-- Which edge a place lies behind, and the place from there on. -/
def pickE (S : List Stt) : List (UInt8 × Nat) → Nat → Option ((UInt8 × Nat) × Nat)
  | [], _ => none
  | e :: es, i => if i < (langS S e.2).length then some (e, i) else pickE S es (i - (langS S e.2).length)
theorem flat_at (S : List Stt) : ∀ (es : List (UInt8 × Nat)) (i : Nat), (flatS S es)[i]? = match pickE S es i with
    | none => none
    | some p => ((langS S p.1.2)[p.2]?).map (p.1.1 :: ·)
  | [], i => rfl
  | e :: es, i => by
    have ih := flat_at S es (i - (langS S e.2).length)
    show ((langS S e.2).map (e.1 :: ·) ++ flatS S es)[i]? = _
    rw [pickE]
    by_cases h : i < (langS S e.2).length
    · rw [if_pos h, List.getElem?_append_left (by simpa using h), List.getElem?_map]
    · rw [if_neg h, List.getElem?_append_right (by simpa using h), List.length_map, ih]
theorem pick_in (S : List Stt) : ∀ {es : List (UInt8 × Nat)} {i : Nat}, i < (flatS S es).length → ∃ p, pickE S es i = some p ∧ p.1 ∈ es ∧ p.2 < (langS S p.1.2).length
  | [], i, h => by simp [flatS] at h
  | e :: es, i, h => by
    have h' : i < ((langS S e.2).map (e.1 :: ·) ++ flatS S es).length := h
    rw [List.length_append, List.length_map] at h'
    rw [pickE]
    by_cases hi : i < (langS S e.2).length
    · rw [if_pos hi]; exact ⟨_, rfl, List.mem_cons_self, hi⟩
    · rw [if_neg hi]
      obtain ⟨p, h1, h2, h3⟩ := pick_in S (es := es) (i := i - (langS S e.2).length) (by omega)
      exact ⟨p, h1, List.mem_cons_of_mem _ h2, h3⟩
/-- The word at a place: the state's own, or one behind an edge. -/
theorem lang_nth {S : List Stt} (h : GoodS S) {n : Nat} {s : Stt} (hs : S[n]? = some s) (i : Nat) : (langS S n)[i]? = if s.1 = true ∧ i = 0 then some [] else (flatS S s.2)[i - (if s.1 then 1 else 0)]? := by
  rw [lang_at h hs]
  unfold wordsOf
  cases s.1 with
  | false => simp
  | true =>
    cases i with
    | zero => simp
    | succ i => simp
end Go.Proofs.Ytkcledkfgmdcgaa
