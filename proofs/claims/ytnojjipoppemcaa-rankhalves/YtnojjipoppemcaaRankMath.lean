/- rank: what is kept, classes by counts, halves: over lists. -/
import Derived.Test.YtnojjipoppemcaaEnAll
namespace Go.Proofs.Ytnojjipoppemcaa
open Go.RowKit
set_option linter.unusedVariables false
set_option linter.unusedSimpArgs false

/-- Prune. -/
def pruneL (l : List En) (a : Nat) : List En := l.filter fun e => decide (a ≤ e.2)
theorem prune_twice (l : List En) (a b : Nat) : pruneL (pruneL l a) b = pruneL l (max a b) := by
  unfold pruneL
  rw [List.filter_filter]
  apply List.filter_congr
  intro e _
  rw [← Bool.decide_and]
  apply decide_eq_decide.2
  omega
theorem prune_zero (l : List En) : pruneL l 0 = l := List.filter_eq_self.2 fun e _ => by simp
theorem prune_one {l : List En} (h : ∀ e ∈ l, e.2 ≠ 0) : pruneL l 1 = l := List.filter_eq_self.2 fun e he => by have := h e he; simp; omega
theorem prune_len (l : List En) (a : Nat) : (pruneL l a).length ≤ l.length := List.length_filter_le _ _
theorem prune_app (l m : List En) (a : Nat) : pruneL (l ++ m) a = pruneL l a ++ pruneL m a := List.filter_append ..
theorem prune_step {l : List En} {a j : Nat} {e : En} (h : l[j]? = some e) : pruneL (l.take (j + 1)) a = pruneL (l.take j) a ++ if a ≤ e.2 then [e] else [] := by
  rw [List.take_add_one, h, prune_app]
  congr 1
  by_cases ha : a ≤ e.2 <;> simp [pruneL, ha]

/-- Unlike numbers, each where it came first. -/
def addU (acc : List Nat) (a : Nat) : List Nat := if a ∈ acc then acc else acc ++ [a]
def uniqL (l : List Nat) : List Nat := l.foldl addU []
theorem uniq_snoc (l : List Nat) (a : Nat) : uniqL (l ++ [a]) = addU (uniqL l) a := by simp [uniqL, List.foldl_append]
theorem addU_mem {acc : List Nat} {a x : Nat} : x ∈ addU acc a ↔ x ∈ acc ∨ x = a := by
  unfold addU
  split
  · constructor
    · exact .inl
    · rintro (h | rfl)
      · exact h
      · assumption
  · simp
theorem addU_nodup {acc : List Nat} {a : Nat} (h : acc.Nodup) : (addU acc a).Nodup := by
  unfold addU
  split
  · exact h
  · rename_i hn
    rw [List.nodup_append]
    exact ⟨h, by simp, fun x hx y hy e => by simp at hy; subst hy; subst e; exact hn hx⟩
theorem fold_mem : ∀ (l acc : List Nat) (x : Nat), x ∈ l.foldl addU acc ↔ x ∈ acc ∨ x ∈ l
  | [], acc, x => by simp
  | a :: l, acc, x => by
    rw [List.foldl_cons, fold_mem l, addU_mem, List.mem_cons, or_assoc]
theorem fold_nodup : ∀ (l acc : List Nat), acc.Nodup → (l.foldl addU acc).Nodup
  | [], acc, h => h
  | a :: l, acc, h => fold_nodup l _ (addU_nodup h)
theorem uniq_mem {l : List Nat} {x : Nat} : x ∈ uniqL l ↔ x ∈ l := by unfold uniqL; rw [fold_mem]; simp
theorem uniq_nodup (l : List Nat) : (uniqL l).Nodup := fold_nodup l [] List.nodup_nil
theorem nodup_le : ∀ {a b : List Nat}, a.Nodup → (∀ x ∈ a, x ∈ b) → a.length ≤ b.length
  | [], b, _, _ => by simp
  | x :: a, b, h, hs => by
    rw [List.nodup_cons] at h
    have hx : x ∈ b := hs x (by simp)
    have h2 := nodup_le (a := a) (b := b.erase x) h.2 fun y hy => by
      have hne : y ≠ x := fun e => h.1 (e ▸ hy)
      exact (List.mem_erase_of_ne hne).2 (hs y (by simp [hy]))
    have h3 := List.length_erase_of_mem hx
    have h4 := List.length_pos_of_mem hx
    simp only [List.length_cons]
    omega
theorem nodup_eq {a b : List Nat} (ha : a.Nodup) (hb : b.Nodup) (h : ∀ x, x ∈ a ↔ x ∈ b) : a.length = b.length := Nat.le_antisymm (nodup_le ha fun x hx => (h x).1 hx) (nodup_le hb fun x hx => (h x).2 hx)
theorem uniq_len (l : List Nat) : (uniqL l).length ≤ l.length := nodup_le (uniq_nodup l) fun x hx => uniq_mem.1 hx

/-- How many unlike numbers are above one. -/
def aboveL (l : List Nat) (c : Nat) : List Nat := (uniqL l).filter fun x => decide (c < x)
def aboveN (l : List Nat) (c : Nat) : Nat := (aboveL l c).length
theorem above_mem {l : List Nat} {c x : Nat} : x ∈ aboveL l c ↔ x ∈ l ∧ c < x := by simp [aboveL, uniq_mem]
theorem above_nodup (l : List Nat) (c : Nat) : (aboveL l c).Nodup := List.Pairwise.filter _ (uniq_nodup l)
theorem above_same {l m : List Nat} (h : ∀ x, x ∈ l ↔ x ∈ m) (c : Nat) : aboveN l c = aboveN m c := nodup_eq (above_nodup l c) (above_nodup m c) fun x => by rw [above_mem, above_mem, h]
theorem above_le {l : List Nat} {c d : Nat} (h : c ≤ d) : aboveN l d ≤ aboveN l c := nodup_le (above_nodup l d) fun x hx => by rw [above_mem] at hx ⊢; exact ⟨hx.1, by omega⟩
theorem above_lt {l : List Nat} {c d : Nat} (h : c < d) (hd : d ∈ l) : aboveN l d < aboveN l c := by
  have h1 : (d :: aboveL l d).Nodup := List.nodup_cons.2 ⟨fun hh => by have := (above_mem.1 hh).2; omega, above_nodup l d⟩
  have := nodup_le (b := aboveL l c) h1 fun x hx => by
    rcases List.mem_cons.1 hx with rfl | hx
    · exact above_mem.2 ⟨hd, h⟩
    · rw [above_mem] at hx ⊢; exact ⟨hx.1, by omega⟩
  simp only [List.length_cons] at this
  exact this
theorem above_under {l : List Nat} {c : Nat} (h : c ∈ l) : aboveN l c < l.length := by
  have h1 : (c :: aboveL l c).Nodup := List.nodup_cons.2 ⟨fun hh => by have := (above_mem.1 hh).2; omega, above_nodup l c⟩
  have := nodup_le (b := l) h1 fun x hx => by
    rcases List.mem_cons.1 hx with rfl | hx
    · exact h
    · exact (above_mem.1 hx).1
  simp only [List.length_cons] at this
  exact this
theorem above_top {l : List Nat} {c : Nat} (h : ∀ x ∈ l, x ≤ c) : aboveN l c = 0 := by
  unfold aboveN
  rw [List.length_eq_zero_iff]
  apply List.eq_nil_iff_forall_not_mem.2
  intro x hx
  have := above_mem.1 hx
  have := h x this.1
  omega
theorem some_top : ∀ {l : List Nat}, l ≠ [] → ∃ c ∈ l, ∀ x ∈ l, x ≤ c
  | [a], _ => ⟨a, by simp, fun x hx => by simp at hx; omega⟩
  | a :: b :: l, _ => by
    obtain ⟨c, hc, hm⟩ := some_top (l := b :: l) (by simp)
    by_cases h : c ≤ a
    · refine ⟨a, by simp, fun x hx => ?_⟩
      rcases List.mem_cons.1 hx with rfl | hx
      · exact Nat.le_refl _
      · exact Nat.le_trans (hm x hx) h
    · refine ⟨c, List.mem_cons_of_mem _ hc, fun x hx => ?_⟩
      rcases List.mem_cons.1 hx with rfl | hx
      · omega
      · exact hm x hx
theorem above_times {l : List Nat} {m : Nat} (hm : 1 ≤ m) (c : Nat) : aboveN (l.map (· * m)) (c * m) = aboveN l c := by
  have h1 : ((aboveL l c).map (· * m)).Nodup := by
    refine List.Pairwise.map _ (fun a b hab e => hab ?_) (above_nodup l c)
    exact Nat.eq_of_mul_eq_mul_right (by omega) e
  have := nodup_eq (above_nodup (l.map (· * m)) (c * m)) h1 fun x => by
    rw [above_mem, List.mem_map, List.mem_map]
    constructor
    · rintro ⟨⟨a, ha, rfl⟩, hlt⟩
      exact ⟨a, above_mem.2 ⟨ha, Nat.lt_of_mul_lt_mul_right hlt⟩, rfl⟩
    · rintro ⟨a, ha, rfl⟩
      rw [above_mem] at ha
      exact ⟨⟨a, ha.1, rfl⟩, Nat.mul_lt_mul_of_pos_right ha.2 (by omega)⟩
  rw [List.length_map] at this
  exact this
/-- The document's count of first ones that are above. -/
def firstsN (l : List Nat) (c : Nat) : Nat → Nat
  | 0 => 0
  | k + 1 => firstsN l c k + if c < l.getD k 0 ∧ l.getD k 0 ∉ l.take k then 1 else 0
theorem firsts_above {l : List Nat} (c : Nat) : ∀ k, k ≤ l.length → firstsN l c k = aboveN (l.take k) c
  | 0, _ => by simp [firstsN, aboveN, aboveL, uniqL]
  | k + 1, h => by
    have ih := firsts_above (l := l) c k (by omega)
    obtain ⟨a, ha⟩ : ∃ a, l[k]? = some a := ⟨_, List.getElem?_eq_getElem (by omega)⟩
    have hg : l.getD k 0 = a := by simp [List.getD_eq_getElem?_getD, ha]
    rw [firstsN, ih, hg, List.take_add_one, ha]
    unfold aboveN aboveL
    rw [show (some a : Option Nat).toList = [a] from rfl, uniq_snoc]
    unfold addU
    by_cases hm : a ∈ l.take k
    · rw [if_pos (uniq_mem.2 hm), if_neg (fun hh => hh.2 hm), Nat.add_zero]
    · rw [if_neg (fun hh => hm (uniq_mem.1 hh)), List.filter_append, List.length_append]
      by_cases hc : c < a
      · rw [if_pos ⟨hc, hm⟩]; simp [hc]
      · rw [if_neg (fun hh => hc hh.1)]; simp [hc]
theorem firsts_all (l : List Nat) (c : Nat) : firstsN l c l.length = aboveN l c := by rw [firsts_above c _ (Nat.le_refl _), List.take_length]
/-- Classes. -/
def classN (l : List Nat) (c : Nat) : Nat := min (aboveN l c) 255
def classesL (l : List Nat) : List Nat := l.map (classN l)
theorem classes_len (l : List Nat) : (classesL l).length = l.length := by simp [classesL]
theorem classes_at {l : List Nat} {i c : Nat} (h : l[i]? = some c) : (classesL l)[i]? = some (classN l c) := by simp [classesL, h]
theorem class_le {l : List Nat} {c d : Nat} (h : c ≤ d) : classN l d ≤ classN l c := by have := above_le (l := l) h; unfold classN; omega
theorem class_lt {l : List Nat} {c d : Nat} (h : c < d) (hd : d ∈ l) (hc : c ∈ l) (hl : l.length ≤ 256) : classN l d < classN l c := by
  have h1 := above_lt h hd
  have h2 := above_under hc
  unfold classN
  omega
theorem class_most (l : List Nat) (c : Nat) : classN l c ≤ 255 := Nat.min_le_right _ _
theorem class_same {l m : List Nat} (h : ∀ x, x ∈ l ↔ x ∈ m) (c : Nat) : classN l c = classN m c := by unfold classN; rw [above_same h]
theorem class_times {l : List Nat} {m : Nat} (hm : 1 ≤ m) (c : Nat) : classN (l.map (· * m)) (c * m) = classN l c := by unfold classN; rw [above_times hm]
theorem class_top {l : List Nat} (h : l ≠ []) : ∃ c ∈ l, classN l c = 0 := by
  obtain ⟨c, hc, hm⟩ := some_top h
  exact ⟨c, hc, by unfold classN; rw [above_top hm]; rfl⟩

/-- Half. -/
def halfN : Nat → Nat → Nat
  | 0, _ => 0
  | f + 1, n => if n = 0 then 0 else 1 + halfN f (n / 2)
theorem half_fuel : ∀ (f g n : Nat), n ≤ f → n ≤ g → halfN f n = halfN g n
  | 0, g, n, h, _ => by
    obtain rfl : n = 0 := by omega
    cases g <;> simp [halfN]
  | f + 1, 0, n, _, h => by
    obtain rfl : n = 0 := by omega
    simp [halfN]
  | f + 1, g + 1, n, h1, h2 => by
    rw [halfN, halfN]
    split
    · rfl
    · rw [half_fuel f g (n / 2) (by omega) (by omega)]
def halfs (n : Nat) : Nat := halfN n n
theorem half_zero : halfs 0 = 0 := rfl
theorem half_next {n : Nat} (h : n ≠ 0) : halfs n = 1 + halfs (n / 2) := by
  obtain ⟨m, rfl⟩ : ∃ m, n = m + 1 := ⟨n - 1, by omega⟩
  unfold halfs
  rw [halfN, if_neg (by omega), half_fuel m ((m + 1) / 2) _ (by omega) (Nat.le_refl _)]
theorem half_iff {n : Nat} : halfs n = 0 ↔ n = 0 := by
  constructor
  · intro h
    by_cases h0 : n = 0
    · exact h0
    · rw [half_next h0] at h; omega
  · rintro rfl; rfl
theorem half_twice {a : Nat} (h : a ≠ 0) : halfs (2 * a) = halfs a + 1 := by rw [half_next (by omega), show 2 * a / 2 = a by omega]; omega
theorem half_odd {a : Nat} (h : a ≠ 0) : halfs (2 * a + 1) = halfs (2 * a) := by rw [half_next (by omega), half_next (n := 2 * a) (by omega), show (2 * a + 1) / 2 = a by omega, show 2 * a / 2 = a by omega]
theorem half_mono : ∀ (a b : Nat), a ≤ b → halfs a ≤ halfs b := by
  intro a
  induction a using Nat.strongRecOn with
  | ind a ih =>
    intro b h
    by_cases h0 : a = 0
    · subst h0; rw [half_zero]; omega
    · rw [half_next h0, half_next (n := b) (by omega)]
      have := ih (a / 2) (by omega) (b / 2) (by omega)
      omega
theorem half_most : ∀ (k n : Nat), n < 2 ^ k → halfs n ≤ k
  | 0, n, h => by
    obtain rfl : n = 0 := by simpa using h
    exact Nat.le_refl _
  | k + 1, n, h => by
    by_cases h0 : n = 0
    · subst h0; rw [half_zero]; omega
    · rw [half_next h0]
      have := half_most k (n / 2) (by rw [Nat.pow_succ] at h; omega)
      omega
end Go.Proofs.Ytnojjipoppemcaa
