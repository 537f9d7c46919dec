/- Passes: groups of runs, how many passes there are, and runs merged few at a time. -/
import Derived.Test.YtknfjonaepggnaaLoserRunsM
namespace Go.Proofs.Ytknfjonaepggnaa
set_option linter.unusedVariables false
set_option linter.unusedSimpArgs false

/-- How many groups of k there are of n. -/
def upN (n k : Nat) : Nat := (n + k - 1) / k
theorem ups_lt {n k : Nat} (hk : 2 ≤ k) (hn : 2 ≤ n) : upN n k < n := by
  unfold upN
  rw [Nat.div_lt_iff_lt_mul (by omega)]
  have : n * 2 ≤ n * k := Nat.mul_le_mul_left n hk
  have h2 : n * k = n * (k - 1) + n := by rw [← Nat.mul_succ]; congr 1; omega
  have h3 : k - 1 ≤ n * (k - 1) := Nat.le_mul_of_pos_left _ (by omega)
  have h4 : 2 * (k - 1) ≤ n * (k - 1) := Nat.mul_le_mul_right _ hn
  omega
theorem ups_pos {n k : Nat} (hk : 1 ≤ k) (hn : 1 ≤ n) : 1 ≤ upN n k := by
  unfold upN
  rw [Nat.le_div_iff_mul_le (by omega)]; omega
theorem ups_le {n k t : Nat} (hk : 1 ≤ k) : upN n k ≤ t ↔ n ≤ t * k := by
  unfold upN
  rw [Nat.div_le_iff_le_mul_add_pred (by omega)]
  rw [Nat.mul_comm k t]
  omega
theorem lt_ups {n k t : Nat} (hk : 1 ≤ k) : t < upN n k ↔ t * k < n := by
  have := ups_le (n := n) (t := t) hk
  omega
/-- How many passes there are, of one run or more. -/
def passN : Nat → Nat → Nat → Nat
  | 0, _, _ => 0
  | f + 1, n, k => if n ≤ 1 then 0 else 1 + passN f (upN n k) k
theorem pass_fuel : ∀ (f g n k : Nat), 2 ≤ k → n ≤ f → n ≤ g → passN f n k = passN g n k
  | 0, 0, _, _, _, _, _ => rfl
  | 0, g + 1, n, k, _, h, _ => by rw [passN, passN, if_pos (by omega)]
  | f + 1, 0, n, k, _, _, h => by rw [passN, passN, if_pos (by omega)]
  | f + 1, g + 1, n, k, hk, h, h' => by
    rw [passN, passN]
    split
    · rfl
    · have := ups_lt (n := n) hk (by omega)
      rw [pass_fuel f g (upN n k) k hk (by omega) (by omega)]
def passesN (n k : Nat) : Nat := passN n n k
theorem passes_one (k : Nat) : passesN 1 k = 0 := rfl
theorem passes_next {n k : Nat} (hk : 2 ≤ k) (hn : 2 ≤ n) : passesN n k = 1 + passesN (upN n k) k := by
  unfold passesN
  obtain ⟨m, rfl⟩ : ∃ m, n = m + 1 := ⟨n - 1, by omega⟩
  rw [passN, if_neg (by omega), pass_fuel m (upN (m + 1) k) (upN (m + 1) k) k hk (by have := ups_lt (n := m + 1) hk hn; omega) (Nat.le_refl _)]
/-- Passes are as few as can be. -/
theorem passes_few : ∀ (n k : Nat), 2 ≤ k → 1 ≤ n → n ≤ k ^ passesN n k ∧ (passesN n k = 0 ∨ k ^ (passesN n k - 1) < n) := by
  intro n
  induction n using Nat.strongRecOn with
  | ind n ih =>
    intro k hk hn
    by_cases h1 : n = 1
    · subst h1; rw [passes_one]; exact ⟨by simp, .inl rfl⟩
    · have hn2 : 2 ≤ n := by omega
      obtain ⟨h2, h3⟩ := ih (upN n k) (ups_lt hk hn2) k hk (ups_pos (by omega) hn)
      rw [passes_next hk hn2]
      refine ⟨?_, .inr ?_⟩
      · rw [Nat.add_comm, Nat.pow_succ]
        exact (ups_le (by omega)).1 h2
      · rw [Nat.add_sub_cancel_left]
        rcases h3 with h3 | h3
        · rw [h3]; rw [Nat.pow_zero]; omega
        · by_cases h4 : passesN (upN n k) k = 0
          · rw [h4]; rw [Nat.pow_zero]; omega
          · obtain ⟨q, hq⟩ : ∃ q, passesN (upN n k) k = q + 1 := ⟨passesN (upN n k) k - 1, by omega⟩
            rw [hq] at h3 ⊢
            rw [Nat.add_sub_cancel] at h3
            rw [Nat.pow_succ]
            exact (lt_ups (by omega)).1 h3
theorem passes_least {n k p : Nat} (hk : 2 ≤ k) (hn : 1 ≤ n) (h : n ≤ k ^ p) : passesN n k ≤ p := by
  obtain ⟨_, h2⟩ := passes_few n k hk hn
  rcases h2 with h2 | h2
  · omega
  · by_cases hp : passesN n k ≤ p
    · exact hp
    · exfalso
      have : k ^ p ≤ k ^ (passesN n k - 1) := Nat.pow_le_pow_right (by omega) (by omega)
      omega
theorem passes_more {n k : Nat} (hk : 2 ≤ k) (hn : 1 ≤ n) : passesN n (k + 1) ≤ passesN n k :=
  passes_least (by omega) hn (Nat.le_trans (passes_few n k hk hn).1 (Nat.pow_le_pow_left (by omega) _))
theorem passes_16 {n k : Nat} (hk : 2 ≤ k) (hn : 1 ≤ n) (h : n ≤ 65536) : passesN n k ≤ 16 :=
  passes_least hk hn (Nat.le_trans h (Nat.le_trans (show 65536 ≤ 2 ^ 16 by decide) (Nat.pow_le_pow_left hk 16)))
theorem passes_zero {n k : Nat} (hk : 2 ≤ k) (hn : 1 ≤ n) : passesN n k = 0 ↔ n = 1 := by
  constructor
  · intro h
    have := (passes_few n k hk hn).1
    rw [h] at this
    simpa using (show n = 1 by simp at this; omega)
  · rintro rfl; rfl

/-- The groups of a pass. -/
def groupsL (n k : Nat) : List (Nat × Nat) := (List.range (upN n k)).map fun i => (i * k, min (i * k + k) n)
theorem groups_len (n k : Nat) : (groupsL n k).length = upN n k := by simp [groupsL]
theorem groups_at {n k i : Nat} (hi : i < upN n k) : (groupsL n k)[i]? = some (i * k, min (i * k + k) n) := by simp [groupsL, hi]
/-- So many groups as the fan goes into how many there are, the rest one more. -/
theorem ups_want {n k : Nat} (hk : 1 ≤ k) : upN n k = n / k + if 0 < n % k then 1 else 0 := by
  have h := Nat.div_add_mod n k
  have hm := Nat.mod_lt n (show k > 0 by omega)
  apply Nat.le_antisymm
  · rw [ups_le hk, Nat.add_mul, Nat.mul_comm]
    split <;> omega
  · split
    · have : n / k < upN n k := by rw [lt_ups hk, Nat.mul_comm]; omega
      omega
    · unfold upN
      exact Nat.div_le_div_right (by omega)

/-! Runs, few at a time. -/
/-- The group's runs. -/
def partAt {α : Type} (l : List α) (k i : Nat) : List α := (l.drop (i * k)).take k
def partsL {α : Type} (l : List α) (k : Nat) : List (List α) := (List.range (upN l.length k)).map (partAt l k)
theorem parts_len {α : Type} (l : List α) (k : Nat) : (partsL l k).length = upN l.length k := by simp [partsL]
theorem part_group {α : Type} {l : List α} {k i : Nat} : (l.take (min (i * k + k) l.length)).drop (i * k) = partAt l k i := by
  unfold partAt
  rw [List.drop_take]
  apply List.ext_getElem?
  intro j
  by_cases h : j < min (i * k + k) l.length - i * k
  · rw [List.getElem?_take_of_lt h, List.getElem?_take_of_lt (by omega)]
  · rw [List.getElem?_take_eq_none (by omega)]
    symm
    by_cases hj : j < k
    · rw [List.getElem?_take_of_lt hj, List.getElem?_drop, List.getElem?_eq_none (by omega)]
    · rw [List.getElem?_take_eq_none (by omega)]
theorem sum_parts (l : List (List En)) (k : Nat) (x : Wd) : ∀ m, ((List.range m).map fun i => sumK (partAt l k i) x).sum = sumK (l.take (m * k)) x
  | 0 => by simp [sumK]
  | m + 1 => by
    rw [List.range_succ, List.map_append, List.sum_append, sum_parts l k x m]
    simp only [List.map_cons, List.map_nil, List.sum_cons, List.sum_nil, Nat.add_zero]
    rw [← sumK_app]
    congr 1
    unfold partAt
    rw [Nat.add_mul, Nat.one_mul, List.take_add]
theorem part_sub {α : Type} {l : List α} {k i : Nat} {x : α} (h : x ∈ partAt l k i) : x ∈ l := List.mem_of_mem_drop (List.mem_of_mem_take h)
theorem sumK_parts (l : List (List En)) {k : Nat} (hk : 1 ≤ k) (x : Wd) : ((List.range (upN l.length k)).map fun i => sumK (partAt l k i) x).sum = sumK l x := by
  rw [sum_parts, List.take_of_length_le]
  exact (ups_le hk).1 (Nat.le_refl _)
theorem sum_le_mem : ∀ {l : List Nat} {x : Nat}, x ∈ l → x ≤ l.sum
  | a :: l, x, h => by
    rw [List.sum_cons]
    rcases List.mem_cons.1 h with rfl | h
    · omega
    · have := sum_le_mem h; omega
/-- Merged in groups, and these merged, lists are as merged at once. -/
theorem merge_groups {ls : List (List En)} (hl : ls.length ≤ 256) (h : (mergeL ls).2 = 0) {k : Nat} (hk : 2 ≤ k) :
    (∀ i, i < upN ls.length k → (mergeL (partAt ls k i)).2 = 0) ∧ mergeL ((List.range (upN ls.length k)).map fun i => (mergeL (partAt ls k i)).1) = ((mergeL ls).1, 0) := by
  have hpl : ∀ i, (partAt ls k i).length ≤ 256 := fun i => by unfold partAt; rw [List.length_take, List.length_drop]; omega
  have h1 : ∀ i, i < upN ls.length k → (mergeL (partAt ls k i)).2 = 0 := fun i hi =>
    merge_part hl h (hpl i) (fun l hl => part_sub hl) fun x => by
      rw [← sumK_parts ls (show 1 ≤ k by omega) x]
      exact sum_le_mem (List.mem_map.2 ⟨i, List.mem_range.2 hi, rfl⟩)
  refine ⟨h1, ?_⟩
  obtain ⟨_, g2, g3, _, _⟩ := merge_ok hl h
  have hup : upN ls.length k ≤ 256 := (ups_le (by omega)).2 (by have : 256 * 2 ≤ 256 * k := Nat.mul_le_mul_left _ hk; omega)
  refine merge_is (by simpa using hup) (all_bad fun l hl => ?_) g2.rise g2.pos fun x => ?_
  · obtain ⟨i, hi, rfl⟩ := List.mem_map.1 hl
    exact (merge_all _).1
  · rw [g3, ← sumK_parts ls (show 1 ≤ k by omega) x]
    unfold sumK
    rw [List.map_map]
    congr 1
    apply List.map_congr_left
    intro i hi
    exact ((merge_ok (hpl i) (h1 i (List.mem_range.1 hi))).2.2.1 x).symm

theorem tot_app (a b : List (List En)) : totL (a ++ b) = totL a + totL b := by simp [totL]
theorem tot_parts (l : List (List En)) (k : Nat) : ∀ m, ((List.range m).map fun i => totL (partAt l k i)).sum = totL (l.take (m * k))
  | 0 => by simp [totL]
  | m + 1 => by
    rw [List.range_succ, List.map_append, List.sum_append, tot_parts l k m]
    simp only [List.map_cons, List.map_nil, List.sum_cons, List.sum_nil, Nat.add_zero]
    rw [← tot_app]
    congr 1
    unfold partAt
    rw [Nat.add_mul, Nat.one_mul, List.take_add]
theorem sum_map_le {α : Type} : ∀ (l : List α) (f g : α → Nat), (∀ a ∈ l, f a ≤ g a) → (l.map f).sum ≤ (l.map g).sum
  | [], _, _, _ => Nat.le_refl _
  | a :: l, f, g, h => by
    simp only [List.map_cons, List.sum_cons]
    have h1 := sum_map_le l f g fun x hx => h x (by simp [hx])
    have h2 := h a (by simp)
    omega
theorem tot_merged (ls : List (List En)) (k m : Nat) : totL ((List.range m).map fun i => (mergeL (partAt ls k i)).1) ≤ totL ls := by
  have h1 : totL ((List.range m).map fun i => (mergeL (partAt ls k i)).1) = ((List.range m).map fun i => (mergeL (partAt ls k i)).1.length).sum := by
    unfold totL
    rw [List.length_flatten, List.map_map]; rfl
  have h2 := sum_map_le (List.range m) (fun i => (mergeL (partAt ls k i)).1.length) (fun i => totL (partAt ls k i)) fun i _ => (merge_all _).2
  rw [tot_parts] at h2
  have h3 := (tot_cut ls (m * k)).1
  omega
/-- The first error of the groups' runs, or all of them. -/
def partsM (rs : List (List Int)) (k s : Nat) : Nat → List (List Int) × Nat
  | 0 => ([], 0)
  | m + 1 => if (partsM rs k s m).2 = 0 then (if (runsM (partAt rs k m) s).2 = 0 then ((partsM rs k s m).1 ++ [(runsM (partAt rs k m) s).1], 0) else ([], (runsM (partAt rs k m) s).2)) else partsM rs k s m
/-- Merge, of a fan and a size that may be, and 256 runs at most. -/
def passM : Nat → List (List Int) → Nat → Nat → List Int × Nat
  | 0, rs, _, s => runsM rs s
  | f + 1, rs, k, s => if rs.length < 2 then runsM rs s else
      if (partsM rs k s (upN rs.length k)).2 = 0 then
        (if (partsM rs k s (upN rs.length k)).1.length = 1 then ((partsM rs k s (upN rs.length k)).1.headD [], 0) else passM f (partsM rs k s (upN rs.length k)).1 k s)
      else ([], (partsM rs k s (upN rs.length k)).2)
theorem partsM_len (rs : List (List Int)) (k s : Nat) : ∀ m, (partsM rs k s m).2 = 0 → (partsM rs k s m).1.length = m
  | 0, _ => rfl
  | m + 1, h => by
    rw [partsM] at h ⊢
    split at h
    · rename_i h1
      rw [if_pos h1]
      split at h
      · rename_i h2
        rw [if_pos h2, List.length_append, partsM_len rs k s m h1]; rfl
      · rename_i h2; exact absurd h h2
    · rename_i h1; exact absurd h h1
/-- Runs that merge: what they are merged to. -/
theorem runs_is {rs : List (List Int)} {s : Nat} (h1 : 1 ≤ s) (h2 : s ≤ 255) (h : (runsM rs s).2 = 0) : (∀ r ∈ rs, (decL r).2 = 0) ∧ (mergeL (decAll rs)).2 = 0 ∧ runsM rs s = (runL (mergeL (decAll rs)).1 s, 0) := by
  have hall : ∀ r ∈ rs, (decL r).2 = 0 := fun r hr => by
    by_cases hd : (decL r).2 = 0
    · exact hd
    · rw [runs_bad hr hd] at h; cases h
  rw [runs_ok hall] at h ⊢
  by_cases hm : (mergeL (decAll rs)).2 = 0
  · rw [if_pos hm]
    exact ⟨hall, hm, enc_is ⟨h1, h2, (merge_all _).1⟩⟩
  · rw [if_neg hm] at h; exact absurd h hm
theorem is_runs {rs : List (List Int)} {s : Nat} (h1 : 1 ≤ s) (h2 : s ≤ 255) (hall : ∀ r ∈ rs, (decL r).2 = 0) (hm : (mergeL (decAll rs)).2 = 0) : runsM rs s = (runL (mergeL (decAll rs)).1 s, 0) := by
  rw [runs_ok hall, if_pos hm, enc_is ⟨h1, h2, (merge_all _).1⟩]
theorem decAll_part (rs : List (List Int)) (k i : Nat) : decAll (partAt rs k i) = partAt (decAll rs) k i := by simp [decAll, partAt, List.map_take, List.map_drop]
theorem decAll_len (rs : List (List Int)) : (decAll rs).length = rs.length := by simp [decAll]
theorem partsM_is {rs : List (List Int)} {k s : Nat} (h1 : 1 ≤ s) (h2 : s ≤ 255) (hk : 2 ≤ k) (hl : rs.length ≤ 256) (h : (runsM rs s).2 = 0) : ∀ m, m ≤ upN rs.length k →
    partsM rs k s m = ((List.range m).map fun i => runL (mergeL (partAt (decAll rs) k i)).1 s, 0) := by
  obtain ⟨g1, g2, g3⟩ := runs_is h1 h2 h
  have hg := (merge_groups (ls := decAll rs) (by rw [decAll_len]; exact hl) g2 hk).1
  intro m
  induction m with
  | zero => intro _; rfl
  | succ m ih =>
    intro hm
    have ih' := ih (by omega)
    have hr : runsM (partAt rs k m) s = (runL (mergeL (partAt (decAll rs) k m)).1 s, 0) := by
      have := is_runs (rs := partAt rs k m) h1 h2 (fun r hr => g1 r (part_sub hr)) (by rw [decAll_part]; exact hg m (by rw [decAll_len]; omega))
      rw [decAll_part] at this
      exact this
    rw [partsM, ih', if_pos rfl, hr, if_pos rfl, List.range_succ, List.map_append]
    rfl
theorem dec_parts {ls : List (List En)} {k s m : Nat} (h1 : 1 ≤ s) (h2 : s ≤ 255) (ht : totL ls < 18446744073709551616) : decAll ((List.range m).map fun i => runL (mergeL (partAt ls k i)).1 s) = (List.range m).map (fun i => (mergeL (partAt ls k i)).1) ∧ ∀ r ∈ (List.range m).map (fun i => runL (mergeL (partAt ls k i)).1 s), (decL r).2 = 0 := by
  have key : ∀ i, decL (runL (mergeL (partAt ls k i)).1 s) = ((mergeL (partAt ls k i)).1, 0) := fun i => by
    obtain ⟨m1, m2⟩ := merge_all (partAt ls k i)
    refine dec_back ⟨h1, h2, m1⟩ ?_
    have h3 := (tot_cut (ls.drop (i * k)) k).1
    have h4 := (tot_cut ls (i * k)).2
    unfold partAt at m2 ⊢
    omega
  constructor
  · unfold decAll
    rw [List.map_map]
    exact List.map_congr_left fun i _ => by simp only [Function.comp, key]
  · intro r hr
    obtain ⟨i, _, rfl⟩ := List.mem_map.1 hr
    rw [key]
/-- Merged few at a time runs are as merged all at once. -/
theorem pass_once : ∀ (f : Nat) (rs : List (List Int)) (k s : Nat), 1 ≤ s → s ≤ 255 → 2 ≤ k → rs.length ≤ 256 → rs.length ≤ f → totL (decAll rs) < 18446744073709551616 → (runsM rs s).2 = 0 → passM f rs k s = runsM rs s
  | 0, rs, k, s, _, _, _, _, _, _, _ => rfl
  | f + 1, rs, k, s, h1, h2, hk, hl, hf, ht, h => by
    rw [passM]
    split
    · rfl
    rename_i hr
    obtain ⟨g1, g2, g3⟩ := runs_is h1 h2 h
    have hp := partsM_is h1 h2 hk hl h (upN rs.length k) (Nat.le_refl _)
    obtain ⟨_, mg⟩ := merge_groups (ls := decAll rs) (by rw [decAll_len]; exact hl) g2 hk
    rw [decAll_len] at mg
    obtain ⟨d1, d2⟩ := dec_parts (ls := decAll rs) (k := k) (m := upN rs.length k) h1 h2 ht
    rw [hp, if_pos rfl]
    have hnl : ((List.range (upN rs.length k)).map fun i => runL (mergeL (partAt (decAll rs) k i)).1 s).length = upN rs.length k := by simp
    have hul := ups_lt (n := rs.length) hk (by omega)
    have hup := ups_pos (n := rs.length) (k := k) (by omega) (by omega)
    have hnext : runsM ((List.range (upN rs.length k)).map fun i => runL (mergeL (partAt (decAll rs) k i)).1 s) s = runsM rs s := by
      rw [is_runs h1 h2 d2 (by rw [d1, mg]), d1, mg, g3]
    split
    · rename_i h3
      simp only at h3
      rw [hnl] at h3
      rw [g3, h3]
      have hall : partAt (decAll rs) k 0 = decAll rs := by
        unfold partAt
        rw [Nat.zero_mul, List.drop_zero, List.take_of_length_le]
        rw [decAll_len]
        have := (ups_le (n := rs.length) (k := k) (t := 1) (by omega)).1 (by omega)
        omega
      simp [hall]
    · simp only
      rw [← hnext]
      refine pass_once f _ k s h1 h2 hk (by rw [hnl]; omega) (by rw [hnl]; omega) ?_ ?_
      · rw [d1]
        have h9 := tot_merged (decAll rs) k (upN rs.length k)
        omega
      · rw [hnext]; exact h
end Go.Proofs.Ytknfjonaepggnaa
