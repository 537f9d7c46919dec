/- Plain mathematics of letters, great and small, and of folded texts. -/
import Derived.Test.YtdhbbknjnbdplaaDoorUtfEncode
namespace Go.Proofs.YtdhbbknjnbdplaaDoor
set_option linter.unusedVariables false

def letterF (c : Int) : Bool := decide ((0x41 ≤ c ∧ c ≤ 0x5A) ∨ (0x61 ≤ c ∧ c ≤ 0x7A) ∨ (0xC0 ≤ c ∧ c ≤ 0x17F ∧ c ≠ 0xD7 ∧ c ≠ 0xF7) ∨ (0x391 ≤ c ∧ c ≤ 0x3CE ∧ c ≠ 0x3A2) ∨ (0x400 ≤ c ∧ c ≤ 0x45F))
def markF (c : Int) : Bool := decide (c = 0x27 ∨ c = 0x2019)
def twentyF (c : Int) : Prop := (0x41 ≤ c ∧ c ≤ 0x5A) ∨ (0xC0 ≤ c ∧ c ≤ 0xDE ∧ c ≠ 0xD7) ∨ (0x391 ≤ c ∧ c ≤ 0x3AB ∧ c ≠ 0x3A2) ∨ (0x410 ≤ c ∧ c ≤ 0x42F)
instance (c : Int) : Decidable (twentyF c) := by unfold twentyF; infer_instance
def oneMoreF (c : Int) : Prop := (c % 2 = 0 ∧ ((0x100 ≤ c ∧ c ≤ 0x12E) ∨ (0x132 ≤ c ∧ c ≤ 0x136) ∨ (0x14A ≤ c ∧ c ≤ 0x176))) ∨ (c % 2 = 1 ∧ ((0x139 ≤ c ∧ c ≤ 0x147) ∨ (0x179 ≤ c ∧ c ≤ 0x17D))) ∨ c = 0x3C2
instance (c : Int) : Decidable (oneMoreF c) := by unfold oneMoreF; infer_instance
def foldF (c : Int) : Int := if twentyF c then c + 0x20 else if oneMoreF c then c + 1 else if c = 0x178 then 0xFF else if 0x400 ≤ c ∧ c ≤ 0x40F then c + 0x50 else c

theorem fold_far (c : Int) (h : c < 0 ∨ 1200 ≤ c) : foldF c = c ∧ letterF c = false := by
  constructor
  · unfold foldF
    rw [if_neg (by unfold twentyF; omega), if_neg (by unfold oneMoreF; omega), if_neg (by omega), if_neg (by omega)]
  · unfold letterF; rw [decide_eq_false_iff_not]; omega

theorem fold_near : ∀ n : Nat, n < 1200 → foldF (foldF (n : Int)) = foldF (n : Int) ∧ letterF (foldF (n : Int)) = letterF (n : Int) ∧ (letterF (n : Int) = false → foldF (n : Int) = (n : Int)) ∧ (0 ≤ foldF (n : Int) ∧ foldF (n : Int) < 1200) ∧ (letterF (n : Int) && markF (n : Int)) = false := by
  decide +kernel

theorem fold_fold (c : Int) : foldF (foldF c) = foldF c := by
  by_cases h : c < 0 ∨ 1200 ≤ c
  · rw [(fold_far c h).1, (fold_far c h).1]
  · obtain ⟨n, rfl⟩ := Int.eq_ofNat_of_zero_le (show 0 ≤ c by omega)
    exact (fold_near n (by omega)).1
theorem fold_letter (c : Int) : letterF (foldF c) = letterF c := by
  by_cases h : c < 0 ∨ 1200 ≤ c
  · rw [(fold_far c h).1]
  · obtain ⟨n, rfl⟩ := Int.eq_ofNat_of_zero_le (show 0 ≤ c by omega)
    exact (fold_near n (by omega)).2.1
theorem fold_other (c : Int) (hl : letterF c = false) : foldF c = c := by
  by_cases h : c < 0 ∨ 1200 ≤ c
  · exact (fold_far c h).1
  · obtain ⟨n, rfl⟩ := Int.eq_ofNat_of_zero_le (show 0 ≤ c by omega)
    exact (fold_near n (by omega)).2.2.1 hl
theorem letter_mark (c : Int) : (letterF c && markF c) = false := by
  by_cases h : c < 0 ∨ 1200 ≤ c
  · rw [(fold_far c h).2]; rfl
  · obtain ⟨n, rfl⟩ := Int.eq_ofNat_of_zero_le (show 0 ≤ c by omega)
    exact (fold_near n (by omega)).2.2.2.2
theorem fold_valid (r : Int) (h : (fixN r : Int) = r) : (fixN (foldF r) : Int) = foldF r := by
  by_cases hf : r < 0 ∨ 1200 ≤ r
  · rw [(fold_far r hf).1]; exact h
  · obtain ⟨n, rfl⟩ := Int.eq_ofNat_of_zero_le (show 0 ≤ r by omega)
    have := (fold_near n (by omega)).2.2.2.1
    unfold fixN
    rw [if_pos (by simp only [Utf8.valid, Bool.or_eq_true, Bool.and_eq_true, decide_eq_true_eq]; omega)]
    omega
theorem fold_i32 (c : Int) (h : -2147483648 ≤ c ∧ c ≤ 2147483647) : -2147483648 ≤ foldF c ∧ foldF c ≤ 2147483647 := by
  by_cases hf : c < 0 ∨ 1200 ≤ c
  · rw [(fold_far c hf).1]; exact h
  · obtain ⟨n, rfl⟩ := Int.eq_ofNat_of_zero_le (show 0 ≤ c by omega)
    have := (fold_near n (by omega)).2.2.2.1
    omega

/-- Of plain letters. -/
theorem fold_plain (c : Int) (h0 : 0 ≤ c) (h1 : c < 128) : foldF c = if 65 ≤ c ∧ c ≤ 90 then c + 32 else c := by
  unfold foldF
  by_cases h : 65 ≤ c ∧ c ≤ 90
  · rw [if_pos (by unfold twentyF; omega), if_pos h]
  · rw [if_neg (by unfold twentyF; omega), if_neg (by unfold oneMoreF; omega), if_neg (by omega), if_neg (by omega), if_neg h]

theorem oneN_valid (n b0 b1 b2 b3 : Nat) : (oneN n b0 b1 b2 b3).1 < 0xD800 ∨ (0xE000 ≤ (oneN n b0 b1 b2 b3).1 ∧ (oneN n b0 b1 b2 b3).1 ≤ 0x10FFFF) := by
  unfold oneN
  split
  · simp only; omega
  · split
    · split
      · rename_i h; unfold secN at h; simp only; omega
      · simp
    · split
      · split
        · rename_i h; unfold secN conN at h; simp only; omega
        · simp
      · split
        · split
          · rename_i h; unfold secN conN at h; simp only; omega
          · simp
        · simp

theorem fix_of (n : Nat) (h : n < 0xD800 ∨ (0xE000 ≤ n ∧ n ≤ 0x10FFFF)) : ((fixN (n : Int) : Nat) : Int) = (n : Int) := by
  unfold fixN
  rw [if_pos (by simp only [Utf8.valid, Bool.or_eq_true, Bool.and_eq_true, decide_eq_true_eq]; omega), Int.toNat_natCast]

theorem one_valid {d : List Int} (hd : d ≠ []) (h8 : isBytes d) : ((fixN (oneU d).1 : Nat) : Int) = (oneU d).1 := by
  obtain ⟨b0, h0, _⟩ := h8.get 0
  obtain ⟨b1, h1, _⟩ := h8.get 1
  obtain ⟨b2, h2, _⟩ := h8.get 2
  obtain ⟨b3, h3, _⟩ := h8.get 3
  rw [one_oneN hd b0 b1 b2 b3 h0 h1 h2 h3]
  exact fix_of _ (oneN_valid _ _ _ _ _)

theorem all_valid : ∀ (zs : List Int), isBytes zs → ∀ r ∈ allU zs, ((fixN r : Nat) : Int) = r := by
  refine along (fun _ r hr => by simp [all_nil] at hr) ?_
  intro b hb ih h8 r hr
  rw [all_step hb] at hr
  rcases List.mem_cons.1 hr with h | h
  · rw [h]; exact one_valid hb h8
  · exact ih (fun z hz => h8 z (List.mem_of_mem_drop hz)) r h

/-- A text, folded. -/
def textF (zs : List Int) : List Int := textU ((allU zs).map foldF)

theorem map_valid {l : List Int} (h : ∀ r ∈ l, ((fixN r : Nat) : Int) = r) : l.map (fun r => ((fixN r : Nat) : Int)) = l := by
  conv => rhs; rw [← List.map_id l]
  exact List.map_congr_left h

theorem all_textF (zs : List Int) (h8 : isBytes zs) : allU (textF zs) = (allU zs).map foldF := by
  unfold textF
  rw [(all_text _).1]
  exact map_valid (fun r hr => by
    obtain ⟨c, hc, rfl⟩ := List.mem_map.1 hr
    exact fold_valid c (all_valid zs h8 c hc))

theorem textF_twice (zs : List Int) (h8 : isBytes zs) : textF (textF zs) = textF zs := by
  have : textF (textF zs) = textU ((allU (textF zs)).map foldF) := rfl
  rw [this, all_textF zs h8, List.map_map]
  have e : (foldF ∘ foldF) = foldF := funext fun c => fold_fold c
  rw [e]; rfl

theorem textU_app : ∀ (a b : List Int), textU (a ++ b) = textU a ++ textU b
  | [], b => rfl
  | r :: a, b => by simp [textU, textU_app a b]

theorem textF_app (a b : List Int) : textF (textU a ++ textU b) = textF (textU a) ++ textF (textU b) := by
  unfold textF
  rw [← textU_app, (all_text (a ++ b)).1, (all_text a).1, (all_text b).1]
  simp [textU_app]

theorem textU_plain : ∀ (l : List Int), (∀ x ∈ l, 0 ≤ x ∧ x < 128) → textU l = l
  | [], _ => rfl
  | r :: l, h => by
    have hr := h r List.mem_cons_self
    have he : encU r = [r] := by
      unfold encU fixN
      rw [if_pos (by simp only [Utf8.valid, Bool.or_eq_true, Bool.and_eq_true, decide_eq_true_eq]; omega)]
      unfold encN
      rw [if_pos (by omega)]
      simp; omega
    simp [textU, he, textU_plain l (fun x hx => h x (List.mem_cons_of_mem _ hx))]

theorem textF_plain (l : List Int) (h : ∀ x ∈ l, 0 ≤ x ∧ x < 128) : textF l = l.map foldF := by
  unfold textF
  rw [(all_plain l h).1]
  refine textU_plain _ (fun x hx => ?_)
  obtain ⟨c, hc, rfl⟩ := List.mem_map.1 hx
  have := h c hc
  rw [fold_plain c this.1 this.2]
  split <;> omega
end Go.Proofs.YtdhbbknjnbdplaaDoor
