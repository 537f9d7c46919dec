/- Plain mathematics of bytes as runes, over lists: sequences, what is pending, chunks. -/
import Derived.Test.YtdhbbknjnbdplaaDoorBase
namespace Go.Proofs.YtdhbbknjnbdplaaDoor

def sizeU (c : Int) : Nat := if c < 128 then 1 else if 0xC2 ≤ c ∧ c ≤ 0xDF then 2 else if 0xE0 ≤ c ∧ c ≤ 0xEF then 3 else if 0xF0 ≤ c ∧ c ≤ 0xF4 then 4 else 0
def fitsU (f : Int) (n : Nat) (c : Int) : Bool :=
  if n = 1 ∧ f = 0xE0 then decide (0xA0 ≤ c ∧ c ≤ 0xBF)
  else if n = 1 ∧ f = 0xED then decide (0x80 ≤ c ∧ c ≤ 0x9F)
  else if n = 1 ∧ f = 0xF0 then decide (0x90 ≤ c ∧ c ≤ 0xBF)
  else if n = 1 ∧ f = 0xF4 then decide (0x80 ≤ c ∧ c ≤ 0x8F)
  else decide (0x80 ≤ c ∧ c ≤ 0xBF)

theorem size_le (c : Int) : sizeU c ≤ 4 := by unfold sizeU; repeat (split <;> try omega)
theorem fits_range {f : Int} {n : Nat} {c : Int} (h : fitsU f n c = true) : 0x80 ≤ c ∧ c ≤ 0xBF := by
  unfold fitsU at h
  repeat (split at h <;> try (simp at h; omega))
theorem size_cont {c : Int} (h : 0x80 ≤ c ∧ c ≤ 0xBF) : sizeU c = 0 := by
  unfold sizeU
  rw [if_neg (by omega), if_neg (by omega), if_neg (by omega), if_neg (by omega)]

/-- How many of the next bytes fit, k at most, the first of them at place n. -/
def goodT (f : Int) : Nat → Nat → List Int → Nat
  | _, 0, _ => 0
  | _, _ + 1, [] => 0
  | n, k + 1, c :: r => if fitsU f n c then goodT f (n + 1) k r + 1 else 0
def goodU : List Int → Nat
  | [] => 0
  | c :: r => if sizeU c = 0 then 0 else goodT c 1 (sizeU c - 1) r + 1
def headU (b : List Int) : Int := b.headD 0
def pendU (b : List Int) : Prop := 1 ≤ b.length ∧ b.length ≤ 3 ∧ goodU b = b.length ∧ b.length < sizeU (headU b)
instance (b : List Int) : Decidable (pendU b) := by unfold pendU; infer_instance

theorem goodT_le (f : Int) : ∀ (n k : Nat) (r : List Int), goodT f n k r ≤ k ∧ goodT f n k r ≤ r.length
  | _, 0, _ => by simp [goodT]
  | _, _ + 1, [] => by simp [goodT]
  | n, k + 1, c :: r => by
    unfold goodT
    have := goodT_le f (n + 1) k r
    split
    · simp; omega
    · simp

/-- More bytes behind do not count, where all that may fit does, or one doesn't. -/
theorem goodT_app (f : Int) : ∀ (n k : Nat) (r s : List Int), goodT f n k r = k ∨ goodT f n k r < r.length → goodT f n k (r ++ s) = goodT f n k r
  | _, 0, _, _, _ => by simp [goodT]
  | _, k + 1, [], s, h => by simp [goodT] at h
  | n, k + 1, c :: r, s, h => by
    simp only [List.cons_append, goodT] at h ⊢
    by_cases hf : fitsU f n c = true
    · simp only [hf, if_true] at h ⊢
      rw [goodT_app f (n + 1) k r s (by simp at h; omega)]
    · simp only [hf] at h ⊢
      simp

theorem goodT_pre (f : Int) : ∀ (n k : Nat) (r s : List Int), goodT f n k (r ++ s) = (r ++ s).length → goodT f n k r = r.length
  | _, _, [], _, _ => by
    rename_i n k _ _
    cases k <;> simp [goodT]
  | _, 0, c :: r, s, h => by simp [goodT] at h
  | n, k + 1, c :: r, s, h => by
    simp only [List.cons_append, goodT] at h ⊢
    by_cases hf : fitsU f n c = true
    · simp only [hf, if_true, List.length_cons] at h ⊢
      rw [goodT_pre f (n + 1) k r s (by omega)]
    · simp [hf] at h

/-- A byte that never fits ends it, as the end does. -/
theorem goodT_stop (f : Int) : ∀ (n k : Nat) (r : List Int) (x : Int) (s : List Int), x < 128 → goodT f n k (r ++ x :: s) = goodT f n k r
  | _, 0, _, _, _, _ => by simp [goodT]
  | n, k + 1, [], x, s, hx => by
    have : fitsU f n x = false := by
      cases h : fitsU f n x with
      | false => rfl
      | true => have := fits_range h; omega
    simp [goodT, this]
  | n, k + 1, c :: r, x, s, hx => by
    simp only [List.cons_append, goodT, goodT_stop f (n + 1) k r x s hx]

theorem goodT_all (f : Int) : ∀ (n k : Nat) (r : List Int), goodT f n k r = r.length → ∀ c ∈ r, 0x80 ≤ c ∧ c ≤ 0xBF
  | _, _, [], _, c, hc => by simp at hc
  | _, 0, d :: r, h, _, _ => by simp [goodT] at h
  | n, k + 1, d :: r, h, c, hc => by
    simp only [goodT] at h
    by_cases hf : fitsU f n d = true
    · simp only [hf, if_true, List.length_cons] at h
      rcases List.mem_cons.1 hc with rfl | hc
      · exact fits_range hf
      · exact goodT_all f (n + 1) k r (by omega) c hc
    · simp [hf] at h

theorem good_le (b : List Int) : goodU b ≤ b.length ∧ goodU b ≤ sizeU (headU b) := by
  cases b with
  | nil => simp [goodU]
  | cons c r =>
    by_cases hs : sizeU c = 0
    · simp [goodU, hs]
    · have := goodT_le c 1 (sizeU c - 1) r
      simp only [goodU, hs, if_false, headU, List.headD_cons, List.length_cons]
      omega

theorem pend_iff {b : List Int} (hb : b ≠ []) : pendU b ↔ goodU b = b.length ∧ b.length < sizeU (headU b) := by
  have hp : 1 ≤ b.length := by cases b with | nil => exact absurd rfl hb | cons c r => simp
  have := size_le (headU b)
  unfold pendU
  constructor
  · intro h; exact h.2.2
  · intro h; exact ⟨hp, by omega, h⟩

theorem good_app {b s : List Int} (hb : b ≠ []) (h : ¬ pendU b) : goodU (b ++ s) = goodU b := by
  rw [pend_iff hb] at h
  cases b with
  | nil => exact absurd rfl hb
  | cons c r =>
    simp only [List.cons_append, goodU] at h ⊢
    by_cases hs : sizeU c = 0
    · simp [hs]
    · simp only [hs, if_false, headU, List.headD_cons, List.length_cons] at h ⊢
      have := goodT_le c 1 (sizeU c - 1) r
      rw [goodT_app c 1 (sizeU c - 1) r s (by omega)]

/-- What begins something that is pending is pending. -/
theorem pend_pre {b s : List Int} (hb : b ≠ []) (h : pendU (b ++ s)) : pendU b := by
  have hbs : b ++ s ≠ [] := by simp [hb]
  rw [pend_iff hbs] at h
  rw [pend_iff hb]
  cases b with
  | nil => exact absurd rfl hb
  | cons c r =>
    simp only [List.cons_append, goodU, headU, List.headD_cons] at h ⊢
    by_cases hs : sizeU c = 0
    · simp [hs] at h
    · simp only [hs, if_false, List.length_cons, List.length_append] at h ⊢
      rw [goodT_pre c 1 (sizeU c - 1) r s (by simp; omega)]
      exact ⟨rfl, by omega⟩

/-- The value of a sequence. -/
def valU (b : List Int) : Int :=
  match sizeU (headU b) with
  | 2 => (b.getD 0 0 - 0xC0) * 64 + b.getD 1 0 - 128
  | 3 => ((b.getD 0 0 - 0xE0) * 64 + b.getD 1 0 - 128) * 64 + b.getD 2 0 - 128
  | 4 => (((b.getD 0 0 - 0xF0) * 64 + b.getD 1 0 - 128) * 64 + b.getD 2 0 - 128) * 64 + b.getD 3 0 - 128
  | _ => b.getD 0 0
def oneU (b : List Int) : Int × Nat := if sizeU (headU b) = 0 ∨ goodU b < sizeU (headU b) then (65533, 1) else (valU b, sizeU (headU b))

theorem one_pos (b : List Int) : 1 ≤ (oneU b).2 := by
  unfold oneU
  split
  · exact Nat.le_refl _
  · simp; omega
theorem one_le {b : List Int} (hb : b ≠ []) : (oneU b).2 ≤ b.length := by
  have hp : 1 ≤ b.length := by cases b with | nil => exact absurd rfl hb | cons c r => simp
  unfold oneU
  split
  · exact hp
  · have := good_le b; simp; omega

theorem head_app {b s : List Int} (hb : b ≠ []) : headU (b ++ s) = headU b := by
  cases b with
  | nil => exact absurd rfl hb
  | cons c r => rfl

theorem val_app {b s : List Int} (hb : b ≠ []) (h : sizeU (headU b) ≤ b.length) : valU (b ++ s) = valU b := by
  have g : ∀ i, i < b.length → (b ++ s).getD i 0 = b.getD i 0 := fun i hi => by simp [List.getD, List.getElem?_append_left hi]
  have hp : 1 ≤ b.length := by cases b with | nil => exact absurd rfl hb | cons c r => simp
  unfold valU
  rw [head_app hb]
  have h4 := size_le (headU b)
  generalize sizeU (headU b) = n at h h4
  match n, h4 with
  | 0, _ => simp only; rw [g 0 (by omega)]
  | 1, _ => simp only; rw [g 0 (by omega)]
  | 2, _ => simp only; rw [g 0 (by omega), g 1 (by omega)]
  | 3, _ => simp only; rw [g 0 (by omega), g 1 (by omega), g 2 (by omega)]
  | 4, _ => simp only; rw [g 0 (by omega), g 1 (by omega), g 2 (by omega), g 3 (by omega)]

theorem one_app_of {b s : List Int} (hb : b ≠ []) (h : goodU (b ++ s) = goodU b) : oneU (b ++ s) = oneU b := by
  have := good_le b
  unfold oneU
  rw [head_app hb, h]
  by_cases hc : sizeU (headU b) = 0 ∨ goodU b < sizeU (headU b)
  · rw [if_pos hc, if_pos hc]
  · rw [if_neg hc, if_neg hc, val_app hb (by omega)]
theorem one_app {b s : List Int} (hb : b ≠ []) (h : ¬ pendU b) : oneU (b ++ s) = oneU b := one_app_of hb (good_app hb h)

theorem good_stop {b : List Int} (hb : b ≠ []) (x : Int) (s : List Int) (hx : x < 128) : goodU (b ++ x :: s) = goodU b := by
  cases b with
  | nil => exact absurd rfl hb
  | cons c r => simp only [List.cons_append, goodU, goodT_stop _ _ _ r x s hx]
theorem one_stop {b : List Int} (hb : b ≠ []) (x : Int) (s : List Int) (hx : x < 128) : oneU (b ++ x :: s) = oneU b := one_app_of hb (good_stop hb x s hx)

/-! All runes. -/
def allF : Nat → List Int → List Int
  | 0, _ => []
  | _ + 1, [] => []
  | f + 1, c :: r => (oneU (c :: r)).1 :: allF f ((c :: r).drop (oneU (c :: r)).2)
def allU (b : List Int) : List Int := allF b.length b

theorem allF_more : ∀ (f g : Nat) (b : List Int), b.length ≤ f → f ≤ g → allF g b = allF f b
  | 0, g, b, h, _ => by
    obtain rfl : b = [] := List.eq_nil_of_length_eq_zero (by omega)
    cases g <;> rfl
  | f + 1, 0, b, _, hg => by omega
  | f + 1, g + 1, [], _, _ => rfl
  | f + 1, g + 1, c :: r, h, hg => by
    have := one_pos (c :: r)
    simp only [allF]
    rw [allF_more f g _ (by simp at h ⊢; omega) (by omega)]

theorem all_step {b : List Int} (hb : b ≠ []) : allU b = (oneU b).1 :: allU (b.drop (oneU b).2) := by
  cases b with
  | nil => exact absurd rfl hb
  | cons c r =>
    have := one_pos (c :: r)
    unfold allU
    rw [List.length_cons, allF, allF_more ((c :: r).drop (oneU (c :: r)).2).length r.length _ (Nat.le_refl _) (by simp; omega)]
theorem all_nil : allU [] = [] := rfl

/-- Runes up to what is pending, and that. -/
def feedF : Nat → List Int → List Int × List Int
  | 0, _ => ([], [])
  | _ + 1, [] => ([], [])
  | f + 1, c :: r => if pendU (c :: r) then ([], c :: r) else ((oneU (c :: r)).1 :: (feedF f ((c :: r).drop (oneU (c :: r)).2)).1, (feedF f ((c :: r).drop (oneU (c :: r)).2)).2)
def feedU (b : List Int) : List Int × List Int := feedF b.length b

theorem feedF_more : ∀ (f g : Nat) (b : List Int), b.length ≤ f → f ≤ g → feedF g b = feedF f b
  | 0, g, b, h, _ => by
    obtain rfl : b = [] := List.eq_nil_of_length_eq_zero (by omega)
    cases g <;> rfl
  | f + 1, 0, b, _, hg => by omega
  | f + 1, g + 1, [], _, _ => rfl
  | f + 1, g + 1, c :: r, h, hg => by
    have := one_pos (c :: r)
    simp only [feedF]
    rw [feedF_more f g _ (by simp at h ⊢; omega) (by omega)]

theorem feed_nil : feedU [] = ([], []) := rfl
theorem feed_pend {b : List Int} (h : pendU b) : feedU b = ([], b) := by
  cases b with
  | nil => exact absurd h.1 (by simp)
  | cons c r => unfold feedU; rw [List.length_cons, feedF, if_pos h]
theorem feed_step {b : List Int} (hb : b ≠ []) (h : ¬ pendU b) : feedU b = ((oneU b).1 :: (feedU (b.drop (oneU b).2)).1, (feedU (b.drop (oneU b).2)).2) := by
  cases b with
  | nil => exact absurd rfl hb
  | cons c r =>
    have := one_pos (c :: r)
    unfold feedU
    rw [List.length_cons, feedF, if_neg h, feedF_more ((c :: r).drop (oneU (c :: r)).2).length r.length _ (Nat.le_refl _) (by simp; omega)]

/-- Induction along the sequences. -/
theorem along {Q : List Int → Prop} (h0 : Q []) (h1 : ∀ b, b ≠ [] → Q (b.drop (oneU b).2) → Q b) : ∀ b, Q b := by
  have : ∀ n (b : List Int), b.length ≤ n → Q b := by
    intro n
    induction n with
    | zero => intro b hb; obtain rfl : b = [] := List.eq_nil_of_length_eq_zero (by omega); exact h0
    | succ n ih =>
      intro b hb
      by_cases hn : b = []
      · subst hn; exact h0
      · have := one_pos b
        exact h1 b hn (ih _ (by simp; omega))
  exact fun b => this b.length b (Nat.le_refl _)

theorem feed_rest (b : List Int) : (feedU b).2 = [] ∨ pendU (feedU b).2 := by
  refine along (Q := fun b => (feedU b).2 = [] ∨ pendU (feedU b).2) (Or.inl rfl) (fun b hb ih => ?_) b
  by_cases hp : pendU b
  · rw [feed_pend hp]; exact Or.inr hp
  · rw [feed_step hb hp]; exact ih

theorem feed_all (b : List Int) : allU b = (feedU b).1 ++ allU (feedU b).2 := by
  refine along (Q := fun b => allU b = (feedU b).1 ++ allU (feedU b).2) rfl (fun b hb ih => ?_) b
  by_cases hp : pendU b
  · rw [feed_pend hp]; rfl
  · rw [feed_step hb hp, all_step hb, ih]; rfl

/-- In two parts. -/
theorem feed_parts (b s : List Int) : feedU (b ++ s) = ((feedU b).1 ++ (feedU ((feedU b).2 ++ s)).1, (feedU ((feedU b).2 ++ s)).2) := by
  refine along (Q := fun b => feedU (b ++ s) = ((feedU b).1 ++ (feedU ((feedU b).2 ++ s)).1, (feedU ((feedU b).2 ++ s)).2)) (by simp [feed_nil]) (fun b hb ih => ?_) b
  by_cases hp : pendU b
  · rw [feed_pend hp]; simp
  · have hbs : b ++ s ≠ [] := by simp [hb]
    rw [feed_step hbs (fun h => hp (pend_pre hb h)), one_app hb hp, List.drop_append_of_le_length (one_le hb), ih, feed_step hb hp]
    simp

/-- What is pending ends the bytes. -/
theorem feed_end (b : List Int) : ∃ a, b = a ++ (feedU b).2 := by
  refine along (Q := fun b => ∃ a, b = a ++ (feedU b).2) ⟨[], rfl⟩ (fun b hb ih => ?_) b
  by_cases hp : pendU b
  · exact ⟨[], by rw [feed_pend hp]; rfl⟩
  · obtain ⟨a, ha⟩ := ih
    refine ⟨b.take (oneU b).2 ++ a, ?_⟩
    rw [feed_step hb hp, List.append_assoc]
    simp only
    rw [← ha, List.take_append_drop]

/-- Plain bytes behind. -/
theorem all_plain : ∀ (c : List Int), (∀ x ∈ c, 0 ≤ x ∧ x < 128) → allU c = c ∧ feedU c = (c, [])
  | [], _ => ⟨rfl, rfl⟩
  | x :: c, h => by
    have hx := h x List.mem_cons_self
    have hs : sizeU x = 1 := by unfold sizeU; rw [if_pos hx.2]
    have hg : goodU (x :: c) = 1 := by simp [goodU, hs, goodT]
    have ho : oneU (x :: c) = (x, 1) := by
      unfold oneU
      simp only [headU, List.headD_cons, hs, hg]
      simp [valU, headU, hs]
    have hp : ¬ pendU (x :: c) := by
      rw [pend_iff (by simp)]
      simp [headU, hs]
    obtain ⟨i1, i2⟩ := all_plain c (fun y hy => h y (List.mem_cons_of_mem _ hy))
    refine ⟨?_, ?_⟩
    · rw [all_step (by simp), ho]; simp [i1]
    · rw [feed_step (by simp) hp, ho]; simp [i2]
theorem all_behind (b c : List Int) (h : ∀ x ∈ c, 0 ≤ x ∧ x < 128) : allU (b ++ c) = allU b ++ c := by
  cases c with
  | nil => simp
  | cons x c =>
    have hx := (h x List.mem_cons_self).2
    refine along (Q := fun b => allU (b ++ x :: c) = allU b ++ x :: c) (by simp [all_nil, (all_plain _ h).1]) (fun b hb ih => ?_) b
    have hbs : b ++ x :: c ≠ [] := by simp
    rw [all_step hbs, one_stop hb x c hx, List.drop_append_of_le_length (one_le hb), ih, all_step hb]
    rfl

/-- Bytes that begin nothing are each told alone. -/
theorem all_conts : ∀ (r : List Int), (∀ c ∈ r, 0x80 ≤ c ∧ c ≤ 0xBF) → allU r = List.replicate r.length 65533
  | [], _ => rfl
  | c :: r, h => by
    have hs := size_cont (h c List.mem_cons_self)
    have ho : oneU (c :: r) = (65533, 1) := by unfold oneU; rw [if_pos (Or.inl (by simpa [headU] using hs))]
    rw [all_step (by simp), ho]
    simp only [List.drop_succ_cons, List.drop_zero]
    rw [all_conts r (fun y hy => h y (List.mem_cons_of_mem _ hy))]
    rfl

theorem all_pend {b : List Int} (h : pendU b) : allU b = List.replicate b.length 65533 := by
  cases b with
  | nil => exact absurd h.1 (by simp)
  | cons c r =>
    obtain ⟨h1, h2, h3, h4⟩ := h
    have ho : oneU (c :: r) = (65533, 1) := by unfold oneU; rw [if_pos (Or.inr (by omega))]
    rw [all_step (by simp), ho]
    simp only [List.drop_succ_cons, List.drop_zero, List.length_cons]
    have hs : sizeU c ≠ 0 := by intro hs; simp [goodU, hs] at h3
    simp only [goodU, hs, if_false, List.length_cons] at h3
    rw [all_conts r (goodT_all c 1 (sizeU c - 1) r (by omega))]
    rfl

theorem pend_init {b : List Int} (h : pendU b) (hl : 2 ≤ b.length) : pendU (b.take (b.length - 1)) := by
  refine pend_pre (s := b.drop (b.length - 1)) ?_ (by rw [List.take_append_drop]; exact h)
  intro he
  have := congrArg List.length he
  simp at this; omega

theorem pend_letter {b : List Int} (h : pendU b) (x : Int) (hx : x < 128) : ¬ pendU (b ++ [x]) := by
  have hb : b ≠ [] := by intro he; subst he; exact absurd h.1 (by simp)
  rw [pend_iff (by simp), good_stop hb x [] hx]
  have := good_le b
  simp; omega

theorem all_len {b : List Int} (hb : b ≠ []) : 1 ≤ (allU b).length := by rw [all_step hb]; simp
end Go.Proofs.YtdhbbknjnbdplaaDoor
