/- A tournament of lists: matches at places, each won by the lower head; played again for one list. -/
import Derived.Test.YtgnhnhachhfafaaLoserMath
namespace Go.Proofs.Ytgnhnhachhfafaa
set_option linter.unusedVariables false
set_option linter.unusedSimpArgs false

/-- The list at b begins no lower than that at a. -/
def leK (ls : List (List En)) (a b : Nat) : Prop := ∀ f, (ls.getD b []).head? = some f → ∃ e, (ls.getD a []).head? = some e ∧ lessB f.1 e.1 = false
theorem leK.refl (ls : List (List En)) (a : Nat) : leK ls a a := fun f hf => ⟨f, hf, less_irrefl _⟩
theorem less_le_trans {a b c : Wd} (h : lessB b a = false) (k : lessB c b = false) : lessB c a = false := by
  cases e : lessB c a with
  | false => rfl
  | true =>
    exfalso
    cases e2 : lessB a b with
    | true => have := less_trans _ _ _ e e2; rw [k] at this; cases this
    | false =>
      have := less_tri _ _ h e2
      subst this; rw [k] at e; cases e
theorem leK.trans {ls : List (List En)} {a b c : Nat} (h : leK ls a b) (k : leK ls b c) : leK ls a c := fun g hg => by
  obtain ⟨f, hf, h1⟩ := k g hg
  obtain ⟨e, he, h2⟩ := h f hf
  exact ⟨e, he, less_le_trans h2 h1⟩
/-- Does a lose against b? -/
def losesL (x y : List En) : Bool := match x, y with
  | [], _ => true
  | _ :: _, [] => false
  | e :: _, f :: _ => lessB f.1 e.1
def matchF (ls : List (List En)) (a b : Nat) : Nat × Nat := if losesL (ls.getD a []) (ls.getD b []) then (b, a) else (a, b)
theorem match_le (ls : List (List En)) (a b : Nat) : leK ls (matchF ls a b).1 (matchF ls a b).2 := by
  unfold matchF
  cases hA : ls.getD a [] with
  | nil =>
    simp only [losesL, if_true]
    intro f hf
    simp only [hA] at hf
    simp at hf
  | cons e x =>
    cases hB : ls.getD b [] with
    | nil =>
      simp only [losesL]
      intro f hf
      simp only [Bool.false_eq_true, if_false, hB] at hf
      simp at hf
    | cons g y =>
      simp only [losesL]
      by_cases hl : lessB g.1 e.1 = true
      · simp only [hl, if_true]
        intro f hf
        rw [hA] at hf
        simp at hf; subst hf
        exact ⟨g, by rw [hB]; rfl, less_asymm _ _ hl⟩
      · simp only [hl, Bool.false_eq_true, if_false]
        intro f hf
        rw [hB] at hf
        simp at hf; subst hf
        exact ⟨e, by rw [hA]; rfl, by simpa using hl⟩
theorem match_two (ls : List (List En)) (a b : Nat) : ((matchF ls a b).1 = a ∧ (matchF ls a b).2 = b) ∨ ((matchF ls a b).1 = b ∧ (matchF ls a b).2 = a) := by
  unfold matchF
  split
  · exact .inr ⟨rfl, rfl⟩
  · exact .inl ⟨rfl, rfl⟩
theorem match_lt {ls : List (List En)} {a b n : Nat} (ha : a < n) (hb : b < n) : (matchF ls a b).1 < n ∧ (matchF ls a b).2 < n := by
  rcases match_two ls a b with ⟨h1, h2⟩ | ⟨h1, h2⟩ <;> rw [h1, h2] <;> exact ⟨by assumption, by assumption⟩

/-- A place at or above another one. -/
def anc (m x : Nat) : Prop := ∃ j, m = x / 2 ^ j
def upS (c m : Nat) : Prop := ∃ j, 1 ≤ j ∧ m = c / 2 ^ j
theorem div_pow (c j : Nat) : c / 2 ^ (j + 1) = c / 2 / 2 ^ j := by rw [Nat.pow_succ, Nat.mul_comm, Nat.div_div_eq_div_mul]
theorem div_pow' (c j : Nat) : c / 2 ^ (j + 1) = c / 2 ^ j / 2 := by rw [Nat.pow_succ, Nat.div_div_eq_div_mul]
theorem up_iff {c m : Nat} : upS c m ↔ m = c / 2 ∨ upS (c / 2) m := by
  constructor
  · rintro ⟨j, hj, h⟩
    obtain ⟨i, rfl⟩ : ∃ i, j = i + 1 := ⟨j - 1, by omega⟩
    rw [div_pow] at h
    by_cases hi : i = 0
    · left; subst hi; simpa using h
    · right; exact ⟨i, by omega, h⟩
  · rintro (h | ⟨j, hj, h⟩)
    · exact ⟨1, Nat.le_refl _, by simpa using h⟩
    · exact ⟨j + 1, by omega, by rw [div_pow]; exact h⟩
theorem anc_iff {c m : Nat} : anc m c ↔ m = c ∨ upS c m := by
  constructor
  · rintro ⟨j, h⟩
    by_cases hj : j = 0
    · left; subst hj; simpa using h
    · right; exact ⟨j, by omega, h⟩
  · rintro (h | ⟨j, _, h⟩)
    · exact ⟨0, by simpa using h⟩
    · exact ⟨j, h⟩
theorem up_le {c m : Nat} (h : upS c m) : m ≤ c / 2 := by
  obtain ⟨j, hj, rfl⟩ := h
  obtain ⟨i, rfl⟩ : ∃ i, j = i + 1 := ⟨j - 1, by omega⟩
  rw [div_pow]; exact Nat.div_le_self _ _
theorem anc_le {c m : Nat} (h : anc m c) : m ≤ c := by obtain ⟨j, rfl⟩ := h; exact Nat.div_le_self _ _
theorem anc_half {m x : Nat} (h : anc m x) : anc (m / 2) x := by
  obtain ⟨j, rfl⟩ := h
  exact ⟨j + 1, by rw [div_pow']⟩
theorem anc_two {a b x : Nat} (ha : anc a x) (hb : anc b x) : anc a b ∨ anc b a := by
  obtain ⟨i, rfl⟩ := ha
  obtain ⟨j, rfl⟩ := hb
  rcases Nat.le_total i j with h | h
  · right
    obtain ⟨d, rfl⟩ : ∃ d, j = i + d := ⟨j - i, by omega⟩
    exact ⟨d, by rw [Nat.pow_add, Nat.div_div_eq_div_mul]⟩
  · left
    obtain ⟨d, rfl⟩ : ∃ d, i = j + d := ⟨i - j, by omega⟩
    exact ⟨d, by rw [Nat.pow_add, Nat.div_div_eq_div_mul]⟩
/-- Two places of one match have no place in common below. -/
theorem sib_apart {m x : Nat} (hm : 1 ≤ m) (h1 : anc (2 * m) x) (h2 : anc (2 * m + 1) x) : False := by
  rcases anc_two h1 h2 with h | h
  · rcases anc_iff.1 h with h | h
    · omega
    · have := up_le h; omega
  · have := anc_le h; omega

/-- One match: who wins and who loses are those of the two below. -/
def NC (ls : List (List En)) (L : List Nat) (W : Nat → Nat) (m : Nat) : Prop :=
  ((W m = W (2 * m) ∧ L.getD m 0 = W (2 * m + 1)) ∨ (W m = W (2 * m + 1) ∧ L.getD m 0 = W (2 * m))) ∧ leK ls (W m) (L.getD m 0)
structure Tree (ls : List (List En)) (L : List Nat) (W : Nat → Nat) (n : Nat) : Prop where
  leaf : ∀ j, j < n → W (n + j) = j
  lt : ∀ m, 1 ≤ m → m < 2 * n → W m < n
  node : ∀ m, 1 ≤ m → m < n → NC ls L W m
  sub : ∀ m, 1 ≤ m → m < 2 * n → anc m (n + W m)
theorem Tree.best {ls : List (List En)} {L : List Nat} {W : Nat → Nat} {n : Nat} (h : Tree ls L W n) : ∀ m, 1 ≤ m → m < 2 * n → leK ls (W 1) (W m) := by
  intro m
  induction m using Nat.strongRecOn with
  | ind m ih =>
    intro h1 h2
    by_cases hm : m = 1
    · subst hm; exact leK.refl _ _
    · have h3 := ih (m / 2) (by omega) (by omega) (by omega)
      obtain ⟨h4, h5⟩ := h.node (m / 2) (by omega) (by omega)
      rcases (show m = 2 * (m / 2) ∨ m = 2 * (m / 2) + 1 by omega) with hc | hc
      · rcases h4 with ⟨h6, h7⟩ | ⟨h6, h7⟩
        · rw [hc, ← h6]; exact h3
        · rw [hc, ← h7]; exact h3.trans h5
      · rcases h4 with ⟨h6, h7⟩ | ⟨h6, h7⟩
        · rw [hc, ← h7]; exact h3.trans h5
        · rw [hc, ← h6]; exact h3
theorem Tree.all {ls : List (List En)} {L : List Nat} {W : Nat → Nat} {n : Nat} (h : Tree ls L W n) : ∀ j, j < n → leK ls (W 1) j := fun j hj => by
  have := h.best (n + j) (by omega) (by omega)
  rw [h.leaf j hj] at this; exact this
theorem getD_set_ne {L : List Nat} {i j v : Nat} (h : i ≠ j) : (L.set i v).getD j 0 = L.getD j 0 := by
  simp only [List.getD_eq_getElem?_getD, List.getElem?_set_ne h]
theorem getD_set_eq {L : List Nat} {i v : Nat} (h : i < L.length) : (L.set i v).getD i 0 = v := by
  simp only [List.getD_eq_getElem?_getD, List.getElem?_set_self h, Option.getD_some]
theorem Tree.set0 {ls : List (List En)} {L : List Nat} {W : Nat → Nat} {n v : Nat} (h : Tree ls L W n) : Tree ls (L.set 0 v) W n :=
  ⟨h.leaf, h.lt, fun m h1 h2 => by unfold NC; rw [getD_set_ne (by omega)]; exact h.node m h1 h2, h.sub⟩

/-- Played again up to the place c. -/
structure Part (ls : List (List En)) (L : List Nat) (W : Nat → Nat) (n c win : Nat) : Prop where
  pos : 1 ≤ c ∧ c < 2 * n
  won : W c = win
  leaf : ∀ j, j < n → W (n + j) = j
  lt : ∀ m, 1 ≤ m → m < 2 * n → W m < n
  node : ∀ m, 1 ≤ m → m < n → ¬ upS c m → NC ls L W m
  above : ∀ m, 1 ≤ m → m < n → upS c m → ∃ x y, anc x c ∧ ((x = 2 * m ∧ y = 2 * m + 1) ∨ (x = 2 * m + 1 ∧ y = 2 * m)) ∧ L.getD m 0 = W y
  sub : ∀ m, 1 ≤ m → m < 2 * n → ¬ upS c m → anc m (n + W m)
theorem up_self {c m : Nat} (hc : 1 ≤ c) (h : upS c m) : m < c := by have := up_le h; omega
/-- The winner won all its matches. -/
theorem Tree.path {ls : List (List En)} {L : List Nat} {W : Nat → Nat} {n i : Nat} (h : Tree ls L W n) (hi : i < n) (hw : W 1 = i) : ∀ m, 1 ≤ m → anc m (n + i) → W m = i := by
  intro m
  induction m using Nat.strongRecOn with
  | ind m ih =>
    intro h1 h2
    have hmn : m ≤ n + i := anc_le h2
    by_cases hm : m = 1
    · subst hm; exact hw
    · have h3 := ih (m / 2) (by omega) (by omega) (anc_half h2)
      obtain ⟨h4, _⟩ := h.node (m / 2) (by omega) (by omega)
      rcases (show m = 2 * (m / 2) ∨ m = 2 * (m / 2) + 1 by omega) with hc | hc
      · rcases h4 with ⟨h6, h7⟩ | ⟨h6, h7⟩
        · rw [hc, ← h6]; exact h3
        · exfalso
          have h8 := h.sub (2 * (m / 2) + 1) (by omega) (by omega)
          rw [← h6, h3] at h8
          rw [hc] at h2
          exact sib_apart (m := m / 2) (by omega) h2 h8
      · rcases h4 with ⟨h6, h7⟩ | ⟨h6, h7⟩
        · exfalso
          have h8 := h.sub (2 * (m / 2)) (by omega) (by omega)
          rw [← h6, h3] at h8
          rw [hc] at h2
          exact sib_apart (m := m / 2) (by omega) h8 h2
        · rw [hc, ← h6]; exact h3
theorem getD_set_lists {ls : List (List En)} {i j : Nat} {v : List En} (h : i ≠ j) : (ls.set i v).getD j [] = ls.getD j [] := by
  simp only [List.getD_eq_getElem?_getD, List.getElem?_set_ne h]
theorem leK_set {ls : List (List En)} {i a b : Nat} {v : List En} (ha : i ≠ a) (hb : i ≠ b) (h : leK ls a b) : leK (ls.set i v) a b := by
  unfold leK
  rw [getD_set_lists ha, getD_set_lists hb]; exact h
theorem Tree.again {ls : List (List En)} {L : List Nat} {W : Nat → Nat} {n i : Nat} (h : Tree ls L W n) (hi : i < n) (hw : W 1 = i) (v : List En) : Part (ls.set i v) L W n (n + i) i := by
  have hp := h.path hi hw
  refine ⟨by omega, h.leaf i hi, h.leaf, h.lt, fun m h1 h2 hn => ?_, fun m h1 h2 hu => ?_, fun m h1 h2 _ => h.sub m h1 h2⟩
  · obtain ⟨h4, h5⟩ := h.node m h1 h2
    refine ⟨h4, leK_set ?_ ?_ h5⟩
    · intro he
      have := h.sub m h1 (by omega)
      rw [← he] at this
      rcases anc_iff.1 this with h6 | h6
      · omega
      · exact hn h6
    · intro he
      have key : anc m (n + L.getD m 0) := by
        rcases h4 with ⟨_, h7⟩ | ⟨_, h7⟩
        · rw [h7]
          have := anc_half (h.sub (2 * m + 1) (by omega) (by omega))
          rwa [show (2 * m + 1) / 2 = m by omega] at this
        · rw [h7]
          have := anc_half (h.sub (2 * m) (by omega) (by omega))
          rwa [show 2 * m / 2 = m by omega] at this
      rw [← he] at key
      rcases anc_iff.1 key with h6 | h6
      · omega
      · exact hn h6
  · obtain ⟨j, hj, hm⟩ := hu
    obtain ⟨t, rfl⟩ : ∃ t, j = t + 1 := ⟨j - 1, by omega⟩
    rw [div_pow'] at hm
    have hx : anc ((n + i) / 2 ^ t) (n + i) := ⟨t, rfl⟩
    have hwm := hp m h1 ⟨t + 1, by rw [div_pow']; exact hm⟩
    generalize (n + i) / 2 ^ t = x at hm hx
    have hwx := hp x (by omega) hx
    obtain ⟨h4, _⟩ := h.node m h1 h2
    rcases (show x = 2 * m ∨ x = 2 * m + 1 by omega) with rfl | rfl
    · refine ⟨2 * m, 2 * m + 1, hx, .inl ⟨rfl, rfl⟩, ?_⟩
      rcases h4 with ⟨_, h7⟩ | ⟨h6, h7⟩
      · exact h7
      · rw [h7, hwx, ← h6, hwm]
    · refine ⟨2 * m + 1, 2 * m, hx, .inr ⟨rfl, rfl⟩, ?_⟩
      rcases h4 with ⟨h6, h7⟩ | ⟨_, h7⟩
      · rw [h7, hwx, ← h6, hwm]
      · exact h7
/-- The one that lost at the next match. -/
theorem Part.other {ls : List (List En)} {L : List Nat} {W : Nat → Nat} {n c win : Nat} (h : Part ls L W n c win) (hc : 1 ≤ c / 2) : L.getD (c / 2) 0 < n ∧ win < n ∧ c / 2 < n := by
  obtain ⟨p1, p2⟩ := h.pos
  obtain ⟨x, y, _, hxy, hl⟩ := h.above (c / 2) hc (by omega) (up_iff.2 (.inl rfl))
  refine ⟨?_, by rw [← h.won]; exact h.lt c p1 p2, by omega⟩
  rw [hl]
  exact h.lt y (by omega) (by omega)
theorem Part.next {ls : List (List En)} {L : List Nat} {W : Nat → Nat} {n c win : Nat} (h : Part ls L W n c win) (hL : L.length = n) (hc : 1 ≤ c / 2) :
    ∃ W', Part ls (L.set (c / 2) (matchF ls win (L.getD (c / 2) 0)).2) W' n (c / 2) (matchF ls win (L.getD (c / 2) 0)).1 := by
  obtain ⟨p1, p2⟩ := h.pos
  obtain ⟨o1, o2, o3⟩ := h.other hc
  obtain ⟨x, y, hx, hxy, hl⟩ := h.above (c / 2) hc (by omega) (up_iff.2 (.inl rfl))
  have hxc : x = c := by
    rcases anc_iff.1 hx with h1 | h1
    · exact h1
    · have := up_le h1; omega
  subst hxc
  obtain ⟨m, hm⟩ : ∃ m, m = x / 2 := ⟨_, rfl⟩
  rw [← hm] at hc o1 o3 hl hxy ⊢
  have hle := match_le ls win (L.getD m 0)
  have htw := match_two ls win (L.getD m 0)
  have hlt := match_lt (ls := ls) o2 o1
  generalize matchF ls win (L.getD m 0) = r at hle htw hlt ⊢
  have hwin := h.won
  have hyp : y ≠ m ∧ x ≠ m ∧ 1 ≤ y ∧ y < 2 * n := by omega
  refine ⟨fun k => if k = m then r.1 else W k, ⟨⟨hc, by omega⟩, by simp, fun j hj => ?_, fun k k1 k2 => ?_, fun k k1 k2 hn => ?_, fun k k1 k2 hu => ?_, fun k k1 k2 hn => ?_⟩⟩
  · simp only [show n + j ≠ m by omega, if_false]; exact h.leaf j hj
  · split
    · exact hlt.1
    · exact h.lt k k1 k2
  · by_cases hk : k = m
    · subst hk
      unfold NC
      rw [getD_set_eq (by omega)]
      simp only [if_true, show 2 * k ≠ k by omega, show 2 * k + 1 ≠ k by omega, if_false]
      refine ⟨?_, hle⟩
      rcases htw with ⟨t1, t2⟩ | ⟨t1, t2⟩ <;> rcases hxy with ⟨x1, x2⟩ | ⟨x1, x2⟩ <;> rw [t1, t2, hl, ← hwin, x2] <;> simp [← x1]
    · have hnu : ¬ upS x k := fun hu => by
        rcases up_iff.1 hu with h1 | h1
        · exact hk (h1.trans hm.symm)
        · rw [← hm] at h1; exact hn h1
      have h2 : 2 * k ≠ m := fun e => hn (up_iff.2 (.inl (by omega)))
      have h3 : 2 * k + 1 ≠ m := fun e => hn (up_iff.2 (.inl (by omega)))
      have := h.node k k1 k2 hnu
      unfold NC at this ⊢
      rw [getD_set_ne (fun e => hk e.symm)]
      simp only [hk, h2, h3, if_false]
      exact this
  · have hux : upS x k := up_iff.2 (.inr (by rw [← hm]; exact hu))
    have hkm : k < m := up_self hc hu
    obtain ⟨a, b, ha, hab, hL2⟩ := h.above k k1 k2 hux
    refine ⟨a, b, ?_, hab, ?_⟩
    · rcases anc_iff.1 ha with h1 | h1
      · exfalso; omega
      · rcases up_iff.1 h1 with h1 | h1
        · rw [h1, ← hm]; exact ⟨0, by simp⟩
        · rw [← hm] at h1; exact anc_iff.2 (.inr h1)
    · rw [getD_set_ne (by omega)]
      have hb : b ≠ m := fun e => by
        have : anc a m := by
          rcases anc_iff.1 ha with h1 | h1
          · exfalso; omega
          · rcases up_iff.1 h1 with h1 | h1
            · rw [h1, ← hm]; exact ⟨0, by simp⟩
            · rw [← hm] at h1; exact anc_iff.2 (.inr h1)
        rcases anc_iff.1 this with h1 | h1
        · omega
        · have := up_le h1; omega
      simp only [hb, if_false]
      exact hL2
  · by_cases hk : k = m
    · subst hk
      simp only [if_true]
      have a1 : anc k (n + W x) := by
        have := anc_half (h.sub x p1 p2 (fun hu => by have := up_self p1 hu; omega))
        rwa [← hm] at this
      have a2 : anc k (n + W y) := by
        have := anc_half (h.sub y hyp.2.2.1 hyp.2.2.2 (fun hu => by
          have := up_le hu; omega))
        rwa [show y / 2 = k by omega] at this
      rcases htw with ⟨t1, t2⟩ | ⟨t1, t2⟩
      · rw [t1, ← hwin]; exact a1
      · rw [t1, hl]; exact a2
    · simp only [hk, if_false]
      refine h.sub k k1 k2 fun hu => ?_
      rcases up_iff.1 hu with h1 | h1
      · exact hk (h1.trans hm.symm)
      · rw [← hm] at h1; exact hn h1
theorem Part.done {ls : List (List En)} {L : List Nat} {W : Nat → Nat} {n c win : Nat} (h : Part ls L W n c win) (hc : c / 2 = 0) : Tree ls L W n ∧ W 1 = win := by
  obtain ⟨p1, p2⟩ := h.pos
  have h1 : c = 1 := by omega
  subst h1
  have hn : ∀ m, 1 ≤ m → ¬ upS 1 m := fun m hm hu => by have := up_le hu; omega
  exact ⟨⟨h.leaf, h.lt, fun m m1 m2 => h.node m m1 m2 (hn m m1), fun m m1 m2 => h.sub m m1 m2 (hn m m1)⟩, h.won⟩

/-! How it begins. -/
/-- All matches from a place on are played; ws: who won them. -/
structure Built (ls : List (List En)) (L ws : List Nat) (n m : Nat) : Prop where
  leaf : ∀ j, j < n → ws.getD (n + j) 0 = j
  lt : ∀ k, m < k → k < 2 * n → ws.getD k 0 < n
  node : ∀ k, m < k → k < n → NC ls L (fun k => ws.getD k 0) k
  sub : ∀ k, m < k → k < 2 * n → anc k (n + ws.getD k 0)
theorem Built.start {ls : List (List En)} {L ws : List Nat} {n : Nat} (h : ∀ j, j < n → ws.getD (n + j) 0 = j) : Built ls L ws n (n - 1) :=
  ⟨h, fun k k1 k2 => by
    obtain ⟨j, rfl⟩ : ∃ j, k = n + j := ⟨k - n, by omega⟩
    rw [h j (by omega)]; omega, fun k k1 k2 => by omega, fun k k1 k2 => by
    obtain ⟨j, rfl⟩ : ∃ j, k = n + j := ⟨k - n, by omega⟩
    rw [h j (by omega)]; exact ⟨0, by simp⟩⟩
theorem Built.next {ls : List (List En)} {L ws : List Nat} {n m : Nat} (h : Built ls L ws n m) (hL : L.length = n) (hw : ws.length = 2 * n) (h1 : 1 ≤ m) (h2 : m < n) :
    Built ls (L.set m (matchF ls (ws.getD (2 * m) 0) (ws.getD (2 * m + 1) 0)).2) (ws.set m (matchF ls (ws.getD (2 * m) 0) (ws.getD (2 * m + 1) 0)).1) n (m - 1) := by
  have hle := match_le ls (ws.getD (2 * m) 0) (ws.getD (2 * m + 1) 0)
  have htw := match_two ls (ws.getD (2 * m) 0) (ws.getD (2 * m + 1) 0)
  have hlt := match_lt (ls := ls) (h.lt (2 * m) (by omega) (by omega)) (h.lt (2 * m + 1) (by omega) (by omega))
  have s1 := anc_half (h.sub (2 * m) (by omega) (by omega))
  have s2 := anc_half (h.sub (2 * m + 1) (by omega) (by omega))
  rw [show 2 * m / 2 = m by omega] at s1
  rw [show (2 * m + 1) / 2 = m by omega] at s2
  generalize matchF ls (ws.getD (2 * m) 0) (ws.getD (2 * m + 1) 0) = r at hle htw hlt ⊢
  refine ⟨fun j hj => ?_, fun k k1 k2 => ?_, fun k k1 k2 => ?_, fun k k1 k2 => ?_⟩
  · rw [getD_set_ne (by omega)]; exact h.leaf j hj
  · by_cases hk : k = m
    · subst hk; rw [getD_set_eq (by omega)]; exact hlt.1
    · rw [getD_set_ne (fun e => hk e.symm)]; exact h.lt k (by omega) k2
  · unfold NC
    by_cases hk : k = m
    · subst hk
      simp only
      rw [getD_set_eq (by omega), getD_set_eq (by omega), getD_set_ne (by omega), getD_set_ne (by omega)]
      refine ⟨?_, hle⟩
      rcases htw with ⟨t1, t2⟩ | ⟨t1, t2⟩
      · exact .inl ⟨t1, t2⟩
      · exact .inr ⟨t1, t2⟩
    · simp only
      rw [getD_set_ne (fun e => hk e.symm), getD_set_ne (fun e => hk e.symm), getD_set_ne (by omega), getD_set_ne (by omega)]
      exact h.node k (by omega) k2
  · by_cases hk : k = m
    · subst hk
      rw [getD_set_eq (by omega)]
      rcases htw with ⟨t1, t2⟩ | ⟨t1, t2⟩
      · rw [t1]; exact s1
      · rw [t1]; exact s2
    · rw [getD_set_ne (fun e => hk e.symm)]; exact h.sub k (by omega) k2
theorem Built.done {ls : List (List En)} {L ws : List Nat} {n : Nat} (h : Built ls L ws n 0) : Tree ls L (fun k => ws.getD k 0) n :=
  ⟨h.leaf, fun m m1 m2 => h.lt m (by omega) m2, fun m m1 m2 => h.node m (by omega) m2, fun m m1 m2 => h.sub m (by omega) m2⟩
/-- Who wins has the least entry, or nothing is left. -/
theorem best_least {left : List (List En)} {n i : Nat} (hn : left.length = n) (h : ∀ j, j < n → leK left i j) (hp : ∀ l ∈ left, RiseE l) :
    (∀ e r, left[i]? = some (e :: r) → LeastE left e) ∧ (left[i]? = some [] → ∀ l ∈ left, l = []) := by
  constructor
  · intro e r hi l hl f hf
    obtain ⟨j, hj, rfl⟩ := List.mem_iff_getElem.1 hl
    obtain ⟨g, y, hy⟩ : ∃ g y, left[j] = g :: y := by
      cases hq : left[j] with
      | nil => rw [hq] at hf; cases hf
      | cons g y => exact ⟨g, y, rfl⟩
    obtain ⟨e', he', hle⟩ := h j (by omega) g (by rw [List.getD_eq_getElem?_getD, List.getElem?_eq_getElem hj, Option.getD_some, hy]; rfl)
    rw [List.getD_eq_getElem?_getD, hi] at he'
    simp at he'
    subst he'
    rw [hy] at hf
    rcases List.mem_cons.1 hf with rfl | hf
    · exact hle
    · have hr := hp _ hl
      rw [hy] at hr
      exact less_le_trans hle (less_asymm _ _ ((List.pairwise_cons.1 hr).1 f hf))
  · intro hi l hl
    obtain ⟨j, hj, rfl⟩ := List.mem_iff_getElem.1 hl
    cases hq : left[j] with
    | nil => rfl
    | cons g y =>
      exfalso
      obtain ⟨e', he', hle⟩ := h j (by omega) g (by rw [List.getD_eq_getElem?_getD, List.getElem?_eq_getElem hj, Option.getD_some, hq]; rfl)
      rw [List.getD_eq_getElem?_getD, hi] at he'
      simp at he'
end Go.Proofs.Ytgnhnhachhfafaa
