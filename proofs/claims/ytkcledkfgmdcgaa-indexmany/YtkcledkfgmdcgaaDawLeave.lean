/- States left one by one: each is a number, alike ones have one. Plain mathematics. -/
import Derived.Test.YtkcledkfgmdcgaaDawMath
namespace Go.Proofs.Ytkcledkfgmdcgaa
set_option linter.unusedVariables false
set_option linter.unusedSimpArgs false

/-- A state left: its number, and the states then. -/
def putS (S : List Stt) (s : Stt) : List Stt × Nat := if s ∈ S then (S, S.idxOf s) else (S ++ [s], S.length)
/-- Kids left in turn: the states then, and the edges to them. -/
def leaveK : List Stt → Kids → List Stt × List (UInt8 × Nat)
  | S, .nil => (S, [])
  | S, .cons c f sub rest =>
    let x := leaveK S sub
    let y := putS x.1 (f, x.2)
    let z := leaveK y.1 rest
    (z.1, (c, y.2) :: z.2)
def leaveN (S : List Stt) (t : Node) : List Stt × Nat := putS (leaveK S t.2).1 (t.1, (leaveK S t.2).2)
def buildL (l : List Wd) : List Stt := (leaveN [] (trieW l)).1
theorem leaveK_cons (S : List Stt) (c : UInt8) (f : Bool) (sub rest : Kids) : leaveK S (.cons c f sub rest) = ((leaveK (leaveN S (f, sub)).1 rest).1, (c, (leaveN S (f, sub)).2) :: (leaveK (leaveN S (f, sub)).1 rest).2) := rfl

/-- Lower edges alone, and no two alike. -/
structure GoodS (S : List Stt) : Prop where
  low : ∀ (i : Nat) (s : Stt), S[i]? = some s → ∀ e ∈ s.2, e.2 < i
  nodup : S.Nodup
theorem GoodS.nil : GoodS [] := ⟨fun i s h => by simp at h, List.nodup_nil⟩
theorem put_at (S : List Stt) (s : Stt) : (putS S s).1[(putS S s).2]? = some s := by
  unfold putS
  by_cases h : s ∈ S
  · rw [if_pos h]
    have hl := List.idxOf_lt_length_iff.2 h
    show S[S.idxOf s]? = some s
    rw [List.getElem?_eq_getElem hl, List.getElem_idxOf]
  · rw [if_neg h]
    show (S ++ [s])[S.length]? = some s
    simp
theorem put_pre (S : List Stt) (s : Stt) : S <+: (putS S s).1 := by
  unfold putS
  split
  · exact List.prefix_refl _
  · exact List.prefix_append _ _
theorem put_lt (S : List Stt) (s : Stt) : (putS S s).2 < (putS S s).1.length := (List.getElem?_eq_some_iff.1 (put_at S s)).1
theorem put_good {S : List Stt} (h : GoodS S) {s : Stt} (hs : ∀ e ∈ s.2, e.2 < S.length) : GoodS (putS S s).1 := by
  unfold putS
  by_cases hm : s ∈ S
  · rw [if_pos hm]; exact h
  · rw [if_neg hm]
    refine ⟨fun i t ht e he => ?_, ?_⟩
    · by_cases hi : i < S.length
      · exact h.low i t (by rw [← ht]; exact (List.getElem?_append_left hi).symm) e he
      · have hi2 : i = S.length := by
          have := (List.getElem?_eq_some_iff.1 ht).1
          simp at this; omega
        subst hi2
        simp at ht
        subst ht
        exact hs e he
    · exact List.nodup_append.2 ⟨h.nodup, by simp, fun a ha b hb => by simp at hb; subst hb; exact fun e => hm (e ▸ ha)⟩
theorem pre_len {S T : List Stt} (h : S <+: T) : S.length ≤ T.length := h.length_le
theorem pre_at {S T : List Stt} (h : S <+: T) {i : Nat} {s : Stt} (hs : S[i]? = some s) : T[i]? = some s := by
  obtain ⟨u, rfl⟩ := h
  rw [List.getElem?_append_left (List.getElem?_eq_some_iff.1 hs).1]; exact hs
/-- What stays, and where edges lead. -/
theorem leave_good : ∀ (k : Kids) (S : List Stt), GoodS S → S <+: (leaveK S k).1 ∧ GoodS (leaveK S k).1 ∧ ∀ e ∈ (leaveK S k).2, e.2 < (leaveK S k).1.length
  | .nil, S, h => ⟨List.prefix_refl _, h, fun e he => by simp [leaveK] at he⟩
  | .cons c f sub rest, S, h => by
    obtain ⟨a1, a2, a3⟩ := leave_good sub S h
    have b1 := put_pre (leaveK S sub).1 (f, (leaveK S sub).2)
    have b2 := put_good a2 (s := (f, (leaveK S sub).2)) a3
    have b3 := put_lt (leaveK S sub).1 (f, (leaveK S sub).2)
    obtain ⟨c1, c2, c3⟩ := leave_good rest _ b2
    rw [leaveK_cons]
    refine ⟨a1.trans (b1.trans c1), c2, fun e he => ?_⟩
    rcases List.mem_cons.1 he with rfl | he
    · exact Nat.lt_of_lt_of_le b3 (pre_len c1)
    · exact c3 e he
theorem leaveN_good {S : List Stt} (h : GoodS S) (t : Node) : S <+: (leaveN S t).1 ∧ GoodS (leaveN S t).1 ∧ (leaveN S t).2 < (leaveN S t).1.length ∧ (leaveN S t).1[(leaveN S t).2]? = some (t.1, (leaveK S t.2).2) := by
  obtain ⟨a1, a2, a3⟩ := leave_good t.2 S h
  exact ⟨a1.trans (put_pre _ _), put_good a2 a3, put_lt _ _, put_at _ _⟩

/-- What a state takes. -/
def stepE : List (UInt8 × Nat) → UInt8 → Option Nat
  | [], _ => none
  | e :: es, c => if e.1 = c then some e.2 else stepE es c
def hasS (S : List Stt) : Nat → Wd → Bool
  | n, [] => (S[n]?.getD (false, [])).1
  | n, c :: w => match stepE (S[n]?.getD (false, [])).2 c with
    | some m => hasS S m w
    | none => false
def hasE (S : List Stt) (es : List (UInt8 × Nat)) (c : UInt8) (w : Wd) : Bool := match stepE es c with
  | some m => hasS S m w
  | none => false
theorem hasS_at {S : List Stt} {n : Nat} {s : Stt} (h : S[n]? = some s) (w : Wd) : hasS S n w = match w with | [] => s.1 | c :: v => hasE S s.2 c v := by
  cases w with
  | nil => simp [hasS, h]
  | cons c v => simp only [hasS, h, Option.getD_some, hasE]
theorem step_mem : ∀ {es : List (UInt8 × Nat)} {c : UInt8} {m : Nat}, stepE es c = some m → (c, m) ∈ es
  | [], c, m, h => by simp [stepE] at h
  | e :: es, c, m, h => by
    rw [stepE] at h
    by_cases he : e.1 = c
    · rw [if_pos he] at h
      cases h
      subst he
      exact List.mem_cons_self
    · rw [if_neg he] at h
      exact List.mem_cons_of_mem _ (step_mem h)
theorem has_pre {S T : List Stt} (h : GoodS S) (hp : S <+: T) : ∀ (w : Wd) (n : Nat), n < S.length → hasS T n w = hasS S n w
  | [], n, hn => by
    have h1 := List.getElem?_eq_getElem hn
    rw [hasS_at h1, hasS_at (pre_at hp h1)]
  | c :: w, n, hn => by
    have h1 := List.getElem?_eq_getElem hn
    rw [hasS_at h1, hasS_at (pre_at hp h1)]
    simp only [hasE]
    cases hs : stepE (S[n]).2 c with
    | none => rfl
    | some m => exact has_pre h hp w m (Nat.lt_trans (h.low n _ h1 _ (step_mem hs)) hn)
theorem leave_takes : ∀ (k : Kids) (S : List Stt), GoodS S → ∀ T, (leaveK S k).1 <+: T → ∀ c w, hasE T (leaveK S k).2 c w = takeK k c w
  | .nil, S, h, T, hT, c, w => rfl
  | .cons d f sub rest, S, h, T, hT, c, w => by
    obtain ⟨a1, a2, a3⟩ := leave_good sub S h
    obtain ⟨b1, b2, b3, b4⟩ := leaveN_good h (f, sub)
    have c1 := (leave_good rest _ b2).1
    have hr := leave_takes rest _ b2
    have hs := leave_takes sub S h
    rw [leaveK_cons] at hT ⊢
    have hpT : (leaveN S (f, sub)).1 <+: T := c1.trans hT
    rw [takeK_cons]
    simp only [hasE, stepE]
    by_cases hc : d = c
    · subst hc
      rw [if_pos rfl, if_pos rfl]
      show hasS T (leaveN S (f, sub)).2 w = _
      rw [hasS_at (pre_at hpT b4)]
      cases w with
      | nil => rfl
      | cons y v => exact hs T ((put_pre (leaveK S sub).1 (f, (leaveK S sub).2)).trans hpT) y v
    · rw [if_neg hc, if_neg (Ne.symm hc)]
      exact hr T hT c w
theorem leaveN_takes {S : List Stt} (h : GoodS S) (t : Node) {T : List Stt} (hT : (leaveN S t).1 <+: T) (w : Wd) : hasS T (leaveN S t).2 w = takeN t w := by
  obtain ⟨b1, b2, b3, b4⟩ := leaveN_good h t
  rw [hasS_at (pre_at hT b4)]
  cases w with
  | nil => rfl
  | cons y v => exact leave_takes t.2 S h T ((put_pre (leaveK S t.2).1 (t.1, (leaveK S t.2).2)).trans hT) y v

/-- Of the states that were left each is below an edge's. -/
theorem leave_top : ∀ (k : Kids) (S : List Stt), GoodS S → ∀ i, S.length ≤ i → i < (leaveK S k).1.length → ∃ e ∈ (leaveK S k).2, i ≤ e.2
  | .nil, S, h, i, h1, h2 => absurd h2 (by show ¬ i < S.length; omega)
  | .cons c f sub rest, S, h, i, h1, h2 => by
    obtain ⟨a1, a2, a3⟩ := leave_good sub S h
    obtain ⟨b1, b2, b3, b4⟩ := leaveN_good h (f, sub)
    rw [leaveK_cons] at h2 ⊢
    by_cases hi : i < (leaveN S (f, sub)).1.length
    · refine ⟨_, List.mem_cons_self, ?_⟩
      show i ≤ (leaveN S (f, sub)).2
      by_cases hi2 : i < (leaveK S sub).1.length
      · obtain ⟨e, he, hle⟩ := leave_top sub S h i h1 hi2
        have := b2.low _ _ b4 e he
        omega
      · have hl : (leaveN S (f, sub)).1.length ≤ (leaveN S (f, sub)).2 + 1 := by
          show (putS _ _).1.length ≤ (putS _ _).2 + 1
          unfold putS
          split
          · rename_i hm
            exfalso
            have : (leaveN S (f, sub)).1 = (leaveK S sub).1 := by show (putS _ _).1 = _; unfold putS; rw [if_pos hm]
            rw [this] at hi
            exact hi2 hi
          · simp
        omega
    · obtain ⟨e, he, hle⟩ := leave_top rest _ b2 i (by omega) h2
      exact ⟨e, List.mem_cons_of_mem _ he, hle⟩
/-- The first state is a new one: it is left last. -/
theorem root_new (t : Node) : (t.1, (leaveK [] t.2).2) ∉ (leaveK [] t.2).1 := by
  intro hm
  obtain ⟨a1, a2, a3⟩ := leave_good t.2 [] GoodS.nil
  obtain ⟨i, hi, he⟩ := List.getElem_of_mem hm
  obtain ⟨e, hee, hle⟩ := leave_top t.2 [] GoodS.nil i (Nat.zero_le _) hi
  have := a2.low i _ (List.getElem?_eq_getElem hi) e (by rw [he]; exact hee)
  omega
theorem build_is (l : List Wd) : buildL l = (leaveK [] (trieW l).2).1 ++ [((trieW l).1, (leaveK [] (trieW l).2).2)] ∧ (leaveN [] (trieW l)).2 = (leaveK [] (trieW l).2).1.length := by
  unfold buildL leaveN putS
  rw [if_neg (root_new _)]
  exact ⟨rfl, rfl⟩
theorem build_good (l : List Wd) : GoodS (buildL l) := (leaveN_good GoodS.nil (trieW l)).2.1
theorem build_has (l : List Wd) (w : Wd) : hasS (buildL l) ((buildL l).length - 1) w = decide (w ∈ l) := by
  obtain ⟨h1, h2⟩ := build_is l
  have := leaveN_takes GoodS.nil (trieW l) (List.prefix_refl _) w
  rw [trie_take, h2] at this
  rw [h1, List.length_append]
  unfold buildL at h1
  rw [h1] at this
  exact this

/-- The words of a state, in the order of edges. -/
def wordsS (S : List Stt) : Nat → Nat → List Wd
  | 0, _ => []
  | f + 1, n => (if (S[n]?.getD (false, [])).1 then [[]] else []) ++ (S[n]?.getD (false, [])).2.flatMap fun e => (wordsS S f e.2).map (e.1 :: ·)
theorem words_at {S : List Stt} {n : Nat} {s : Stt} (h : S[n]? = some s) (f : Nat) : wordsS S (f + 1) n = (if s.1 then [[]] else []) ++ s.2.flatMap fun e => (wordsS S f e.2).map (e.1 :: ·) := by simp [wordsS, h]
theorem flat_congr {α β : Type} {l : List α} {f g : α → List β} (h : ∀ a ∈ l, f a = g a) : l.flatMap f = l.flatMap g := by
  induction l with
  | nil => rfl
  | cons a l ih => rw [List.flatMap_cons, List.flatMap_cons, h a (by simp), ih fun b hb => h b (by simp [hb])]
theorem words_fuel {S : List Stt} (h : GoodS S) : ∀ (f g n : Nat), n < f → n < g → n < S.length → wordsS S f n = wordsS S g n
  | f + 1, g + 1, n, hf, hg, hn => by
    have h1 := List.getElem?_eq_getElem hn
    rw [words_at h1, words_at h1]
    congr 1
    refine flat_congr fun e he => ?_
    have := h.low n _ h1 e he
    rw [words_fuel h f g e.2 (by omega) (by omega) (by omega)]
  | 0, _, _, h, _, _ => absurd h (by omega)
  | _ + 1, 0, _, _, h, _ => absurd h (by omega)
theorem leave_words : ∀ (k : Kids) (S : List Stt), GoodS S → ∀ T, GoodS T → (leaveK S k).1 <+: T → ∀ f, (leaveK S k).1.length ≤ f → (leaveK S k).2.flatMap (fun e => (wordsS T f e.2).map (e.1 :: ·)) = listK k
  | .nil, S, h, T, hT, hp, f, hf => rfl
  | .cons c fl sub rest, S, h, T, hT, hp, f, hf => by
    obtain ⟨a1, a2, a3⟩ := leave_good sub S h
    obtain ⟨b1, b2, b3, b4⟩ := leaveN_good h (fl, sub)
    have c1 := (leave_good rest _ b2).1
    have hr := leave_words rest _ b2 T hT
    have hs := leave_words sub S h T hT
    rw [leaveK_cons] at hp hf ⊢
    have hpT : (leaveN S (fl, sub)).1 <+: T := c1.trans hp
    have hl1 := pre_len c1
    have hl2 := pre_len (put_pre (leaveK S sub).1 (fl, (leaveK S sub).2))
    have hl3 : (leaveK S sub).1.length ≤ (leaveN S (fl, sub)).1.length := hl2
    have hlT := pre_len hpT
    simp only at hf hp
    rw [List.flatMap_cons, hr hp f hf, listK]
    congr 2
    show wordsS T f (leaveN S (fl, sub)).2 = _
    obtain ⟨g, rfl⟩ : ∃ g, f = g + 1 := ⟨f - 1, by omega⟩
    rw [words_at (pre_at hpT b4)]
    congr 1
    have hsub := hs ((put_pre (leaveK S sub).1 (fl, (leaveK S sub).2)).trans hpT) (g + 1) (by omega)
    rw [← hsub]
    refine flat_congr fun e he => ?_
    have h2 : e.2 < (leaveN S (fl, sub)).2 := b2.low _ _ b4 e he
    rw [words_fuel hT g (g + 1) e.2 (by omega) (by omega) (by omega)]
theorem build_words {l : List Wd} (hl : RiseW l) {f : Nat} (hf : (buildL l).length ≤ f) : wordsS (buildL l) f ((buildL l).length - 1) = l := by
  obtain ⟨h1, h2⟩ := build_is l
  have hg := build_good l
  have hp : (leaveK [] (trieW l).2).1 <+: buildL l := by rw [h1]; exact List.prefix_append _ _
  have hn : (buildL l).length - 1 = (leaveK [] (trieW l).2).1.length := by rw [h1]; simp
  have ha : (buildL l)[(buildL l).length - 1]? = some ((trieW l).1, (leaveK [] (trieW l).2).2) := by rw [hn, h1]; simp
  have hlen : (buildL l).length = (leaveK [] (trieW l).2).1.length + 1 := by rw [h1]; simp
  obtain ⟨g, rfl⟩ : ∃ g, f = g + 1 := ⟨f - 1, by omega⟩
  rw [words_at ha]
  have := leave_words (trieW l).2 [] GoodS.nil (buildL l) hg hp g (by omega)
  rw [this]
  exact list_words hl
end Go.Proofs.Ytkcledkfgmdcgaa
