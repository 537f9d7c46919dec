/- States told by what may still come: of two states that were left no two take the same words; words grouped by their first bytes. Plain mathematics. -/
import Derived.Test.YtkcledkfgmdcgaaDawMore
namespace Go.Proofs.Ytkcledkfgmdcgaa
set_option linter.unusedVariables false
set_option linter.unusedSimpArgs false

/-- The words of a state. -/
def langS (S : List Stt) (n : Nat) : List Wd := wordsS S (n + 1) n
def flatS (S : List Stt) (es : List (UInt8 × Nat)) : List Wd := es.flatMap fun e => (langS S e.2).map (e.1 :: ·)
def wordsOf (S : List Stt) (s : Stt) : List Wd := (if s.1 then [[]] else []) ++ flatS S s.2
def langsS (S : List Stt) : List (List Wd) := (List.range S.length).map (langS S)
theorem lang_at {S : List Stt} (h : GoodS S) {n : Nat} {s : Stt} (hs : S[n]? = some s) : langS S n = wordsOf S s := by
  have hn := (List.getElem?_eq_some_iff.1 hs).1
  unfold langS wordsOf flatS
  rw [words_at hs]
  congr 1
  refine flat_congr fun e he => ?_
  have hl := h.low n s hs e he
  unfold langS
  rw [words_fuel h n (e.2 + 1) e.2 hl (by omega) (by omega)]
theorem lang_pre {S T : List Stt} (hS : GoodS S) (hT : GoodS T) (hp : S <+: T) : ∀ n, n < S.length → langS T n = langS S n := by
  intro n
  induction n using Nat.strongRecOn with
  | ind n ih =>
    intro hn
    have h1 := List.getElem?_eq_getElem hn
    rw [lang_at hT (pre_at hp h1), lang_at hS h1]
    unfold wordsOf flatS
    congr 1
    refine flat_congr fun e he => ?_
    have hl := hS.low n _ h1 e he
    rw [ih e.2 hl (by omega)]
theorem flat_pre {S T : List Stt} (hS : GoodS S) (hT : GoodS T) (hp : S <+: T) {es : List (UInt8 × Nat)} (he : ∀ e ∈ es, e.2 < S.length) : flatS T es = flatS S es := by
  unfold flatS
  exact flat_congr fun e h => by rw [lang_pre hS hT hp e.2 (he e h)]

/-- No two states take the same, and each takes something. -/
structure LiveS (S : List Stt) : Prop where
  good : GoodS S
  inj : ∀ i j, i < S.length → j < S.length → langS S i = langS S j → i = j
  ne : ∀ i, i < S.length → langS S i ≠ []
  rise : ∀ s ∈ S, RiseEd s.2
theorem LiveS.nil : LiveS [] := ⟨GoodS.nil, (fun i j h => by simp at h), (fun i h => by simp at h), (fun s h => by simp at h)⟩
def hdB (c : UInt8) (w : Wd) : Bool := decide (w.head? = some c)
theorem filter_block {c : UInt8} (l : List Wd) : (l.map (c :: ·)).filter (hdB c) = l.map (c :: ·) := by
  refine List.filter_eq_self.2 fun w hw => ?_
  obtain ⟨v, _, rfl⟩ := List.mem_map.1 hw
  simp [hdB]
theorem filter_rest {S : List Stt} {c : UInt8} : ∀ {es : List (UInt8 × Nat)}, (∀ e ∈ es, c < e.1) → (flatS S es).filter (hdB c) = []
  | [], _ => rfl
  | e :: es, h => by
    have ih := filter_rest (S := S) (es := es) fun d hd => h d (by simp [hd])
    show ((langS S e.2).map (e.1 :: ·) ++ flatS S es).filter (hdB c) = []
    rw [List.filter_append, ih, List.append_nil]
    refine List.filter_eq_nil_iff.2 fun w hw => ?_
    obtain ⟨v, _, rfl⟩ := List.mem_map.1 hw
    have hlt := h e (by simp)
    simp only [hdB, List.head?_cons, Option.some.injEq, decide_eq_true_eq]
    intro he
    rw [he] at hlt
    exact UInt8.lt_irrefl _ hlt
theorem flat_inj {S : List Stt} (hi : ∀ i j, i < S.length → j < S.length → langS S i = langS S j → i = j) (hn : ∀ i, i < S.length → langS S i ≠ []) :
    ∀ (es ds : List (UInt8 × Nat)), RiseEd es → RiseEd ds → (∀ e ∈ es, e.2 < S.length) → (∀ e ∈ ds, e.2 < S.length) → flatS S es = flatS S ds → es = ds
  | [], [], _, _, _, _, _ => rfl
  | [], d :: ds, _, _, _, h2, h => by
    exfalso
    have hd := hn d.2 (h2 d (by simp))
    have h' : ([] : List Wd) = (langS S d.2).map (d.1 :: ·) ++ flatS S ds := h
    have := congrArg List.length h'
    simp only [List.length_nil, List.length_append, List.length_map] at this
    exact hd (List.eq_nil_of_length_eq_zero (by omega))
  | e :: es, [], _, _, h1, _, h => by
    exfalso
    have hd := hn e.2 (h1 e (by simp))
    have h' : (langS S e.2).map (e.1 :: ·) ++ flatS S es = ([] : List Wd) := h
    have := congrArg List.length h'
    simp only [List.length_nil, List.length_append, List.length_map] at this
    exact hd (List.eq_nil_of_length_eq_zero (by omega))
  | e :: es, d :: ds, r1, r2, h1, h2, h => by
    obtain ⟨r1a, r1b⟩ := List.pairwise_cons.1 r1
    obtain ⟨r2a, r2b⟩ := List.pairwise_cons.1 r2
    have h' : (langS S e.2).map (e.1 :: ·) ++ flatS S es = (langS S d.2).map (d.1 :: ·) ++ flatS S ds := h
    have hc : e.1 = d.1 := by
      obtain ⟨v, vs, hv⟩ := List.exists_cons_of_ne_nil (hn e.2 (h1 e (by simp)))
      obtain ⟨u, us, hu⟩ := List.exists_cons_of_ne_nil (hn d.2 (h2 d (by simp)))
      rw [hv, hu] at h'
      simp only [List.map_cons, List.cons_append, List.cons.injEq] at h'
      exact h'.1.1
    have hb := congrArg (List.filter (hdB e.1)) h'
    rw [List.filter_append, List.filter_append, filter_block, filter_rest r1a] at hb
    rw [hc] at hb
    rw [filter_block, filter_rest r2a, List.append_nil, List.append_nil] at hb
    have hl : langS S e.2 = langS S d.2 := (List.map_inj_right (fun a b hab => (List.cons.inj hab).2)).1 hb
    have hx : e.2 = d.2 := hi _ _ (h1 e (by simp)) (h2 d (by simp)) hl
    have hed : e = d := Prod.ext hc hx
    subst hed
    rw [flat_inj hi hn es ds r1b r2b (fun x hx => h1 x (by simp [hx])) (fun x hx => h2 x (by simp [hx])) (List.append_cancel_left h')]
theorem nil_words (S : List Stt) (s : Stt) : [] ∈ wordsOf S s ↔ s.1 = true := by
  unfold wordsOf flatS
  rw [List.mem_append, List.mem_flatMap]
  constructor
  · rintro (h | ⟨e, _, h⟩)
    · cases hs : s.1 <;> simp_all
    · obtain ⟨v, _, hv⟩ := List.mem_map.1 h
      cases hv
  · intro h; rw [h]; exact .inl (by simp)
theorem words_inj {S : List Stt} (h : LiveS S) {s t : Stt} (r1 : RiseEd s.2) (r2 : RiseEd t.2) (h1 : ∀ e ∈ s.2, e.2 < S.length) (h2 : ∀ e ∈ t.2, e.2 < S.length) (he : wordsOf S s = wordsOf S t) : s = t := by
  have hf : s.1 = t.1 := by
    have a := nil_words S s
    rw [he, nil_words] at a
    cases hs : s.1 <;> cases ht : t.1 <;> simp_all
  unfold wordsOf at he
  rw [hf] at he
  exact Prod.ext hf (flat_inj h.inj h.ne _ _ r1 r2 h1 h2 (List.append_cancel_left he))
theorem words_ne {S : List Stt} (hn : ∀ i, i < S.length → langS S i ≠ []) {s : Stt} (h1 : ∀ e ∈ s.2, e.2 < S.length) (hu : s.1 = true ∨ s.2 ≠ []) : wordsOf S s ≠ [] := by
  intro h
  rcases hu with hu | hu
  · have := (nil_words S s).2 hu; rw [h] at this; simp at this
  · obtain ⟨e, es, he⟩ := List.exists_cons_of_ne_nil hu
    have hl := hn e.2 (h1 e (by rw [he]; simp))
    unfold wordsOf flatS at h
    rw [he, List.flatMap_cons] at h
    have := congrArg List.length h
    simp only [List.length_append, List.length_map, List.length_nil] at this
    exact hl (List.eq_nil_of_length_eq_zero (by omega))
theorem words_pre {S T : List Stt} (hS : GoodS S) (hT : GoodS T) (hp : S <+: T) {s : Stt} (h1 : ∀ e ∈ s.2, e.2 < S.length) : wordsOf T s = wordsOf S s := by
  unfold wordsOf; rw [flat_pre hS hT hp h1]
theorem put_live {S : List Stt} (h : LiveS S) {s : Stt} (hs : ∀ e ∈ s.2, e.2 < S.length) (hr : RiseEd s.2) (hu : s.1 = true ∨ s.2 ≠ []) : LiveS (putS S s).1 := by
  have hg := put_good h.good hs
  by_cases hm : s ∈ S
  · unfold putS; rw [if_pos hm]; exact h
  · have he : (putS S s).1 = S ++ [s] := by unfold putS; rw [if_neg hm]
    rw [he] at hg ⊢
    have hp : S <+: S ++ [s] := List.prefix_append _ _
    have hnew : langS (S ++ [s]) S.length = wordsOf S s := by rw [lang_at hg (s := s) (by simp), words_pre h.good hg hp hs]
    have hold : ∀ i, i < S.length → langS (S ++ [s]) i = langS S i := fun i hi => lang_pre h.good hg hp i hi
    have hne : ∀ i, i < S.length → langS S i ≠ wordsOf S s := fun i hi he2 => by
      have h1 := List.getElem?_eq_getElem hi
      rw [lang_at h.good h1] at he2
      have := words_inj h (h.rise _ (List.getElem_mem hi)) hr (fun e he => Nat.lt_trans (h.good.low i _ h1 e he) hi) hs he2
      exact hm (this ▸ List.getElem_mem hi)
    refine ⟨hg, ?_, ?_, ?_⟩
    · intro i j hi hj hij
      simp only [List.length_append, List.length_singleton] at hi hj
      by_cases h1 : i < S.length
      · by_cases h2 : j < S.length
        · rw [hold i h1, hold j h2] at hij; exact h.inj i j h1 h2 hij
        · have : j = S.length := by omega
          subst this
          rw [hold i h1, hnew] at hij
          exact absurd hij (hne i h1)
      · have : i = S.length := by omega
        subst this
        by_cases h2 : j < S.length
        · rw [hold j h2, hnew] at hij
          exact absurd hij.symm (hne j h2)
        · omega
    · intro i hi
      simp only [List.length_append, List.length_singleton] at hi
      by_cases h1 : i < S.length
      · rw [hold i h1]; exact h.ne i h1
      · have : i = S.length := by omega
        subst this
        rw [hnew]; exact words_ne h.ne hs hu
    · intro t ht
      rcases List.mem_append.1 ht with ht | ht
      · exact h.rise t ht
      · simp at ht; subst ht; exact hr
theorem leave_live : ∀ (k : Kids) (S : List Stt), LiveS S → liveK k → RiseK k → LiveS (leaveK S k).1
  | .nil, S, h, _, _ => h
  | .cons c f sub rest, S, h, hl, hr => by
    have h1 := leave_live sub S h hl.2.1 hr.2.1
    have h2 : LiveS (leaveN S (f, sub)).1 := put_live h1 (leave_good sub S h.good).2.2 (leave_rise sub S hr.2.1) (by
      rcases hl.1 with h3 | h3
      · exact .inl h3
      · exact .inr fun h4 => h3 (leave_nil.1 h4))
    rw [leaveK_cons]
    exact leave_live rest _ h2 hl.2.2 hr.2.2
/-- To look a state up by what it takes. -/
theorem look_in {S : List Stt} (h : LiveS S) {s : Stt} (hs : ∀ e ∈ s.2, e.2 < S.length) (hr : RiseEd s.2) {i : Nat} (hi : i < S.length) (he : langS S i = wordsOf S s) : putS S s = (S, i) := by
  have h1 := List.getElem?_eq_getElem hi
  rw [lang_at h.good h1] at he
  have hx := words_inj h (h.rise _ (List.getElem_mem hi)) hr (fun e he => Nat.lt_trans (h.good.low i _ h1 e he) hi) hs he
  have hm : s ∈ S := hx ▸ List.getElem_mem hi
  unfold putS
  rw [if_pos hm]
  congr 1
  have h2 := List.idxOf_lt_length_iff.2 hm
  exact (List.getElem_inj h.good.nodup).1 (show S[S.idxOf s]'h2 = S[i]'hi by rw [List.getElem_idxOf, hx])
theorem look_out {S : List Stt} (h : GoodS S) {s : Stt} (hn : ∀ i, i < S.length → langS S i ≠ wordsOf S s) : putS S s = (S ++ [s], S.length) := by
  unfold putS
  rw [if_neg]
  intro hm
  obtain ⟨i, hi, he⟩ := List.getElem_of_mem hm
  exact hn i hi (by rw [lang_at h (List.getElem?_eq_getElem hi), he])
theorem langs_snoc {S : List Stt} {s : Stt} (h : GoodS S) (hg : GoodS (S ++ [s])) (hs : ∀ e ∈ s.2, e.2 < S.length) : langsS (S ++ [s]) = langsS S ++ [wordsOf S s] := by
  have hp : S <+: S ++ [s] := List.prefix_append _ _
  unfold langsS
  rw [List.length_append, List.length_singleton, List.range_succ, List.map_append]
  congr 1
  · exact List.map_congr_left fun i hi => lang_pre h hg hp i (List.mem_range.1 hi)
  · show [langS (S ++ [s]) S.length] = _
    rw [lang_at hg (s := s) (by simp), words_pre h hg hp hs]
/-- What was left takes the trie's words. -/
theorem leave_words_of (t : Node) {S : List Stt} (h : GoodS S) : wordsOf (leaveK S t.2).1 (t.1, (leaveK S t.2).2) = listN t := by
  obtain ⟨a1, a2, a3⟩ := leave_good t.2 S h
  have := leave_words t.2 S h _ a2 (List.prefix_refl _) _ (Nat.le_refl _)
  unfold wordsOf listN
  rw [← this]
  congr 1
  unfold flatS
  refine flat_congr fun e he => ?_
  have hl := a3 e he
  unfold langS
  rw [words_fuel a2 (e.2 + 1) _ e.2 (by omega) hl hl]

/-- Kids with one more behind. -/
def snocK : Kids → UInt8 → Node → Kids
  | .nil, c, t => .cons c t.1 t.2 .nil
  | .cons d f s r, c, t => .cons d f s (snocK r c t)
def belowK : Kids → UInt8 → Prop
  | .nil, _ => True
  | .cons d _ _ r, c => d < c ∧ belowK r c
theorem chain_ins (w : Wd) : insN (false, .nil) w = chainN w := by cases w <;> rfl
theorem ins_new : ∀ {k : Kids} {c : UInt8} (w : Wd), belowK k c → insK k c w = snocK k c (chainN w)
  | .nil, c, w, _ => rfl
  | .cons d f s r, c, w, h => by
    rw [insK_cons, if_neg (fun e => by have := h.1; rw [e] at this; exact UInt8.lt_irrefl _ this), if_neg (fun h2 => UInt8.lt_irrefl _ (UInt8.lt_trans h2 h.1)), ins_new w h.2]
    rfl
theorem ins_more : ∀ {k : Kids} {c : UInt8} (t : Node) (w : Wd), belowK k c → insK (snocK k c t) c w = snocK k c (insN t w)
  | .nil, c, t, w, _ => by
    show insK (.cons c t.1 t.2 .nil) c w = _
    rw [insK_cons, if_pos rfl]; rfl
  | .cons d f s r, c, t, w, h => by
    show insK (.cons d f s (snocK r c t)) c w = _
    rw [insK_cons, if_neg (fun e => by have := h.1; rw [e] at this; exact UInt8.lt_irrefl _ this), if_neg (fun h2 => UInt8.lt_irrefl _ (UInt8.lt_trans h2 h.1)), ins_more t w h.2]
    rfl
theorem group_more (f : Bool) {k : Kids} {c : UInt8} (hk : belowK k c) : ∀ (on : List Wd) (t : Node), (on.map (c :: ·)).foldl insN (f, snocK k c t) = (f, snocK k c (on.foldl insN t))
  | [], t => rfl
  | w :: on, t => by
    show (on.map (c :: ·)).foldl insN (f, insK (snocK k c t) c w) = _
    rw [ins_more t w hk, group_more f hk on]; rfl
/-- A group of words with one first byte, behind words whose first bytes are below it. -/
theorem group_trie (f : Bool) {k : Kids} {c : UInt8} (hk : belowK k c) {on : List Wd} (hne : on ≠ []) : (on.map (c :: ·)).foldl insN (f, k) = (f, snocK k c (trieW on)) := by
  obtain ⟨w, on', rfl⟩ := List.exists_cons_of_ne_nil hne
  show (on'.map (c :: ·)).foldl insN (f, insK k c w) = _
  rw [ins_new w hk, group_more f hk on', ← chain_ins]; rfl
theorem leave_snoc : ∀ (k : Kids) (S : List Stt) (c : UInt8) (t : Node), leaveK S (snocK k c t) = ((leaveN (leaveK S k).1 t).1, (leaveK S k).2 ++ [(c, (leaveN (leaveK S k).1 t).2)])
  | .nil, S, c, t => rfl
  | .cons d f s r, S, c, t => by
    show leaveK S (.cons d f s (snocK r c t)) = _
    rw [leaveK_cons, leave_snoc r _ c t, leaveK_cons]; rfl
theorem ins_below {c x : UInt8} (hx : x < c) : ∀ {k : Kids} (w : Wd), belowK k c → belowK (insK k x w) c
  | .nil, w, _ => ⟨hx, trivial⟩
  | .cons d f s r, w, h => by
    rw [insK_cons]
    split
    · exact ⟨h.1, h.2⟩
    · split
      · exact ⟨hx, h⟩
      · exact ⟨h.1, ins_below hx w h.2⟩
theorem fold_below {c : UInt8} : ∀ (l : List Wd) (t : Node), belowK t.2 c → (∀ w ∈ l, ∀ d v, w = d :: v → d < c) → belowK (l.foldl insN t).2 c
  | [], t, h, _ => h
  | w :: l, t, h, hl => by
    rw [List.foldl_cons]
    refine fold_below l _ ?_ fun v hv => hl v (by simp [hv])
    cases w with
    | nil => exact h
    | cons d v => exact ins_below (hl (d :: v) (by simp) d v rfl) v h
theorem trie_take_snoc {l : List Wd} {a b : Nat} (hab : a ≤ b) : trieW (l.take b) = ((l.take b).drop a).foldl insN (trieW (l.take a)) := by
  unfold trieW
  rw [← List.foldl_append]
  congr 1
  have : l.take a = (l.take b).take a := by rw [List.take_take, Nat.min_eq_left hab]
  rw [this, List.take_append_drop]
end Go.Proofs.Ytkcledkfgmdcgaa
