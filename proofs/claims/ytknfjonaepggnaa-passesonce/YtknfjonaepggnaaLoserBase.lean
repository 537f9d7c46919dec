/- Lists of words merged: all counts of a word together, one list behind the other, and word by word. A tournament of lists: matches at places, each won by the lower head; played again for one list. -/
import Derived.Test.YtknfjonaepggnaaEnAll
import Derived.Test.YtknfjonaepggnaaRunMathAll
namespace Go.Proofs.Ytknfjonaepggnaa
set_option linter.unusedVariables false
set_option linter.unusedSimpArgs false

/-- A word's counts together, of entries in a row, and of lists. -/
def sumF (es : List En) (k : Wd) : Nat := (es.map fun e => if e.1 = k then e.2 else 0).sum
def sumK (ls : List (List En)) (k : Wd) : Nat := (ls.map fun l => getE l k).sum
/-- The error of the first list that has one. -/
def badL : List (List En) → Nat
  | [] => 0
  | l :: ls => if mayE l = 0 then badL ls else mayE l
theorem sumF_nil (k : Wd) : sumF [] k = 0 := rfl
theorem sumF_cons (e : En) (es : List En) (k : Wd) : sumF (e :: es) k = (if e.1 = k then e.2 else 0) + sumF es k := by simp [sumF]
theorem sumF_app (x y : List En) (k : Wd) : sumF (x ++ y) k = sumF x k + sumF y k := by simp [sumF]
theorem sumF_none : ∀ {es : List En} {k : Wd}, (∀ e ∈ es, e.1 ≠ k) → sumF es k = 0
  | [], _, _ => rfl
  | e :: es, k, h => by rw [sumF_cons, if_neg (h e (by simp)), sumF_none fun e he => h e (by simp [he])]
theorem sumF_get : ∀ {es : List En}, KeysE es → ∀ k, sumF es k = getE es k
  | [], _, _ => rfl
  | e :: es, h, k => by
    have h' := List.pairwise_cons.1 h
    rw [sumF_cons, getE]
    split
    · rename_i e1
      rw [sumF_none fun e he e2 => h'.1 e he (e1.trans e2.symm)]; omega
    · rw [sumF_get h'.2]; omega
theorem sumK_cons (l : List En) (ls : List (List En)) (k : Wd) : sumK (l :: ls) k = getE l k + sumK ls k := by simp [sumK]
theorem sumK_flat : ∀ {ls : List (List En)}, (∀ l ∈ ls, KeysE l) → ∀ k, sumF ls.flatten k = sumK ls k
  | [], _, _ => rfl
  | l :: ls, h, k => by
    rw [List.flatten_cons, sumF_app, sumK_cons, sumF_get (h l (by simp)), sumK_flat fun l hl => h l (by simp [hl])]
theorem bad_all : ∀ {ls : List (List En)}, badL ls = 0 → ∀ l ∈ ls, mayE l = 0
  | [], _, _, hl => by cases hl
  | a :: ls, h, l, hl => by
    rw [badL] at h
    split at h
    · rcases List.mem_cons.1 hl with rfl | hl
      · assumption
      · exact bad_all h l hl
    · rename_i h'; exact absurd h h'
theorem all_bad : ∀ {ls : List (List En)}, (∀ l ∈ ls, mayE l = 0) → badL ls = 0
  | [], _ => rfl
  | a :: ls, h => by rw [badL, if_pos (h a (by simp)), all_bad fun l hl => h l (by simp [hl])]
theorem bad_at : ∀ {ls : List (List En)} {j : Nat} {l : List En}, (∀ x ∈ ls.take j, mayE x = 0) → ls[j]? = some l → mayE l ≠ 0 → badL ls = mayE l
  | a :: ls, 0, l, _, h, hl => by
    simp only [List.getElem?_cons_zero, Option.some.injEq] at h
    subst h; rw [badL, if_neg hl]
  | a :: ls, j + 1, l, hp, h, hl => by
    simp only [List.getElem?_cons_succ] at h
    rw [badL, if_pos (hp a (by simp)), bad_at (fun x hx => hp x (by simp [hx])) h hl]

theorem ups_rise : ∀ {l : List En}, upsE l = true → RiseE l
  | [], _ => .nil
  | [a], _ => by simp [RiseE]
  | a :: b :: l, h => by
    simp only [upsE, Bool.and_eq_true] at h
    have ih := ups_rise h.2
    refine List.pairwise_cons.2 ⟨fun c hc => ?_, ih⟩
    rcases List.mem_cons.1 hc with rfl | hc
    · exact h.1
    · exact less_trans _ _ _ h.1 ((List.pairwise_cons.1 ih).1 c hc)
theorem rise_ups : ∀ {l : List En}, RiseE l → upsE l = true
  | [], _ => rfl
  | [a], _ => rfl
  | a :: b :: l, h => by
    have h' := List.pairwise_cons.1 h
    simp only [upsE, Bool.and_eq_true]
    exact ⟨h'.1 b (by simp), rise_ups h'.2⟩
theorem may_iff {l : List En} : mayE l = 0 ↔ (∀ e ∈ l, 1 ≤ e.1.length ∧ e.1.length ≤ 255 ∧ 1 ≤ e.2 ∧ e.2 ≤ 4611686018427387904) ∧ RiseE l := by
  rw [may_zero, List.all_eq_true]
  constructor
  · rintro ⟨h1, h2⟩
    exact ⟨fun e he => one_ok.1 (h1 e he), ups_rise h2⟩
  · rintro ⟨h1, h2⟩
    exact ⟨fun e he => one_ok.2 (h1 e he), rise_ups h2⟩
theorem may_pos {l : List En} (h : mayE l = 0) : PosE l := fun e he => ((may_iff.1 h).1 e he).2.2
theorem may_rise {l : List En} (h : mayE l = 0) : RiseE l := (may_iff.1 h).2
theorem may_word {l : List En} (h : mayE l = 0) : ∀ e ∈ l, e.1 ≠ [] := fun e he hn => by have := ((may_iff.1 h).1 e he).1; rw [hn] at this; simp at this

/-- What the document's Add makes of a list that rises. -/
theorem addR_tells {x : List En} (hx : RiseE x) (hp : PosE x) (hw : ∀ e ∈ x, e.1 ≠ []) {k : Wd} {n : Nat} (hk : k ≠ []) (hn : 1 ≤ n) :
    (4611686018427387904 < getE x k + n ∧ (addR (x.length + 1) x k n).2 = 5) ∨
    (getE x k + n ≤ 4611686018427387904 ∧ (addR (x.length + 1) x k n).2 = 0 ∧ RiseE (addR (x.length + 1) x k n).1 ∧ PosE (addR (x.length + 1) x k n).1 ∧ (∀ e ∈ (addR (x.length + 1) x k n).1, e.1 ≠ []) ∧ (addR (x.length + 1) x k n).1.length ≤ x.length + 1 ∧
      ∀ k', getE (addR (x.length + 1) x k n).1 k' = getE x k' + if k = k' then n else 0) := by
  have hT : TabE (x.length + 1) x := ⟨rise_keys hx, hp, by omega, hw⟩
  obtain ⟨p1, p2, p3⟩ := add_ref (List.Perm.refl x) hx hT k n
  have hT' := hT.add k n
  have hg : (addE (x.length + 1) x k n).1 = (addE (x.length + 1) x k n).1 := rfl
  by_cases h2 : 4611686018427387904 < getE x k + n
  · left
    refine ⟨h2, ?_⟩
    rw [p3]; unfold addE; rw [if_neg (by simp [hk]; omega), if_pos h2]
  · right
    have e0 : (addE (x.length + 1) x k n).2 = 0 ∧ ∀ k', getE (addE (x.length + 1) x k n).1 k' = getE x k' + if k = k' then n else 0 := by
      unfold addE
      rw [if_neg (by simp [hk]; omega), if_neg h2]
      by_cases h3 : 0 < getE x k
      · rw [if_pos h3]
        refine ⟨rfl, fun k' => ?_⟩
        rw [get_set _ _ _ _ ⟨_, get_pos h3, rfl⟩]
        by_cases hkk : k = k'
        · subst hkk; simp
        · simp [hkk]
      · rw [if_neg h3, if_neg (by omega)]
        refine ⟨rfl, fun k' => ?_⟩
        have hz := getE_none hp (k := k) (by omega)
        by_cases hkk : k = k'
        · subst hkk
          rw [get_app_out _ _ _ _ hz]
          simp; omega
        · simp only [hkk, if_false]
          by_cases hin : ∃ e ∈ x, e.1 = k'
          · rw [get_app_in _ _ _ _ hin]; omega
          · rw [get_app_out _ _ _ _ fun e he e' => hin ⟨e, he, e'⟩, get_zero fun e he e' => hin ⟨e, he, e'⟩]; simp [hkk]
    refine ⟨by omega, p3.trans e0.1, p2, perm_pos p1 hT'.pos, fun e he => hT'.words e (p1.mem_iff.1 he), ?_, fun k' => ?_⟩
    · rw [p1.length_eq]; exact hT'.most
    · rw [get_perm p1 hT'.keys]; exact e0.2 k'

/-- Entries put in, one by one. -/
def foldE : List En → List En → List En × Nat
  | out, [] => (out, 0)
  | out, e :: es => if (addR (out.length + 1) out e.1 e.2).2 = 0 then foldE (addR (out.length + 1) out e.1 e.2).1 es else ([], 5)
def mergeL (ls : List (List En)) : List En × Nat :=
  if 256 < ls.length then ([], 6) else if badL ls = 0 then foldE [] ls.flatten else ([], badL ls)
structure GoodE (x : List En) : Prop where
  rise : RiseE x
  pos : PosE x
  words : ∀ e ∈ x, e.1 ≠ []
theorem GoodE.nil : GoodE [] := ⟨.nil, (fun e he => by cases he), (fun e he => by cases he)⟩
theorem fold_cases : ∀ {es : List En} {out : List En}, GoodE out → (∀ e ∈ es, e.1 ≠ [] ∧ 1 ≤ e.2) →
    ((foldE out es).2 = 0 ∧ GoodE (foldE out es).1 ∧ (foldE out es).1.length ≤ out.length + es.length ∧ ∀ k, getE (foldE out es).1 k = getE out k + sumF es k) ∨ (foldE out es = ([], 5) ∧ ∃ k, 4611686018427387904 < getE out k + sumF es k)
  | [], out, h, _ => .inl ⟨rfl, h, by simp [foldE], fun k => by simp [foldE, sumF]⟩
  | e :: es, out, h, hp => by
    have he := hp e (by simp)
    rcases addR_tells h.rise h.pos h.words he.1 he.2 with ⟨h1, h2⟩ | ⟨h1, h2, h3, h4, h5, h6, h7⟩
    · right
      refine ⟨by rw [foldE, if_neg (by omega)], e.1, ?_⟩
      rw [sumF_cons, if_pos rfl]; omega
    · rw [foldE, if_pos h2]
      rcases fold_cases (es := es) ⟨h3, h4, h5⟩ (fun e he => hp e (by simp [he])) with ⟨g1, g2, g3, g4⟩ | ⟨g1, k, g2⟩
      · left
        refine ⟨g1, g2, by simp; omega, fun k => ?_⟩
        rw [g4, h7, sumF_cons]; omega
      · right
        refine ⟨g1, k, ?_⟩
        rw [h7] at g2
        rw [sumF_cons]; omega
theorem flat_ok {ls : List (List En)} (h : badL ls = 0) : ∀ e ∈ ls.flatten, e.1 ≠ [] ∧ 1 ≤ e.2 := fun e he => by
  obtain ⟨l, hl, he⟩ := List.mem_flatten.1 he
  have hm := bad_all h l hl
  exact ⟨may_word hm e he, (may_pos hm e he).1⟩
theorem getE_most {x : List En} (h : PosE x) (k : Wd) : getE x k ≤ 4611686018427387904 := by
  by_cases hk : 0 < getE x k
  · exact (h _ (get_pos hk)).2
  · omega
/-- What merging tells: just the list that rises, of all sums; or that one is too great. -/
theorem merge_is {ls : List (List En)} (hl : ls.length ≤ 256) (h : badL ls = 0) {out : List En} (h1 : RiseE out) (h2 : PosE out) (h3 : ∀ k, getE out k = sumK ls k) : mergeL ls = (out, 0) := by
  unfold mergeL
  rw [if_neg (by omega), if_pos h]
  have hk := sumK_flat fun l hl => rise_keys (may_rise (bad_all h l hl))
  rcases fold_cases (es := ls.flatten) GoodE.nil (flat_ok h) with ⟨g1, g2, g3, g4⟩ | ⟨g1, k, g2⟩
  · have : (foldE [] ls.flatten).1 = out := rise_ext g2.rise h1 g2.pos h2 fun k => by rw [g4, h3, hk]; simp [getE]
    rw [← this, ← g1]
  · have := getE_most h2 k
    rw [h3] at this
    rw [hk] at g2
    simp [getE] at g2
    omega
theorem merge_over {ls : List (List En)} (hl : ls.length ≤ 256) (h : badL ls = 0) {k : Wd} (h1 : 4611686018427387904 < sumK ls k) : mergeL ls = ([], 5) := by
  unfold mergeL
  rw [if_neg (by omega), if_pos h]
  have hk := sumK_flat fun l hl => rise_keys (may_rise (bad_all h l hl))
  rcases fold_cases (es := ls.flatten) GoodE.nil (flat_ok h) with ⟨g1, g2, g3, g4⟩ | ⟨g1, _⟩
  · have := getE_most g2.pos k
    rw [g4, hk] at this
    simp [getE] at this
    omega
  · exact g1
theorem merge_cases {ls : List (List En)} (hl : ls.length ≤ 256) (h : badL ls = 0) :
    (∃ out, mergeL ls = (out, 0) ∧ GoodE out ∧ out.length ≤ ls.flatten.length ∧ ∀ k, getE out k = sumK ls k) ∨ (mergeL ls = ([], 5) ∧ ∃ k, 4611686018427387904 < sumK ls k) := by
  have hk := sumK_flat fun l hl => rise_keys (may_rise (bad_all h l hl))
  unfold mergeL
  rw [if_neg (by omega), if_pos h]
  rcases fold_cases (es := ls.flatten) GoodE.nil (flat_ok h) with ⟨g1, g2, g3, g4⟩ | ⟨g1, k, g2⟩
  · left
    refine ⟨(foldE [] ls.flatten).1, by rw [← g1], g2, by simpa using g3, fun k => ?_⟩
    rw [g4, hk]; simp [getE]
  · right
    refine ⟨g1, k, ?_⟩
    rw [hk] at g2
    simpa [getE] using g2
/-- What was merged may be a run's. -/
theorem sum_mem {ls : List (List En)} {k : Wd} (h : 0 < sumK ls k) : ∃ l ∈ ls, 0 < getE l k := by
  induction ls with
  | nil => simp [sumK] at h
  | cons l ls ih =>
    rw [sumK_cons] at h
    by_cases hl : 0 < getE l k
    · exact ⟨l, by simp, hl⟩
    · obtain ⟨l', h1, h2⟩ := ih (by omega)
      exact ⟨l', by simp [h1], h2⟩
theorem merge_may {ls : List (List En)} (h : badL ls = 0) {out : List En} (hr : RiseE out) (hp : PosE out) (hs : ∀ k, getE out k = sumK ls k) : mayE out = 0 := by
  refine may_iff.2 ⟨fun e he => ?_, hr⟩
  have hpe := hp e he
  have hg := get_mem (rise_keys hr) he
  obtain ⟨l, hl, hl2⟩ := sum_mem (ls := ls) (k := e.1) (by rw [← hs, hg]; omega)
  have := (may_iff.1 (bad_all h l hl)).1 _ (get_pos hl2)
  exact ⟨this.1, this.2.1, hpe.1, hpe.2⟩

/-! Word by word. -/
/-- What was told, and what is left, of lists. -/
structure MidL (ls left : List (List En)) (out : List En) : Prop where
  good : GoodE out
  sum : ∀ k, getE out k + sumK left k = sumK ls k
  rise : ∀ l ∈ left, RiseE l ∧ PosE l ∧ ∀ e ∈ l, e.1 ≠ []
  up : ∀ e ∈ out, ∀ l ∈ left, ∀ f ∈ l, lessB f.1 e.1 = false
theorem MidL.start {ls : List (List En)} (h : badL ls = 0) : MidL ls ls [] :=
  ⟨GoodE.nil, fun k => by simp [getE], fun l hl => ⟨may_rise (bad_all h l hl), may_pos (bad_all h l hl), may_word (bad_all h l hl)⟩, fun e he => by cases he⟩
theorem sumK_zero : ∀ {left : List (List En)}, (∀ l ∈ left, l = []) → ∀ k, sumK left k = 0
  | [], _, _ => rfl
  | l :: ls, h, k => by rw [sumK_cons, h l (by simp), sumK_zero fun l hl => h l (by simp [hl])]; rfl
theorem MidL.done {ls left : List (List En)} {out : List En} (h : MidL ls left out) (hn : ∀ l ∈ left, l = []) (hl : ls.length ≤ 256) (hb : badL ls = 0) : mergeL ls = (out, 0) :=
  merge_is hl hb h.good.rise h.good.pos fun k => by rw [← h.sum, sumK_zero hn]; omega
theorem sumK_set : ∀ {left : List (List En)} {i : Nat} {e : En} {r : List En}, left[i]? = some (e :: r) → RiseE (e :: r) → ∀ k, sumK left k = (if e.1 = k then e.2 else 0) + sumK (left.set i r) k
  | l :: ls, 0, e, r, h, hr, k => by
    simp only [List.getElem?_cons_zero, Option.some.injEq] at h
    subst h
    rw [List.set_cons_zero, sumK_cons, sumK_cons, getE]
    split
    · rename_i e1
      rw [get_zero (es := r) fun f hf e2 => less_ne ((List.pairwise_cons.1 hr).1 f hf) (e1.trans e2.symm)]; omega
    · omega
  | l :: ls, i + 1, e, r, h, hr, k => by
    simp only [List.getElem?_cons_succ] at h
    rw [List.set_cons_succ, sumK_cons, sumK_cons, sumK_set h hr k]; omega
theorem mem_set_sub {left : List (List En)} {i : Nat} {e : En} {r : List En} (h : left[i]? = some (e :: r)) {l : List En} (hl : l ∈ left.set i r) : l ∈ left ∨ l = r := by
  rcases List.mem_or_eq_of_mem_set hl with h | h
  · exact .inl h
  · exact .inr h
/-- The entry that wins. -/
def LeastE (left : List (List En)) (e : En) : Prop := ∀ l ∈ left, ∀ f ∈ l, lessB f.1 e.1 = false
theorem MidL.rest {ls left : List (List En)} {out : List En} {i : Nat} {e : En} {r : List En} (h : MidL ls left out) (hi : left[i]? = some (e :: r)) : ∀ l ∈ left.set i r, RiseE l ∧ PosE l ∧ ∀ e ∈ l, e.1 ≠ [] := fun l hl => by
  rcases mem_set_sub hi hl with h1 | rfl
  · exact h.rise l h1
  · obtain ⟨h2, h3, h4⟩ := h.rise _ (List.mem_of_getElem? hi)
    exact ⟨(List.pairwise_cons.1 h2).2, fun f hf => h3 f (by simp [hf]), fun f hf => h4 f (by simp [hf])⟩
theorem LeastE.rest {left : List (List En)} {i : Nat} {e : En} {r : List En} (h : LeastE left e) (hi : left[i]? = some (e :: r)) : ∀ l ∈ left.set i r, ∀ f ∈ l, lessB f.1 e.1 = false := fun l hl f hf => by
  rcases mem_set_sub hi hl with h1 | rfl
  · exact h l h1 f hf
  · exact h _ (List.mem_of_getElem? hi) f (by simp [hf])
theorem last_out {out : List En} {z : En} (hr : RiseE out) (hz : out.getLast? = some z) : ∀ x ∈ out, lessB z.1 x.1 = false := by
  obtain ⟨ys, rfl⟩ := List.getLast?_eq_some_iff.1 hz
  intro x hx
  rcases List.mem_append.1 hx with hx | hx
  · exact less_asymm _ _ ((List.pairwise_append.1 hr).2.2 x hx z (by simp))
  · simp at hx; subst hx; exact less_irrefl _
/-- Another word behind what was told. -/
theorem MidL.put {ls left : List (List En)} {out : List En} {i : Nat} {e : En} {r : List En} (h : MidL ls left out) (hi : left[i]? = some (e :: r)) (hm : LeastE left e) (hn : ∀ z, out.getLast? = some z → z.1 ≠ e.1) : MidL ls (left.set i r) (out ++ [e]) := by
  have hmem := List.mem_of_getElem? hi
  obtain ⟨hr, hp, hw⟩ := h.rise _ hmem
  have hout : ∀ x ∈ out, lessB x.1 e.1 = true := fun x hx => by
    cases hl : lessB x.1 e.1 with
    | true => rfl
    | false =>
      exfalso
      have hxe : x.1 = e.1 := less_tri _ _ hl (h.up x hx _ hmem e (by simp))
      obtain ⟨z, hz⟩ : ∃ z, out.getLast? = some z := by
        cases hq : out.getLast? with
        | none => rw [List.getLast?_eq_none_iff] at hq; subst hq; cases hx
        | some z => exact ⟨z, rfl⟩
      have h1 := last_out h.good.rise hz x hx
      have h2 := h.up z (List.mem_of_getLast? hz) _ hmem e (by simp)
      refine hn z hz (less_tri _ _ ?_ ?_)
      · rw [← hxe]; exact h1
      · exact h2
  have hnk : ∀ x ∈ out, x.1 ≠ e.1 := fun x hx => less_ne (hout x hx)
  refine ⟨⟨List.pairwise_append.2 ⟨h.good.rise, by simp, fun a ha b hb => by simp at hb; subst hb; exact hout a ha⟩, fun x hx => ?_, fun x hx => ?_⟩, fun k => ?_, h.rest hi, fun x hx => ?_⟩
  · rcases List.mem_append.1 hx with hx | hx
    · exact h.good.pos x hx
    · simp at hx; subst hx; exact hp _ (by simp)
  · rcases List.mem_append.1 hx with hx | hx
    · exact h.good.words x hx
    · simp at hx; subst hx; exact hw _ (by simp)
  · have hs := h.sum k
    rw [sumK_set hi hr k] at hs
    obtain ⟨k0, n0⟩ := e
    by_cases hk : k0 = k
    · subst hk
      rw [get_app_out _ _ _ _ hnk]
      rw [get_zero hnk] at hs
      simp only [if_true] at hs ⊢
      omega
    · simp only [hk, if_false] at hs
      by_cases hin : ∃ e ∈ out, e.1 = k
      · rw [get_app_in _ _ _ _ hin]; omega
      · rw [get_app_out _ _ _ _ fun e he e' => hin ⟨e, he, e'⟩]
        rw [get_zero fun e he e' => hin ⟨e, he, e'⟩] at hs
        simp only [hk, if_false]; omega
  · rcases List.mem_append.1 hx with hx | hx
    · intro l hl f hf
      rcases mem_set_sub hi hl with h1 | rfl
      · exact h.up x hx l h1 f hf
      · exact h.up x hx _ hmem f (by simp [hf])
    · simp at hx; subst hx; exact hm.rest hi
/-- Its count put to the last one's. -/
theorem MidL.more {ls left : List (List En)} {out : List En} {i : Nat} {e z : En} {r : List En} (h : MidL ls left out) (hi : left[i]? = some (e :: r)) (hm : LeastE left e) (hz : out.getLast? = some z) (hk : z.1 = e.1) (hs : z.2 + e.2 ≤ 4611686018427387904) : MidL ls (left.set i r) (out.set (out.length - 1) (z.1, z.2 + e.2)) := by
  have hmem := List.mem_of_getElem? hi
  obtain ⟨hr, hp, hw⟩ := h.rise _ hmem
  have hzm := List.mem_of_getLast? hz
  have hat : out[out.length - 1]? = some z := by rw [← List.getLast?_eq_getElem?]; exact hz
  have hks := rise_keys h.good.rise
  rw [setE_at hks hat]
  have hze := h.good.pos z hzm
  have key : ∀ x ∈ setE out z.1 (z.2 + e.2), ∃ y ∈ out, y.1 = x.1 := fun x hx => by
    have : x.1 ∈ (setE out z.1 (z.2 + e.2)).map Prod.fst := List.mem_map.2 ⟨x, hx, rfl⟩
    rw [set_keys] at this
    obtain ⟨y, hy, e3⟩ := List.mem_map.1 this
    exact ⟨y, hy, e3⟩
  refine ⟨⟨rise_set h.good.rise _ _, pos_set h.good.pos _ _ ⟨by omega, hs⟩, fun x hx => ?_⟩, fun k => ?_, h.rest hi, fun x hx l hl f hf => ?_⟩
  · obtain ⟨y, hy, e3⟩ := key x hx
    exact e3 ▸ h.good.words y hy
  · have hs := h.sum k
    rw [sumK_set hi hr k] at hs
    rw [get_set _ _ _ _ ⟨z, hzm, rfl⟩]
    by_cases hkk : e.1 = k
    · have : z.1 = k := hk.trans hkk
      subst this
      rw [get_mem hks hzm] at hs
      simp only [hkk, if_true] at hs ⊢
      omega
    · simp only [hkk, if_false] at hs
      rw [if_neg (fun h => hkk (hk.symm.trans h))]; omega
  · obtain ⟨y, hy, e3⟩ := key x hx
    rw [← e3]
    rcases mem_set_sub hi hl with h1 | rfl
    · exact h.up y hy l h1 f hf
    · exact h.up y hy _ hmem f (by simp [hf])
theorem MidL.over {ls left : List (List En)} {out : List En} {i : Nat} {e z : En} {r : List En} (h : MidL ls left out) (hi : left[i]? = some (e :: r)) (hz : out.getLast? = some z) (hk : z.1 = e.1) (hs : 4611686018427387904 < z.2 + e.2) (hl : ls.length ≤ 256) (hb : badL ls = 0) : mergeL ls = ([], 5) := by
  obtain ⟨hr, hp, hw⟩ := h.rise _ (List.mem_of_getElem? hi)
  have hzm := List.mem_of_getLast? hz
  refine merge_over hl hb (k := e.1) ?_
  rw [← h.sum, sumK_set hi hr, if_pos rfl, ← hk, get_mem (rise_keys h.good.rise) hzm]
  omega
/-- How many entries are left. -/
def totL (left : List (List En)) : Nat := left.flatten.length
theorem tot_set : ∀ {left : List (List En)} {i : Nat} {e : En} {r : List En}, left[i]? = some (e :: r) → totL left = totL (left.set i r) + 1
  | l :: ls, 0, e, r, h => by
    simp only [List.getElem?_cons_zero, Option.some.injEq] at h
    subst h; simp [totL, Nat.add_right_comm]
  | l :: ls, i + 1, e, r, h => by
    simp only [List.getElem?_cons_succ] at h
    have := tot_set h
    simp only [totL, List.set_cons_succ, List.flatten_cons, List.length_append] at this ⊢
    omega
end Go.Proofs.Ytknfjonaepggnaa

namespace Go.Proofs.Ytknfjonaepggnaa
set_option linter.unusedVariables false
set_option linter.unusedSimpArgs false

/-- The list at b begins no lower than that at a. -/
def leK (ls : List (List En)) (a b : Nat) : Prop := ∀ f, (ls.getD b []).head? = some f → ∃ e, (ls.getD a []).head? = some e ∧ lessB f.1 e.1 = false
theorem leK.refl (ls : List (List En)) (a : Nat) : leK ls a a := fun f hf => ⟨f, hf, less_irrefl _⟩
theorem less_le_trans {a b c : Wd} (h : lessB b a = false) (k : lessB c b = false) : lessB c a = false := by
  cases e : lessB c a with
  | false => rfl
  | true =>
    exfalso
    cases e2 : lessB a b with
    | true => have := less_trans _ _ _ e e2; rw [k] at this; cases this
    | false =>
      have := less_tri _ _ h e2
      subst this; rw [k] at e; cases e
theorem leK.trans {ls : List (List En)} {a b c : Nat} (h : leK ls a b) (k : leK ls b c) : leK ls a c := fun g hg => by
  obtain ⟨f, hf, h1⟩ := k g hg
  obtain ⟨e, he, h2⟩ := h f hf
  exact ⟨e, he, less_le_trans h2 h1⟩
/-- Does a lose against b? -/
def losesL (x y : List En) : Bool := match x, y with
  | [], _ => true
  | _ :: _, [] => false
  | e :: _, f :: _ => lessB f.1 e.1
def matchF (ls : List (List En)) (a b : Nat) : Nat × Nat := if losesL (ls.getD a []) (ls.getD b []) then (b, a) else (a, b)
theorem match_le (ls : List (List En)) (a b : Nat) : leK ls (matchF ls a b).1 (matchF ls a b).2 := by
  unfold matchF
  cases hA : ls.getD a [] with
  | nil =>
    simp only [losesL, if_true]
    intro f hf
    simp only [hA] at hf
    simp at hf
  | cons e x =>
    cases hB : ls.getD b [] with
    | nil =>
      simp only [losesL]
      intro f hf
      simp only [Bool.false_eq_true, if_false, hB] at hf
      simp at hf
    | cons g y =>
      simp only [losesL]
      by_cases hl : lessB g.1 e.1 = true
      · simp only [hl, if_true]
        intro f hf
        rw [hA] at hf
        simp at hf; subst hf
        exact ⟨g, by rw [hB]; rfl, less_asymm _ _ hl⟩
      · simp only [hl, Bool.false_eq_true, if_false]
        intro f hf
        rw [hB] at hf
        simp at hf; subst hf
        exact ⟨e, by rw [hA]; rfl, by simpa using hl⟩
theorem match_two (ls : List (List En)) (a b : Nat) : ((matchF ls a b).1 = a ∧ (matchF ls a b).2 = b) ∨ ((matchF ls a b).1 = b ∧ (matchF ls a b).2 = a) := by
  unfold matchF
  split
  · exact .inr ⟨rfl, rfl⟩
  · exact .inl ⟨rfl, rfl⟩
theorem match_lt {ls : List (List En)} {a b n : Nat} (ha : a < n) (hb : b < n) : (matchF ls a b).1 < n ∧ (matchF ls a b).2 < n := by
  rcases match_two ls a b with ⟨h1, h2⟩ | ⟨h1, h2⟩ <;> rw [h1, h2] <;> exact ⟨by assumption, by assumption⟩

/-- A place at or above another one. -/
def anc (m x : Nat) : Prop := ∃ j, m = x / 2 ^ j
def upS (c m : Nat) : Prop := ∃ j, 1 ≤ j ∧ m = c / 2 ^ j
theorem div_pow (c j : Nat) : c / 2 ^ (j + 1) = c / 2 / 2 ^ j := by rw [Nat.pow_succ, Nat.mul_comm, Nat.div_div_eq_div_mul]
theorem div_pow' (c j : Nat) : c / 2 ^ (j + 1) = c / 2 ^ j / 2 := by rw [Nat.pow_succ, Nat.div_div_eq_div_mul]
theorem up_iff {c m : Nat} : upS c m ↔ m = c / 2 ∨ upS (c / 2) m := by
  constructor
  · rintro ⟨j, hj, h⟩
    obtain ⟨i, rfl⟩ : ∃ i, j = i + 1 := ⟨j - 1, by omega⟩
    rw [div_pow] at h
    by_cases hi : i = 0
    · left; subst hi; simpa using h
    · right; exact ⟨i, by omega, h⟩
  · rintro (h | ⟨j, hj, h⟩)
    · exact ⟨1, Nat.le_refl _, by simpa using h⟩
    · exact ⟨j + 1, by omega, by rw [div_pow]; exact h⟩
theorem anc_iff {c m : Nat} : anc m c ↔ m = c ∨ upS c m := by
  constructor
  · rintro ⟨j, h⟩
    by_cases hj : j = 0
    · left; subst hj; simpa using h
    · right; exact ⟨j, by omega, h⟩
  · rintro (h | ⟨j, _, h⟩)
    · exact ⟨0, by simpa using h⟩
    · exact ⟨j, h⟩
theorem up_le {c m : Nat} (h : upS c m) : m ≤ c / 2 := by
  obtain ⟨j, hj, rfl⟩ := h
  obtain ⟨i, rfl⟩ : ∃ i, j = i + 1 := ⟨j - 1, by omega⟩
  rw [div_pow]; exact Nat.div_le_self _ _
theorem anc_le {c m : Nat} (h : anc m c) : m ≤ c := by obtain ⟨j, rfl⟩ := h; exact Nat.div_le_self _ _
theorem anc_half {m x : Nat} (h : anc m x) : anc (m / 2) x := by
  obtain ⟨j, rfl⟩ := h
  exact ⟨j + 1, by rw [div_pow']⟩
theorem anc_two {a b x : Nat} (ha : anc a x) (hb : anc b x) : anc a b ∨ anc b a := by
  obtain ⟨i, rfl⟩ := ha
  obtain ⟨j, rfl⟩ := hb
  rcases Nat.le_total i j with h | h
  · right
    obtain ⟨d, rfl⟩ : ∃ d, j = i + d := ⟨j - i, by omega⟩
    exact ⟨d, by rw [Nat.pow_add, Nat.div_div_eq_div_mul]⟩
  · left
    obtain ⟨d, rfl⟩ : ∃ d, i = j + d := ⟨i - j, by omega⟩
    exact ⟨d, by rw [Nat.pow_add, Nat.div_div_eq_div_mul]⟩
/-- Two places of one match have no place in common below. -/
theorem sib_apart {m x : Nat} (hm : 1 ≤ m) (h1 : anc (2 * m) x) (h2 : anc (2 * m + 1) x) : False := by
  rcases anc_two h1 h2 with h | h
  · rcases anc_iff.1 h with h | h
    · omega
    · have := up_le h; omega
  · have := anc_le h; omega

/-- One match: who wins and who loses are those of the two below. -/
def NC (ls : List (List En)) (L : List Nat) (W : Nat → Nat) (m : Nat) : Prop :=
  ((W m = W (2 * m) ∧ L.getD m 0 = W (2 * m + 1)) ∨ (W m = W (2 * m + 1) ∧ L.getD m 0 = W (2 * m))) ∧ leK ls (W m) (L.getD m 0)
structure Tree (ls : List (List En)) (L : List Nat) (W : Nat → Nat) (n : Nat) : Prop where
  leaf : ∀ j, j < n → W (n + j) = j
  lt : ∀ m, 1 ≤ m → m < 2 * n → W m < n
  node : ∀ m, 1 ≤ m → m < n → NC ls L W m
  sub : ∀ m, 1 ≤ m → m < 2 * n → anc m (n + W m)
theorem Tree.best {ls : List (List En)} {L : List Nat} {W : Nat → Nat} {n : Nat} (h : Tree ls L W n) : ∀ m, 1 ≤ m → m < 2 * n → leK ls (W 1) (W m) := by
  intro m
  induction m using Nat.strongRecOn with
  | ind m ih =>
    intro h1 h2
    by_cases hm : m = 1
    · subst hm; exact leK.refl _ _
    · have h3 := ih (m / 2) (by omega) (by omega) (by omega)
      obtain ⟨h4, h5⟩ := h.node (m / 2) (by omega) (by omega)
      rcases (show m = 2 * (m / 2) ∨ m = 2 * (m / 2) + 1 by omega) with hc | hc
      · rcases h4 with ⟨h6, h7⟩ | ⟨h6, h7⟩
        · rw [hc, ← h6]; exact h3
        · rw [hc, ← h7]; exact h3.trans h5
      · rcases h4 with ⟨h6, h7⟩ | ⟨h6, h7⟩
        · rw [hc, ← h7]; exact h3.trans h5
        · rw [hc, ← h6]; exact h3
theorem Tree.all {ls : List (List En)} {L : List Nat} {W : Nat → Nat} {n : Nat} (h : Tree ls L W n) : ∀ j, j < n → leK ls (W 1) j := fun j hj => by
  have := h.best (n + j) (by omega) (by omega)
  rw [h.leaf j hj] at this; exact this
theorem getD_set_ne {L : List Nat} {i j v : Nat} (h : i ≠ j) : (L.set i v).getD j 0 = L.getD j 0 := by
  simp only [List.getD_eq_getElem?_getD, List.getElem?_set_ne h]
theorem getD_set_eq {L : List Nat} {i v : Nat} (h : i < L.length) : (L.set i v).getD i 0 = v := by
  simp only [List.getD_eq_getElem?_getD, List.getElem?_set_self h, Option.getD_some]
theorem Tree.set0 {ls : List (List En)} {L : List Nat} {W : Nat → Nat} {n v : Nat} (h : Tree ls L W n) : Tree ls (L.set 0 v) W n :=
  ⟨h.leaf, h.lt, fun m h1 h2 => by unfold NC; rw [getD_set_ne (by omega)]; exact h.node m h1 h2, h.sub⟩

/-- Played again up to the place c. -/
structure Part (ls : List (List En)) (L : List Nat) (W : Nat → Nat) (n c win : Nat) : Prop where
  pos : 1 ≤ c ∧ c < 2 * n
  won : W c = win
  leaf : ∀ j, j < n → W (n + j) = j
  lt : ∀ m, 1 ≤ m → m < 2 * n → W m < n
  node : ∀ m, 1 ≤ m → m < n → ¬ upS c m → NC ls L W m
  above : ∀ m, 1 ≤ m → m < n → upS c m → ∃ x y, anc x c ∧ ((x = 2 * m ∧ y = 2 * m + 1) ∨ (x = 2 * m + 1 ∧ y = 2 * m)) ∧ L.getD m 0 = W y
  sub : ∀ m, 1 ≤ m → m < 2 * n → ¬ upS c m → anc m (n + W m)
theorem up_self {c m : Nat} (hc : 1 ≤ c) (h : upS c m) : m < c := by have := up_le h; omega
/-- The winner won all its matches. -/
theorem Tree.path {ls : List (List En)} {L : List Nat} {W : Nat → Nat} {n i : Nat} (h : Tree ls L W n) (hi : i < n) (hw : W 1 = i) : ∀ m, 1 ≤ m → anc m (n + i) → W m = i := by
  intro m
  induction m using Nat.strongRecOn with
  | ind m ih =>
    intro h1 h2
    have hmn : m ≤ n + i := anc_le h2
    by_cases hm : m = 1
    · subst hm; exact hw
    · have h3 := ih (m / 2) (by omega) (by omega) (anc_half h2)
      obtain ⟨h4, _⟩ := h.node (m / 2) (by omega) (by omega)
      rcases (show m = 2 * (m / 2) ∨ m = 2 * (m / 2) + 1 by omega) with hc | hc
      · rcases h4 with ⟨h6, h7⟩ | ⟨h6, h7⟩
        · rw [hc, ← h6]; exact h3
        · exfalso
          have h8 := h.sub (2 * (m / 2) + 1) (by omega) (by omega)
          rw [← h6, h3] at h8
          rw [hc] at h2
          exact sib_apart (m := m / 2) (by omega) h2 h8
      · rcases h4 with ⟨h6, h7⟩ | ⟨h6, h7⟩
        · exfalso
          have h8 := h.sub (2 * (m / 2)) (by omega) (by omega)
          rw [← h6, h3] at h8
          rw [hc] at h2
          exact sib_apart (m := m / 2) (by omega) h8 h2
        · rw [hc, ← h6]; exact h3
theorem getD_set_lists {ls : List (List En)} {i j : Nat} {v : List En} (h : i ≠ j) : (ls.set i v).getD j [] = ls.getD j [] := by
  simp only [List.getD_eq_getElem?_getD, List.getElem?_set_ne h]
theorem leK_set {ls : List (List En)} {i a b : Nat} {v : List En} (ha : i ≠ a) (hb : i ≠ b) (h : leK ls a b) : leK (ls.set i v) a b := by
  unfold leK
  rw [getD_set_lists ha, getD_set_lists hb]; exact h
theorem Tree.again {ls : List (List En)} {L : List Nat} {W : Nat → Nat} {n i : Nat} (h : Tree ls L W n) (hi : i < n) (hw : W 1 = i) (v : List En) : Part (ls.set i v) L W n (n + i) i := by
  have hp := h.path hi hw
  refine ⟨by omega, h.leaf i hi, h.leaf, h.lt, fun m h1 h2 hn => ?_, fun m h1 h2 hu => ?_, fun m h1 h2 _ => h.sub m h1 h2⟩
  · obtain ⟨h4, h5⟩ := h.node m h1 h2
    refine ⟨h4, leK_set ?_ ?_ h5⟩
    · intro he
      have := h.sub m h1 (by omega)
      rw [← he] at this
      rcases anc_iff.1 this with h6 | h6
      · omega
      · exact hn h6
    · intro he
      have key : anc m (n + L.getD m 0) := by
        rcases h4 with ⟨_, h7⟩ | ⟨_, h7⟩
        · rw [h7]
          have := anc_half (h.sub (2 * m + 1) (by omega) (by omega))
          rwa [show (2 * m + 1) / 2 = m by omega] at this
        · rw [h7]
          have := anc_half (h.sub (2 * m) (by omega) (by omega))
          rwa [show 2 * m / 2 = m by omega] at this
      rw [← he] at key
      rcases anc_iff.1 key with h6 | h6
      · omega
      · exact hn h6
  · obtain ⟨j, hj, hm⟩ := hu
    obtain ⟨t, rfl⟩ : ∃ t, j = t + 1 := ⟨j - 1, by omega⟩
    rw [div_pow'] at hm
    have hx : anc ((n + i) / 2 ^ t) (n + i) := ⟨t, rfl⟩
    have hwm := hp m h1 ⟨t + 1, by rw [div_pow']; exact hm⟩
    generalize (n + i) / 2 ^ t = x at hm hx
    have hwx := hp x (by omega) hx
    obtain ⟨h4, _⟩ := h.node m h1 h2
    rcases (show x = 2 * m ∨ x = 2 * m + 1 by omega) with rfl | rfl
    · refine ⟨2 * m, 2 * m + 1, hx, .inl ⟨rfl, rfl⟩, ?_⟩
      rcases h4 with ⟨_, h7⟩ | ⟨h6, h7⟩
      · exact h7
      · rw [h7, hwx, ← h6, hwm]
    · refine ⟨2 * m + 1, 2 * m, hx, .inr ⟨rfl, rfl⟩, ?_⟩
      rcases h4 with ⟨h6, h7⟩ | ⟨_, h7⟩
      · rw [h7, hwx, ← h6, hwm]
      · exact h7
/-- The one that lost at the next match. -/
theorem Part.other {ls : List (List En)} {L : List Nat} {W : Nat → Nat} {n c win : Nat} (h : Part ls L W n c win) (hc : 1 ≤ c / 2) : L.getD (c / 2) 0 < n ∧ win < n ∧ c / 2 < n := by
  obtain ⟨p1, p2⟩ := h.pos
  obtain ⟨x, y, _, hxy, hl⟩ := h.above (c / 2) hc (by omega) (up_iff.2 (.inl rfl))
  refine ⟨?_, by rw [← h.won]; exact h.lt c p1 p2, by omega⟩
  rw [hl]
  exact h.lt y (by omega) (by omega)
theorem Part.next {ls : List (List En)} {L : List Nat} {W : Nat → Nat} {n c win : Nat} (h : Part ls L W n c win) (hL : L.length = n) (hc : 1 ≤ c / 2) :
    ∃ W', Part ls (L.set (c / 2) (matchF ls win (L.getD (c / 2) 0)).2) W' n (c / 2) (matchF ls win (L.getD (c / 2) 0)).1 := by
  obtain ⟨p1, p2⟩ := h.pos
  obtain ⟨o1, o2, o3⟩ := h.other hc
  obtain ⟨x, y, hx, hxy, hl⟩ := h.above (c / 2) hc (by omega) (up_iff.2 (.inl rfl))
  have hxc : x = c := by
    rcases anc_iff.1 hx with h1 | h1
    · exact h1
    · have := up_le h1; omega
  subst hxc
  obtain ⟨m, hm⟩ : ∃ m, m = x / 2 := ⟨_, rfl⟩
  rw [← hm] at hc o1 o3 hl hxy ⊢
  have hle := match_le ls win (L.getD m 0)
  have htw := match_two ls win (L.getD m 0)
  have hlt := match_lt (ls := ls) o2 o1
  generalize matchF ls win (L.getD m 0) = r at hle htw hlt ⊢
  have hwin := h.won
  have hyp : y ≠ m ∧ x ≠ m ∧ 1 ≤ y ∧ y < 2 * n := by omega
  refine ⟨fun k => if k = m then r.1 else W k, ⟨⟨hc, by omega⟩, by simp, fun j hj => ?_, fun k k1 k2 => ?_, fun k k1 k2 hn => ?_, fun k k1 k2 hu => ?_, fun k k1 k2 hn => ?_⟩⟩
  · simp only [show n + j ≠ m by omega, if_false]; exact h.leaf j hj
  · split
    · exact hlt.1
    · exact h.lt k k1 k2
  · by_cases hk : k = m
    · subst hk
      unfold NC
      rw [getD_set_eq (by omega)]
      simp only [if_true, show 2 * k ≠ k by omega, show 2 * k + 1 ≠ k by omega, if_false]
      refine ⟨?_, hle⟩
      rcases htw with ⟨t1, t2⟩ | ⟨t1, t2⟩ <;> rcases hxy with ⟨x1, x2⟩ | ⟨x1, x2⟩ <;> rw [t1, t2, hl, ← hwin, x2] <;> simp [← x1]
    · have hnu : ¬ upS x k := fun hu => by
        rcases up_iff.1 hu with h1 | h1
        · exact hk (h1.trans hm.symm)
        · rw [← hm] at h1; exact hn h1
      have h2 : 2 * k ≠ m := fun e => hn (up_iff.2 (.inl (by omega)))
      have h3 : 2 * k + 1 ≠ m := fun e => hn (up_iff.2 (.inl (by omega)))
      have := h.node k k1 k2 hnu
      unfold NC at this ⊢
      rw [getD_set_ne (fun e => hk e.symm)]
      simp only [hk, h2, h3, if_false]
      exact this
  · have hux : upS x k := up_iff.2 (.inr (by rw [← hm]; exact hu))
    have hkm : k < m := up_self hc hu
    obtain ⟨a, b, ha, hab, hL2⟩ := h.above k k1 k2 hux
    refine ⟨a, b, ?_, hab, ?_⟩
    · rcases anc_iff.1 ha with h1 | h1
      · exfalso; omega
      · rcases up_iff.1 h1 with h1 | h1
        · rw [h1, ← hm]; exact ⟨0, by simp⟩
        · rw [← hm] at h1; exact anc_iff.2 (.inr h1)
    · rw [getD_set_ne (by omega)]
      have hb : b ≠ m := fun e => by
        have : anc a m := by
          rcases anc_iff.1 ha with h1 | h1
          · exfalso; omega
          · rcases up_iff.1 h1 with h1 | h1
            · rw [h1, ← hm]; exact ⟨0, by simp⟩
            · rw [← hm] at h1; exact anc_iff.2 (.inr h1)
        rcases anc_iff.1 this with h1 | h1
        · omega
        · have := up_le h1; omega
      simp only [hb, if_false]
      exact hL2
  · by_cases hk : k = m
    · subst hk
      simp only [if_true]
      have a1 : anc k (n + W x) := by
        have := anc_half (h.sub x p1 p2 (fun hu => by have := up_self p1 hu; omega))
        rwa [← hm] at this
      have a2 : anc k (n + W y) := by
        have := anc_half (h.sub y hyp.2.2.1 hyp.2.2.2 (fun hu => by
          have := up_le hu; omega))
        rwa [show y / 2 = k by omega] at this
      rcases htw with ⟨t1, t2⟩ | ⟨t1, t2⟩
      · rw [t1, ← hwin]; exact a1
      · rw [t1, hl]; exact a2
    · simp only [hk, if_false]
      refine h.sub k k1 k2 fun hu => ?_
      rcases up_iff.1 hu with h1 | h1
      · exact hk (h1.trans hm.symm)
      · rw [← hm] at h1; exact hn h1
theorem Part.done {ls : List (List En)} {L : List Nat} {W : Nat → Nat} {n c win : Nat} (h : Part ls L W n c win) (hc : c / 2 = 0) : Tree ls L W n ∧ W 1 = win := by
  obtain ⟨p1, p2⟩ := h.pos
  have h1 : c = 1 := by omega
  subst h1
  have hn : ∀ m, 1 ≤ m → ¬ upS 1 m := fun m hm hu => by have := up_le hu; omega
  exact ⟨⟨h.leaf, h.lt, fun m m1 m2 => h.node m m1 m2 (hn m m1), fun m m1 m2 => h.sub m m1 m2 (hn m m1)⟩, h.won⟩

/-! How it begins. -/
/-- All matches from a place on are played; ws: who won them. -/
structure Built (ls : List (List En)) (L ws : List Nat) (n m : Nat) : Prop where
  leaf : ∀ j, j < n → ws.getD (n + j) 0 = j
  lt : ∀ k, m < k → k < 2 * n → ws.getD k 0 < n
  node : ∀ k, m < k → k < n → NC ls L (fun k => ws.getD k 0) k
  sub : ∀ k, m < k → k < 2 * n → anc k (n + ws.getD k 0)
theorem Built.start {ls : List (List En)} {L ws : List Nat} {n : Nat} (h : ∀ j, j < n → ws.getD (n + j) 0 = j) : Built ls L ws n (n - 1) :=
  ⟨h, fun k k1 k2 => by
    obtain ⟨j, rfl⟩ : ∃ j, k = n + j := ⟨k - n, by omega⟩
    rw [h j (by omega)]; omega, fun k k1 k2 => by omega, fun k k1 k2 => by
    obtain ⟨j, rfl⟩ : ∃ j, k = n + j := ⟨k - n, by omega⟩
    rw [h j (by omega)]; exact ⟨0, by simp⟩⟩
theorem Built.next {ls : List (List En)} {L ws : List Nat} {n m : Nat} (h : Built ls L ws n m) (hL : L.length = n) (hw : ws.length = 2 * n) (h1 : 1 ≤ m) (h2 : m < n) :
    Built ls (L.set m (matchF ls (ws.getD (2 * m) 0) (ws.getD (2 * m + 1) 0)).2) (ws.set m (matchF ls (ws.getD (2 * m) 0) (ws.getD (2 * m + 1) 0)).1) n (m - 1) := by
  have hle := match_le ls (ws.getD (2 * m) 0) (ws.getD (2 * m + 1) 0)
  have htw := match_two ls (ws.getD (2 * m) 0) (ws.getD (2 * m + 1) 0)
  have hlt := match_lt (ls := ls) (h.lt (2 * m) (by omega) (by omega)) (h.lt (2 * m + 1) (by omega) (by omega))
  have s1 := anc_half (h.sub (2 * m) (by omega) (by omega))
  have s2 := anc_half (h.sub (2 * m + 1) (by omega) (by omega))
  rw [show 2 * m / 2 = m by omega] at s1
  rw [show (2 * m + 1) / 2 = m by omega] at s2
  generalize matchF ls (ws.getD (2 * m) 0) (ws.getD (2 * m + 1) 0) = r at hle htw hlt ⊢
  refine ⟨fun j hj => ?_, fun k k1 k2 => ?_, fun k k1 k2 => ?_, fun k k1 k2 => ?_⟩
  · rw [getD_set_ne (by omega)]; exact h.leaf j hj
  · by_cases hk : k = m
    · subst hk; rw [getD_set_eq (by omega)]; exact hlt.1
    · rw [getD_set_ne (fun e => hk e.symm)]; exact h.lt k (by omega) k2
  · unfold NC
    by_cases hk : k = m
    · subst hk
      simp only
      rw [getD_set_eq (by omega), getD_set_eq (by omega), getD_set_ne (by omega), getD_set_ne (by omega)]
      refine ⟨?_, hle⟩
      rcases htw with ⟨t1, t2⟩ | ⟨t1, t2⟩
      · exact .inl ⟨t1, t2⟩
      · exact .inr ⟨t1, t2⟩
    · simp only
      rw [getD_set_ne (fun e => hk e.symm), getD_set_ne (fun e => hk e.symm), getD_set_ne (by omega), getD_set_ne (by omega)]
      exact h.node k (by omega) k2
  · by_cases hk : k = m
    · subst hk
      rw [getD_set_eq (by omega)]
      rcases htw with ⟨t1, t2⟩ | ⟨t1, t2⟩
      · rw [t1]; exact s1
      · rw [t1]; exact s2
    · rw [getD_set_ne (fun e => hk e.symm)]; exact h.sub k (by omega) k2
theorem Built.done {ls : List (List En)} {L ws : List Nat} {n : Nat} (h : Built ls L ws n 0) : Tree ls L (fun k => ws.getD k 0) n :=
  ⟨h.leaf, fun m m1 m2 => h.lt m (by omega) m2, fun m m1 m2 => h.node m (by omega) m2, fun m m1 m2 => h.sub m (by omega) m2⟩
/-- Who wins has the least entry, or nothing is left. -/
theorem best_least {left : List (List En)} {n i : Nat} (hn : left.length = n) (h : ∀ j, j < n → leK left i j) (hp : ∀ l ∈ left, RiseE l) :
    (∀ e r, left[i]? = some (e :: r) → LeastE left e) ∧ (left[i]? = some [] → ∀ l ∈ left, l = []) := by
  constructor
  · intro e r hi l hl f hf
    obtain ⟨j, hj, rfl⟩ := List.mem_iff_getElem.1 hl
    obtain ⟨g, y, hy⟩ : ∃ g y, left[j] = g :: y := by
      cases hq : left[j] with
      | nil => rw [hq] at hf; cases hf
      | cons g y => exact ⟨g, y, rfl⟩
    obtain ⟨e', he', hle⟩ := h j (by omega) g (by rw [List.getD_eq_getElem?_getD, List.getElem?_eq_getElem hj, Option.getD_some, hy]; rfl)
    rw [List.getD_eq_getElem?_getD, hi] at he'
    simp at he'
    subst he'
    rw [hy] at hf
    rcases List.mem_cons.1 hf with rfl | hf
    · exact hle
    · have hr := hp _ hl
      rw [hy] at hr
      exact less_le_trans hle (less_asymm _ _ ((List.pairwise_cons.1 hr).1 f hf))
  · intro hi l hl
    obtain ⟨j, hj, rfl⟩ := List.mem_iff_getElem.1 hl
    cases hq : left[j] with
    | nil => rfl
    | cons g y =>
      exfalso
      obtain ⟨e', he', hle⟩ := h j (by omega) g (by rw [List.getD_eq_getElem?_getD, List.getElem?_eq_getElem hj, Option.getD_some, hq]; rfl)
      rw [List.getD_eq_getElem?_getD, hi] at he'
      simp at he'
end Go.Proofs.Ytknfjonaepggnaa
