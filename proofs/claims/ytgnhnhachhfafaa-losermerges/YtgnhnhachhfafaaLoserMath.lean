/- Lists of words merged: all counts of a word together, one list behind the other, and word by word. -/
import Derived.Test.YtgnhnhachhfafaaTabMath
import Derived.Test.YtgnhnhachhfafaaRunMath
namespace Go.Proofs.Ytgnhnhachhfafaa
set_option linter.unusedVariables false
set_option linter.unusedSimpArgs false

/-- A word's counts together, of entries in a row, and of lists. -/
def sumF (es : List En) (k : Wd) : Nat := (es.map fun e => if e.1 = k then e.2 else 0).sum
def sumK (ls : List (List En)) (k : Wd) : Nat := (ls.map fun l => getE l k).sum
/-- The error of the first list that has one. -/
def badL : List (List En) → Nat
  | [] => 0
  | l :: ls => if mayE l = 0 then badL ls else mayE l
theorem sumF_nil (k : Wd) : sumF [] k = 0 := rfl
theorem sumF_cons (e : En) (es : List En) (k : Wd) : sumF (e :: es) k = (if e.1 = k then e.2 else 0) + sumF es k := by simp [sumF]
theorem sumF_app (x y : List En) (k : Wd) : sumF (x ++ y) k = sumF x k + sumF y k := by simp [sumF]
theorem sumF_none : ∀ {es : List En} {k : Wd}, (∀ e ∈ es, e.1 ≠ k) → sumF es k = 0
  | [], _, _ => rfl
  | e :: es, k, h => by rw [sumF_cons, if_neg (h e (by simp)), sumF_none fun e he => h e (by simp [he])]
theorem sumF_get : ∀ {es : List En}, KeysE es → ∀ k, sumF es k = getE es k
  | [], _, _ => rfl
  | e :: es, h, k => by
    have h' := List.pairwise_cons.1 h
    rw [sumF_cons, getE]
    split
    · rename_i e1
      rw [sumF_none fun e he e2 => h'.1 e he (e1.trans e2.symm)]; omega
    · rw [sumF_get h'.2]; omega
theorem sumK_cons (l : List En) (ls : List (List En)) (k : Wd) : sumK (l :: ls) k = getE l k + sumK ls k := by simp [sumK]
theorem sumK_flat : ∀ {ls : List (List En)}, (∀ l ∈ ls, KeysE l) → ∀ k, sumF ls.flatten k = sumK ls k
  | [], _, _ => rfl
  | l :: ls, h, k => by
    rw [List.flatten_cons, sumF_app, sumK_cons, sumF_get (h l (by simp)), sumK_flat fun l hl => h l (by simp [hl])]
theorem bad_all : ∀ {ls : List (List En)}, badL ls = 0 → ∀ l ∈ ls, mayE l = 0
  | [], _, _, hl => by cases hl
  | a :: ls, h, l, hl => by
    rw [badL] at h
    split at h
    · rcases List.mem_cons.1 hl with rfl | hl
      · assumption
      · exact bad_all h l hl
    · rename_i h'; exact absurd h h'
theorem all_bad : ∀ {ls : List (List En)}, (∀ l ∈ ls, mayE l = 0) → badL ls = 0
  | [], _ => rfl
  | a :: ls, h => by rw [badL, if_pos (h a (by simp)), all_bad fun l hl => h l (by simp [hl])]
theorem bad_at : ∀ {ls : List (List En)} {j : Nat} {l : List En}, (∀ x ∈ ls.take j, mayE x = 0) → ls[j]? = some l → mayE l ≠ 0 → badL ls = mayE l
  | a :: ls, 0, l, _, h, hl => by
    simp only [List.getElem?_cons_zero, Option.some.injEq] at h
    subst h; rw [badL, if_neg hl]
  | a :: ls, j + 1, l, hp, h, hl => by
    simp only [List.getElem?_cons_succ] at h
    rw [badL, if_pos (hp a (by simp)), bad_at (fun x hx => hp x (by simp [hx])) h hl]

theorem ups_rise : ∀ {l : List En}, upsE l = true → RiseE l
  | [], _ => .nil
  | [a], _ => by simp [RiseE]
  | a :: b :: l, h => by
    simp only [upsE, Bool.and_eq_true] at h
    have ih := ups_rise h.2
    refine List.pairwise_cons.2 ⟨fun c hc => ?_, ih⟩
    rcases List.mem_cons.1 hc with rfl | hc
    · exact h.1
    · exact less_trans _ _ _ h.1 ((List.pairwise_cons.1 ih).1 c hc)
theorem rise_ups : ∀ {l : List En}, RiseE l → upsE l = true
  | [], _ => rfl
  | [a], _ => rfl
  | a :: b :: l, h => by
    have h' := List.pairwise_cons.1 h
    simp only [upsE, Bool.and_eq_true]
    exact ⟨h'.1 b (by simp), rise_ups h'.2⟩
theorem may_iff {l : List En} : mayE l = 0 ↔ (∀ e ∈ l, 1 ≤ e.1.length ∧ e.1.length ≤ 255 ∧ 1 ≤ e.2 ∧ e.2 ≤ 4611686018427387904) ∧ RiseE l := by
  rw [may_zero, List.all_eq_true]
  constructor
  · rintro ⟨h1, h2⟩
    exact ⟨fun e he => one_ok.1 (h1 e he), ups_rise h2⟩
  · rintro ⟨h1, h2⟩
    exact ⟨fun e he => one_ok.2 (h1 e he), rise_ups h2⟩
theorem may_pos {l : List En} (h : mayE l = 0) : PosE l := fun e he => ((may_iff.1 h).1 e he).2.2
theorem may_rise {l : List En} (h : mayE l = 0) : RiseE l := (may_iff.1 h).2
theorem may_word {l : List En} (h : mayE l = 0) : ∀ e ∈ l, e.1 ≠ [] := fun e he hn => by have := ((may_iff.1 h).1 e he).1; rw [hn] at this; simp at this

/-- What the document's Add makes of a list that rises. -/
theorem addR_tells {x : List En} (hx : RiseE x) (hp : PosE x) (hw : ∀ e ∈ x, e.1 ≠ []) {k : Wd} {n : Nat} (hk : k ≠ []) (hn : 1 ≤ n) :
    (4611686018427387904 < getE x k + n ∧ (addR (x.length + 1) x k n).2 = 5) ∨
    (getE x k + n ≤ 4611686018427387904 ∧ (addR (x.length + 1) x k n).2 = 0 ∧ RiseE (addR (x.length + 1) x k n).1 ∧ PosE (addR (x.length + 1) x k n).1 ∧ (∀ e ∈ (addR (x.length + 1) x k n).1, e.1 ≠ []) ∧ (addR (x.length + 1) x k n).1.length ≤ x.length + 1 ∧
      ∀ k', getE (addR (x.length + 1) x k n).1 k' = getE x k' + if k = k' then n else 0) := by
  have hT : TabE (x.length + 1) x := ⟨rise_keys hx, hp, by omega, hw⟩
  obtain ⟨p1, p2, p3⟩ := add_ref (List.Perm.refl x) hx hT k n
  have hT' := hT.add k n
  have hg : (addE (x.length + 1) x k n).1 = (addE (x.length + 1) x k n).1 := rfl
  by_cases h2 : 4611686018427387904 < getE x k + n
  · left
    refine ⟨h2, ?_⟩
    rw [p3]; unfold addE; rw [if_neg (by simp [hk]; omega), if_pos h2]
  · right
    have e0 : (addE (x.length + 1) x k n).2 = 0 ∧ ∀ k', getE (addE (x.length + 1) x k n).1 k' = getE x k' + if k = k' then n else 0 := by
      unfold addE
      rw [if_neg (by simp [hk]; omega), if_neg h2]
      by_cases h3 : 0 < getE x k
      · rw [if_pos h3]
        refine ⟨rfl, fun k' => ?_⟩
        rw [get_set _ _ _ _ ⟨_, get_pos h3, rfl⟩]
        by_cases hkk : k = k'
        · subst hkk; simp
        · simp [hkk]
      · rw [if_neg h3, if_neg (by omega)]
        refine ⟨rfl, fun k' => ?_⟩
        have hz := getE_none hp (k := k) (by omega)
        by_cases hkk : k = k'
        · subst hkk
          rw [get_app_out _ _ _ _ hz]
          simp; omega
        · simp only [hkk, if_false]
          by_cases hin : ∃ e ∈ x, e.1 = k'
          · rw [get_app_in _ _ _ _ hin]; omega
          · rw [get_app_out _ _ _ _ fun e he e' => hin ⟨e, he, e'⟩, get_zero fun e he e' => hin ⟨e, he, e'⟩]; simp [hkk]
    refine ⟨by omega, p3.trans e0.1, p2, perm_pos p1 hT'.pos, fun e he => hT'.words e (p1.mem_iff.1 he), ?_, fun k' => ?_⟩
    · rw [p1.length_eq]; exact hT'.most
    · rw [get_perm p1 hT'.keys]; exact e0.2 k'

/-- Entries put in, one by one. -/
def foldE : List En → List En → List En × Nat
  | out, [] => (out, 0)
  | out, e :: es => if (addR (out.length + 1) out e.1 e.2).2 = 0 then foldE (addR (out.length + 1) out e.1 e.2).1 es else ([], 5)
def mergeL (ls : List (List En)) : List En × Nat :=
  if 256 < ls.length then ([], 6) else if badL ls = 0 then foldE [] ls.flatten else ([], badL ls)
structure GoodE (x : List En) : Prop where
  rise : RiseE x
  pos : PosE x
  words : ∀ e ∈ x, e.1 ≠ []
theorem GoodE.nil : GoodE [] := ⟨.nil, (fun e he => by cases he), (fun e he => by cases he)⟩
theorem fold_cases : ∀ {es : List En} {out : List En}, GoodE out → (∀ e ∈ es, e.1 ≠ [] ∧ 1 ≤ e.2) →
    ((foldE out es).2 = 0 ∧ GoodE (foldE out es).1 ∧ (foldE out es).1.length ≤ out.length + es.length ∧ ∀ k, getE (foldE out es).1 k = getE out k + sumF es k) ∨ (foldE out es = ([], 5) ∧ ∃ k, 4611686018427387904 < getE out k + sumF es k)
  | [], out, h, _ => .inl ⟨rfl, h, by simp [foldE], fun k => by simp [foldE, sumF]⟩
  | e :: es, out, h, hp => by
    have he := hp e (by simp)
    rcases addR_tells h.rise h.pos h.words he.1 he.2 with ⟨h1, h2⟩ | ⟨h1, h2, h3, h4, h5, h6, h7⟩
    · right
      refine ⟨by rw [foldE, if_neg (by omega)], e.1, ?_⟩
      rw [sumF_cons, if_pos rfl]; omega
    · rw [foldE, if_pos h2]
      rcases fold_cases (es := es) ⟨h3, h4, h5⟩ (fun e he => hp e (by simp [he])) with ⟨g1, g2, g3, g4⟩ | ⟨g1, k, g2⟩
      · left
        refine ⟨g1, g2, by simp; omega, fun k => ?_⟩
        rw [g4, h7, sumF_cons]; omega
      · right
        refine ⟨g1, k, ?_⟩
        rw [h7] at g2
        rw [sumF_cons]; omega
theorem flat_ok {ls : List (List En)} (h : badL ls = 0) : ∀ e ∈ ls.flatten, e.1 ≠ [] ∧ 1 ≤ e.2 := fun e he => by
  obtain ⟨l, hl, he⟩ := List.mem_flatten.1 he
  have hm := bad_all h l hl
  exact ⟨may_word hm e he, (may_pos hm e he).1⟩
theorem getE_most {x : List En} (h : PosE x) (k : Wd) : getE x k ≤ 4611686018427387904 := by
  by_cases hk : 0 < getE x k
  · exact (h _ (get_pos hk)).2
  · omega
/-- What merging tells: just the list that rises, of all sums; or that one is too great. -/
theorem merge_is {ls : List (List En)} (hl : ls.length ≤ 256) (h : badL ls = 0) {out : List En} (h1 : RiseE out) (h2 : PosE out) (h3 : ∀ k, getE out k = sumK ls k) : mergeL ls = (out, 0) := by
  unfold mergeL
  rw [if_neg (by omega), if_pos h]
  have hk := sumK_flat fun l hl => rise_keys (may_rise (bad_all h l hl))
  rcases fold_cases (es := ls.flatten) GoodE.nil (flat_ok h) with ⟨g1, g2, g3, g4⟩ | ⟨g1, k, g2⟩
  · have : (foldE [] ls.flatten).1 = out := rise_ext g2.rise h1 g2.pos h2 fun k => by rw [g4, h3, hk]; simp [getE]
    rw [← this, ← g1]
  · have := getE_most h2 k
    rw [h3] at this
    rw [hk] at g2
    simp [getE] at g2
    omega
theorem merge_over {ls : List (List En)} (hl : ls.length ≤ 256) (h : badL ls = 0) {k : Wd} (h1 : 4611686018427387904 < sumK ls k) : mergeL ls = ([], 5) := by
  unfold mergeL
  rw [if_neg (by omega), if_pos h]
  have hk := sumK_flat fun l hl => rise_keys (may_rise (bad_all h l hl))
  rcases fold_cases (es := ls.flatten) GoodE.nil (flat_ok h) with ⟨g1, g2, g3, g4⟩ | ⟨g1, _⟩
  · have := getE_most g2.pos k
    rw [g4, hk] at this
    simp [getE] at this
    omega
  · exact g1
theorem merge_cases {ls : List (List En)} (hl : ls.length ≤ 256) (h : badL ls = 0) :
    (∃ out, mergeL ls = (out, 0) ∧ GoodE out ∧ out.length ≤ ls.flatten.length ∧ ∀ k, getE out k = sumK ls k) ∨ (mergeL ls = ([], 5) ∧ ∃ k, 4611686018427387904 < sumK ls k) := by
  have hk := sumK_flat fun l hl => rise_keys (may_rise (bad_all h l hl))
  unfold mergeL
  rw [if_neg (by omega), if_pos h]
  rcases fold_cases (es := ls.flatten) GoodE.nil (flat_ok h) with ⟨g1, g2, g3, g4⟩ | ⟨g1, k, g2⟩
  · left
    refine ⟨(foldE [] ls.flatten).1, by rw [← g1], g2, by simpa using g3, fun k => ?_⟩
    rw [g4, hk]; simp [getE]
  · right
    refine ⟨g1, k, ?_⟩
    rw [hk] at g2
    simpa [getE] using g2
/-- What was merged may be a run's. -/
theorem sum_mem {ls : List (List En)} {k : Wd} (h : 0 < sumK ls k) : ∃ l ∈ ls, 0 < getE l k := by
  induction ls with
  | nil => simp [sumK] at h
  | cons l ls ih =>
    rw [sumK_cons] at h
    by_cases hl : 0 < getE l k
    · exact ⟨l, by simp, hl⟩
    · obtain ⟨l', h1, h2⟩ := ih (by omega)
      exact ⟨l', by simp [h1], h2⟩
theorem merge_may {ls : List (List En)} (h : badL ls = 0) {out : List En} (hr : RiseE out) (hp : PosE out) (hs : ∀ k, getE out k = sumK ls k) : mayE out = 0 := by
  refine may_iff.2 ⟨fun e he => ?_, hr⟩
  have hpe := hp e he
  have hg := get_mem (rise_keys hr) he
  obtain ⟨l, hl, hl2⟩ := sum_mem (ls := ls) (k := e.1) (by rw [← hs, hg]; omega)
  have := (may_iff.1 (bad_all h l hl)).1 _ (get_pos hl2)
  exact ⟨this.1, this.2.1, hpe.1, hpe.2⟩

/-! Word by word. -/
/-- What was told, and what is left, of lists. -/
structure MidL (ls left : List (List En)) (out : List En) : Prop where
  good : GoodE out
  sum : ∀ k, getE out k + sumK left k = sumK ls k
  rise : ∀ l ∈ left, RiseE l ∧ PosE l ∧ ∀ e ∈ l, e.1 ≠ []
  up : ∀ e ∈ out, ∀ l ∈ left, ∀ f ∈ l, lessB f.1 e.1 = false
theorem MidL.start {ls : List (List En)} (h : badL ls = 0) : MidL ls ls [] :=
  ⟨GoodE.nil, fun k => by simp [getE], fun l hl => ⟨may_rise (bad_all h l hl), may_pos (bad_all h l hl), may_word (bad_all h l hl)⟩, fun e he => by cases he⟩
theorem sumK_zero : ∀ {left : List (List En)}, (∀ l ∈ left, l = []) → ∀ k, sumK left k = 0
  | [], _, _ => rfl
  | l :: ls, h, k => by rw [sumK_cons, h l (by simp), sumK_zero fun l hl => h l (by simp [hl])]; rfl
theorem MidL.done {ls left : List (List En)} {out : List En} (h : MidL ls left out) (hn : ∀ l ∈ left, l = []) (hl : ls.length ≤ 256) (hb : badL ls = 0) : mergeL ls = (out, 0) :=
  merge_is hl hb h.good.rise h.good.pos fun k => by rw [← h.sum, sumK_zero hn]; omega
theorem sumK_set : ∀ {left : List (List En)} {i : Nat} {e : En} {r : List En}, left[i]? = some (e :: r) → RiseE (e :: r) → ∀ k, sumK left k = (if e.1 = k then e.2 else 0) + sumK (left.set i r) k
  | l :: ls, 0, e, r, h, hr, k => by
    simp only [List.getElem?_cons_zero, Option.some.injEq] at h
    subst h
    rw [List.set_cons_zero, sumK_cons, sumK_cons, getE]
    split
    · rename_i e1
      rw [get_zero (es := r) fun f hf e2 => less_ne ((List.pairwise_cons.1 hr).1 f hf) (e1.trans e2.symm)]; omega
    · omega
  | l :: ls, i + 1, e, r, h, hr, k => by
    simp only [List.getElem?_cons_succ] at h
    rw [List.set_cons_succ, sumK_cons, sumK_cons, sumK_set h hr k]; omega
theorem mem_set_sub {left : List (List En)} {i : Nat} {e : En} {r : List En} (h : left[i]? = some (e :: r)) {l : List En} (hl : l ∈ left.set i r) : l ∈ left ∨ l = r := by
  rcases List.mem_or_eq_of_mem_set hl with h | h
  · exact .inl h
  · exact .inr h
/-- The entry that wins. -/
def LeastE (left : List (List En)) (e : En) : Prop := ∀ l ∈ left, ∀ f ∈ l, lessB f.1 e.1 = false
theorem MidL.rest {ls left : List (List En)} {out : List En} {i : Nat} {e : En} {r : List En} (h : MidL ls left out) (hi : left[i]? = some (e :: r)) : ∀ l ∈ left.set i r, RiseE l ∧ PosE l ∧ ∀ e ∈ l, e.1 ≠ [] := fun l hl => by
  rcases mem_set_sub hi hl with h1 | rfl
  · exact h.rise l h1
  · obtain ⟨h2, h3, h4⟩ := h.rise _ (List.mem_of_getElem? hi)
    exact ⟨(List.pairwise_cons.1 h2).2, fun f hf => h3 f (by simp [hf]), fun f hf => h4 f (by simp [hf])⟩
theorem LeastE.rest {left : List (List En)} {i : Nat} {e : En} {r : List En} (h : LeastE left e) (hi : left[i]? = some (e :: r)) : ∀ l ∈ left.set i r, ∀ f ∈ l, lessB f.1 e.1 = false := fun l hl f hf => by
  rcases mem_set_sub hi hl with h1 | rfl
  · exact h l h1 f hf
  · exact h _ (List.mem_of_getElem? hi) f (by simp [hf])
theorem last_out {out : List En} {z : En} (hr : RiseE out) (hz : out.getLast? = some z) : ∀ x ∈ out, lessB z.1 x.1 = false := by
  obtain ⟨ys, rfl⟩ := List.getLast?_eq_some_iff.1 hz
  intro x hx
  rcases List.mem_append.1 hx with hx | hx
  · exact less_asymm _ _ ((List.pairwise_append.1 hr).2.2 x hx z (by simp))
  · simp at hx; subst hx; exact less_irrefl _
/-- Another word behind what was told. -/
theorem MidL.put {ls left : List (List En)} {out : List En} {i : Nat} {e : En} {r : List En} (h : MidL ls left out) (hi : left[i]? = some (e :: r)) (hm : LeastE left e) (hn : ∀ z, out.getLast? = some z → z.1 ≠ e.1) : MidL ls (left.set i r) (out ++ [e]) := by
  have hmem := List.mem_of_getElem? hi
  obtain ⟨hr, hp, hw⟩ := h.rise _ hmem
  have hout : ∀ x ∈ out, lessB x.1 e.1 = true := fun x hx => by
    cases hl : lessB x.1 e.1 with
    | true => rfl
    | false =>
      exfalso
      have hxe : x.1 = e.1 := less_tri _ _ hl (h.up x hx _ hmem e (by simp))
      obtain ⟨z, hz⟩ : ∃ z, out.getLast? = some z := by
        cases hq : out.getLast? with
        | none => rw [List.getLast?_eq_none_iff] at hq; subst hq; cases hx
        | some z => exact ⟨z, rfl⟩
      have h1 := last_out h.good.rise hz x hx
      have h2 := h.up z (List.mem_of_getLast? hz) _ hmem e (by simp)
      refine hn z hz (less_tri _ _ ?_ ?_)
      · rw [← hxe]; exact h1
      · exact h2
  have hnk : ∀ x ∈ out, x.1 ≠ e.1 := fun x hx => less_ne (hout x hx)
  refine ⟨⟨List.pairwise_append.2 ⟨h.good.rise, by simp, fun a ha b hb => by simp at hb; subst hb; exact hout a ha⟩, fun x hx => ?_, fun x hx => ?_⟩, fun k => ?_, h.rest hi, fun x hx => ?_⟩
  · rcases List.mem_append.1 hx with hx | hx
    · exact h.good.pos x hx
    · simp at hx; subst hx; exact hp _ (by simp)
  · rcases List.mem_append.1 hx with hx | hx
    · exact h.good.words x hx
    · simp at hx; subst hx; exact hw _ (by simp)
  · have hs := h.sum k
    rw [sumK_set hi hr k] at hs
    obtain ⟨k0, n0⟩ := e
    by_cases hk : k0 = k
    · subst hk
      rw [get_app_out _ _ _ _ hnk]
      rw [get_zero hnk] at hs
      simp only [if_true] at hs ⊢
      omega
    · simp only [hk, if_false] at hs
      by_cases hin : ∃ e ∈ out, e.1 = k
      · rw [get_app_in _ _ _ _ hin]; omega
      · rw [get_app_out _ _ _ _ fun e he e' => hin ⟨e, he, e'⟩]
        rw [get_zero fun e he e' => hin ⟨e, he, e'⟩] at hs
        simp only [hk, if_false]; omega
  · rcases List.mem_append.1 hx with hx | hx
    · intro l hl f hf
      rcases mem_set_sub hi hl with h1 | rfl
      · exact h.up x hx l h1 f hf
      · exact h.up x hx _ hmem f (by simp [hf])
    · simp at hx; subst hx; exact hm.rest hi
/-- Its count put to the last one's. -/
theorem MidL.more {ls left : List (List En)} {out : List En} {i : Nat} {e z : En} {r : List En} (h : MidL ls left out) (hi : left[i]? = some (e :: r)) (hm : LeastE left e) (hz : out.getLast? = some z) (hk : z.1 = e.1) (hs : z.2 + e.2 ≤ 4611686018427387904) : MidL ls (left.set i r) (out.set (out.length - 1) (z.1, z.2 + e.2)) := by
  have hmem := List.mem_of_getElem? hi
  obtain ⟨hr, hp, hw⟩ := h.rise _ hmem
  have hzm := List.mem_of_getLast? hz
  have hat : out[out.length - 1]? = some z := by rw [← List.getLast?_eq_getElem?]; exact hz
  have hks := rise_keys h.good.rise
  rw [setE_at hks hat]
  have hze := h.good.pos z hzm
  have key : ∀ x ∈ setE out z.1 (z.2 + e.2), ∃ y ∈ out, y.1 = x.1 := fun x hx => by
    have : x.1 ∈ (setE out z.1 (z.2 + e.2)).map Prod.fst := List.mem_map.2 ⟨x, hx, rfl⟩
    rw [set_keys] at this
    obtain ⟨y, hy, e3⟩ := List.mem_map.1 this
    exact ⟨y, hy, e3⟩
  refine ⟨⟨rise_set h.good.rise _ _, pos_set h.good.pos _ _ ⟨by omega, hs⟩, fun x hx => ?_⟩, fun k => ?_, h.rest hi, fun x hx l hl f hf => ?_⟩
  · obtain ⟨y, hy, e3⟩ := key x hx
    exact e3 ▸ h.good.words y hy
  · have hs := h.sum k
    rw [sumK_set hi hr k] at hs
    rw [get_set _ _ _ _ ⟨z, hzm, rfl⟩]
    by_cases hkk : e.1 = k
    · have : z.1 = k := hk.trans hkk
      subst this
      rw [get_mem hks hzm] at hs
      simp only [hkk, if_true] at hs ⊢
      omega
    · simp only [hkk, if_false] at hs
      rw [if_neg (fun h => hkk (hk.symm.trans h))]; omega
  · obtain ⟨y, hy, e3⟩ := key x hx
    rw [← e3]
    rcases mem_set_sub hi hl with h1 | rfl
    · exact h.up y hy l h1 f hf
    · exact h.up y hy _ hmem f (by simp [hf])
theorem MidL.over {ls left : List (List En)} {out : List En} {i : Nat} {e z : En} {r : List En} (h : MidL ls left out) (hi : left[i]? = some (e :: r)) (hz : out.getLast? = some z) (hk : z.1 = e.1) (hs : 4611686018427387904 < z.2 + e.2) (hl : ls.length ≤ 256) (hb : badL ls = 0) : mergeL ls = ([], 5) := by
  obtain ⟨hr, hp, hw⟩ := h.rise _ (List.mem_of_getElem? hi)
  have hzm := List.mem_of_getLast? hz
  refine merge_over hl hb (k := e.1) ?_
  rw [← h.sum, sumK_set hi hr, if_pos rfl, ← hk, get_mem (rise_keys h.good.rise) hzm]
  omega
/-- How many entries are left. -/
def totL (left : List (List En)) : Nat := left.flatten.length
theorem tot_set : ∀ {left : List (List En)} {i : Nat} {e : En} {r : List En}, left[i]? = some (e :: r) → totL left = totL (left.set i r) + 1
  | l :: ls, 0, e, r, h => by
    simp only [List.getElem?_cons_zero, Option.some.injEq] at h
    subst h; simp [totL, Nat.add_right_comm]
  | l :: ls, i + 1, e, r, h => by
    simp only [List.getElem?_cons_succ] at h
    have := tot_set h
    simp only [totL, List.set_cons_succ, List.flatten_cons, List.length_append] at this ⊢
    omega
end Go.Proofs.Ytgnhnhachhfafaa
