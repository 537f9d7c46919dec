/- What may be an automaton by its form is what is built of its words. -/
import Derived.Test.YtkcledkfgmdcgaaDawTurn
namespace Go.Proofs.Ytkcledkfgmdcgaa
open Go.RowKit
set_option linter.unusedVariables false
set_option linter.unusedSimpArgs false

/-- A live trie takes some word. -/
theorem live_takes : ∀ (k : Kids) (f : Bool), liveK k → (f = true ∨ k ≠ .nil) → ∃ w, takeN (f, k) w = true
  | k, true, _, _ => ⟨[], rfl⟩
  | .nil, false, _, h => by simp at h
  | .cons c f sub rest, false, hl, _ => by
    obtain ⟨w, hw⟩ := live_takes sub f hl.2.1 hl.1
    refine ⟨c :: w, ?_⟩
    show takeK (.cons c f sub rest) c w = true
    rw [takeK_cons, if_pos rfl]; exact hw
/-- Two live tries that take the same are the same. -/
theorem trie_ext : ∀ (k k' : Kids), RiseK k → RiseK k' → liveK k → liveK k' → (∀ c w, takeK k c w = takeK k' c w) → k = k'
  | .nil, .nil, _, _, _, _, _ => rfl
  | .nil, .cons d g sub rest, _, _, _, hl, h => by
    obtain ⟨w, hw⟩ := live_takes sub g hl.2.1 hl.1
    have h1 := h d w
    rw [takeK_cons, if_pos rfl, hw] at h1
    have h2 : takeK .nil d w = false := by cases w <;> rfl
    rw [h2] at h1; cases h1
  | .cons c f sub rest, .nil, _, _, hl, _, h => by
    obtain ⟨w, hw⟩ := live_takes sub f hl.2.1 hl.1
    have h1 := h c w
    rw [takeK_cons, if_pos rfl, hw] at h1
    have h2 : takeK .nil c w = false := by cases w <;> rfl
    rw [h2] at h1; cases h1
  | .cons c f sub rest, .cons d g tub test, hr, hr', hl, hl', h => by
    have hcd : c = d := by
      by_cases h1 : c < d
      · exfalso
        obtain ⟨w, hw⟩ := live_takes sub f hl.2.1 hl.1
        have h2 := h c w
        rw [takeK_cons, if_pos rfl, hw, takeK_cons, if_neg (fun e => by rw [e] at h1; exact UInt8.lt_irrefl _ h1), above_none hr'.1 (UInt8.le_of_lt h1)] at h2
        cases h2
      · by_cases h3 : d < c
        · exfalso
          obtain ⟨w, hw⟩ := live_takes tub g hl'.2.1 hl'.1
          have h2 := h d w
          rw [takeK_cons, if_neg (fun e => by rw [e] at h3; exact UInt8.lt_irrefl _ h3), takeK_cons, if_pos rfl, hw, above_none hr.1 (UInt8.le_of_lt h3)] at h2
          cases h2
        · apply UInt8.toNat_inj.1
          have e1 : ¬ c.toNat < d.toNat := fun h => h1 (UInt8.lt_iff_toNat_lt.2 h)
          have e2 : ¬ d.toNat < c.toNat := fun h => h3 (UInt8.lt_iff_toNat_lt.2 h)
          omega
    subst hcd
    have hnode : ∀ w, takeN (f, sub) w = takeN (g, tub) w := fun w => by
      have := h c w
      rw [takeK_cons, if_pos rfl, takeK_cons, if_pos rfl] at this
      exact this
    have hfg : f = g := hnode []
    have hsub : sub = tub := trie_ext sub tub hr.2.1 hr'.2.1 hl.2.1 hl'.2.1 fun x w => hnode (x :: w)
    have hrest : rest = test := trie_ext rest test hr.2.2 hr'.2.2 hl.2.2 hl'.2.2 fun x w => by
      by_cases hx : x = c
      · subst hx
        rw [above_none hr.1 (UInt8.le_refl _), above_none hr'.1 (UInt8.le_refl _)]
      · have := h x w
        rw [takeK_cons, if_neg hx, takeK_cons, if_neg hx] at this
        exact this
    rw [hfg, hsub, hrest]
theorem trie_list (t : Node) (hr : RiseK t.2) (hl : liveK t.2) : trieW (listN t) = t := by
  have h1 : ∀ v, takeN (trieW (listN t)) v = takeN t v := fun v => by
    rw [trie_take]
    have := listN_mem t hr v
    cases h : takeN t v with
    | true => exact decide_eq_true (this.2 h)
    | false => exact decide_eq_false fun hm => by rw [this.1 hm] at h; cases h
  refine Prod.ext (h1 []) (trie_ext _ _ (trie_rise _) hr (fold_live _ _ trivial) hl fun c w => h1 (c :: w))
/-- The trie of a state. -/
def unE (go : Nat → Node) : List (UInt8 × Nat) → Kids
  | [] => .nil
  | e :: es => .cons e.1 (go e.2).1 (go e.2).2 (unE go es)
def unN (A : List Stt) : Nat → Nat → Node
  | 0, _ => (false, .nil)
  | f + 1, n => match A[n]? with
    | none => (false, .nil)
    | some s => (s.1, unE (unN A f) s.2)
theorem unN_at {A : List Stt} {f n : Nat} {s : Stt} (h : A[n]? = some s) : unN A (f + 1) n = (s.1, unE (unN A f) s.2) := by rw [unN, h]
theorem unE_nil {go : Nat → Node} {es : List (UInt8 × Nat)} : unE go es = .nil ↔ es = [] := by cases es <;> simp [unE]
theorem un_above {go : Nat → Node} {c : UInt8} : ∀ {es : List (UInt8 × Nat)}, (∀ e ∈ es, c < e.1) → aboveK c (unE go es)
  | [], _ => trivial
  | e :: es, h => ⟨h e List.mem_cons_self, un_above fun x hx => h x (List.mem_cons_of_mem _ hx)⟩
theorem unE_ok {go : Nat → Node} : ∀ {es : List (UInt8 × Nat)}, RiseEd es → (∀ e ∈ es, RiseK (go e.2).2 ∧ liveK (go e.2).2 ∧ ((go e.2).1 = true ∨ (go e.2).2 ≠ .nil)) → RiseK (unE go es) ∧ liveK (unE go es)
  | [], _, _ => ⟨trivial, trivial⟩
  | e :: es, hr, h => by
    obtain ⟨h1, h2, h3⟩ := h e List.mem_cons_self
    obtain ⟨i1, i2⟩ := unE_ok (es := es) (List.pairwise_cons.1 hr).2 fun x hx => h x (List.mem_cons_of_mem _ hx)
    exact ⟨⟨un_above (List.pairwise_cons.1 hr).1, h1, i1⟩, h3, h2, i2⟩
theorem unN_ok {A : List Stt} (hA : ∀ (i : Nat) (s : Stt), A[i]? = some s → (s.1 = true ∨ s.2 ≠ []) ∧ (∀ e ∈ s.2, e.2 < i) ∧ RiseEd s.2) : ∀ (f n : Nat), n < f → n < A.length → RiseK (unN A f n).2 ∧ liveK (unN A f n).2 ∧ ((unN A f n).1 = true ∨ (unN A f n).2 ≠ .nil)
  | 0, n, h, _ => by omega
  | f + 1, n, h, hl => by
    have hs := List.getElem?_eq_getElem hl
    obtain ⟨u1, u2, u3⟩ := hA n _ hs
    rw [unN_at hs]
    obtain ⟨i1, i2⟩ := unE_ok (go := unN A f) u3 fun e he => unN_ok hA f e.2 (by have := u2 e he; omega) (by have := u2 e he; omega)
    exact ⟨i1, i2, u1.imp id fun h5 h6 => h5 (unE_nil.1 h6)⟩
theorem take_good {A : List Stt} (hA : GoodS A) {n : Nat} {s : Stt} (hs : A[n]? = some s) {m : Nat} (hm : n < m) : putS (A.take m) s = (A.take m, n) := by
  have hl := (List.getElem?_eq_some_iff.1 hs).1
  have hat : (A.take m)[n]? = some s := by rw [List.getElem?_take_of_lt hm]; exact hs
  have hmem := List.mem_of_getElem? hat
  unfold putS
  rw [if_pos hmem]
  have hnd : (A.take m).Nodup := hA.nodup.sublist (List.take_sublist _ _)
  have hidx := List.idxOf_lt_length_iff.2 hmem
  have h1 : (A.take m)[(A.take m).idxOf s]'hidx = s := List.getElem_idxOf hidx
  obtain ⟨h2, h3⟩ := List.getElem?_eq_some_iff.1 hat
  have : (A.take m).idxOf s = n := by
    apply Classical.byContradiction
    intro hne
    rcases Nat.lt_or_gt_of_ne hne with h4 | h4
    · exact List.pairwise_iff_getElem.1 hnd _ _ hidx h2 h4 (by rw [h1, h3])
    · exact List.pairwise_iff_getElem.1 hnd _ _ h2 hidx h4 (by rw [h1, h3])
  rw [this]
/-- States among those that were left leave nothing. -/
theorem un_again {A : List Stt} (hA : GoodS A) {m : Nat} : ∀ (f n : Nat), n < f → n < m → n < A.length → leaveN (A.take m) (unN A f n) = (A.take m, n)
  | 0, n, h, _, _ => by omega
  | f + 1, n, h, hm, hl => by
    have hs := List.getElem?_eq_getElem hl
    have hlow := hA.low n _ hs
    have hk : ∀ es : List (UInt8 × Nat), (∀ e ∈ es, e.2 < n) → leaveK (A.take m) (unE (unN A f) es) = (A.take m, es) := by
      intro es
      induction es with
      | nil => intro _; rfl
      | cons e es ih =>
        intro he
        have h1 := un_again hA (m := m) f e.2 (by have := he e List.mem_cons_self; omega) (by have := he e List.mem_cons_self; omega) (by have := he e List.mem_cons_self; omega)
        have h2 := ih fun x hx => he x (List.mem_cons_of_mem _ hx)
        show leaveK _ (.cons e.1 (unN A f e.2).1 (unN A f e.2).2 (unE (unN A f) es)) = _
        rw [leaveK_cons, show ((unN A f e.2).1, (unN A f e.2).2) = unN A f e.2 from rfl, h1]
        simp only
        rw [h2]
    rw [unN_at hs]
    show putS (leaveK _ (unE (unN A f) (A[n]).2)).1 ((A[n]).1, (leaveK _ (unE (unN A f) (A[n]).2)).2) = _
    rw [hk _ hlow]
    exact take_good hA hs hm
/-- The turn kept, leaving the trie of a state gives the states up to it. -/
theorem un_turn {A : List Stt} (hA : GoodS A) : ∀ (f n next m : Nat), n < f → next ≤ n → turnN A f n next = some m → leaveN (A.take next) (unN A f n) = (A.take m, n)
  | 0, n, next, m, h, _, _ => by omega
  | f + 1, n, next, m, h, hn, ht => by
    obtain ⟨hm, hl⟩ := turn_some ht
    have hs := List.getElem?_eq_getElem hl
    have hlow := hA.low n _ hs
    have hk : ∀ (es : List (UInt8 × Nat)) (x y : Nat), (∀ e ∈ es, e.2 < n) → turnE (turnN A f) es x = some y → leaveK (A.take x) (unE (unN A f) es) = (A.take y, es) := by
      intro es
      induction es with
      | nil =>
        intro x y _ hxy
        simp only [turnE, Option.some.injEq] at hxy
        subst hxy; rfl
      | cons e es ih =>
        intro x y he hxy
        have hen := he e List.mem_cons_self
        rw [turnE] at hxy
        show leaveK _ (.cons e.1 (unN A f e.2).1 (unN A f e.2).2 (unE (unN A f) es)) = _
        rw [leaveK_cons, show ((unN A f e.2).1, (unN A f e.2).2) = unN A f e.2 from rfl]
        by_cases hx : x ≤ e.2
        · rw [if_pos hx] at hxy
          cases hg : turnN A f e.2 x with
          | none => rw [hg] at hxy; cases hxy
          | some z =>
            rw [hg] at hxy
            have h1 := un_turn hA f e.2 x z (by omega) hx hg
            rw [h1]
            simp only at hxy ⊢
            rw [ih z y (fun q hq => he q (List.mem_cons_of_mem _ hq)) hxy]
        · rw [if_neg hx] at hxy
          have h1 := un_again hA (m := x) f e.2 (by omega) (by omega) (by omega)
          rw [h1]
          simp only
          rw [ih x y (fun q hq => he q (List.mem_cons_of_mem _ hq)) hxy]
    rw [turnN, hs] at ht
    simp only at ht
    cases he : turnE (turnN A f) (A[n]).2 next with
    | none => rw [he] at ht; cases ht
    | some nx =>
      rw [he] at ht
      simp only at ht
      by_cases hnx : n = nx
      · subst hnx
        rw [unN_at hs]
        show putS (leaveK _ (unE (unN A f) (A[n]).2)).1 ((A[n]).1, (leaveK _ (unE (unN A f) (A[n]).2)).2) = _
        rw [hk _ next n hlow he]
        have hnot : A[n] ∉ A.take n := fun hm' => by
          obtain ⟨i, hi, hie⟩ := List.getElem_of_mem hm'
          have hi2 : i < n := by simp at hi; omega
          rw [List.getElem_take] at hie
          exact List.pairwise_iff_getElem.1 hA.nodup i n (by omega) hl hi2 hie
        show putS (A.take n) (A[n]) = _
        unfold putS
        rw [if_neg hnot, hm, List.take_add_one, hs]
        simp
        omega
      · rw [if_neg hnx] at ht; cases ht
theorem built_form {B : List Stt} (h : BuiltP B) : ∃ zs, [] ∉ zs ∧ RiseW zs ∧ B = buildL zs := by
  have hg : GoodS B := ⟨fun i s hs => (h.each i s hs).2.1, h.nodup⟩
  have hlen : 0 < B.length := List.length_pos_iff.2 h.any
  obtain ⟨m, hm⟩ := h.turn
  have h1 := un_turn hg B.length (B.length - 1) 0 m (by omega) (Nat.zero_le _) hm
  have hmv := (turn_some hm).1
  rw [List.take_zero, show m = B.length by omega, List.take_length] at h1
  obtain ⟨t, ht⟩ : ∃ t, t = unN B B.length (B.length - 1) := ⟨_, rfl⟩
  rw [← ht] at h1
  obtain ⟨k1, k2, k3⟩ := unN_ok h.each B.length (B.length - 1) (by omega) (by omega)
  rw [← ht] at k1 k2 k3
  have htl := trie_list t k1 k2
  refine ⟨listN t, fun hn => ?_, listN_rise t k1, ?_⟩
  · have h2 := (listN_mem t k1 []).1 hn
    have hs := List.getElem?_eq_getElem (show B.length - 1 < B.length by omega)
    have h3 := h.first _ hs
    obtain ⟨f, hf⟩ : ∃ f, B.length = f + 1 := ⟨B.length - 1, by omega⟩
    have h4 : t.1 = (B[B.length - 1]'(by omega)).1 := by
      rw [ht]
      conv => lhs; rw [hf]
      rw [unN_at (by rw [show f + 1 - 1 = B.length - 1 by omega]; exact hs)]
    have h5 : t.1 = true := h2
    rw [h4, h3] at h5; cases h5
  · show B = (leaveN [] (trieW (listN t))).1
    rw [htl, h1]
/-- What May tells: whether there are words, rising, none of them empty, of which the states are the automaton. -/
theorem may_built {A : List StZ} : MayP A ↔ ∃ zs, [] ∉ zs ∧ RiseW zs ∧ A = zA (buildL zs) := by
  constructor
  · rintro (h | ⟨_, B, rfl, hB⟩)
    · exact ⟨[], by simp, List.Pairwise.nil, h⟩
    · obtain ⟨zs, h1, h2, rfl⟩ := built_form hB
      exact ⟨zs, h1, h2, rfl⟩
  · rintro ⟨zs, h1, _, rfl⟩
    exact build_may h1
end Go.Proofs.Ytkcledkfgmdcgaa
