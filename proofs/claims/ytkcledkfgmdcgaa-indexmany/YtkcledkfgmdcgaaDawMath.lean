/- Words as the least automaton: tries, states left one by one, what they take, that none are alike. Plain mathematics. -/
import Derived.Test.YtkcledkfgmdcgaaLess
namespace Go.Proofs.Ytkcledkfgmdcgaa
set_option linter.unusedVariables false
set_option linter.unusedSimpArgs false

/-- A state: does a word end there, and its edges. -/
abbrev Stt := Bool × List (UInt8 × Nat)
/-- A node's kids: each a byte, whether a word ends there, and its own kids. -/
inductive Kids where
  | nil : Kids
  | cons (c : UInt8) (f : Bool) (sub rest : Kids) : Kids
abbrev Node := Bool × Kids
/-- What is taken from kids on: a byte, and a rest. -/
def takeK : Kids → UInt8 → Wd → Bool
  | .nil, _, _ => false
  | .cons c f sub rest, x, w => if x = c then (match w with | [] => f | y :: v => takeK sub y v) else takeK rest x w
def takeN (t : Node) : Wd → Bool
  | [] => t.1
  | c :: w => takeK t.2 c w
/-- A word by itself. -/
def chainN : Wd → Node
  | [] => (true, .nil)
  | c :: w => (false, .cons c (chainN w).1 (chainN w).2 .nil)
/-- A word more. -/
def insK : Kids → UInt8 → Wd → Kids
  | .nil, x, w => .cons x (chainN w).1 (chainN w).2 .nil
  | .cons c f sub rest, x, w =>
    if x = c then .cons c (match w with | [] => true | _ :: _ => f) (match w with | [] => sub | y :: v => insK sub y v) rest
    else if x < c then .cons x (chainN w).1 (chainN w).2 (.cons c f sub rest)
    else .cons c f sub (insK rest x w)
def insN (t : Node) : Wd → Node
  | [] => (true, t.2)
  | c :: w => (t.1, insK t.2 c w)
def trieW (l : List Wd) : Node := l.foldl insN (false, .nil)

theorem takeK_cons (c : UInt8) (f : Bool) (sub rest : Kids) (x : UInt8) (w : Wd) : takeK (.cons c f sub rest) x w = if x = c then takeN (f, sub) w else takeK rest x w := by cases w <;> rfl
theorem insK_cons (c : UInt8) (f : Bool) (sub rest : Kids) (x : UInt8) (w : Wd) : insK (.cons c f sub rest) x w = if x = c then .cons c (insN (f, sub) w).1 (insN (f, sub) w).2 rest else if x < c then .cons x (chainN w).1 (chainN w).2 (.cons c f sub rest) else .cons c f sub (insK rest x w) := by cases w <;> rfl
theorem take_chain : ∀ (w v : Wd), takeN (chainN w) v = decide (v = w)
  | [], [] => rfl
  | [], c :: v => by simp [takeN, chainN, takeK]
  | c :: w, [] => by simp [takeN, chainN]
  | c :: w, d :: v => by
    have ih := take_chain w v
    show takeK (.cons c (chainN w).1 (chainN w).2 .nil) d v = _
    rw [takeK_cons]
    by_cases h : d = c
    · subst h
      rw [if_pos rfl]
      show takeN (chainN w) v = _
      rw [ih]; simp
    · rw [if_neg h]; simp [h, takeK]
/-- All bytes are above one. -/
def aboveK (c : UInt8) : Kids → Prop
  | .nil => True
  | .cons d _ _ rest => c < d ∧ aboveK c rest
def RiseK : Kids → Prop
  | .nil => True
  | .cons c _ sub rest => aboveK c rest ∧ RiseK sub ∧ RiseK rest
theorem above_none {c x : UInt8} : ∀ {k : Kids}, aboveK c k → x ≤ c → ∀ v, takeK k x v = false
  | .nil, _, _, _ => rfl
  | .cons d f sub rest, h, hx, v => by
    rw [takeK_cons, if_neg (fun e => by subst e; exact absurd h.1 (UInt8.not_lt.2 hx))]
    exact above_none h.2 hx v
theorem above_ltK {c d : UInt8} (h : c < d) : ∀ {k : Kids}, aboveK d k → aboveK c k
  | .nil, _ => trivial
  | .cons e _ _ rest, hk => ⟨UInt8.lt_trans h hk.1, above_ltK h hk.2⟩
theorem chain_rise : ∀ w : Wd, RiseK (chainN w).2
  | [] => trivial
  | c :: w => ⟨trivial, chain_rise w, trivial⟩
theorem ins_above {c x : UInt8} (hx : c < x) : ∀ {k : Kids} (w : Wd), aboveK c k → aboveK c (insK k x w)
  | .nil, w, _ => ⟨hx, trivial⟩
  | .cons d f sub rest, w, h => by
    rw [insK_cons]
    split
    · exact ⟨h.1, h.2⟩
    · split
      · exact ⟨hx, h⟩
      · exact ⟨h.1, ins_above hx w h.2⟩
theorem ins_rise : ∀ (k : Kids) (x : UInt8) (w : Wd), RiseK k → RiseK (insK k x w)
  | .nil, x, w, _ => ⟨trivial, chain_rise w, trivial⟩
  | .cons c f sub rest, x, w, h => by
    have hs := fun y v => ins_rise sub y v h.2.1
    have hr := ins_rise rest x w h.2.2
    rw [insK_cons]
    by_cases hx : x = c
    · rw [if_pos hx]
      refine ⟨h.1, ?_, h.2.2⟩
      cases w with
      | nil => exact h.2.1
      | cons y v => exact hs y v
    · rw [if_neg hx]
      by_cases hlt : x < c
      · rw [if_pos hlt]
        exact ⟨⟨hlt, above_ltK hlt h.1⟩, chain_rise w, h⟩
      · rw [if_neg hlt]
        exact ⟨ins_above (UInt8.lt_of_le_of_ne (UInt8.not_lt.1 hlt) (Ne.symm hx)) w h.1, h.2.1, hr⟩
theorem take_insK : ∀ (k : Kids) (x : UInt8) (w : Wd) (y : UInt8) (v : Wd), RiseK k → takeK (insK k x w) y v = (decide (y :: v = x :: w) || takeK k y v)
  | .nil, x, w, y, v, _ => by
    show takeK (.cons x (chainN w).1 (chainN w).2 .nil) y v = _
    rw [takeK_cons]
    show (if y = x then takeN (chainN w) v else false) = _
    rw [take_chain]
    by_cases h : y = x
    · simp [h, takeK]
    · rw [if_neg h]; simp [h, takeK]
  | .cons c f sub rest, x, w, y, v, hk => by
    have hs := fun z u z' u' => take_insK sub z u z' u' hk.2.1
    have hr := take_insK rest x w y v hk.2.2
    rw [insK_cons]
    by_cases hx : x = c
    · subst hx
      rw [if_pos rfl, takeK_cons, takeK_cons]
      by_cases hy : y = x
      · subst hy
        rw [if_pos rfl, if_pos rfl]
        cases w with
        | nil => cases v with
          | nil => simp [insN, takeN]
          | cons z v => simp [insN, takeN]
        | cons u w => cases v with
          | nil => simp [insN, takeN]
          | cons z v => simp only [insN, takeN]; rw [hs]; simp
      · rw [if_neg hy, if_neg hy]; simp [hy]
    · rw [if_neg hx]
      by_cases hlt : x < c
      · rw [if_pos hlt]
        have h2 : ∀ y, y ≤ x → takeK (.cons c f sub rest) y v = false := fun y hy => above_none (c := x) (k := .cons c f sub rest) ⟨hlt, above_ltK hlt hk.1⟩ hy v
        rw [takeK_cons]
        by_cases hy : y = x
        · subst hy
          rw [if_pos rfl, h2 y (UInt8.le_refl _)]
          show takeN (chainN w) v = _
          rw [take_chain]; simp
        · rw [if_neg hy]; simp [hy]
      · rw [if_neg hlt, takeK_cons, takeK_cons]
        by_cases hy : y = c
        · subst hy
          rw [if_pos rfl, if_pos rfl]
          simp [Ne.symm hx]
        · rw [if_neg hy, if_neg hy, hr]
theorem take_ins (t : Node) (ht : RiseK t.2) (w v : Wd) : takeN (insN t w) v = (decide (v = w) || takeN t v) := by
  cases w with
  | nil => cases v <;> simp [insN, takeN]
  | cons c w => cases v with
    | nil => simp [insN, takeN]
    | cons d v => simp only [insN, takeN]; exact take_insK t.2 c w d v ht
theorem insN_rise (t : Node) (ht : RiseK t.2) (w : Wd) : RiseK (insN t w).2 := by
  cases w with
  | nil => exact ht
  | cons c w => exact ins_rise t.2 c w ht
theorem trie_fold : ∀ (l : List Wd) (t : Node), RiseK t.2 → RiseK (l.foldl insN t).2 ∧ ∀ v, takeN (l.foldl insN t) v = (decide (v ∈ l) || takeN t v)
  | [], t, h => ⟨h, fun v => by simp⟩
  | w :: l, t, h => by
    obtain ⟨h1, h2⟩ := trie_fold l (insN t w) (insN_rise t h w)
    refine ⟨h1, fun v => ?_⟩
    rw [List.foldl_cons, h2, take_ins t h]
    by_cases hv : v = w <;> simp [hv]
theorem trie_rise (l : List Wd) : RiseK (trieW l).2 := (trie_fold l (false, .nil) trivial).1
theorem take_nil (v : Wd) : takeN (false, .nil) v = false := by cases v <;> rfl
theorem trie_take (l : List Wd) (v : Wd) : takeN (trieW l) v = decide (v ∈ l) := by unfold trieW; rw [(trie_fold l (false, .nil) trivial).2, take_nil]; simp

/-- The words of a trie, rising. -/
def listK : Kids → List Wd
  | .nil => []
  | .cons c f sub rest => ((if f then [[]] else []) ++ listK sub).map (c :: ·) ++ listK rest
def listN (t : Node) : List Wd := (if t.1 then [[]] else []) ++ listK t.2
theorem list_mem : ∀ (k : Kids), RiseK k → ∀ v, v ∈ listK k ↔ ∃ c w, v = c :: w ∧ takeK k c w = true
  | .nil, _, v => by simp [listK, takeK]
  | .cons c f sub rest, h, v => by
    have hs := list_mem sub h.2.1
    have hr := list_mem rest h.2.2
    rw [listK, List.mem_append, List.mem_map, hr]
    constructor
    · rintro (⟨w, hw, rfl⟩ | ⟨d, w, rfl, hd⟩)
      · refine ⟨c, w, rfl, ?_⟩
        rw [takeK_cons, if_pos rfl]
        rcases List.mem_append.1 hw with hw | hw
        · cases f with
          | true => simp at hw; subst hw; rfl
          | false => simp at hw
        · obtain ⟨d, u, rfl, hu⟩ := (hs w).1 hw
          exact hu
      · refine ⟨d, w, rfl, ?_⟩
        rw [takeK_cons]
        by_cases hdc : d = c
        · subst hdc
          rw [above_none h.1 (UInt8.le_refl _) w] at hd
          cases hd
        · rw [if_neg hdc]; exact hd
    · rintro ⟨d, w, rfl, hd⟩
      rw [takeK_cons] at hd
      by_cases hdc : d = c
      · subst hdc
        rw [if_pos rfl] at hd
        refine .inl ⟨w, ?_, rfl⟩
        cases w with
        | nil => have hd : f = true := hd; rw [hd]; simp
        | cons y u => exact List.mem_append.2 (.inr ((hs _).2 ⟨y, u, rfl, hd⟩))
      · rw [if_neg hdc] at hd
        exact .inr ⟨d, w, rfl, hd⟩
theorem listN_mem (t : Node) (ht : RiseK t.2) (v : Wd) : v ∈ listN t ↔ takeN t v = true := by
  unfold listN
  rw [List.mem_append, list_mem t.2 ht]
  cases v with
  | nil => cases h : t.1 <;> simp [takeN, h]
  | cons c w =>
    constructor
    · rintro (h | ⟨d, u, he, hu⟩)
      · cases h1 : t.1 <;> simp [h1] at h
      · cases he; exact hu
    · intro h; exact .inr ⟨c, w, rfl, h⟩
def RiseW (l : List Wd) : Prop := l.Pairwise fun a b => lessB a b = true
theorem nil_less (c : UInt8) (w : Wd) : lessB [] (c :: w) = true := rfl
theorem list_rise : ∀ (k : Kids), RiseK k → RiseW (listK k)
  | .nil, _ => List.Pairwise.nil
  | .cons c f sub rest, h => by
    have hs := list_rise sub h.2.1
    have hr := list_rise rest h.2.2
    rw [listK]
    refine List.pairwise_append.2 ⟨?_, hr, ?_⟩
    · rw [List.pairwise_map]
      have h1 : RiseW ((if f then [[]] else []) ++ listK sub) := by
        cases f with
        | false => exact hs
        | true =>
          refine List.pairwise_cons.2 ⟨fun v hv => ?_, hs⟩
          obtain ⟨d, u, rfl, _⟩ := (list_mem sub h.2.1 v).1 hv
          exact nil_less d u
      refine h1.imp fun {a b} hab => ?_
      rw [less_cons]; simp [hab]
    · intro a ha b hb
      obtain ⟨w, _, rfl⟩ := List.mem_map.1 ha
      obtain ⟨d, u, rfl, hd⟩ := (list_mem rest h.2.2 b).1 hb
      rw [less_cons]
      have : c < d := by
        by_cases hcd : c < d
        · exact hcd
        · rw [above_none h.1 (UInt8.not_lt.1 hcd) u] at hd; cases hd
      simp [this]
theorem listN_rise (t : Node) (ht : RiseK t.2) : RiseW (listN t) := by
  unfold listN
  cases h : t.1 with
  | false => exact list_rise t.2 ht
  | true =>
    refine List.pairwise_cons.2 ⟨fun v hv => ?_, list_rise t.2 ht⟩
    obtain ⟨d, u, rfl, _⟩ := (list_mem t.2 ht v).1 hv
    exact nil_less d u
theorem riseW_ext : ∀ {x y : List Wd}, RiseW x → RiseW y → (∀ v, v ∈ x ↔ v ∈ y) → x = y
  | [], [], _, _, _ => rfl
  | [], b :: y, _, _, h => absurd ((h b).2 (by simp)) (by simp)
  | a :: x, [], _, _, h => absurd ((h a).1 (by simp)) (by simp)
  | a :: x, b :: y, hx, hy, h => by
    obtain ⟨hx1, hx2⟩ := List.pairwise_cons.1 hx
    obtain ⟨hy1, hy2⟩ := List.pairwise_cons.1 hy
    have hab : a = b := by
      rcases List.mem_cons.1 ((h a).1 (by simp)) with h1 | h1
      · exact h1
      · rcases List.mem_cons.1 ((h b).2 (by simp)) with h2 | h2
        · exact h2.symm
        · have := less_asymm _ _ (hx1 b h2); rw [hy1 a h1] at this; cases this
    subst hab
    rw [riseW_ext hx2 hy2 fun v => ?_]
    constructor
    · intro hv
      rcases List.mem_cons.1 ((h v).1 (List.mem_cons_of_mem _ hv)) with h1 | h1
      · subst h1; have := hx1 v hv; rw [less_irrefl] at this; cases this
      · exact h1
    · intro hv
      rcases List.mem_cons.1 ((h v).2 (List.mem_cons_of_mem _ hv)) with h1 | h1
      · subst h1; have := hy1 v hv; rw [less_irrefl] at this; cases this
      · exact h1
theorem list_words {l : List Wd} (h : RiseW l) : listN (trieW l) = l :=
  riseW_ext (listN_rise _ (trie_rise l)) h fun v => by rw [listN_mem _ (trie_rise l), trie_take]; simp
end Go.Proofs.Ytkcledkfgmdcgaa
