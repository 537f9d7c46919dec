/- Entries in memory: a word and a count, two cells each. -/
import Derived.Test.YtgnhnhachhfafaaTabMath
import Derived.Test.YtgnhnhachhfafaaCuts
import Derived.Test.YtgnhnhachhfafaaOwn
namespace Go.Proofs.Ytgnhnhachhfafaa
open Go.RowKit
set_option linter.unusedVariables false
set_option linter.unusedSimpArgs false
/-- A word as a value. -/
abbrev strV (k : Wd) : Value := .string ⟨k.toArray⟩
/-- An entry's two cells. -/
def encE (x : En) : List Value := [strV x.1, .int .u64 x.2]
def cellsE (es : List En) : List Value := es.flatMap encE
theorem cells_len (es : List En) : (cellsE es).length = es.length * 2 := by
  induction es with
  | nil => rfl
  | cons a es ih => simp only [cellsE, List.flatMap_cons, List.length_append] at ih ⊢; rw [ih]; simp [encE]; omega
theorem cells_app (es ds : List En) : cellsE (es ++ ds) = cellsE es ++ cellsE ds := List.flatMap_append
theorem cells_at : ∀ {es : List En} {i : Nat} {e : En}, es[i]? = some e → (cellsE es)[i * 2]? = some (strV e.1) ∧ (cellsE es)[i * 2 + 1]? = some (.int .u64 e.2)
  | a :: es, 0, e, h => by
    simp only [List.getElem?_cons_zero, Option.some.injEq] at h
    subst h; exact ⟨rfl, rfl⟩
  | a :: es, i + 1, e, h => by
    simp only [List.getElem?_cons_succ] at h
    have := cells_at h
    rw [show (i + 1) * 2 = i * 2 + 1 + 1 by omega]
    exact this
theorem cells_set : ∀ (es : List En) (i : Nat) (e : En) (s : Nat), es[i]? = some e → (cellsE es).set (i * 2 + 1) (.int .u64 s) = cellsE (es.set i (e.1, s))
  | a :: es, 0, e, s, h => by
    simp only [List.getElem?_cons_zero, Option.some.injEq] at h
    subst h; rfl
  | a :: es, i + 1, e, s, h => by
    simp only [List.getElem?_cons_succ] at h
    have := cells_set es i e s h
    rw [show (i + 1) * 2 + 1 = i * 2 + 1 + 1 + 1 by omega]
    show strV a.1 :: .int .u64 a.2 :: (cellsE es).set (i * 2 + 1) _ = _
    rw [this]; rfl
theorem own2_later {w w' : World} {base e n B : Nat} {v : Value} {xs : List Value} (h : w.ownsRow base e 2 v n xs) (hb : Below B w w') (hB : w.heap.size ≤ B) : w'.ownsRow base e 2 v n xs := by
  refine ⟨h.1, ?_⟩
  rcases h.2 with h' | ⟨g, cap, cur, h1, h2, h3, h4⟩
  · exact .inl h'
  · exact .inr ⟨g, cap, cur, h1, h2, (hb.block g (by have := (Array.getElem?_eq_some_iff.1 h3).1; omega)).trans h3, h4⟩
theorem own2_block {w w' : World} {base e n : Nat} {v : Value} {xs : List Value} (h : w.ownsRow base e 2 v n xs) (hb : ∀ k, v.ownBlock = some k → w'.heap[k]? = w.heap[k]?) : w'.ownsRow base e 2 v n xs := by
  refine ⟨h.1, ?_⟩
  rcases h.2 with h' | ⟨g, cap, cur, h1, h2, h3, h4⟩
  · exact .inl h'
  · exact .inr ⟨g, cap, cur, h1, h2, (hb g (by rw [h1]; rfl)).trans h3, h4⟩
theorem own2_type {w : World} {base e n : Nat} {v : Value} {xs : List Value} (h : w.ownsRow base e 2 v n xs) {k : Nat} (hk : v.ownBlock = some k) : ∃ cur, w.heap[k]? = some (.cells cur e (0, 0)) := by
  rcases h.2 with h' | ⟨g, cap, cur, h1, h2, h3, h4⟩
  · rw [h'.1] at hk; cases hk
  · rw [h1] at hk; cases hk; exact ⟨cur, h3⟩
theorem own2_slice {w : World} {base e n : Nat} {v : Value} {xs : List Value} (h : w.ownsRow base e 2 v n xs) : ∃ ao cap, v = .slice ao n cap := by
  rcases h.2 with ⟨h1, h2⟩ | ⟨g, cap, cur, h1, _⟩
  · exact ⟨none, 0, by rw [h1, h2]⟩
  · exact ⟨_, cap, h1⟩
theorem own2_at {w : World} {base : Nat} {v : Value} {es : List En} (h : w.ownsRow base 44 2 v es.length (cellsE es)) (hp : 0 < es.length) :
    ∃ g cap, v = .slice (some ⟨g, 0, none⟩) es.length cap ∧ es.length ≤ cap ∧ cap ≤ maxLen ∧ g < w.heap.size ∧ (∀ i e, es[i]? = some e → w.cell? ⟨g, i * 2, none⟩ = some (strV e.1) ∧ w.cell? ⟨g, i * 2 + 1, none⟩ = some (.int .u64 e.2)) ∧ ∀ i, w.frozen? ⟨g, i, none⟩ = false := by
  rcases h.2 with ⟨h1, h2⟩ | ⟨g, cap, cur, h1, h2, h3, h4, h5, h6, h7⟩
  · omega
  · have hc := h.cells (g := g) (by rw [h1]; rfl)
    refine ⟨g, cap, h1, h4, h5, (Array.getElem?_eq_some_iff.1 h3).1, fun i e he => ?_, fun i => by simp [World.frozen?, h3]⟩
    have h8 := cells_at he
    have h9 := hc _ _ h8.1
    have h10 := hc _ _ h8.2
    simp only [Addr.add_lit, Nat.zero_add] at h9 h10
    exact ⟨h9, h10⟩
theorem own2_most {w : World} {base e n : Nat} {v : Value} {xs : List Value} (h : w.ownsRow base e 2 v n xs) : n ≤ maxLen := by
  rcases h.2 with ⟨h1, h2⟩ | ⟨g, cap, cur, h1, h2, h3, h4, h5, h6, h7⟩
  · omega
  · omega
theorem own2_mono {w : World} {base base' e n : Nat} {v : Value} {xs : List Value} (h : w.ownsRow base e 2 v n xs) (hb : base' ≤ base) : w.ownsRow base' e 2 v n xs := by
  refine ⟨h.1, ?_⟩
  rcases h.2 with h' | ⟨g, cap, cur, h1, h2, h3⟩
  · exact .inl h'
  · exact .inr ⟨g, cap, cur, h1, by omega, h3⟩
theorem Try.infoEn : (Try.prog.info? 44).map (fun i => (i.zero, i.size, i.bytes)) = some (some (.agg #[.string ⟨#[]⟩, .int .u64 0]), 2, 24) := by kernel_rfl
theorem news_one (w : World) (x y : Value) (t : TypeId) : ∀ j u, [x, y][j]? = some u → (w.alloc (.cells #[x, y] t)).cell? ((⟨w.heap.size, 0, none⟩ : Addr).add j) = some u := by
  intro j u hj
  match j, hj with
  | 0, hj => simp at hj; subst hj; simp [Addr.add]
  | 1, hj => simp at hj; subst hj; simp [Addr.add]
theorem own2_set {w : World} {base e g n cap j : Nat} {xs : List Value} (h : w.ownsRow base e 2 (.slice (some ⟨g, 0, none⟩) n cap) n xs) (hj : j < n * 2) (u : Value) : (w.setCell ⟨g, j, none⟩ u).ownsRow base e 2 (.slice (some ⟨g, 0, none⟩) n cap) n (xs.set j u) := by
  refine ⟨by rw [List.length_set]; exact h.1, ?_⟩
  rcases h.2 with ⟨h1, h2⟩ | ⟨g', cap', cur, h1, h2, h3, h4, h5, h6, h7⟩
  · cases h1
  simp only [Value.slice.injEq, Option.some.injEq, Addr.mk.injEq, and_true, true_and] at h1
  obtain ⟨rfl, rfl⟩ := h1
  refine .inr ⟨g, cap, _, rfl, h2, heap_setCell_same w g j cur e u h3, h4, h5, by simp [h6], ?_⟩
  rw [Array.toList_setIfInBounds, List.take_set, h7]
theorem str_list (a : ByteArray) : ∃ k : Wd, a = ⟨k.toArray⟩ := ⟨a.data.toList, by cases a; simp⟩
theorem own2_lit (W : World) (es : List En) (hl : es.length ≤ maxLen) : (W.alloc (.cells (cellsE es).toArray 44)).ownsRow 0 44 2 (.slice (some ⟨W.heap.size, 0, none⟩) es.length es.length) es.length (cellsE es) :=
  ⟨cells_len es, .inr ⟨W.heap.size, es.length, _, rfl, Nat.zero_le _, heap_alloc_new _ _, Nat.le_refl _, hl, by simp [cells_len], by rw [List.take_of_length_le (by rw [List.toList_toArray, cells_len]; exact Nat.le_refl _)]⟩⟩
theorem zero_not {n : Nat} (h : 1 ≤ n) : ((n : Int) == 0) = false := by rw [beq_eq_false_iff_ne]; omega
end Go.Proofs.Ytgnhnhachhfafaa
