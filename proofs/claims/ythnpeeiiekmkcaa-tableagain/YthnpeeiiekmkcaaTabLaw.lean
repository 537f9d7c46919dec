/- What the statements' walks want: a list beside a table. -/
import Derived.Test.YthnpeeiiekmkcaaShown08
import Derived.Test.YthnpeeiiekmkcaaRef08Add
import Derived.Test.YthnpeeiiekmkcaaOpen08
namespace Go.Proofs.Ythnpeeiiekmkcaa
open Go.RowKit
set_option linter.unusedVariables false
set_option linter.unusedSimpArgs false

/-- A list's block is not the table's row. -/
def OffT (u v : Value) : Prop := ∀ k, u.ownBlock = some k → v.ownBlock ≠ some k
theorem OffT.nil (v : Value) : OffT (.slice none 0 0) v := fun k h => by cases h
theorem own2_turned {base B n : Nat} {w w' : World} {b bm : Nat} {v v' u : Value} {room : Nat} {es : List En} {xs : List Value} (hx : w.ownsRow B 44 2 u n xs) (h : TabAt base w b bm v room es) (ht : Turned w w' b bm v v') (ho : OffT u v) : w'.ownsRow B 44 2 u n xs := by
  obtain ⟨ys, c, hm⟩ := places_blk h.map
  refine own2_block hx fun k hk => ?_
  obtain ⟨cur, hc⟩ := own2_type hx hk
  refine ht.block k (Array.getElem?_eq_some_iff.1 hc).1 (fun e => ?_) (fun e => ?_) (ho k hk)
  · have := h.blk; rw [← e, hc] at this; simp at this
  · rw [e, hm] at hc; cases hc
theorem off_turned {B n : Nat} {w w' : World} {b bm : Nat} {v v' u : Value} {xs : List Value} (hx : w.ownsRow B 44 2 u n xs) (ht : Turned w w' b bm v v') (ho : OffT u v) : OffT u v' := fun k hk e => by
  have hl := (hx.lt k hk).2
  rcases ht.own with h | h | ⟨j, h, hj⟩
  · rw [h] at e; cases e
  · rw [h] at e; exact ho k hk e
  · rw [h] at e; cases e; omega
theorem off_young {w : World} {base : Nat} {b bm : Nat} {v u : Value} {room : Nat} {es : List En} (h : TabAt base w b bm v room es) (hy : YoungV w.heap.size u) : OffT u v := fun k hk e => by
  have := hy k hk
  have := h.rowlt e
  omega
theorem blk_two {w : World} {b : Nat} {x y z : Value} {t : TypeId} (h : w.heap[b]? = some (.cells #[x, y, z] t (0, 0))) : w.cell? ⟨b, 2, none⟩ = some z := by simp [World.cell?, h]
theorem OffT.symm {u v : Value} (h : OffT u v) : OffT v u := fun k hk e => h k e hk
/-- A table's new row is off another table's row. -/
theorem off_own {base : Nat} {w w' : World} {b bm b' bm' : Nat} {v v' u : Value} {room : Nat} {es : List En} (h : TabAt base w b' bm' u room es) (ht : Turned w w' b bm v v') (ho : OffT v u) : OffT v' u := fun k hk e => by
  have hl := h.rowlt e
  rcases ht.own with h | h | ⟨j, h, hj⟩
  · rw [h] at hk; cases hk
  · rw [h] at hk; exact ho k hk e
  · rw [h] at hk; cases hk; omega
theorem getE_le {room : Nat} {es : List En} (h : TabE room es) (k : Wd) : getE es k ≤ 4611686018427387904 := by
  rcases Nat.eq_zero_or_pos (getE es k) with h0 | h0
  · omega
  · exact (h.pos _ (get_pos h0)).2
end Go.Proofs.Ythnpeeiiekmkcaa
