/- A string's iterator beside a row of the call's own. -/
import Derived.Test.YtdhbbknjnbdplaaDoorOwn
import Derived.Lib.OthersKept
namespace Go.Proofs.YtdhbbknjnbdplaaDoor
open Go.RowKit

theorem own_iter {w : World} {base e n k p : Nat} {v : Value} {xs : List Value} {s : ByteArray} (h : w.ownsRow base e 1 v n xs) (hk : w.heap[k]? = some (.stringIter s p)) (p' : Nat) : (w.iterAt k s p').ownsRow base e 1 v n xs := by
  refine ⟨h.1, ?_⟩
  rcases h.2 with hn | ⟨g, cap, cur, hv, hb, hg, rest⟩
  · exact Or.inl hn
  · refine Or.inr ⟨g, cap, cur, hv, hb, ?_, rest⟩
    have hne : g ≠ k := by
      intro e
      rw [e, hk] at hg
      cases hg
    show (w.heap.setIfInBounds k (.stringIter s p'))[g]? = _
    rw [Array.getElem?_setIfInBounds_ne (by omega)]
    exact hg
theorem iter_kept {w w' : World} {base e n k p : Nat} {v : Value} {xs : List Value} {s : ByteArray} (hk : w.heap[k]? = some (.stringIter s p)) (h : w.ownsRow base e 1 v n xs) (hg : w.grownBy w' v.ownBlock) : w'.heap[k]? = some (.stringIter s p) := by
  have hlt : k < w.heap.size := (Array.getElem?_eq_some_iff.1 hk).1
  rw [hg.block k hlt ?_]
  · exact hk
  · intro he
    rcases h.2 with ⟨hn, _⟩ | ⟨g, cap, cur, hv, hb, hgc, rest⟩
    · rw [hn] at he; simp [Value.ownBlock] at he
    · rw [hv] at he
      simp only [Value.ownBlock, Option.some.injEq] at he
      rw [he, hgc] at hk
      cases hk
theorem iter_alloc {w : World} {k p : Nat} {s : ByteArray} (hk : w.heap[k]? = some (.stringIter s p)) (o : Obj) : (w.alloc o).heap[k]? = some (.stringIter s p) := by
  have hlt : k < w.heap.size := (Array.getElem?_eq_some_iff.1 hk).1
  exact (Lib.alloc_old w o k hlt).trans hk
end Go.Proofs.YtdhbbknjnbdplaaDoor
