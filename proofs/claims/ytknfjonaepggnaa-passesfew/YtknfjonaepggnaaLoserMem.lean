/- Lists of entries in memory: literals of lists, and rows of them turned round. -/
import Derived.Test.YtknfjonaepggnaaLoserRows
import Derived.Test.YtknfjonaepggnaaLoserLaw
namespace Go.Proofs.Ytknfjonaepggnaa
open Go.RowKit
set_option linter.unusedVariables false
set_option linter.unusedSimpArgs false

theorem readsE_nil (w : World) : ReadsE w none 0 0 (cellsE []) := ⟨rfl, Nat.le_refl _, Nat.zero_le _, fun _ => ⟨rfl, rfl⟩, fun a ha => by cases ha⟩
theorem vals_nil (B : Nat) (w : World) : ListVals B w [.slice none 0 0] [[]] := ListVals.one rfl (readsE_nil w) (fun a ha => by cases ha)
/-- An own row, as one list. -/
theorem vals_own {base : Nat} {w : World} {ag : Option Addr} {n c : Nat} {l : List En} (h : w.ownsRow base 64 2 (.slice ag n c) n (cellsE l)) : ListVals w.heap.size w [.slice ag n c] [l] := by
  have hr := ReadsE.own h
  have hc := hr.count
  refine ListVals.one hc.symm hr fun a ha hp => ?_
  obtain ⟨b, off, hao, hlt, _⟩ := hr.at hp
  rw [ha] at hao; cases hao; exact hlt
/-- '[][]T{..}': the literal's block, and its lists. -/
theorem lit_lists {w : World} {vs : List Value} {ls : List (List En)} (h : ListVals w.heap.size w vs ls) (hl : vs.length ≤ 1000000) :
    Reads (w.alloc (.cells vs.toArray 49)) (some ⟨w.heap.size, 0, none⟩) vs.length vs.length vs ∧ ListVals w.heap.size (w.alloc (.cells vs.toArray 49)) vs ls ∧ Grow w (w.alloc (.cells vs.toArray 49)) := by
  have hg : Grow w (w.alloc (.cells vs.toArray 49)) := (Below.refl _ _).alloc (Nat.le_refl _) _
  exact ⟨reads_new w vs _ (by unfold maxLen; omega), h.later hg (Nat.le_refl _), hg⟩
theorem ListVals.reverse {B : Nat} {w : World} {vs : List Value} {ls : List (List En)} (h : ListVals B w vs ls) : ListVals B w vs.reverse ls.reverse :=
  ⟨by simp [h.length], fun i v l hv hl => by
    have h1 := (List.getElem?_eq_some_iff.1 hv).1
    rw [List.length_reverse] at h1
    rw [List.getElem?_reverse h1] at hv
    rw [List.getElem?_reverse (by rw [← h.length]; exact h1), ← h.length] at hl
    exact h.row _ v l hv hl⟩
theorem ListVals.rot {B : Nat} {w : World} {vs : List Value} {ls : List (List En)} (h : ListVals B w vs ls) (k : Nat) : ListVals B w (rotL vs k) (rotL ls k) := ((h.drop k).append (h.take k)).reverse
theorem ListVals.rep {B : Nat} {w : World} {ao : Option Addr} {n c : Nat} {l : List En} (hn : n = l.length) (h : ReadsE w ao n c (cellsE l)) (hB : ∀ a, ao = some a → 0 < n → a.block < B) (m : Nat) : ListVals B w (List.replicate m (.slice ao n c)) (List.replicate m l) :=
  ⟨by simp, fun i v x hv hx => by
    rw [List.getElem?_replicate] at hv hx
    split at hv
    · rename_i hi
      rw [if_pos hi] at hx
      cases hv; cases hx
      subst hn
      exact ⟨ao, c, rfl, h, hB⟩
    · cases hv⟩
end Go.Proofs.Ytknfjonaepggnaa
