/- What an append onto an own row keeps: all blocks of other elements' types. -/
import Derived.Test.YtkcledkfgmdcgaaFound
namespace Go.Proofs.Ytkcledkfgmdcgaa
open Go.RowKit
set_option linter.unusedVariables false
set_option linter.unusedSimpArgs false

theorem own_type {w : World} {base e n b t : Nat} {v : Value} {xs : List Value} {cs : Array Value} {fr : Nat × Nat} (h : w.ownsRow base e 1 v n xs) (hb : w.heap[b]? = some (.cells cs t fr)) (ht : e ≠ t) : v.ownBlock ≠ some b := fun hv => by
  rcases h.2 with ⟨rfl, _⟩ | ⟨g, cap, cur, rfl, _, hg, _⟩
  · simp [Value.ownBlock] at hv
  · simp only [Value.ownBlock, Option.some.injEq] at hv
    subst hv
    rw [hb] at hg
    simp at hg
    exact ht hg.2.1.symm

/-- All blocks but those of one element's type are as they were. -/
structure KeptBut (e : TypeId) (w w' : World) : Prop where
  size : w.heap.size ≤ w'.heap.size
  kept : ∀ (k : Nat) (cs : Array Value) (t : TypeId) (fr : Nat × Nat), w.heap[k]? = some (Obj.cells cs t fr) → t ≠ e → w'.heap[k]? = some (Obj.cells cs t fr)
theorem KeptBut.refl (e : TypeId) (w : World) : KeptBut e w w := ⟨Nat.le_refl _, fun _ _ _ _ h _ => h⟩
theorem KeptBut.trans {e : TypeId} {a b c : World} (h : KeptBut e a b) (k : KeptBut e b c) : KeptBut e a c := ⟨Nat.le_trans h.size k.size, fun i cs t fr hi ht => k.kept i cs t fr (h.kept i cs t fr hi ht) ht⟩
theorem KeptBut.below {e : TypeId} {w w' : World} (h : Below w.heap.size w w') : KeptBut e w w' := ⟨h.size, fun k cs t fr hk _ => by rw [h.block k (lt_of_block hk)]; exact hk⟩
theorem KeptBut.grown {e base n : Nat} {w w' : World} {v : Value} {xs : List Value} (h : w.ownsRow base e 1 v n xs) (hg : w.grownBy w' v.ownBlock) : KeptBut e w w' :=
  ⟨hg.size, fun k cs t fr hk ht => by rw [hg.block k (lt_of_block hk) (fun he => own_type h hk (Ne.symm ht) he.symm)]; exact hk⟩
theorem KeptBut.setCell {e : TypeId} {w w' : World} (h : KeptBut e w w') {a : Addr} (ha : w.heap.size ≤ a.block) (u : Value) : KeptBut e w (w'.setCell a u) :=
  ⟨by simpa using h.size, fun k cs t fr hk ht => by rw [Below.heap_setCell _ _ _ _ (by have := lt_of_block hk; omega)]; exact h.kept k cs t fr hk ht⟩
theorem own_kept {e base t n : Nat} {w w' : World} {v : Value} {xs : List Value} (h : w.ownsRow base t 1 v n xs) (hk : KeptBut e w w') (ht : t ≠ e) : w'.ownsRow base t 1 v n xs := by
  refine ⟨h.1, ?_⟩
  rcases h.2 with hn | ⟨g, cap, cur, hv, hb, hg, r⟩
  · exact .inl hn
  · exact .inr ⟨g, cap, cur, hv, hb, hk.kept _ _ _ _ hg ht, r⟩
/-- Cells of a row of values. -/
theorem Reads.at15 {w : World} {ao : Option Addr} {len cap : Nat} {vs : List Value} (h : Reads w ao len cap vs) (hp : 0 < len) :
    ∃ b off, ao = some ⟨b, off, none⟩ ∧ b < w.heap.size ∧ ∀ (j : Nat) v, vs[j]? = some v → w.cell? ⟨b, off + j, none⟩ = some v := by
  have hl := h.length
  cases ao with
  | none => have := h.bare rfl; omega
  | some a =>
    obtain ⟨b, off, rfl⟩ := h.plain hp
    refine ⟨b, off, rfl, ?_, fun j v hv => ?_⟩
    · have := World.block_lt_of_cell? w _ (h.cell _ rfl 0 vs[0] (List.getElem?_eq_getElem (by omega)))
      simpa [Addr.add_lit] using this
    · have := h.cell _ rfl j v hv
      simpa [Addr.add_lit] using this
end Go.Proofs.Ytkcledkfgmdcgaa
