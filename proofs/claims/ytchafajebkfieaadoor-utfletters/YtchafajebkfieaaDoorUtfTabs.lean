/- What the two tables of unicode/utf8 hold in a world; they stay. -/
import Derived.Test.YtchafajebkfieaaDoorCuts
import Derived.Lib.LaidU8T
import Derived.PinnedBridge
namespace Go.Proofs.YtchafajebkfieaaDoor
open Go.RowKit

/-- The tables lie in the world. -/
structure Tabs (w : World) : Prop where
  first : ∀ c, c < 256 → w.cell? ⟨0, c, none⟩ = some (.int .u8 (Lib.firstT c))
  acc : ∀ i, i < 16 → w.cell? ⟨1, 2 * i, none⟩ = some (.int .u8 (Lib.accLo i)) ∧ w.cell? ⟨1, 2 * i + 1, none⟩ = some (.int .u8 (Lib.accHi i))

theorem Tabs.later {w w' : World} {B : Nat} (h : Tabs w) (hb : Below B w w') (hB : w.heap.size ≤ B) : Tabs w' :=
  ⟨fun c hc => by
    have := h.first c hc
    have hlt := World.block_lt_of_cell? w _ this
    rw [hb.cell (by simp only at hlt ⊢; omega)]; exact this,
   fun i hi => by
    obtain ⟨h1, h2⟩ := h.acc i hi
    have hlt := World.block_lt_of_cell? w _ h1
    exact ⟨by rw [hb.cell (by simp only at hlt ⊢; omega)]; exact h1, by rw [hb.cell (by simp only at hlt ⊢; omega)]; exact h2⟩⟩
theorem Tabs.grow {w w' : World} (hb : Below w.heap.size w w') (h : Tabs w) : Tabs w' := h.later hb (Nat.le_refl _)

def tabRen : Shelf.Ren := ⟨fun x => x, fun x => if x = 5 then 5 else if x = 119 then 43 else if x = 138 then 45 else 46, fun x => if x = 3 then 0 else 1⟩
theorem tabTypes : U8Types Tryd.prog tabRen := ⟨by kernel_rfl, by kernel_rfl, by kernel_rfl, by kernel_rfl⟩
theorem tabExtra : U8Extra Tryd.prog tabRen := ⟨by kernel_rfl, by kernel_rfl, by kernel_rfl, by kernel_rfl, by kernel_rfl, by kernel_rfl, by kernel_rfl⟩
theorem accept_eq : (Rows.laid_unicode_utf8_acceptRanges : DataW Unit) = Lib.acceptData := by kernel_rfl
theorem first_eq : Rows.laid_unicode_utf8_first = Lib.firstData := Pinned.utf8First_eq

def tabLaid : List (String × DataW Unit) := [("unicode/utf8.acceptRanges", Rows.laid_unicode_utf8_acceptRanges), ("unicode/utf8.first", Rows.laid_unicode_utf8_first)]
theorem tabs_of {w : World} (h : laidMet Tryd.prog tabLaid w) : Tabs w := by
  have h1 := Lib.laidMet.reads h (n := "unicode/utf8.acceptRanges") (.head _)
  have h2 := Lib.laidMet.reads h (n := "unicode/utf8.first") (.tail _ (.head _))
  rw [accept_eq] at h1
  rw [first_eq] at h2
  have := utf8Tabs_of_readsT tabTypes tabExtra h2 h1
  exact ⟨this.1, this.2⟩
#print axioms tabs_of
end Go.Proofs.YtchafajebkfieaaDoor
