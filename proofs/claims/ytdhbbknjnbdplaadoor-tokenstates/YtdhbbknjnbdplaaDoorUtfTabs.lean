/- What the tables of unicode/utf8 and of package fold hold in a world; they stay. -/
import Derived.Test.YtdhbbknjnbdplaaDoorCuts
import Derived.Test.YtdhbbknjnbdplaaDoorFoldMath
import Derived.Lib.LaidU8T
import Derived.PinnedBridge
import Derived.Lib.LaidU8
import Derived.Deep.MidRow
namespace Go.Proofs.YtdhbbknjnbdplaaDoor
open Go.RowKit Go.Lib

def letterRows : List (List Int) := [[65, 90], [97, 122], [192, 214], [216, 246], [248, 383], [913, 929], [931, 974], [1024, 1119]]
def greatRows : List (List Int) := [[65, 90, 1, 32], [192, 214, 1, 32], [216, 222, 1, 32], [256, 302, 2, 1], [306, 310, 2, 1], [313, 327, 2, 1], [330, 374, 2, 1], [376, 376, 1, -121], [377, 381, 2, 1], [913, 929, 1, 32], [931, 939, 1, 32], [962, 962, 1, 1], [1024, 1039, 1, 80], [1040, 1071, 1, 32]]
def cellsR (l : List (List Int)) : List Value := l.flatten.map (.int .i32)
def dataR (l : List (List Int)) : DataW Unit := .agg (l.map fun r => .agg (r.map fun z => .lit (.int .i32 z)))

/-- The tables lie in the world. -/
structure Tabs (w : World) : Prop where
  first : ∀ c, c < 256 → w.cell? ⟨0, c, none⟩ = some (.int .u8 (Lib.firstT c))
  acc : ∀ i, i < 16 → w.cell? ⟨1, 2 * i, none⟩ = some (.int .u8 (Lib.accLo i)) ∧ w.cell? ⟨1, 2 * i + 1, none⟩ = some (.int .u8 (Lib.accHi i))
  letters : w.rangeAt 2 0 (cellsR letterRows)
  greats : w.rangeAt 3 0 (cellsR greatRows)

theorem range_later {w w' : World} {B b o : Nat} {cs : List Value} (h : w.rangeAt b o cs) (hb : Below B w w') (hB : w.heap.size ≤ B) : w'.rangeAt b o cs := fun j v hv => by
  have h1 := h j v hv
  have hlt := World.block_lt_of_cell? w _ h1
  rw [hb.cell (by simp only at hlt ⊢; omega)]; exact h1
theorem Tabs.later {w w' : World} {B : Nat} (h : Tabs w) (hb : Below B w w') (hB : w.heap.size ≤ B) : Tabs w' :=
  ⟨fun c hc => by
    have := h.first c hc
    have hlt := World.block_lt_of_cell? w _ this
    rw [hb.cell (by simp only at hlt ⊢; omega)]; exact this,
   fun i hi => by
    obtain ⟨h1, h2⟩ := h.acc i hi
    have hlt := World.block_lt_of_cell? w _ h1
    exact ⟨by rw [hb.cell (by simp only at hlt ⊢; omega)]; exact h1, by rw [hb.cell (by simp only at hlt ⊢; omega)]; exact h2⟩, range_later h.letters hb hB, range_later h.greats hb hB⟩
theorem Tabs.grow {w w' : World} (hb : Below w.heap.size w w') (h : Tabs w) : Tabs w' := h.later hb (Nat.le_refl _)

def tabRen : Shelf.Ren := ⟨fun x => x, fun x => if x = 5 then 5 else if x = 119 then 85 else if x = 138 then 87 else 88, fun x => if x = 3 then 0 else 1⟩
theorem tabTypes : U8Types Tryd.prog tabRen := ⟨by kernel_rfl, by kernel_rfl, by kernel_rfl, by kernel_rfl⟩
theorem tabExtra : U8Extra Tryd.prog tabRen := ⟨by kernel_rfl, by kernel_rfl, by kernel_rfl, by kernel_rfl, by kernel_rfl, by kernel_rfl, by kernel_rfl⟩
theorem accept_eq : (Rows.laid_unicode_utf8_acceptRanges : DataW Unit) = Lib.acceptData := by kernel_rfl
theorem first_eq : Rows.laid_unicode_utf8_first = Lib.firstData := Pinned.utf8First_eq

/-- An array of structs of integers: its cells. -/
theorem rows_cells {P : Program} {w : World} {n : String} {g : Nat} {t e : TypeId} {fs : Array Field} (l : List (List Int)) (m : Nat)
    (hn : P.globalNamed n = some g) (hy : (P.globals[g]?).map (·.type) = some t) (ht : P.underlying t = some (.array l.length e)) (he : P.underlying e = some (.struct fs))
    (hf : ∀ (i : Nat) (f : Field), fs[i]? = some f → P.underlying f.type = some (.int .i32) ∧ f.offset = i ∧ P.cellsOf f.type = 1) (hs : fs.size = m) (hc : P.cellsOf e = m) (hm : 0 < m)
    (hflat : ∀ j, j < l.length * m → l.flatten[j]? = (l.getD (j / m) [])[j % m]?) (hlen : l.flatten.length = l.length * m)
    (h : VarReads P w n (dataR l)) : w.rangeAt g 0 (cellsR l) := by
  obtain ⟨g', t', cs, fuel, p, hg, hty, hvar, hd⟩ := h
  obtain rfl := Option.some.inj (hn.symm.trans hg)
  obtain rfl := Option.some.inj (hy.symm.trans hty)
  intro j v hv
  have hj : j < l.length * m := by
    have := (List.getElem?_eq_some_iff.1 hv).1
    rw [cellsR, List.length_map, hlen] at this
    exact this
  have hi : j / m < l.length := (Nat.div_lt_iff_lt_mul hm).2 hj
  obtain ⟨fuel', d, q, hdi, he'⟩ := array_elem ht hd (j / m) hi
  have hd' : d = .agg ((l.getD (j / m) []).map fun z => .lit (.int .i32 z)) := by
    simp only [List.getElem?_map, List.getElem?_eq_getElem hi, Option.map_some, Option.some.injEq] at hdi
    rw [← hdi, List.getD, List.getElem?_eq_getElem hi]; rfl
  subst hd'
  have hcs := ints_of_struct he hf (by rw [hc, hs]) he'
  have e0 := congrArg (·[j % m]?) hcs
  rw [hc] at e0
  simp only [List.getElem?_take, List.getElem?_drop, Nat.mod_lt _ hm, if_true, List.getElem?_map] at e0
  rw [Nat.zero_add, World.var?_cell hg hvar j, ← Array.getElem?_toList]
  have e1 : j / m * m + j % m = j := by rw [Nat.mul_comm]; exact Nat.div_add_mod j m
  rw [e1] at e0
  rw [cellsR, List.getElem?_map] at hv
  rw [e0, ← hflat j hj]
  exact hv


theorem foldTabs_of {w : World} (h1 : VarReads Tryd.prog w "mantelet/fold.letterSpans" Rows.laid_mantelet_fold_letterSpans) (h2 : VarReads Tryd.prog w "mantelet/fold.greatSpans" Rows.laid_mantelet_fold_greatSpans) :
    w.rangeAt 2 0 (cellsR letterRows) ∧ w.rangeAt 3 0 (cellsR greatRows) := by
  rw [show Rows.laid_mantelet_fold_letterSpans = dataR letterRows by rfl] at h1
  rw [show Rows.laid_mantelet_fold_greatSpans = dataR greatRows by rfl] at h2
  refine ⟨rows_cells letterRows 2 (t := 94) (e := 93) (by kernel_rfl) (by kernel_rfl) Tryd.underlying94 Tryd.underlying93 ?_ rfl (by kernel_rfl) (by decide) (by decide) (by decide) h1, rows_cells greatRows 4 (t := 97) (e := 96) (by kernel_rfl) (by kernel_rfl) Tryd.underlying97 Tryd.underlying96 ?_ rfl (by kernel_rfl) (by decide) (by decide) (by decide) h2⟩
  · intro i f hi
    match i, hi with
    | 0, hi => simp at hi; subst hi; exact ⟨Tryd.underlying21, rfl, by kernel_rfl⟩
    | 1, hi => simp at hi; subst hi; exact ⟨Tryd.underlying21, rfl, by kernel_rfl⟩
    | i + 2, hi => simp at hi
  · intro i f hi
    match i, hi with
    | 0, hi => simp at hi; subst hi; exact ⟨Tryd.underlying21, rfl, by kernel_rfl⟩
    | 1, hi => simp at hi; subst hi; exact ⟨Tryd.underlying21, rfl, by kernel_rfl⟩
    | 2, hi => simp at hi; subst hi; exact ⟨Tryd.underlying21, rfl, by kernel_rfl⟩
    | 3, hi => simp at hi; subst hi; exact ⟨Tryd.underlying21, rfl, by kernel_rfl⟩
    | i + 4, hi => simp at hi

def tabLaid : List (String × DataW Unit) := [("unicode/utf8.acceptRanges", Rows.laid_unicode_utf8_acceptRanges), ("mantelet/fold.letterSpans", Rows.laid_mantelet_fold_letterSpans), ("mantelet/fold.greatSpans", Rows.laid_mantelet_fold_greatSpans), ("unicode/utf8.first", Rows.laid_unicode_utf8_first)]
theorem tabs_of {w : World} (h : laidMet Tryd.prog tabLaid w) : Tabs w := by
  have h1 := Lib.laidMet.reads h (n := "unicode/utf8.acceptRanges") (.head _)
  have h2 := Lib.laidMet.reads h (n := "unicode/utf8.first") (.tail _ (.tail _ (.tail _ (.head _))))
  have h3 := Lib.laidMet.reads h (n := "mantelet/fold.letterSpans") (.tail _ (.head _))
  have h4 := Lib.laidMet.reads h (n := "mantelet/fold.greatSpans") (.tail _ (.tail _ (.head _)))
  rw [accept_eq] at h1
  rw [first_eq] at h2
  have hu := utf8Tabs_of_readsT tabTypes tabExtra h2 h1
  have hf := foldTabs_of h3 h4
  exact ⟨hu.1, hu.2, hf.1, hf.2⟩
#print axioms tabs_of
end Go.Proofs.YtdhbbknjnbdplaaDoor
