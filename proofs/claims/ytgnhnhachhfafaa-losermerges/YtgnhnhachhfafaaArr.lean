/- Whole arrays by value, in blocks of the call's own. -/
import Derived.Test.YtgnhnhachhfafaaBase
import Derived.Deep.MidRow
import Derived.Deep.WholeRow
import Derived.Laws.IdiomStrings
import Derived.Lib.SlBytesConst
namespace Go.Proofs.Ytgnhnhachhfafaa
open Go.RowKit

theorem range_new (w : World) (C : Array Value) (t : TypeId) : (w.alloc (.cells C t)).rangeAt w.heap.size 0 C.toList := by
  have := World.rangeAt_of_block (heap_alloc_last w (.cells C t)) 0 C.size
  simpa using this

theorem there_new (w : World) (C : Array Value) (t : TypeId) : (w.alloc (.cells C t)).there w.heap.size 0 C.size := by
  intro j hj
  refine ⟨?_, ?_⟩
  · rw [World.cell?_alloc_at _ _ _ _ rfl]; simp [hj]
  · rw [World.frozen?_alloc_at _ _ _ _ rfl]

/-- A slice literal. -/
theorem reads_new (W : World) (xs : List Value) (t : TypeId) (h : xs.length ≤ maxLen) : Reads (W.alloc (.cells xs.toArray t)) (some ⟨W.heap.size, 0, none⟩) xs.length xs.length xs :=
  ⟨rfl, Nat.le_refl _, h, fun h => (by cases h), fun a ha j u hu => by
    cases ha
    rw [Addr.add_lit, World.cell?_alloc_at _ _ _ _ rfl]
    simpa using hu⟩

/-- The bytes of a constant text. -/
theorem reads_const (W : World) (xs : List Value) (t : TypeId) (fr : Nat × Nat) (h : xs.length ≤ maxLen) : Reads (W.alloc (.cells xs.toArray t fr)) (some ⟨W.heap.size, 0, none⟩) xs.length xs.length xs :=
  ⟨rfl, Nat.le_refl _, h, fun h => (by cases h), fun a ha j u hu => by
    cases ha
    rw [Addr.add_lit, Nat.zero_add, World.cell?_alloc_mark]
    simpa using hu⟩

theorem Below.setCells' {B : Nat} {a : World} (b : Nat) (hb : B ≤ b) : ∀ (vs : List Value) (o : Nat) (w : World), Below B a w → Below B a (w.setCells b o vs)
  | [], _, _, h => h
  | v :: r, o, w, h => by
    rw [World.setCells]
    exact Below.setCells' b hb r (o + 1) _ (h.setCell hb v)

theorem results_cell_one {fn : Func} {p : Tmp} {ty : TypeId} (h : fn.results = #[.cell p ty]) (tmps : Array Value) (P : Program) (w : World) :
    (results fn tmps).run P w = ((asAddr (tmps.getD p undef)).run P w).andThen fun a w₁ => (loadVar ty a).run P w₁ := by
  simp only [results, h]
  simp [Sem.run_bind, Result.andThen]
end Go.Proofs.Ytgnhnhachhfafaa
