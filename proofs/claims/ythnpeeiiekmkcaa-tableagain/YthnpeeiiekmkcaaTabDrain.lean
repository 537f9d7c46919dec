/- table.Drain: the entries, sorted; the table has none then. -/
import Derived.Test.YthnpeeiiekmkcaaTabGet
import Derived.Test.YthnpeeiiekmkcaaTabShelf
namespace Go.Proofs.Ythnpeeiiekmkcaa
open Go.RowKit Go.Shelf
set_option linter.unusedVariables false
set_option linter.unusedSimpArgs false

theorem less_ntrans (x y z : Wd) (h : lessB x y = false) (k : lessB y z = false) : lessB x z = false := by
  cases e : lessB x z with
  | false => rfl
  | true =>
    cases e2 : lessB y x with
    | true => rw [less_trans _ _ _ e2 e] at k; cases k
    | false => rw [less_tri _ _ h e2] at e; rw [e] at k; cases k
theorem lt_cmp (x y : En) : ltOf (fun x y : En => Lib.compareBytes x.1 y.1) x y = lessB x.1 y.1 := cmp_less x.1 y.1
theorem tswo : Sort.SWO (ltOf fun x y : En => Lib.compareBytes x.1 y.1) where
  irrefl x := by rw [lt_cmp]; exact less_irrefl _
  trans x y z h1 h2 := by rw [lt_cmp] at *; exact less_trans _ _ _ h1 h2
  ntrans x y z h1 h2 := by rw [lt_cmp] at *; exact less_ntrans _ _ _ h1 h2

set_option maxHeartbeats 1000000 in
/-- The closure: words compared. Two blocks are laid. -/
theorem tdrain1 (x y : En) (W : World) : Calls Try.prog 19 #[.agg #[strV x.1, .int .u64 x.2], .agg #[strV y.1, .int .u64 y.2]] W fun e w' => e = .returned (.int .i64 (Lib.compareBytes x.1 y.1)) ∧ ∃ q os', w' = Sort.grow (W.drewN q) os' := by
  have hcon : ∀ W', Calls Try.prog 20 #[strV x.1, strV y.1] W' fun e w' => e = .returned (.int .i64 (Lib.compareBytes x.1 y.1)) ∧ w' = W' := fun W' => Any.strings_Compare tcmp ⟨x.1.toArray⟩ ⟨y.1.toArray⟩ W'
  generalize Lib.compareBytes x.1 y.1 = r at hcon ⊢
  go_enter Try.func19, Try.ntmps19
  go_wp2_with (go_at_call 20; refine (hcon _).mono ?_; rintro e w' ⟨rfl, rfl⟩)
  go_ret
  exact ⟨rfl, 0, _, by rw [Sort.alloc_eq_grow, Sort.alloc_eq_grow, Sort.grow_grow]; rfl⟩

theorem flat_cells (es : List En) : Sort.flatK encE 2 es.toArray = (cellsE es).toArray := by
  refine Sort.ext_get! (by simp [cells_len]) fun t ht => ?_
  rw [Sort.size_flatK] at ht
  rw [Sort.get_flatK _ _ _ _ ht]
  have hl : t / 2 < es.length := by simp at ht; omega
  have he : es[t / 2]? = some es[t / 2] := List.getElem?_eq_getElem hl
  have h1 : es.toArray[t / 2]! = es[t / 2] := by simp [hl]
  rw [h1]
  have hc := cells_at he
  have h2 : t % 2 = 0 ∨ t % 2 = 1 := by omega
  have hb : ∀ {v : Value}, (cellsE es)[t]? = some v → (cellsE es).toArray[t]! = v := fun {v} h => by
    rw [getElem!_def]; simp [h]
  rcases h2 with h2 | h2
  · rw [h2, hb (v := strV es[t / 2].1) (by rw [← hc.1]; congr 1; omega)]; rfl
  · rw [h2, hb (v := .int .u64 es[t / 2].2) (by rw [← hc.2]; congr 1; omega)]; rfl
theorem holds_cells {w : World} {g : Nat} {cur : Array Value} {e : TypeId} {es : List En} (hb : w.heap[g]? = some (.cells cur e (0, 0))) (ht : cur.toList.take (es.length * 2) = cellsE es) : Sort.HoldsK encE 2 w g 0 es.toArray := by
  unfold Sort.HoldsK
  rw [flat_cells]
  intro j hj
  have hj' : j < es.length * 2 := by simpa [cells_len] using hj
  refine ⟨?_, by simp [World.frozen?, hb]⟩
  have h1 : (cur.toList.take (es.length * 2))[j]? = (cellsE es)[j]? := by rw [ht]
  rw [List.getElem?_take_of_lt hj'] at h1
  have h3 : j < (cellsE es).length := by rw [cells_len]; exact hj'
  simp only [World.cell?, hb, Nat.zero_add]
  simp only [Option.isSome_none, Bool.false_eq_true, if_false]
  rw [← Array.getElem?_toList, h1]
  simp [h3]
theorem heap_sortedE {w : World} {g n : Nat} {os : Array Obj} {cur : Array Value} {e : TypeId} {fr : Nat × Nat} (d : Array En) (hb : w.heap[g]? = some (.cells cur e fr)) :
    (sortWorldK encE 2 w g 0 n d os).heap[g]? = some (.cells (Sort.putCells id 0 (Sort.flatK encE 2 d) cur) e fr) := by
  have hg : g < w.heap.size := (Array.getElem?_eq_some_iff.1 hb).1
  unfold sortWorldK
  rw [Sort.heap_grow_old _ _ (by simpa [Sort.putRowK] using hg)]
  simp [Sort.putRowK, Sort.putRow, Sort.mapBlock, Sort.ahead, Array.getElem?_modify, hb, Sort.onCells]
theorem grown_sortedE {w : World} {g n : Nat} {os : Array Obj} (d : Array En) : w.grownBy (sortWorldK encE 2 w g 0 n d os) (some g) := by
  unfold sortWorldK
  refine ⟨rfl, rfl, rfl, by simp [Sort.putRowK], fun k hk hne => ?_⟩
  rw [Sort.heap_grow_old _ _ (by simpa [Sort.putRowK] using hk)]
  have : g ≠ k := fun e => hne (by rw [e])
  simp [Sort.putRowK, Sort.putRow, Sort.mapBlock, Sort.ahead, Array.getElem?_modify, this]
theorem take_cellsE (cur : Array Value) (ds : List En) (h : ds.length * 2 ≤ cur.size) : (Sort.putCells id 0 (cellsE ds).toArray cur).toList.take (ds.length * 2) = cellsE ds := by
  apply List.ext_getElem?
  intro j
  by_cases hj : j < ds.length * 2
  · rw [List.getElem?_take_of_lt hj, Array.getElem?_toList]
    have h3 : j < (cellsE ds).length := by rw [cells_len]; exact hj
    simp [Sort.putCells, h3, show j < cur.size by omega]
  · rw [List.getElem?_take_eq_none (by omega), List.getElem?_eq_none (by rw [cells_len]; omega)]

/-- The sort, over a row of entries. -/
theorem tsort_any {w : World} {base g cap : Nat} {es : List En} (h : w.ownsRow base 44 2 (.slice (some ⟨g, 0, none⟩) es.length cap) es.length (cellsE es)) (hl : es.length ≤ 65536) :
    Calls Try.prog 18 #[.slice (some ⟨g, 0, none⟩) es.length cap, .func (.func 19) #[] #[]] w fun e w' => e = .returned (.tuple #[]) ∧ ∃ d : List En, d.Perm es ∧ (d.Pairwise fun a b => lessB b.1 a.1 = false) ∧
      w'.ownsRow base 44 2 (.slice (some ⟨g, 0, none⟩) es.length cap) es.length (cellsE d) ∧ w.grownBy w' (some g) := by
  rcases h.2 with ⟨h1, h2⟩ | ⟨g', cap', cur, h1, h2, h3, h4, h5, h6, h7⟩
  · cases h1
  simp only [Value.slice.injEq, Option.some.injEq, Addr.mk.injEq, and_true, true_and] at h1
  obtain ⟨rfl, rfl⟩ := h1
  have eg : ∀ args w, (callFunc 19 args).run Try.prog w = .ok (.enter 19 args) w := enters_of Try.func19 (by kernel_rfl) rfl
  have hcmp : CmpLays Try.prog 19 #[] encE 2 (fun x y : En => Lib.compareBytes x.1 y.1) g 0 es.toArray.size w := fun _ _ _ _ x y => tdrain1 x y _
  have hcon := AnyQ.slices_SortFunc tsort 2 Try.isAgg44 Try.sizeOf44 encE (fun _ => rfl) (fun x v hv => by simp [encE] at hv; rcases hv with rfl | rfl <;> rfl) (fun x y : En => Lib.compareBytes x.1 y.1) tswo 19 #[] g 0 cap es.toArray w eg hcmp (holds_cells h3 h7) (Array.getElem?_eq_some_iff.1 h3).1 (by simp; omega)
  have hsz : es.toArray.size = es.length := by simp
  rw [hsz] at hcon
  refine Calls.mono (show Calls Try.prog 18 #[.slice (some ⟨g, 0, none⟩) es.length cap, .func (.func 19) #[] #[]] w _ from hcon) ?_
  rintro e w' ⟨rfl, d', n, os, hp, hs, rfl⟩
  have hds : d'.size = es.length := by have := hp.1; simpa using this
  have hl2 : d'.toList.length = es.length := by simpa using hds
  refine ⟨rfl, d'.toList, ?_, ?_, ⟨by rw [cells_len, hl2], .inr ⟨g, cap, _, rfl, h2, heap_sortedE _ h3, h4, h5, by simp [Sort.putCells, h6], ?_⟩⟩, grown_sortedE _⟩
  · have := hp.2.2
    rw [show d'.extract 0 es.length = d' by rw [← hds]; simp, show es.toArray.extract 0 es.length = es.toArray by simp] at this
    simpa using this
  · rw [List.pairwise_iff_getElem]
    intro i j hi hj hij
    have := hs i j (Nat.zero_le _) hij (by simp at hj; omega)
    rw [lt_cmp] at this
    simp at hi hj
    simpa [hi, hj] using this
  · have := take_cellsE cur d'.toList (by rw [hl2, h6]; omega)
    rw [← flat_cells, hl2] at this
    simpa using this
#print axioms tsort_any
theorem tsort_none (p : Option Addr) (cap : Nat) (w : World) : Calls Try.prog 18 #[.slice p 0 cap, .func (.func 19) #[] #[]] w fun e w' => e = .returned (.tuple #[]) ∧ w' = w :=
  AnyF.slices_SortFunc_none tsort p cap _ w
end Go.Proofs.Ythnpeeiiekmkcaa
