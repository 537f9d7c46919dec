/- table.New, Get and Len. -/
import Derived.Test.YthnpeeiiekmkcaaTabAt
namespace Go.Proofs.Ythnpeeiiekmkcaa
open Go.RowKit
set_option linter.unusedVariables false
set_option linter.unusedSimpArgs false

theorem TabAt.cell0 {base : Nat} {w : World} {b bm : Nat} {v : Value} {room : Nat} {es : List En} (h : TabAt base w b bm v room es) : w.cell? ⟨b, 0, none⟩ = some (.int .i64 room) := by simp [World.cell?, h.blk]
theorem TabAt.cell1 {base : Nat} {w : World} {b bm : Nat} {v : Value} {room : Nat} {es : List En} (h : TabAt base w b bm v room es) : w.cell? ⟨b, 1, none⟩ = some v := by simp [World.cell?, h.blk]
theorem TabAt.cell2 {base : Nat} {w : World} {b bm : Nat} {v : Value} {room : Nat} {es : List En} (h : TabAt base w b bm v room es) : w.cell? ⟨b, 2, none⟩ = some (.map (some bm)) := by simp [World.cell?, h.blk]
theorem TabAt.frozen {base : Nat} {w : World} {b bm : Nat} {v : Value} {room : Nat} {es : List En} (h : TabAt base w b bm v room es) (i : Nat) : w.frozen? ⟨b, i, none⟩ = false := by simp [World.frozen?, h.blk]
/-- The row's shape, where there is an entry. -/
theorem TabAt.rowAt {base : Nat} {w : World} {b bm : Nat} {v : Value} {room : Nat} {es : List En} (h : TabAt base w b bm v room es) (hp : 0 < es.length) :
    ∃ g cap, v = .slice (some ⟨g, 0, none⟩) es.length cap ∧ es.length ≤ cap ∧ cap ≤ maxLen ∧ (∀ i e, es[i]? = some e → w.cell? ⟨g, i * 2, none⟩ = some (strV e.1) ∧ w.cell? ⟨g, i * 2 + 1, none⟩ = some (.int .u64 e.2)) ∧ ∀ i, w.frozen? ⟨g, i, none⟩ = false := by
  rcases h.row.2 with ⟨h1, h2⟩ | ⟨g, cap, cur, h1, h2, h3, h4, h5, h6, h7⟩
  · omega
  · have hc := h.row.cells (g := g) (by rw [h1]; rfl)
    refine ⟨g, cap, h1, h4, h5, fun i e he => ?_, fun i => by simp [World.frozen?, h3]⟩
    have h8 := cells_at he
    have h9 := hc _ _ h8.1
    have h10 := hc _ _ h8.2
    simp only [Addr.add_lit, Nat.zero_add] at h9 h10
    exact ⟨h9, h10⟩

set_option maxRecDepth 100000 in
set_option maxHeartbeats 2000000 in
theorem tabget_nil (k : Wd) (w : World) : Calls Try.prog 15 #[.pointer none, strV k] w fun e w' => e = .returned (.int .u64 0) ∧ w' = w := by
  go_enter Try.func15, Try.ntmps15
  go_wp2
  go_ret
  exact ⟨rfl, rfl⟩

set_option maxRecDepth 100000 in
set_option maxHeartbeats 2000000 in
theorem tabget_any {base : Nat} {w : World} {b bm : Nat} {v : Value} {room : Nat} {es : List En} (h : TabAt base w b bm v room es) (k : Wd) (hl : k.length ≤ 140737488355328) :
    Calls Try.prog 15 #[.pointer (some ⟨b, 0, none⟩), strV k] w fun e w' => e = .returned (.int .u64 (getE es k : Nat)) ∧ w' = w := by
  have c2 := h.cell2
  have c1 := h.cell1
  have hml : k.length ≤ maxLen := by unfold maxLen; omega
  by_cases hk : ∃ e ∈ es, e.1 = k
  · obtain ⟨e, he, rfl⟩ := hk
    obtain ⟨i, hi, hie⟩ := List.getElem_of_mem he
    have hie' : es[i]? = some e := by rw [List.getElem?_eq_getElem hi, hie]
    have hrun := places_in h.map hie' hml
    have hg := get_at h.tab.keys hie'
    obtain ⟨g, cap, rfl, hcap, hm, hc, hf⟩ := h.rowAt (by omega)
    have hcc := (hc i e hie').2
    have hii : (i : Int) < es.length := by omega
    have hi0 : (0 : Int) ≤ i := by omega
    rw [hg]
    clear hie hie' hg h hc hf he
    go_enter Try.func15, Try.ntmps15
    go_wp2
    go_ret
    exact ⟨rfl, rfl⟩
  · have hz : ∀ e ∈ es, e.1 ≠ k := fun e he e' => hk ⟨e, he, e'⟩
    have hrun := places_out h.map hz hml
    rw [get_zero hz]
    clear h hk hz
    go_enter Try.func15, Try.ntmps15
    go_wp2
    go_ret
    exact ⟨rfl, rfl⟩
#print axioms tabget_any

set_option maxRecDepth 100000 in
set_option maxHeartbeats 2000000 in
theorem tablen_nil (w : World) : Calls Try.prog 17 #[.pointer none] w fun e w' => e = .returned (.int .i64 0) ∧ w' = w := by
  go_enter Try.func17, Try.ntmps17
  go_wp2
  go_ret
  exact ⟨rfl, rfl⟩
theorem own2_slice {w : World} {base e n : Nat} {v : Value} {xs : List Value} (h : w.ownsRow base e 2 v n xs) : ∃ ao cap, v = .slice ao n cap := by
  rcases h.2 with ⟨h1, h2⟩ | ⟨g, cap, cur, h1, _⟩
  · exact ⟨none, 0, by rw [h1, h2]⟩
  · exact ⟨_, cap, h1⟩
set_option maxRecDepth 100000 in
set_option maxHeartbeats 2000000 in
theorem tablen_any {base : Nat} {w : World} {b bm : Nat} {v : Value} {room : Nat} {es : List En} (h : TabAt base w b bm v room es) :
    Calls Try.prog 17 #[.pointer (some ⟨b, 0, none⟩)] w fun e w' => e = .returned (.int .i64 es.length) ∧ w' = w := by
  have c1 := h.cell1
  obtain ⟨ao, cap, rfl⟩ := own2_slice h.row
  clear h
  go_enter Try.func17, Try.ntmps17
  go_wp2
  go_ret
  exact ⟨rfl, rfl⟩
#print axioms tablen_any

set_option maxRecDepth 100000 in
set_option maxHeartbeats 2000000 in
theorem tabnew_bad (r : Int) (w : World) (h : r < 1 ∨ 65536 < r) : Calls Try.prog 10 #[.int .i64 r] w fun e w' => e = .returned (.tuple #[.pointer none, .int .i64 1]) ∧ w' = w := by
  by_cases h1 : r < 1
  · go_enter Try.func10, Try.ntmps10
    go_wp2
    go_ret2
    exact ⟨rfl, rfl⟩
  · have h2 : 65536 < r := by omega
    go_enter Try.func10, Try.ntmps10
    go_wp2
    go_ret2
    exact ⟨rfl, rfl⟩
set_option maxRecDepth 100000 in
set_option maxHeartbeats 2000000 in
theorem tabnew_any (r : Nat) (w : World) (h1 : 1 ≤ r) (h2 : r ≤ 65536) : Calls Try.prog 10 #[.int .i64 r] w fun e w' => e = .returned (.tuple #[.pointer (some ⟨w.heap.size + 1, 0, none⟩), .int .i64 0]) ∧
      TabAt w.heap.size w' (w.heap.size + 1) w.heap.size (.slice none 0 0) r [] ∧ Below w.heap.size w w' := by
  have hmm := @run_makeMap Try.prog
  have i1 : ¬ (r : Int) < 1 := by omega
  have i2 : ¬ (65536 : Int) < r := by omega
  go_enter Try.func10, Try.ntmps10
  go_wp2
  go_ret2
  have hp := places_made w
  refine ⟨rfl, ⟨?_, by omega, by omega, World.ownsRow_nil _ _ _ _, ?_, TabE.nil r, h2, fun e he => by cases he⟩, ((Below.refl _ _).alloc (Nat.le_refl _) _).alloc (by simp) _⟩
  · have := heap_alloc_new (w.alloc (.map #[] 0)) (.cells #[.int .i64 r, .slice none 0 0, .map (some w.heap.size)] 50)
    simpa using this
  · exact places_kept hp (Below.heap_alloc _ _ _ (by simp))
#print axioms tabnew_any
end Go.Proofs.Ythnpeeiiekmkcaa
