/- table.Drain's own contract. -/
import Derived.Test.YthnpeeiiekmkcaaTabDrain
namespace Go.Proofs.Ythnpeeiiekmkcaa
open Go.RowKit Go.Shelf
set_option linter.unusedVariables false
set_option linter.unusedSimpArgs false

set_option maxRecDepth 100000 in
set_option maxHeartbeats 2000000 in
theorem tabdrain_nil (w : World) : Calls Try.prog 12 #[.pointer none] w fun e w' => e = .returned (.slice none 0 0) ∧ w' = w := by
  go_enter Try.func12, Try.ntmps12
  go_wp2
  go_ret
  exact ⟨rfl, rfl⟩

theorem tab_emptied {base : Nat} {w : World} {b bm : Nat} {v : Value} {room : Nat} {es : List En} (h : TabAt base w b bm v room es) :
    (w.setCell ⟨b, 1, none⟩ (.slice none 0 0)).heap[b]? = some (.cells #[.int .i64 room, .slice none 0 0, .map (some bm)] 50 (0, 0)) := by
  rw [heap_setCell_same w b 1 _ _ _ h.blk]; rfl

set_option maxRecDepth 100000 in
set_option maxHeartbeats 4000000 in
theorem tabdrain_any {base : Nat} {w : World} {b bm : Nat} {v : Value} {room : Nat} {es : List En} (h : TabAt base w b bm v room es) :
    Calls Try.prog 12 #[.pointer (some ⟨b, 0, none⟩)] w fun e w' => e = .returned v ∧ ∃ d : List En, d.Perm es ∧ RiseE d ∧ w'.ownsRow base 44 2 v es.length (cellsE d) ∧
      TabAt base w' b bm (.slice none 0 0) room [] ∧ Turned w w' b bm v (.slice none 0 0) := by
  have c1 := h.cell1
  have c2 := h.cell2
  have f1 := h.frozen 1
  have hne := h.ne
  have hbm : (w.setCell ⟨b, 1, none⟩ (.slice none 0 0)).heap[bm]? = w.heap[bm]? := Below.heap_setCell _ _ _ _ (fun e => hne.1 e.symm)
  have hb1 := tab_emptied h
  have hr1 : (w.setCell ⟨b, 1, none⟩ (.slice none 0 0)).ownsRow base 44 2 v es.length (cellsE es) := own2_block h.row fun k hk => Below.heap_setCell _ _ _ _ (fun e => hne.2.1 (hk.trans (congrArg some e)))
  obtain ⟨w2, hclr, hp2, ht2⟩ := places_clear (places_kept h.map hbm)
  have hg2 := ht2.grown
  have hsz1 : (w.setCell ⟨b, 1, none⟩ (.slice none 0 0)).heap.size = w.heap.size := by simp
  have hb2 : w2.heap[b]? = _ := (hg2.block b (by rw [hsz1]; exact h.lt.1) (fun e => hne.1 (Option.some.inj e))).trans hb1
  have hr2 : w2.ownsRow base 44 2 v es.length (cellsE es) := own2_block hr1 fun k hk => hg2.block k (by rw [hsz1]; exact h.rowlt hk) (fun e => hne.2.2 (by rw [← e]; exact hk))
  have ht02 : Turned w w2 b bm v (.slice none 0 0) := ⟨hg2.os, hg2.tape, hg2.output, by have := hg2.size; omega, fun i hi h1 h2 h3 => (hg2.block i (by rw [hsz1]; exact hi) (fun e => h2 (Option.some.inj e))).trans (Below.heap_setCell _ _ _ _ h1), .inl rfl⟩
  have hT2 : TabAt base w2 b bm (.slice none 0 0) room [] := ⟨hb2, h.lo, h.lom, World.ownsRow_nil _ _ _ _, hp2, TabE.nil _, h.most, fun e he => by cases he⟩
  have hlow := h.lt
  have hk := h.tab.keys
  have hlen : es.length ≤ 65536 := Nat.le_trans h.tab.most h.most
  clear hg2 ht2 hp2 hr1 hb1 hbm h
  rcases Nat.eq_zero_or_pos es.length with h0 | h0
  · have he : es = [] := List.length_eq_zero_iff.1 h0
    subst he
    obtain ⟨ao, cap, rfl⟩ := own2_slice hr2
    have hs := fun W => tsort_none ao cap W
    go_enter Try.func12, Try.ntmps12
    go_wp2_with (go_at_call 18; refine (hs _).mono ?_; rintro e w' ⟨rfl, rfl⟩)
    go_ret
    exact ⟨rfl, [], .refl _, .nil, hr2, hT2, ht02⟩
  · obtain ⟨g, cap, rfl⟩ : ∃ g cap, v = .slice (some ⟨g, 0, none⟩) es.length cap := by
      rcases hr2.2 with ⟨_, h2⟩ | ⟨g, cap, _, h1, _⟩
      · omega
      · exact ⟨g, cap, h1⟩
    have hs := tsort_any hr2 hlen
    go_enter Try.func12, Try.ntmps12
    go_wp2_with (go_at_call 18; refine hs.mono ?_; rintro e w' ⟨rfl, d, hp, hd, hr3, hg3⟩)
    go_ret
    refine ⟨rfl, d, hp, rise_sorted (perm_keys hp hk) hd, hr3, ?_, ?_⟩
    · have n1 : g ≠ b := fun e => hne.2.1 (by rw [e]; rfl)
      have n2 : g ≠ bm := fun e => hne.2.2 (by rw [e]; rfl)
      exact hT2.blocks (hg3.block b (by have := hT2.lt; omega) fun e => n1 (Option.some.inj e).symm) (hg3.block bm (by have := hT2.lt; omega) fun e => n2 (Option.some.inj e).symm) fun k hk => by cases hk
    · exact ⟨hg3.os.trans ht02.os, hg3.tape.trans ht02.tape, hg3.output.trans ht02.output, Nat.le_trans ht02.size hg3.size, fun i hi h1 h2 h3 => (hg3.block i (Nat.lt_of_lt_of_le hi ht02.size) fun e => h3 (by rw [e]; rfl)).trans (ht02.block i hi h1 h2 h3), .inl rfl⟩
#print axioms tabdrain_any
end Go.Proofs.Ythnpeeiiekmkcaa
