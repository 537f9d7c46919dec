/- table.Add of a new word; Add whole. -/
import Derived.Test.YthnpeeiiekmkcaaTabAdd
namespace Go.Proofs.Ythnpeeiiekmkcaa
open Go.RowKit Go.Shelf
set_option linter.unusedVariables false
set_option linter.unusedSimpArgs false

theorem blk_one {w : World} {b : Nat} {x y z : Value} {t : TypeId} (h : w.heap[b]? = some (.cells #[x, y, z] t (0, 0))) : w.cell? ⟨b, 1, none⟩ = some y := by simp [World.cell?, h]
theorem blk_free {w : World} {b : Nat} {cs : Array Value} {t : TypeId} (h : w.heap[b]? = some (.cells cs t (0, 0))) (i : Nat) : w.frozen? ⟨b, i, none⟩ = false := by simp [World.frozen?, h]
theorem tab_end {base : Nat} {w wa wb w3 : World} {b bm : Nat} {v v3 : Value} {room : Nat} {es : List En} {k : Wd} {n : Nat} {o : Obj} (hA : TabAt base wa b bm v room es) (hpl : PlacesAt wb bm (es ++ [(k, n)]))
    (hb3 : w3.heap[b]? = some (.cells #[.int .i64 room, v, .map (some bm)] 50 (0, 0))) (Hb : Turned w wb b bm v v)
    (hr3 : w3.ownsRow base 44 2 v3 (es.length + 1) (cellsE es ++ [strV k, .int .u64 (n : Int)])) (hg3 : (wb.alloc o).grownBy w3 v.ownBlock) (hat : v3.ownBlock = v.ownBlock ∨ v3.ownBlock = some (wb.alloc o).heap.size)
    (htab : TabE room (es ++ [(k, n)])) (hl : k.length ≤ 140737488355328) :
    TabAt base (w3.setCell ⟨b, 1, none⟩ v3) b bm v3 room (es ++ [(k, n)]) ∧ Turned w (w3.setCell ⟨b, 1, none⟩ v3) b bm v v3 := by
  obtain ⟨xs, c, hm⟩ := places_blk hpl
  have hbml : bm < wb.heap.size := (Array.getElem?_eq_some_iff.1 hm).1
  have hv3 : v3.ownBlock ≠ some b := fun e => by
    obtain ⟨cur, hc⟩ := own2_type hr3 e
    rw [hb3] at hc; simp at hc
  have hm3 : w3.heap[bm]? = wb.heap[bm]? := (hg3.block bm (by simp; omega) (fun e => hA.ne.2.2 e.symm)).trans (Below.heap_alloc _ _ _ hbml)
  have hr4 : (w3.setCell ⟨b, 1, none⟩ v3).ownsRow base 44 2 v3 (es ++ [(k, n)]).length (cellsE (es ++ [(k, n)])) := by
    rw [cells_app, List.length_append]
    exact own2_block hr3 fun j hj => Below.heap_setCell _ _ _ _ (fun e => hv3 (hj.trans (congrArg some e)))
  refine ⟨⟨by rw [heap_setCell_same w3 b 1 _ _ _ hb3]; rfl, hA.lo, hA.lom, hr4, places_kept hpl ((Below.heap_setCell _ _ _ _ (fun e => hA.ne.1 e.symm)).trans hm3), htab, hA.most, fun e he => ?_⟩, ?_⟩
  · rcases List.mem_append.1 he with he | he
    · exact hA.long e he
    · simp at he; subst he; exact hl
  · have hs1 : (wb.alloc o).heap.size = wb.heap.size + 1 := by simp
    refine ⟨hg3.os.trans Hb.os, hg3.tape.trans Hb.tape, hg3.output.trans Hb.output, by have := Hb.size; have := hg3.size; simp; omega, fun i hi h1 h2 h3 => ?_, ?_⟩
    · have := Hb.size
      exact (Below.heap_setCell _ _ _ _ h1).trans ((hg3.block i (by omega) (fun e => h3 e.symm)).trans ((Below.heap_alloc _ _ _ (by omega)).trans (Hb.block i hi h1 h2 h3)))
    · rcases hat with h | h
      · exact .inr (.inl h)
      · exact .inr (.inr ⟨_, h, by have := Hb.size; omega⟩)
set_option maxRecDepth 100000 in
set_option maxHeartbeats 4000000 in
/-- A new word. -/
theorem tabadd_new {base : Nat} {w : World} {b bm : Nat} {v : Value} {room : Nat} {es : List En} (h : TabAt base w b bm v room es) (k : Wd) (n : Nat) (hl : k.length ≤ 140737488355328) (hk : k ≠ []) (hn : 1 ≤ n) (hn2 : n ≤ 4611686018427387904) (hg : getE es k = 0) (hr : es.length < room) :
    Calls Try.prog 13 #[.pointer (some ⟨b, 0, none⟩), strV k, .int .u64 n] w fun e w' => e = .returned (.int .i64 0) ∧ ∃ v', TabAt base w' b bm v' room (es ++ [(k, n)]) ∧ Turned w w' b bm v v' := by
  have hget := tabget_any h k hl
  rw [hg] at hget
  have hadd := fun W => add_any 0 (n : Nat) W (by omega) (by omega) (by omega) (by omega)
  have e1 : addN 0 (n : Nat) = (n : Int) := by unfold addN; rw [if_pos (by omega)]; omega
  have e2 : addB 0 (n : Nat) = true := by simp [addB]; omega
  rw [e1, e2] at hadd
  have hne := empty_not hk
  have hn0 := zero_not hn
  have hz := get_none h.tab.pos hg
  have hml : k.length ≤ maxLen := by unfold maxLen; omega
  have hrun := places_out h.map hz hml
  have c0 := h.cell0
  have c1 := h.cell1
  have c2 := h.cell2
  obtain ⟨ao, cap, rfl⟩ := own2_slice h.row
  have hri : ¬ (room : Int) ≤ es.length := by omega
  have hcl := fun W => tclone_any k W hl
  have H : Hid (TabAt base w b bm (.slice ao es.length cap) room es) := h
  have htab := h.tab.add k n
  have haddE : (addE room es k n).1 = es ++ [(k, n)] := by
    unfold addE
    rw [if_neg (by simp [hk]; omega), if_neg (by omega), if_neg (by omega), if_neg (by omega)]
  rw [haddE] at htab
  obtain ⟨i0, hi, hz0, hz1, hz2⟩ := info_parts Try.infoEn
  clear h e1 e2 haddE
  go_enter Try.func13, Try.ntmps13
  go_wp2_with (first | (go_at_call 15; refine hget.mono ?_; rintro e w' ⟨rfl, rfl⟩) | (go_at_call 21; refine (hadd _).mono ?_; rintro e w' ⟨rfl, rfl⟩))
  go_region
  all_goals go_wp2_with fail
  all_goals refine (hcl _).mono ?_
  all_goals rintro e wa ⟨rfl, hba⟩
  all_goals
    have hB : Below w'.heap.size w' wa := ⟨hba.os, hba.tape, hba.output, hba.size, hba.block⟩
    have hA := H.out.later hB (Nat.le_refl _)
    have ca1 := hA.cell1
    have ca2 := hA.cell2
    obtain ⟨wb, hup, hpl, htm⟩ := places_put (w := wa.drew) (places_kept hA.map rfl) n hz hml (Nat.le_trans (by omega) hA.most)
    clear hba c0 c1 c2 hrun hget hadd hcl hne hn0 hri hg
    go_wp2_with fail
    go_region
  all_goals
    have hgm := htm.grown
    have hbB : wb.heap[b]? = _ := (hgm.block b hA.lt.1 (fun e => hA.ne.1 (Option.some.inj e))).trans hA.blk
    have hrB : wb.ownsRow base 44 2 (.slice ao es.length cap) es.length (cellsE es) := own2_block hA.row fun j hj => hgm.block j (hA.rowlt hj) (fun e => hA.ne.2.2 (hj.trans e))
    have cb1 : wb.cell? ⟨b, 1, none⟩ = some (.slice ao es.length cap) := by simp [World.cell?, hbB]
    have Hb : Hid (Turned w' wb b bm (.slice ao es.length cap) (.slice ao es.length cap)) := (turned_grow hB).trans ⟨hgm.os, hgm.tape, hgm.output, hgm.size, fun i hi _ h2 _ => hgm.block i hi (fun e => h2 (Option.some.inj e)), .inr (.inl rfl)⟩
    clear hup ca1 ca2 htm hgm
  all_goals
    have hml2 : es.length + 1 ≤ maxLen := by have := hA.most; unfold maxLen; omega
    have hml3 : (es.length + 1) * 24 ≤ 140737488355328 := by have := hA.most; omega
    have hbs : base ≤ wb.heap.size + 1 := by have := hA.lo; have := (Array.getElem?_eq_some_iff.1 hbB).1; omega
    have hbl := (Array.getElem?_eq_some_iff.1 hbB).1
    have hba1 : (wb.alloc (.cells #[strV k, .int .u64 (n : Int)] 44)).heap[b]? = _ := (Below.heap_alloc _ _ _ hbl).trans hbB
    have hbl1 : b < (wb.alloc (.cells #[strV k, .int .u64 (n : Int)] 44)).heap.size := by simp; omega
    have hne1 := hA.ne.2.1
    go_wp2_with (at_builtin; refine wpList_append_own_at _ rfl _ _ 28 rfl base 44 i0 (.agg #[.string ⟨#[]⟩, .int .u64 0]) 2 24 Try.underlying28 hi hz0 hz1 hz2 rfl (by decide) _ es.length (cellsE es) rfl (hrB.alloc _) ⟨wb.heap.size, 0, none⟩ 1 1 [strV k, .int .u64 (n : Int)] rfl rfl (news_one _ _ _ _) (by simp [Value.oneCell']) hml2 hml3 (by simpa using hbs) ?_; intro v' w3 hr3 hg3 hnil hat; obtain ⟨ao3, cap3, rfl⟩ := own2_slice hr3; have hb3 := (hg3.block b hbl1 (fun e => hne1 e.symm)).trans hba1; have c3 := blk_one hb3; have f3 := blk_free hb3 1)
  all_goals go_ret
  all_goals exact ⟨rfl, _, tab_end hA hpl hb3 Hb.out hr3 hg3 hat htab hl⟩
#print axioms tabadd_new

/-- Add, whole. -/
theorem tabadd_any {base : Nat} {w : World} {b bm : Nat} {v : Value} {room : Nat} {es : List En} (h : TabAt base w b bm v room es) (k : Wd) (n : Nat) (hl : k.length ≤ 140737488355328) (hn2 : n ≤ 18446744073709551615) :
    Calls Try.prog 13 #[.pointer (some ⟨b, 0, none⟩), strV k, .int .u64 n] w fun e w' => e = .returned (.int .i64 (addE room es k n).2) ∧ ∃ v', TabAt base w' b bm v' room (addE room es k n).1 ∧ Turned w w' b bm v v' := by
  unfold addE
  by_cases h1 : k = [] ∨ n = 0
  · rw [if_pos h1]
    exact (tabadd_empty k n w h1).mono fun e w' ⟨he, hw⟩ => ⟨he, v, hw ▸ h, hw ▸ Turned.refl _ _ _ _⟩
  rw [if_neg h1]
  have h1' : k ≠ [] ∧ n ≠ 0 := by simpa using h1
  have hg : getE es k ≤ 4611686018427387904 := by
    rcases Nat.eq_zero_or_pos (getE es k) with h0 | h0
    · omega
    · exact (h.tab.pos _ (get_pos h0)).2
  by_cases h2 : 4611686018427387904 < getE es k + n
  · rw [if_pos h2]
    exact (tabadd_over h k n hl h1'.1 (by omega) hn2 h2 hg).mono fun e w' ⟨he, hw⟩ => ⟨he, v, hw ▸ h, hw ▸ Turned.refl _ _ _ _⟩
  rw [if_neg h2]
  by_cases h3 : 0 < getE es k
  · rw [if_pos h3]
    exact (tabadd_old h k n hl h1'.1 (by omega) hn2 (by omega) h3).mono fun e w' ⟨he, ht, hu⟩ => ⟨he, v, ht, hu⟩
  rw [if_neg h3]
  by_cases h4 : room ≤ es.length
  · rw [if_pos h4]
    exact (tabadd_full h k n hl h1'.1 (by omega) (by omega) (by omega) h4).mono fun e w' ⟨he, hb⟩ => ⟨he, v, h.later hb (Nat.le_refl _), turned_grow hb⟩
  rw [if_neg h4]
  exact (tabadd_new h k n hl h1'.1 (by omega) (by omega) (by omega) (by omega)).mono fun e w' ⟨he, v', ht, hu⟩ => ⟨he, v', ht, hu⟩
#print axioms tabadd_any
end Go.Proofs.Ythnpeeiiekmkcaa
