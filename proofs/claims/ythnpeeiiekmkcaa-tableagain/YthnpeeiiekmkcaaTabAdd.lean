/- table.Add. -/
import Derived.Test.YthnpeeiiekmkcaaTabGet
import Derived.Test.YthnpeeiiekmkcaaTabShelf
import Derived.Test.YthnpeeiiekmkcaaNumAdd
import Derived.Test.YthnpeeiiekmkcaaOwn2
import Derived.Maps.AppendAt
import Derived.Deep.RegionHeld
import Derived.Deep.QuietTactic
import Derived.BigQuiet
namespace Go.Proofs.Ythnpeeiiekmkcaa
open Go.RowKit Go.Shelf
set_option linter.unusedVariables false
set_option linter.unusedSimpArgs false

set_option maxRecDepth 100000 in
set_option maxHeartbeats 2000000 in
theorem tabadd_nil (k : Wd) (n : Int) (w : World) : Calls Try.prog 13 #[.pointer none, strV k, .int .u64 n] w fun e w' => e = .returned (.int .i64 1) ∧ w' = w := by
  go_enter Try.func13, Try.ntmps13
  go_wp2
  go_ret
  exact ⟨rfl, rfl⟩

set_option maxHeartbeats 1000000 in
theorem tclone_any (k : Wd) (w : World) (hl : k.length ≤ 140737488355328) : Calls Try.prog 22 #[strV k] w fun e w' => e = .returned (strV k) ∧ Below w.heap.size w w' := by
  have hcon : Calls Try.prog 28 #[strV k] w fun e w' => e = .returned (strV k) ∧ Below w.heap.size w w' := Any.stringslite_Clone tclone ⟨k.toArray⟩ w (by simp [ByteArray.size]; omega)
  go_enter Try.func22, Try.ntmps22
  go_wp2_with (go_at_call 28; refine hcon.mono ?_; rintro e w' ⟨rfl, hb⟩)
  go_ret
  exact ⟨rfl, hb⟩

set_option maxRecDepth 100000 in
set_option maxHeartbeats 4000000 in
theorem tabadd_empty {b : Nat} (k : Wd) (n : Nat) (w : World) (h : k = [] ∨ n = 0) :
    Calls Try.prog 13 #[.pointer (some ⟨b, 0, none⟩), strV k, .int .u64 n] w fun e w' => e = .returned (.int .i64 1) ∧ w' = w := by
  by_cases hk : k = []
  · subst hk
    go_enter Try.func13, Try.ntmps13
    go_wp2
    go_ret
    exact ⟨rfl, rfl⟩
  · obtain rfl : n = 0 := by rcases h with h | h; exact absurd h hk; exact h
    go_enter Try.func13, Try.ntmps13
    go_wp2
    go_ret
    exact ⟨rfl, rfl⟩

theorem Try.infoEn : (Try.prog.info? 44).map (fun i => (i.zero, i.size, i.bytes)) = some (some (.agg #[.string ⟨#[]⟩, .int .u64 0]), 2, 24) := by kernel_rfl
theorem news_one (w : World) (x y : Value) (t : TypeId) : ∀ j u, [x, y][j]? = some u → (w.alloc (.cells #[x, y] t)).cell? ((⟨w.heap.size, 0, none⟩ : Addr).add j) = some u := by
  intro j u hj
  match j, hj with
  | 0, hj => simp at hj; subst hj; simp [Addr.add]
  | 1, hj => simp at hj; subst hj; simp [Addr.add]
theorem empty_not {k : Wd} (h : k ≠ []) : List.isEmpty k = false := by cases k with
  | nil => exact absurd rfl h
  | cons a l => rfl
theorem zero_not {n : Nat} (h : 1 ≤ n) : ((n : Int) == 0) = false := by rw [beq_eq_false_iff_ne]; omega
theorem own2_set {w : World} {base e g n cap j : Nat} {xs : List Value} (h : w.ownsRow base e 2 (.slice (some ⟨g, 0, none⟩) n cap) n xs) (hj : j < n * 2) (u : Value) : (w.setCell ⟨g, j, none⟩ u).ownsRow base e 2 (.slice (some ⟨g, 0, none⟩) n cap) n (xs.set j u) := by
  refine ⟨by rw [List.length_set]; exact h.1, ?_⟩
  rcases h.2 with ⟨h1, h2⟩ | ⟨g', cap', cur, h1, h2, h3, h4, h5, h6, h7⟩
  · cases h1
  simp only [Value.slice.injEq, Option.some.injEq, Addr.mk.injEq, and_true, true_and] at h1
  obtain ⟨rfl, rfl⟩ := h1
  refine .inr ⟨g, cap, _, rfl, h2, heap_setCell_same w g j cur e u h3, h4, h5, by simp [h6], ?_⟩
  rw [Array.toList_setIfInBounds, List.take_set, h7]

set_option maxRecDepth 100000 in
set_option maxHeartbeats 4000000 in
theorem tabadd_over {base : Nat} {w : World} {b bm : Nat} {v : Value} {room : Nat} {es : List En} (h : TabAt base w b bm v room es) (k : Wd) (n : Nat) (hl : k.length ≤ 140737488355328) (hk : k ≠ []) (hn : 1 ≤ n) (hn2 : n ≤ 18446744073709551615) (ho : 4611686018427387904 < getE es k + n) (hg : getE es k ≤ 4611686018427387904) :
    Calls Try.prog 13 #[.pointer (some ⟨b, 0, none⟩), strV k, .int .u64 n] w fun e w' => e = .returned (.int .i64 5) ∧ w' = w := by
  have hget := tabget_any h k hl
  have hadd := fun W => add_any (getE es k : Nat) (n : Nat) W (by omega) (by omega) (by omega) (by omega)
  have e1 : addN (getE es k : Nat) (n : Nat) = 0 := by unfold addN; rw [if_neg (by omega)]
  have e2 : addB (getE es k : Nat) (n : Nat) = false := by simp [addB]; omega
  rw [e1, e2] at hadd
  have hne := empty_not hk
  have hn0 := zero_not hn
  generalize getE es k = c at hget hadd
  clear h e1 e2 ho
  go_enter Try.func13, Try.ntmps13
  go_wp2_with (first | (go_at_call 15; refine hget.mono ?_; rintro e w' ⟨rfl, rfl⟩) | (go_at_call 21; refine (hadd _).mono ?_; rintro e w' ⟨rfl, rfl⟩))
  go_ret
  exact ⟨rfl, rfl⟩

set_option maxRecDepth 100000 in
set_option maxHeartbeats 4000000 in
/-- A word that is there. -/
theorem tabadd_old {base : Nat} {w : World} {b bm : Nat} {v : Value} {room : Nat} {es : List En} (h : TabAt base w b bm v room es) (k : Wd) (n : Nat) (hl : k.length ≤ 140737488355328) (hk : k ≠ []) (hn : 1 ≤ n) (hn2 : n ≤ 18446744073709551615) (ho : getE es k + n ≤ 4611686018427387904) (hg : 0 < getE es k) :
    Calls Try.prog 13 #[.pointer (some ⟨b, 0, none⟩), strV k, .int .u64 n] w fun e w' => e = .returned (.int .i64 0) ∧ TabAt base w' b bm v room (setE es k (getE es k + n)) ∧ Turned w w' b bm v v := by
  have hget := tabget_any h k hl
  have hadd := fun W => add_any (getE es k : Nat) (n : Nat) W (by omega) (by omega) (by omega) (by omega)
  have e1 : addN (getE es k : Nat) (n : Nat) = ((getE es k + n : Nat) : Int) := by unfold addN; rw [if_pos (by omega)]; omega
  have e2 : addB (getE es k : Nat) (n : Nat) = true := by simp [addB]; omega
  rw [e1, e2] at hadd
  have hne := empty_not hk
  have hn0 := zero_not hn
  have hm := get_pos hg
  obtain ⟨i, hi, hie⟩ := List.getElem_of_mem hm
  have hie' : es[i]? = some (k, getE es k) := by rw [List.getElem?_eq_getElem hi, hie]
  have hrun := places_in h.map hie' (by unfold maxLen; simp only; omega)
  have c1 := h.cell1
  have c2 := h.cell2
  have hNe := h.ne
  have hset := set_at h.tab.keys hie' (getE es k + n)
  have hcs := cells_set es i (k, getE es k) (getE es k + n) hie'
  obtain ⟨g, cap, rfl, hcap, hmx, hc, hf⟩ := h.rowAt (by omega)
  have hcc := (hc i _ hie').2
  have hff := hf (i * 2 + 1)
  have hii : (i : Int) < es.length := by omega
  have hi0 : (0 : Int) ≤ i := by omega
  have hEnd : TabAt base (w.setCell ⟨g, i * 2 + 1, none⟩ (.int .u64 ((getE es k + n : Nat) : Int))) b bm (.slice (some ⟨g, 0, none⟩) es.length cap) room (setE es k (getE es k + n)) ∧ Turned w (w.setCell ⟨g, i * 2 + 1, none⟩ (.int .u64 ((getE es k + n : Nat) : Int))) b bm (.slice (some ⟨g, 0, none⟩) es.length cap) (.slice (some ⟨g, 0, none⟩) es.length cap) := by
    have n1 : b ≠ g := fun e => hNe.2.1 (by rw [e]; rfl)
    have n2 : bm ≠ g := fun e => hNe.2.2 (by rw [e]; rfl)
    have hr := own2_set h.row (j := i * 2 + 1) (by omega) (.int .u64 ((getE es k + n : Nat) : Int))
    rw [hcs, hset] at hr
    have htab := h.tab.add k n
    have hadd : (addE room es k n).1 = setE es k (getE es k + n) := by
      unfold addE
      rw [if_neg (by simp [hk]; omega), if_neg (by omega), if_pos hg]
    rw [hadd] at htab
    refine ⟨⟨(Below.heap_setCell _ _ _ _ n1).trans h.blk, h.lo, h.lom, by rw [set_length]; exact hr, places_keys (places_kept h.map (Below.heap_setCell _ _ _ _ n2)) (set_keys _ _ _), htab, h.most, fun e he => ?_⟩, ⟨rfl, rfl, rfl, by simp, fun j hj h1 h2 h3 => Below.heap_setCell _ _ _ _ (fun e => h3 (by rw [e]; rfl)), .inr (.inl rfl)⟩⟩
    have : e.1 ∈ (setE es k (getE es k + n)).map Prod.fst := List.mem_map.2 ⟨e, he, rfl⟩
    rw [set_keys] at this
    obtain ⟨e2, he2, e3⟩ := List.mem_map.1 this
    exact e3 ▸ h.long e2 he2
  have H : Hid _ := hEnd
  clear h hEnd hc hf hset hcs e1 e2 hm hie hie' hg ho hNe
  generalize getE es k = c at *
  go_enter Try.func13, Try.ntmps13
  go_wp2_with (first | (go_at_call 15; refine hget.mono ?_; rintro e w' ⟨rfl, rfl⟩) | (go_at_call 21; refine (hadd _).mono ?_; rintro e w' ⟨rfl, rfl⟩))
  go_ret
  exact ⟨rfl, H.out⟩
#print axioms tabadd_old

set_option maxRecDepth 100000 in
set_option maxHeartbeats 4000000 in
/-- No room. -/
theorem tabadd_full {base : Nat} {w : World} {b bm : Nat} {v : Value} {room : Nat} {es : List En} (h : TabAt base w b bm v room es) (k : Wd) (n : Nat) (hl : k.length ≤ 140737488355328) (hk : k ≠ []) (hn : 1 ≤ n) (hn2 : n ≤ 4611686018427387904) (hg : getE es k = 0) (hr : room ≤ es.length) :
    Calls Try.prog 13 #[.pointer (some ⟨b, 0, none⟩), strV k, .int .u64 n] w fun e w' => e = .returned (.int .i64 6) ∧ Below w.heap.size w w' := by
  have hget := tabget_any h k hl
  rw [hg] at hget
  have hadd := fun W => add_any 0 (n : Nat) W (by omega) (by omega) (by omega) (by omega)
  have e1 : addN 0 (n : Nat) = (n : Int) := by unfold addN; rw [if_pos (by omega)]; omega
  have e2 : addB 0 (n : Nat) = true := by simp [addB]; omega
  rw [e1, e2] at hadd
  have hne := empty_not hk
  have hn0 := zero_not hn
  have hrun := places_out h.map (get_none h.tab.pos hg) (by unfold maxLen; omega)
  have c0 := h.cell0
  have c1 := h.cell1
  have c2 := h.cell2
  obtain ⟨ao, cap, rfl⟩ := own2_slice h.row
  have hri : (room : Int) ≤ es.length := by omega
  have hgrow : ∀ q, Below w.heap.size w (w.drewN q) := fun q => below_drewN (Below.refl _ _) q
  clear h e1 e2 hg hr
  go_enter Try.func13, Try.ntmps13
  go_wp2_with (first | (go_at_call 15; refine hget.mono ?_; rintro e w' ⟨rfl, rfl⟩) | (go_at_call 21; refine (hadd _).mono ?_; rintro e w' ⟨rfl, rfl⟩))
  go_region
  all_goals go_wp2
  all_goals go_ret
  all_goals exact ⟨rfl, (Below.refl _ _).drew⟩
#print axioms tabadd_full
end Go.Proofs.Ythnpeeiiekmkcaa
