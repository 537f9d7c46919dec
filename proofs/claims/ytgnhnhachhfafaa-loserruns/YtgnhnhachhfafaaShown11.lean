/- What stands at the head of the merger's statements. -/
import Derived.Test.YtgnhnhachhfafaaLoserWhole
import Derived.Test.YtgnhnhachhfafaaEnSame
namespace Go.Proofs.Ytgnhnhachhfafaa
open Go.RowKit
set_option linter.unusedVariables false
set_option linter.unusedSimpArgs false

def fewL (ls : List (List En)) : Bool := decide (ls.length ≤ 20 ∧ ∀ l ∈ ls, l.length ≤ 60 ∧ ∀ e ∈ l, e.1.length ≤ 300)
theorem fewL_iff {ls : List (List En)} : fewL ls = true ↔ ls.length ≤ 20 ∧ ∀ l ∈ ls, l.length ≤ 60 ∧ ∀ e ∈ l, e.1.length ≤ 300 := decide_eq_true_iff
theorem few_tot : ∀ {ls : List (List En)}, (∀ l ∈ ls, l.length ≤ 60) → totL ls ≤ 60 * ls.length
  | [], _ => by simp [totL]
  | l :: ls, h => by
    have ih := few_tot (ls := ls) fun l hl => h l (by simp [hl])
    have := h l (by simp)
    simp only [totL, List.flatten_cons, List.length_append, List.length_cons] at ih ⊢
    omega
set_option maxRecDepth 100000 in
set_option maxHeartbeats 4000000 in
theorem few_any {B : Nat} {w : World} {ao : Option Addr} {len cap : Nat} {vs : List Value} {ls : List (List En)} (h : Reads w ao len cap vs) (hv : ListVals B w vs ls) (hf : ∀ l ∈ ls, ∀ z ∈ l, z.1.length ≤ 140737488351232 ∧ z.2 ≤ 18446744073709551615) :
    Calls Try.prog 10 #[.slice ao len cap] w fun e w' => e = .returned (.bool (fewL ls)) ∧ w' = w := by
  have hlx : ls.length = len := by rw [← hv.length]; exact h.length
  have hml : len ≤ 9223372036854775807 := by have := Nat.le_trans h.le h.most; unfold maxLen at this; omega
  have Hlx : Hid _ := hlx
  clear hlx
  go_enter Try.func10, Try.ntmps10
  go_wp2_with fail
  go_loop [3] (fun i => ∃ j : Nat, i = .int .i64 j ∧ j ≤ len ∧ j ≤ 21 ∧ Hid (∀ l ∈ ls.take j, l.length ≤ 60 ∧ ∀ e ∈ l, e.1.length ≤ 300)) (fun i => (len - intOf i).toNat)
  case atStart => exact ⟨0, rfl, Nat.zero_le _, by omega, (show ∀ l ∈ ls.take 0, l.length ≤ 60 ∧ ∀ e ∈ l, e.1.length ≤ 300 from fun l hl => by simp at hl)⟩
  case round =>
    obtain ⟨j, rfl, hj, hj2, hA⟩ := hrel
    by_cases hjl : j < len ∧ j < 21
    case neg =>
      have hsp : ¬ (j : Int) < len ∨ ((j : Int) < len ∧ ¬ (j : Int) < 21) := by omega
      have hE : Hid (fewL ls = decide ((len : Int) ≤ 20)) := by
        show _ = _
        unfold fewL
        rw [Hlx.out]
        by_cases h2 : len ≤ 20
        · have hje : j = len := by omega
          have hA2 := hA.out
          rw [hje, List.take_of_length_le (by rw [Hlx.out]; exact Nat.le_refl _)] at hA2
          rw [decide_eq_true (p := len ≤ 20 ∧ _) ⟨h2, hA2⟩, decide_eq_true (by omega)]
        · rw [decide_eq_false (p := len ≤ 20 ∧ _) (fun hh => h2 hh.1), decide_eq_false (by omega)]
      clear hA hjl
      rcases hsp with q1 | ⟨q1, q2⟩
      all_goals go_wp2
      all_goals go_ret
      all_goals exact ⟨by rw [hE.out]; rfl, rfl⟩
    obtain ⟨hj3, hj4⟩ := hjl
    have q1 : (j : Int) < len := by omega
    have q2 : (j : Int) < 21 := by omega
    obtain ⟨l, ai, ci, hl, hvl, hr, _⟩ := hv.at (i := j) (by rw [Hlx.out]; exact hj3)
    obtain ⟨b, off, rfl, _, hc⟩ := h.atV (by omega)
    have c1 := hc j _ hvl
    have hfl := hf l (List.mem_of_getElem? hl)
    have hlm : l.length ≤ 9223372036854775807 := by have := Nat.le_trans hr.le hr.most; unfold maxLen at this; omega
    have Hl : Hid _ := hl
    clear hc hvl hl
    by_cases h60 : l.length ≤ 60
    case neg =>
      have hE : Hid (fewL ls = false) := decide_eq_false fun hh => h60 (hh.2 l (List.mem_of_getElem? Hl.out)).1
      have i1 : (60 : Int) < l.length := by omega
      clear hA h60 hr hfl
      go_wp2
      go_ret
      exact ⟨by rw [hE.out]; rfl, rfl⟩
    have i1 : ¬ (60 : Int) < l.length := by omega
    have Hfl : Hid _ := hfl
    clear hfl
    go_wp2_with fail
    go_loop [4] (fun i => ∃ t : Nat, i = .int .i64 t ∧ t ≤ l.length ∧ Hid (∀ e ∈ l.take t, e.1.length ≤ 300)) (fun i => (l.length - intOf i).toNat)
    case atStart => exact ⟨0, rfl, Nat.zero_le _, (show ∀ e ∈ l.take 0, e.1.length ≤ 300 from fun e he => by simp at he)⟩
    case round =>
      obtain ⟨t, rfl, ht, hC⟩ := hrel
      by_cases htl : t < l.length
      · have hti : (t : Int) < l.length := by omega
        obtain ⟨b2, o2, rfl, _, hc2⟩ := hr.at (by omega)
        obtain ⟨⟨ek, en⟩, he⟩ : ∃ e, l[t]? = some e := ⟨_, List.getElem?_eq_getElem htl⟩
        have c2 := (hc2 t _ he).1
        have hwn := (Hfl.out _ (List.mem_of_getElem? he)).1
        simp only at c2 hwn
        by_cases ho : ek.length ≤ 300
        · have hC2 : Hid (∀ e ∈ l.take (t + 1), e.1.length ≤ 300) := by
            show ∀ e ∈ _, _
            intro e hm
            rw [List.take_add_one, he] at hm
            rcases List.mem_append.1 hm with hm | hm
            · exact hC.out e hm
            · simp at hm; subst hm; exact ho
          have i2 : ¬ (300 : Int) < ek.length := by omega
          clear hc2 hA hC ho he
          go_wp2
          go_round
          case rel => exact ⟨t + 1, by go_num, by omega, hC2⟩
          case measure => simp [intOf]; omega
        · have hE : Hid (fewL ls = false) := decide_eq_false fun hh => ho ((hh.2 l (List.mem_of_getElem? Hl.out)).2 _ (List.mem_of_getElem? he))
          have i2 : (300 : Int) < ek.length := by omega
          clear hc2 hA hC ho he
          go_wp2
          go_ret
          exact ⟨by rw [hE.out]; rfl, rfl⟩
      · have hte : t = l.length := by omega
        have hni : ¬ (t : Int) < l.length := by omega
        have hA2 : Hid (∀ l ∈ ls.take (j + 1), l.length ≤ 60 ∧ ∀ e ∈ l, e.1.length ≤ 300) := by
          show ∀ l ∈ _, _
          intro x hx
          rw [List.take_add_one, Hl.out] at hx
          rcases List.mem_append.1 hx with hx | hx
          · exact hA.out x hx
          · simp at hx; subst hx
            have hC2 := hC.out
            rw [hte, List.take_of_length_le (Nat.le_refl _)] at hC2
            exact ⟨h60, hC2⟩
        clear hA hC hte htl
        go_wp2
        go_round
        case rel => exact ⟨j + 1, by go_num, by omega, by omega, hA2⟩
        case measure => simp [intOf]; omega
#print axioms few_any

abbrev ex11 : List (List En) := [[([97], 1), ([98], 2)], [([98], 3)]]
theorem ex11_is : mergeL ex11 = ([([97], 1), ([98], 5)], 0) := by decide +kernel
/-- The example's lists, laid. -/
theorem ex11_lists (w : World) : Reads (((w.alloc (.cells (cellsE [([97], 1), ([98], 2)]).toArray 44)).alloc (.cells (cellsE [([98], 3)]).toArray 44)).alloc (.cells #[.slice (some ⟨w.heap.size, 0, none⟩) 2 2, .slice (some ⟨w.heap.size + 1, 0, none⟩) 1 1] 25)) (some ⟨w.heap.size + 1 + 1, 0, none⟩) 2 2 [.slice (some ⟨w.heap.size, 0, none⟩) 2 2, .slice (some ⟨w.heap.size + 1, 0, none⟩) 1 1] ∧
    ListVals (w.heap.size + 2) (((w.alloc (.cells (cellsE [([97], 1), ([98], 2)]).toArray 44)).alloc (.cells (cellsE [([98], 3)]).toArray 44)).alloc (.cells #[.slice (some ⟨w.heap.size, 0, none⟩) 2 2, .slice (some ⟨w.heap.size + 1, 0, none⟩) 1 1] 25)) [.slice (some ⟨w.heap.size, 0, none⟩) 2 2, .slice (some ⟨w.heap.size + 1, 0, none⟩) 1 1] ex11 := by
  have h1 := ReadsE.own (own2_lit w [([97], 1), ([98], 2)] (by unfold maxLen; decide))
  obtain ⟨w1, hw1⟩ : ∃ w1, w1 = w.alloc (.cells (cellsE [([97], 1), ([98], 2)]).toArray 44) := ⟨_, rfl⟩
  rw [← hw1] at h1 ⊢
  have s1 : w1.heap.size = w.heap.size + 1 := by rw [hw1]; simp
  have h2 := ReadsE.own (own2_lit w1 [([98], 3)] (by unfold maxLen; decide))
  have g2 : Grow w1 (w1.alloc (.cells (cellsE [([98], 3)]).toArray 44)) := (Below.refl _ _).alloc (Nat.le_refl _) _
  obtain ⟨w2, hw2⟩ : ∃ w2, w2 = w1.alloc (.cells (cellsE [([98], 3)]).toArray 44) := ⟨_, rfl⟩
  rw [← hw2] at h2 g2 ⊢
  have s2 : w2.heap.size = w.heap.size + 1 + 1 := by rw [hw2]; simp [s1]
  have h3 := reads_new w2 [.slice (some ⟨w.heap.size, 0, none⟩) 2 2, .slice (some ⟨w.heap.size + 1, 0, none⟩) 1 1] 25 (by simp [maxLen])
  have g3 : Grow w2 (w2.alloc (.cells [.slice (some ⟨w.heap.size, 0, none⟩) 2 2, .slice (some ⟨w.heap.size + 1, 0, none⟩) 1 1].toArray 25)) := (Below.refl _ _).alloc (Nat.le_refl _) _
  rw [s1] at h2
  rw [s2] at h3
  refine ⟨h3, ⟨rfl, fun i v l hv hl => ?_⟩⟩
  match i, hv, hl with
  | 0, hv, hl =>
    simp at hv hl
    subst hv hl
    exact ⟨_, _, rfl, (h1.later g2 (Nat.le_refl _)).later g3 (Nat.le_refl _), fun a ha _ => by cases ha; show w.heap.size < w.heap.size + 2; omega⟩
  | 1, hv, hl =>
    simp at hv hl
    subst hv hl
    exact ⟨_, _, rfl, h2.later g3 (Nat.le_refl _), fun a ha _ => by cases ha; show w.heap.size + 1 < w.heap.size + 2; omega⟩
set_option maxRecDepth 100000 in
set_option maxHeartbeats 2000000 in
theorem shown_any (w : World) : Calls Try.prog 9 #[] w fun e w' => e = .returned (.bool true) ∧ Below w.heap.size w w' := by
  obtain ⟨hR, hV⟩ := ex11_lists w
  have hB0 := (three_allocs w (.cells (cellsE [([97], 1), ([98], 2)]).toArray 44) (.cells (cellsE [([98], 3)]).toArray 44) (.cells #[.slice (some ⟨w.heap.size, 0, none⟩) 2 2, .slice (some ⟨w.heap.size + 1, 0, none⟩) 1 1] 25)).2.2.2
  have p1 := merge_any hR hV (by decide) (by decide)
  rw [ex11_is] at p1
  unfold DecOut at p1
  obtain ⟨W0, hW0⟩ : ∃ W0, W0 = (((w.alloc (.cells (cellsE [([97], 1), ([98], 2)]).toArray 44)).alloc (.cells (cellsE [([98], 3)]).toArray 44)).alloc (.cells #[.slice (some ⟨w.heap.size, 0, none⟩) 2 2, .slice (some ⟨w.heap.size + 1, 0, none⟩) 1 1] 25)) := ⟨_, rfl⟩
  rw [← hW0] at p1 hB0
  have HW0 : Hid (W0 = (((w.alloc (.cells #[.string ⟨#[97]⟩, .int .u64 1, .string ⟨#[98]⟩, .int .u64 2] 44)).alloc (.cells #[.string ⟨#[98]⟩, .int .u64 3] 44)).alloc (.cells #[.slice (some ⟨w.heap.size, 0, none⟩) 2 2, .slice (some ⟨w.heap.size + 1, 0, none⟩) 1 1] 25))) := hW0
  clear hR hV hW0
  go_enter Try.func9, Try.ntmps9
  go_wp2_with fail
  rw [← HW0.out]
  refine p1.mono ?_
  rintro e w1 ⟨ag, c, m, rfl, hm, ho, hG⟩
  have hm' : m = 2 := hm
  subst hm'
  have hB1 := hB0.trans (hG.mono hB0.size)
  have hlit := own2_lit w1 [([97], 1), ([98], 5)] (by unfold maxLen; decide)
  have ba : Below w1.heap.size w1 (w1.alloc (.cells (cellsE [([97], 1), ([98], 5)]).toArray 44)) := (Below.refl _ _).alloc (Nat.le_refl _) _
  have hs := rsame_any (x := [([97], 1), ([98], 5)]) (own2_later (own2_mono ho (Nat.zero_le _)) ba (Nat.le_refl _)) hlit
  have hs' : Calls Try.prog 13 #[.slice ag 2 c, .slice (some ⟨w1.heap.size, 0, none⟩) 2 2] (w1.alloc (.cells #[.string ⟨#[97]⟩, .int .u64 1, .string ⟨#[98]⟩, .int .u64 5] 44)) fun e w' => e = .returned (.bool true) ∧ ∃ m, w' = (w1.alloc (.cells #[.string ⟨#[97]⟩, .int .u64 1, .string ⟨#[98]⟩, .int .u64 5] 44)).drewN m := hs
  have be : ∀ m, Below w.heap.size w ((w1.alloc (.cells #[.string ⟨#[97]⟩, .int .u64 1, .string ⟨#[98]⟩, .int .u64 5] 44)).drewN m) := fun m => Below.trans hB1 ((below_drewN ba m).mono hB1.size)
  clear hs hlit ba hm ho hG p1
  go_wp2_with (go_at_call 13; refine hs'.mono ?_; rintro e w' ⟨rfl, m, rfl⟩)
  go_ret
  exact ⟨rfl, be m⟩
#print axioms shown_any
end Go.Proofs.Ytgnhnhachhfafaa
