/- The example at the head of the table's statements. -/
import Derived.Test.YthnpeeiiekmkcaaTabAdd2
import Derived.Test.YthnpeeiiekmkcaaTabDrain2
import Derived.Test.YthnpeeiiekmkcaaEn2
namespace Go.Proofs.Ythnpeeiiekmkcaa
open Go.RowKit
set_option linter.unusedVariables false
set_option linter.unusedSimpArgs false

theorem str_list (a : ByteArray) : ∃ k : Wd, a = ⟨k.toArray⟩ := ⟨a.data.toList, by cases a; simp⟩
theorem own2_lit (W : World) (es : List En) (hl : es.length ≤ maxLen) : (W.alloc (.cells (cellsE es).toArray 44)).ownsRow 0 44 2 (.slice (some ⟨W.heap.size, 0, none⟩) es.length es.length) es.length (cellsE es) :=
  ⟨cells_len es, .inr ⟨W.heap.size, es.length, _, rfl, Nat.zero_le _, heap_alloc_new _ _, Nat.le_refl _, hl, by simp [cells_len], by rw [List.take_of_length_le (by rw [List.toList_toArray, cells_len]; exact Nat.le_refl _)]⟩⟩

set_option maxRecDepth 100000 in
set_option maxHeartbeats 4000000 in
theorem shown_any (w : World) : Calls Try.prog 9 #[] w fun e w' => e = .returned (.bool true) ∧ Below w.heap.size w w' := by
  have s0 : Calls Try.prog 10 #[.int .i64 2] w _ := tabnew_any 2 w (by decide) (by decide)
  go_enter Try.func9, Try.ntmps9
  go_wp2_with fail
  refine s0.mono ?_
  rintro e w1 ⟨rfl, h1, b1⟩
  clear s0
  generalize hb : w.heap.size + 1 = b at h1 ⊢
  generalize hm : w.heap.size = B at h1 b1 ⊢
  clear hb
  have s1 : Calls Try.prog 13 #[.pointer (some ⟨b, 0, none⟩), .string ⟨#[97]⟩, .int .u64 1] w1 fun e w' => e = .returned (.int .i64 0) ∧ ∃ v', TabAt B w' b B v' 2 [([97], 1)] ∧ Turned w1 w' b B (.slice none 0 0) v' := tabadd_any h1 [97] 1 (by decide) (by decide)
  go_wp2_with fail
  refine s1.mono ?_
  rintro e w2 ⟨rfl, v2, h2, t2⟩
  have b2 := Below.trans b1 (t2.below h1 (Nat.le_refl _))
  clear s1 h1 b1 t2
  have s2 : Calls Try.prog 13 #[.pointer (some ⟨b, 0, none⟩), .string ⟨#[98]⟩, .int .u64 1] w2 fun e w' => e = .returned (.int .i64 0) ∧ ∃ v', TabAt B w' b B v' 2 [([97], 1), ([98], 1)] ∧ Turned w2 w' b B v2 v' := tabadd_any h2 [98] 1 (by decide) (by decide)
  go_wp2_with fail
  refine s2.mono ?_
  rintro e w3 ⟨rfl, v3, h3, t3⟩
  have b3 := Below.trans b2 (t3.below h2 (Nat.le_refl _))
  clear s2 h2 b2 t3
  have s3 : Calls Try.prog 13 #[.pointer (some ⟨b, 0, none⟩), .string ⟨#[97]⟩, .int .u64 1] w3 fun e w' => e = .returned (.int .i64 0) ∧ ∃ v', TabAt B w' b B v' 2 [([97], 2), ([98], 1)] ∧ Turned w3 w' b B v3 v' := tabadd_any h3 [97] 1 (by decide) (by decide)
  go_wp2_with fail
  refine s3.mono ?_
  rintro e w4 ⟨rfl, v4, h4, t4⟩
  have b4 := Below.trans b3 (t4.below h3 (Nat.le_refl _))
  clear s3 h3 b3 t4
  have s4 : Calls Try.prog 13 #[.pointer (some ⟨b, 0, none⟩), .string ⟨#[99]⟩, .int .u64 1] w4 fun e w' => e = .returned (.int .i64 6) ∧ ∃ v', TabAt B w' b B v' 2 [([97], 2), ([98], 1)] ∧ Turned w4 w' b B v4 v' := tabadd_any h4 [99] 1 (by decide) (by decide)
  go_wp2_with fail
  refine s4.mono ?_
  rintro e w5 ⟨rfl, v5, h5, t5⟩
  have b5 := Below.trans b4 (t5.below h4 (Nat.le_refl _))
  clear s4 h4 b4 t5
  have s5 := tabdrain_any h5
  go_wp2_with fail
  refine s5.mono ?_
  rintro e w6 ⟨rfl, d, hp, hd, hr, h6, t6⟩
  have b6 := Below.trans b5 (t6.below h5 (Nat.le_refl _))
  have hd2 : d = [([97], 2), ([98], 1)] := rise_perm hd (by unfold RiseE; decide) hp (.refl _) h5.tab.keys h5.tab.pos
  subst hd2
  obtain ⟨ao, cap, rfl⟩ := own2_slice h5.row
  clear s5 h5 b5 t6 hp hd
  have hlit := own2_lit w6 [([97], 2), ([98], 1)] (by unfold maxLen; decide)
  have ba : Below w6.heap.size w6 (w6.alloc (.cells (cellsE [([97], 2), ([98], 1)]).toArray 44)) := (Below.refl _ _).alloc (Nat.le_refl _) _
  have hs := rsame_any (own2_later (own2_mono hr (Nat.zero_le _)) ba (Nat.le_refl _)) hlit
  have hs' : Calls Try.prog 11 #[.slice ao 2 cap, .slice (some ⟨w6.heap.size, 0, none⟩) 2 2] (w6.alloc (.cells #[.string ⟨#[97]⟩, .int .u64 2, .string ⟨#[98]⟩, .int .u64 1] 44)) fun e w' => e = .returned (.bool true) ∧ ∃ m, w' = (w6.alloc (.cells #[.string ⟨#[97]⟩, .int .u64 2, .string ⟨#[98]⟩, .int .u64 1] 44)).drewN m := hs
  have hl : ∀ m, Calls Try.prog 17 #[.pointer (some ⟨b, 0, none⟩)] ((w6.alloc (.cells #[.string ⟨#[97]⟩, .int .u64 2, .string ⟨#[98]⟩, .int .u64 1] 44)).drewN m) fun e w' => e = .returned (.int .i64 0) ∧ w' = _ := fun m => tablen_any (h6.later (below_drewN ba m) (Nat.le_refl _))
  have be : ∀ m, Below B w ((w6.alloc (.cells #[.string ⟨#[97]⟩, .int .u64 2, .string ⟨#[98]⟩, .int .u64 1] 44)).drewN m) := fun m => Below.trans b6 ((below_drewN ba m).mono (by have := b6.size; omega))
  clear hs hlit ba h6 hr
  go_wp2_with (first | (go_at_call 11; refine hs'.mono ?_; rintro e w' ⟨rfl, m, rfl⟩) | (go_at_call 17; refine (hl _).mono ?_; rintro e w' ⟨rfl, rfl⟩))
  go_ret
  subst hm
  exact ⟨rfl, be m⟩
#print axioms shown_any
end Go.Proofs.Ythnpeeiiekmkcaa
