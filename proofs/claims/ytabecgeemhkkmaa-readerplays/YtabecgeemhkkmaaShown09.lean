/- What stands at the head of the runs' statements. -/
import Derived.Test.YtabecgeemhkkmaaRunDecode
import Derived.Test.YtabecgeemhkkmaaEnSame
namespace Go.Proofs.Ytabecgeemhkkmaa
open Go.RowKit
set_option linter.unusedVariables false
set_option linter.unusedSimpArgs false

def fewE (es : List En) : Bool := decide (es.length ≤ 200 ∧ ∀ e ∈ es, e.1.length ≤ 300)
theorem few_iff {es : List En} : fewE es = true ↔ es.length ≤ 200 ∧ ∀ e ∈ es, e.1.length ≤ 300 := decide_eq_true_iff
set_option maxRecDepth 100000 in
set_option maxHeartbeats 2000000 in
theorem few_any {w : World} {ao : Option Addr} {len cap : Nat} {es : List En} (h : ReadsE w ao len cap (cellsE es)) (hw : ∀ e ∈ es, e.1.length ≤ 140737488355328) (hl : len ≤ 1000000000000000) :
    Calls Try.prog 14 #[.slice ao len cap] w fun e w' => e = .returned (.bool (fewE es)) ∧ w' = w := by
  have hlx := h.count
  subst hlx
  go_enter Try.func14, Try.ntmps14
  go_wp2_with fail
  go_loop [3] (fun i => ∃ j : Nat, i = .int .i64 j ∧ j ≤ es.length ∧ j ≤ 201 ∧ Hid (∀ e ∈ es.take j, e.1.length ≤ 300)) (fun i => (es.length - intOf i).toNat)
  case atStart => exact ⟨0, rfl, Nat.zero_le _, by omega, fun e he => by simp at he⟩
  case round =>
    obtain ⟨j, rfl, hj, hj2, hA⟩ := hrel
    by_cases hjl : j < es.length ∧ j < 201
    case neg =>
      have hsp : ¬ (j : Int) < es.length ∨ ((j : Int) < es.length ∧ ¬ (j : Int) < 201) := by omega
      have hE : Hid (fewE es = decide ((es.length : Int) ≤ 200)) := by
        show _ = _
        unfold fewE
        by_cases h2 : es.length ≤ 200
        · have hje : j = es.length := by omega
          have hA2 := hA.out
          rw [hje, List.take_of_length_le (Nat.le_refl _)] at hA2
          rw [decide_eq_true (p := es.length ≤ 200 ∧ _) ⟨h2, hA2⟩, decide_eq_true (by omega)]
        · rw [decide_eq_false (p := es.length ≤ 200 ∧ _) (fun hh => h2 hh.1), decide_eq_false (by omega)]
      clear hA hjl
      rcases hsp with q1 | ⟨q1, q2⟩
      all_goals go_wp2
      all_goals go_ret
      all_goals exact ⟨by rw [hE.out]; rfl, rfl⟩
    obtain ⟨hj3, hj4⟩ := hjl
    have q1 : (j : Int) < es.length := by omega
    have q2 : (j : Int) < 201 := by omega
    obtain ⟨b, off, rfl, _, hc⟩ := h.at (by omega)
    obtain ⟨⟨ek, en⟩, he⟩ : ∃ e, es[j]? = some e := ⟨_, List.getElem?_eq_getElem hj3⟩
    have c1 := (hc j _ he).1
    have hwn := hw _ (List.mem_of_getElem? he)
    simp only at c1 hwn
    by_cases ho : ek.length ≤ 300
    · have hA2 : Hid (∀ e ∈ es.take (j + 1), e.1.length ≤ 300) := by
        show ∀ e ∈ es.take (j + 1), _
        intro e hm
        rw [List.take_add_one, he] at hm
        rcases List.mem_append.1 hm with hm | hm
        · exact hA.out e hm
        · simp at hm; subst hm; exact ho
      have i1 : ¬ (300 : Int) < ek.length := by omega
      clear hc hA ho he
      go_wp2
      go_round
      case rel => exact ⟨j + 1, by go_num, by omega, by omega, hA2⟩
      case measure => simp [intOf]; omega
    · have hE : Hid (fewE es = false) := decide_eq_false fun hh => ho (hh.2 _ (List.mem_of_getElem? he))
      have i1 : (300 : Int) < ek.length := by omega
      clear hc hA ho he
      go_wp2
      go_ret
      exact ⟨by rw [hE.out]; rfl, rfl⟩
#print axioms few_any

abbrev ex09 : List En := [([97], 1), ([97, 98], 2)]
theorem ex09_enc : encR ex09 2 = (runL ex09 2, 0) := enc_is (by decide)
theorem ex09_len : (runL ex09 2).length = 27 := by decide +kernel
theorem ex09_dec : decL (runL ex09 2) = (ex09, 0) := dec_back (by decide) (by decide)
theorem ex09_bytes : isBytes (runL ex09 2) := recs_bytes _ (run_rows (run_ok (by decide) (by decide)))

set_option maxRecDepth 100000 in
set_option maxHeartbeats 2000000 in
theorem shown_any (w : World) : Calls Try.prog 13 #[] w fun e w' => e = .returned (.bool true) ∧ Below w.heap.size w w' := by
  obtain ⟨W0, hW0⟩ : ∃ W0, W0 = w.alloc (.cells #[.string ⟨#[97]⟩, .int .u64 1, .string ⟨#[97, 98]⟩, .int .u64 2] 44) := ⟨_, rfl⟩
  have hB0 : Below w.heap.size w W0 := by rw [hW0]; exact (Below.refl _ _).alloc (Nat.le_refl _) _
  have hr0 : ReadsE W0 (some ⟨w.heap.size, 0, none⟩) 2 2 (cellsE ex09) := by rw [hW0]; exact ReadsE.own (own2_lit w ex09 (by decide))
  have p1 := encode_any hr0 (by decide) (by decide) (by decide) 2 2 (.inl rfl) (by decide)
  rw [ex09_enc] at p1
  unfold EncOut at p1
  have HW0 : Hid _ := hW0
  clear hW0
  go_enter Try.func13, Try.ntmps13
  go_wp2_with fail
  rw [← HW0.out]
  refine p1.mono ?_
  rintro e w1 ⟨ag, c, m, rfl, hm, ho1, hG1⟩
  have hm' : m = 27 := by rw [hm]; exact ex09_len
  subst hm'
  have p2 := decode_any (Reads.own ho1) ex09_bytes (by omega)
  rw [ex09_dec] at p2
  unfold DecOut at p2
  have hr1 := hr0.later hG1 (Nat.le_refl _)
  have hB1 := hB0.trans (hG1.mono hB0.size)
  clear p1 hr0 hm ho1 hG1
  go_wp2_with fail
  refine p2.mono ?_
  rintro e w2 ⟨ag2, c2, m2, rfl, hm2, ho2, hG2⟩
  have hm' : m2 = 2 := hm2
  subst hm'
  have p3 := rsameE_any (hr1.later hG2 (Nat.le_refl _)) (ReadsE.own ho2)
  have hB2 := hB1.trans (hG2.mono hB1.size)
  have hd : decide (ex09 = ex09) = true := decide_eq_true rfl
  rw [hd] at p3
  clear p2 hr1 hm2 hG2 ho2 hd
  go_wp2_with (go_at_call 21; refine p3.mono ?_; rintro e w' ⟨rfl, mm, rfl⟩)
  go_ret
  exact ⟨rfl, below_drewN hB2 _⟩
#print axioms shown_any
end Go.Proofs.Ytabecgeemhkkmaa
