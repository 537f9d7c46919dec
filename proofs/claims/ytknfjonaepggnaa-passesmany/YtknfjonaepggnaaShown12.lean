/- What stands at the head of the statements on passes. -/
import Derived.Test.YtknfjonaepggnaaPassesCode
import Derived.ChangeKeysEq
import Derived.Laws.StructEq
namespace Go.Proofs.Ytknfjonaepggnaa
open Go.RowKit
set_option linter.unusedVariables false
set_option linter.unusedSimpArgs false

/-- Two pairs compared. -/
theorem pair_eq (W : World) (a b c d : Int) : (Op.equalIn 10000 25 (.agg #[.int .i64 a, .int .i64 b]) (.agg #[.int .i64 c, .int .i64 d])).run Try.prog W = .ok (a == c && b == d) W := by
  have hs : (Try.prog.info? 3).isSome = true := by kernel_rfl
  obtain ⟨i, hi⟩ := Option.isSome_iff_exists.1 hs
  rw [run_equalIn_array W 9999 _ _ (show Try.prog.underlying 25 = some (.array 2 3) from Try.underlying25) hi]
  rw [show Try.prog.cellsOf 3 = 1 by kernel_rfl, show List.range 2 = [0, 1] by decide]
  simp [Op.eqItems, part, Try.isAgg3, run_equalIn_int W 9998 3 .i64 .i64 _ _ Try.underlying3]
  by_cases h1 : a = c <;> by_cases h2 : b = d <;> simp [h1, h2]

theorem pair_neq (W : World) (a b c d : Int) : (binOp .neq 25 (.agg #[.int .i64 a, .int .i64 b]) (.agg #[.int .i64 c, .int .i64 d])).run Try.prog W = .ok (.bool (!(a == c && b == d))) W := by
  rw [run_neq_struct, pair_eq]; rfl

set_option maxRecDepth 100000 in
set_option maxHeartbeats 4000000 in
theorem shown_any (w : World) : Calls Try.prog 8 #[] w fun e w' => e = .returned (.bool true) ∧ Below w.heap.size w w' := by
  have p1 := groups_any 5 2 w (by omega) (by omega) (by omega) (by omega)
  have p2 := fun W => passes_any 5 2 W (by omega) (by omega) (by omega) (by omega)
  rw [show groupsZ 5 2 = [(0, 2), (2, 4), (4, 5)] by decide] at p1
  rw [show passesZ 5 2 = 3 by decide] at p2
  have P2 : Hid _ := p2
  clear p2
  go_enter Try.func8, Try.ntmps8
  go_wp2_with fail
  refine p1.mono ?_
  rintro e wa ⟨ag, c, rfl, ho, hB⟩
  obtain ⟨b, off, rfl, hb, hc⟩ := ReadsE.atP (ReadsE.own ho) (by decide)
  have c1 := hc 1 (2, 4) rfl
  have c2 := hc 2 (4, 5) rfl
  clear p1 hc ho
  have hl3 : ([(0, 2), (2, 4), (4, 5)] : List (Nat × Nat)).length = 3 := rfl
  rw [hl3]
  clear hl3
  obtain ⟨c1, c1'⟩ := c1
  obtain ⟨c2, c2'⟩ := c2
  have e1 := pair_eq wa 2 4 2 4
  have e2 := pair_eq wa 4 5 4 5
  rw [show ((2 : Int) == 2 && (4 : Int) == 4) = true by decide] at e1
  rw [show ((4 : Int) == 4 && (5 : Int) == 5) = true by decide] at e2
  go_wp2_with fail
  refine (P2.out wa).mono ?_
  rintro e wb ⟨rfl, hB2⟩
  go_wp2
  go_ret
  exact ⟨rfl, hB.trans (hB2.mono hB.size)⟩
#print axioms shown_any

def fewR (rs : List (List Int)) : Bool := decide (rs.length ≤ 20 ∧ ∀ r ∈ rs, r.length ≤ 3000)
theorem fewR_iff {rs : List (List Int)} : fewR rs = true ↔ rs.length ≤ 20 ∧ ∀ r ∈ rs, r.length ≤ 3000 := decide_eq_true_iff
theorem fewR_tot {rs : List (List Int)} (h : fewR rs = true) : totL (decAll rs) ≤ 200000 := by
  obtain ⟨h1, h2⟩ := fewR_iff.1 h
  have hm : ∀ {rs : List (List Int)}, (∀ r ∈ rs, r.length ≤ 3000) → rs.flatten.length ≤ 3000 * rs.length := by
    intro rs
    induction rs with
    | nil => simp
    | cons r rs ih =>
      intro h
      have h1 := ih fun x hx => h x (by simp [hx])
      have h2 := h r (by simp)
      simp only [List.flatten_cons, List.length_append, List.length_cons, Nat.mul_add, Nat.mul_one]
      omega
  have h3 := hm h2
  have h4 := dec_flat rs
  unfold totL
  omega
set_option maxRecDepth 100000 in
set_option maxHeartbeats 4000000 in
theorem few_any {w : World} {ao : Option Addr} {len cap : Nat} {rs : List (List Int)} (h : ReadsRows w ao len cap rs) :
    Calls Try.prog 13 #[.slice ao len cap] w fun e w' => e = .returned (.bool (fewR rs)) ∧ w' = w := by
  have Hlx : Hid _ := h.length
  have hml : len ≤ 9223372036854775807 := by have := Nat.le_trans h.le h.most; unfold maxLen at this; omega
  go_enter Try.func13, Try.ntmps13
  go_wp2_with fail
  go_loop [3] (fun i => ∃ j : Nat, i = .int .i64 j ∧ j ≤ len ∧ j ≤ 21 ∧ Hid (∀ r ∈ rs.take j, r.length ≤ 3000)) (fun i => (len - intOf i).toNat)
  case atStart => exact ⟨0, rfl, Nat.zero_le _, by omega, (show ∀ r ∈ rs.take 0, r.length ≤ 3000 from fun r hr => by simp at hr)⟩
  case round =>
    obtain ⟨j, rfl, hj, hj2, hA⟩ := hrel
    by_cases hjl : j < len ∧ j < 21
    · obtain ⟨hj3, hj4⟩ := hjl
      have q1 : (j : Int) < len := by omega
      have q2 : (j : Int) < 21 := by omega
      obtain ⟨b, off, rfl, hbl, hc⟩ := h.at (by omega)
      obtain ⟨ai, li, ci, c0, hr0⟩ := hc j hj3
      obtain ⟨r, hr⟩ : ∃ r, rs[j]? = some r := ⟨_, List.getElem?_eq_getElem (by rw [Hlx.out]; exact hj3)⟩
      have hre : rs.getD j [] = r := by simp [List.getD_eq_getElem?_getD, hr]
      rw [hre] at hr0
      have hli : r.length = li := by have := hr0.length; simpa using this
      have hlm : li ≤ 9223372036854775807 := by have := Nat.le_trans hr0.le hr0.most; unfold maxLen at this; omega
      by_cases h5 : li ≤ 3000
      · have hA2 : Hid (∀ r ∈ rs.take (j + 1), r.length ≤ 3000) := by
          show ∀ x ∈ _, _
          intro x hx
          rw [List.take_add_one, hr] at hx
          rcases List.mem_append.1 hx with hx | hx
          · exact hA.out x hx
          · simp at hx; subst hx; omega
        have i1 : ¬ (3000 : Int) < li := by omega
        clear hc hr0 hA hr hre hli h5
        go_wp2
        go_round
        case rel => exact ⟨j + 1, by go_num, by omega, by omega, hA2⟩
        case measure => simp [intOf]; omega
      · have i1 : (3000 : Int) < li := by omega
        have hE : Hid (fewR rs = false) := decide_eq_false fun hh => h5 (by have := hh.2 r (List.mem_of_getElem? hr); omega)
        clear hc hr0 hA hr hre hli h5
        go_wp2
        go_ret
        exact ⟨by rw [hE.out]; rfl, rfl⟩
    · have hsp : ¬ (j : Int) < len ∨ ((j : Int) < len ∧ ¬ (j : Int) < 21) := by omega
      have hE : Hid (fewR rs = decide ((len : Int) ≤ 20)) := by
        show _ = _
        unfold fewR
        rw [Hlx.out]
        by_cases h2 : len ≤ 20
        · have hje : j = len := by omega
          have hA2 := hA.out
          rw [hje, List.take_of_length_le (by rw [Hlx.out]; exact Nat.le_refl _)] at hA2
          rw [decide_eq_true (p := len ≤ 20 ∧ _) ⟨h2, hA2⟩, decide_eq_true (by omega)]
        · rw [decide_eq_false (p := len ≤ 20 ∧ _) (fun hh => h2 hh.1), decide_eq_false (by omega)]
      clear hA hjl
      rcases hsp with q1 | ⟨q1, q2⟩
      all_goals go_wp2
      all_goals go_ret
      all_goals exact ⟨by rw [hE.out]; rfl, rfl⟩
#print axioms few_any
end Go.Proofs.Ytknfjonaepggnaa
