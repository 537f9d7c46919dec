/- The document's own answers for the table: Same, At, Get. -/
import Derived.Test.YtknfjonaepggnaaEnAll
import Derived.Laws.StructEq
import Derived.Deep.QuietTactic
import Derived.BigQuiet
namespace Go.Proofs.Ytknfjonaepggnaa
open Go.RowKit
set_option linter.unusedVariables false
set_option linter.unusedSimpArgs false

theorem at_stop : ∀ (x : List En) (k : Wd) {e : En}, x[atE x k]? = some e → lessB e.1 k = false
  | [], k, e, h => by simp [atE] at h
  | a :: x, k, e, h => by
    unfold atE at h
    rw [List.takeWhile_cons] at h
    split at h
    · rw [List.length_cons, List.getElem?_cons_succ] at h
      exact at_stop x k h
    · rename_i hn
      simp only [List.length_nil, List.getElem?_cons_zero, Option.some.injEq] at h
      subst h; simpa using hn
theorem at_more {x : List En} {k : Wd} {j : Nat} {e : En} (hj : j ≤ atE x k) (he : x[j]? = some e) (hl : lessB e.1 k = true) : j + 1 ≤ atE x k := by
  rcases Nat.lt_or_eq_of_le hj with h | h
  · omega
  · subst h; rw [at_stop x k he] at hl; cases hl
theorem at_here {x : List En} {k : Wd} {j : Nat} {e : En} (hj : j ≤ atE x k) (he : x[j]? = some e) (hl : lessB e.1 k = false) : atE x k = j := by
  rcases Nat.lt_or_eq_of_le hj with h | h
  · have : e ∈ x.take (atE x k) := List.mem_of_getElem? (i := j) (by rw [List.getElem?_take_of_lt h]; exact he)
    rw [at_below this] at hl; cases hl
  · exact h.symm
set_option maxRecDepth 100000 in
set_option maxHeartbeats 2000000 in
theorem rat_any {w : World} {v : Value} {x : List En} (h : w.ownsRow 0 64 2 v x.length (cellsE x)) (k : Wd) :
    Calls Try.prog 59 #[v, strV k] w fun e w' => e = .returned (.int .i64 (atE x k : Nat)) ∧ w' = w := by
  have hm := own2_most h
  unfold maxLen at hm
  have hmi : (x.length : Int) ≤ 9223372036854775807 := by omega
  obtain ⟨ao, cap, rfl⟩ := own2_slice h
  have hal := at_le x k
  clear hm
  go_enter Try.func59, Try.ntmps59
  go_wp2_with fail
  go_loop [5] (fun i => ∃ j : Nat, i = .int .i64 j ∧ j ≤ atE x k) (fun i => (x.length - intOf i).toNat)
  case atStart => exact ⟨0, rfl, Nat.zero_le _⟩
  case round =>
    obtain ⟨j, rfl, hj⟩ := hrel
    by_cases hjl : j = x.length
    · have hE : Hid (atE x k = j) := by show _ = _; omega
      have hlt : ¬ (j : Int) < x.length := by omega
      clear hj hal hjl
      go_wp2
      go_ret
      exact ⟨by rw [hE.out]; rfl, rfl⟩
    have hjN : j < x.length := by omega
    have hji : (j : Int) < x.length := by omega
    have he : x[j]? = some x[j] := List.getElem?_eq_getElem hjN
    obtain ⟨g, cap', hv, _, _, _, hc, _⟩ := own2_at h (by omega)
    simp only [Value.slice.injEq, true_and] at hv
    obtain ⟨rfl, rfl⟩ := hv
    have hcc := (hc j _ he).1
    have hmore := fun hl => at_more hj he hl
    have hhere := fun hl => at_here hj he hl
    generalize x[j] = e at hcc hmore hhere
    clear hc he hj hjl hal h
    cases hl : lessB e.1 k with
    | true =>
      have hM : Hid _ := hmore hl
      clear hmore hhere
      go_wp2
      go_round
      case rel => exact ⟨j + 1, by go_num, hM.out⟩
      case measure => simp [intOf]; omega
    | false =>
      have hE : Hid _ := hhere hl
      clear hmore hhere
      go_wp2
      go_ret
      exact ⟨by rw [hE.out]; rfl, rfl⟩
#print axioms rat_any
set_option maxRecDepth 100000 in
set_option maxHeartbeats 2000000 in
theorem rgetE_any {w : World} {v : Value} {x : List En} (h : w.ownsRow 0 64 2 v x.length (cellsE x)) (k : Wd) :
    Calls Try.prog 57 #[v, strV k] w fun e w' => e = .returned (.int .u64 (getQ x k : Nat)) ∧ w' = w := by
  have hat := rat_any h k
  have hal := at_le x k
  have hgr : getQ x k = match x[atE x k]? with | some e => if e.1 = k then e.2 else 0 | none => 0 := rfl
  by_cases hl : atE x k = x.length
  · have hE : Hid (getQ x k = 0) := by show _ = _; rw [hgr, hl, List.getElem?_eq_none (Nat.le_refl _)]
    have hni : ¬ (atE x k : Int) < x.length := by omega
    obtain ⟨ao, cap, rfl⟩ := own2_slice h
    clear hgr hl hal h
    go_enter Try.func57, Try.ntmps57
    go_wp2_with (go_at_call 59; refine hat.mono ?_; rintro e w' ⟨rfl, rfl⟩)
    go_ret
    exact ⟨by rw [hE.out]; rfl, rfl⟩
  have hlN : atE x k < x.length := by omega
  have hli : (atE x k : Int) < x.length := by omega
  have he : x[atE x k]? = some x[atE x k] := List.getElem?_eq_getElem hlN
  rw [he] at hgr
  obtain ⟨g, cap', rfl, _, _, _, hc, _⟩ := own2_at h (by omega)
  have hc1 := (hc _ _ he).1
  have hc2 := (hc _ _ he).2
  generalize x[atE x k] = e at *
  generalize atE x k = j at *
  have Hgr : Hid _ := hgr
  clear hc he hgr hl hal h
  obtain ⟨ek, en⟩ := e
  by_cases hq : ek = k
  · subst hq
    have hE : Hid (getQ x ek = en) := by show _ = _; rw [Hgr.out]; simp
    go_enter Try.func57, Try.ntmps57
    go_wp2_with (go_at_call 59; refine hat.mono ?_; rintro e w' ⟨rfl, rfl⟩)
    go_ret
    exact ⟨by rw [hE.out]; rfl, rfl⟩
  · have hE : Hid (getQ x k = 0) := by show _ = _; rw [Hgr.out]; simp [hq]
    have hqb : (ek == k) = false := by rw [beq_eq_false_iff_ne]; exact hq
    go_enter Try.func57, Try.ntmps57
    go_wp2_with (go_at_call 59; refine hat.mono ?_; rintro e w' ⟨rfl, rfl⟩)
    go_ret
    exact ⟨by rw [hE.out]; rfl, rfl⟩
#print axioms rgetE_any
end Go.Proofs.Ytknfjonaepggnaa
