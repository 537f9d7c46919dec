/- The document's own At and Get, of a list that came in. -/
import Derived.Test.YtgnhnhachhfafaaRef08
namespace Go.Proofs.Ytgnhnhachhfafaa
open Go.RowKit
set_option linter.unusedVariables false
set_option linter.unusedSimpArgs false

set_option maxRecDepth 100000 in
set_option maxHeartbeats 2000000 in
theorem ratR_any {w : World} {ao : Option Addr} {cap : Nat} {x : List En} (h : ReadsE w ao x.length cap (cellsE x)) (k : Wd) :
    Calls Try.prog 28 #[.slice ao x.length cap, strV k] w fun e w' => e = .returned (.int .i64 (atE x k : Nat)) ∧ w' = w := by
  have hm := Nat.le_trans h.le h.most
  unfold maxLen at hm
  have hmi : (x.length : Int) ≤ 9223372036854775807 := by omega
  have hal := at_le x k
  clear hm
  go_enter Try.func28, Try.ntmps28
  go_wp2_with fail
  go_loop [5] (fun i => ∃ j : Nat, i = .int .i64 j ∧ j ≤ atE x k) (fun i => (x.length - intOf i).toNat)
  case atStart => exact ⟨0, rfl, Nat.zero_le _⟩
  case round =>
    obtain ⟨j, rfl, hj⟩ := hrel
    by_cases hjl : j = x.length
    · have hE : Hid (atE x k = j) := by show _ = _; omega
      have hlt : ¬ (j : Int) < x.length := by omega
      clear hj hal hjl
      go_wp2
      go_ret
      exact ⟨by rw [hE.out]; rfl, rfl⟩
    have hjN : j < x.length := by omega
    have hji : (j : Int) < x.length := by omega
    have he : x[j]? = some x[j] := List.getElem?_eq_getElem hjN
    obtain ⟨g, off, rfl, _, hc⟩ := h.at (by omega)
    have hcc := (hc j _ he).1
    have hmore := fun hl => at_more hj he hl
    have hhere := fun hl => at_here hj he hl
    generalize x[j] = e at hcc hmore hhere
    clear hc he hj hjl hal h
    cases hl : lessB e.1 k with
    | true =>
      have hM : Hid _ := hmore hl
      clear hmore hhere
      go_wp2
      go_round
      case rel => exact ⟨j + 1, by go_num, hM.out⟩
      case measure => simp [intOf]; omega
    | false =>
      have hE : Hid _ := hhere hl
      clear hmore hhere
      go_wp2
      go_ret
      exact ⟨by rw [hE.out]; rfl, rfl⟩
#print axioms ratR_any
set_option maxRecDepth 100000 in
set_option maxHeartbeats 2000000 in
theorem rgetR_any {w : World} {ao : Option Addr} {cap : Nat} {x : List En} (h : ReadsE w ao x.length cap (cellsE x)) (k : Wd) :
    Calls Try.prog 17 #[.slice ao x.length cap, strV k] w fun e w' => e = .returned (.int .u64 (getQ x k : Nat)) ∧ w' = w := by
  have hat := ratR_any h k
  have hal := at_le x k
  have hgr : getQ x k = match x[atE x k]? with | some e => if e.1 = k then e.2 else 0 | none => 0 := rfl
  by_cases hl : atE x k = x.length
  · have hE : Hid (getQ x k = 0) := by show _ = _; rw [hgr, hl, List.getElem?_eq_none (Nat.le_refl _)]
    have hni : ¬ (atE x k : Int) < x.length := by omega
    clear hgr hl hal h
    go_enter Try.func17, Try.ntmps17
    go_wp2_with (go_at_call 28; refine hat.mono ?_; rintro e w' ⟨rfl, rfl⟩)
    go_ret
    exact ⟨by rw [hE.out]; rfl, rfl⟩
  have hlN : atE x k < x.length := by omega
  have hli : (atE x k : Int) < x.length := by omega
  have he : x[atE x k]? = some x[atE x k] := List.getElem?_eq_getElem hlN
  rw [he] at hgr
  obtain ⟨g, off, rfl, _, hc⟩ := h.at (by omega)
  have hc1 := (hc _ _ he).1
  have hc2 := (hc _ _ he).2
  generalize x[atE x k] = e at *
  generalize atE x k = j at *
  have Hgr : Hid _ := hgr
  clear hc he hgr hl hal h
  obtain ⟨ek, en⟩ := e
  by_cases hq : ek = k
  · subst hq
    have hE : Hid (getQ x ek = en) := by show _ = _; rw [Hgr.out]; simp
    go_enter Try.func17, Try.ntmps17
    go_wp2_with (go_at_call 28; refine hat.mono ?_; rintro e w' ⟨rfl, rfl⟩)
    go_ret
    exact ⟨by rw [hE.out]; rfl, rfl⟩
  · have hE : Hid (getQ x k = 0) := by show _ = _; rw [Hgr.out]; simp [hq]
    have hqb : (ek == k) = false := by rw [beq_eq_false_iff_ne]; exact hq
    go_enter Try.func17, Try.ntmps17
    go_wp2_with (go_at_call 28; refine hat.mono ?_; rintro e w' ⟨rfl, rfl⟩)
    go_ret
    exact ⟨by rw [hE.out]; rfl, rfl⟩
#print axioms rgetR_any
end Go.Proofs.Ytgnhnhachhfafaa
