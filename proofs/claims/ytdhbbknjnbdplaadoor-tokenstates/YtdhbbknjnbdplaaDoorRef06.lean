/- The contracts of the document's own answers for words: letter, within. -/
import Derived.Test.YtdhbbknjnbdplaaDoorWordsMath
import Derived.Test.YtdhbbknjnbdplaaDoorRef05
import Derived.Test.YtdhbbknjnbdplaaDoorUtfConv
import Derived.Test.YtdhbbknjnbdplaaDoorInfos
import Derived.Test.YtdhbbknjnbdplaaDoorOwn2
namespace Go.Proofs.YtdhbbknjnbdplaaDoor
open Go.RowKit
set_option linter.unusedVariables false

def letAt (z : List Int) (i : Int) : Bool := decide (0 ≤ i) && decide (i < z.length) && letterF (z.getD i.toNat 0)

theorem letAt_in (z : List Int) (k : Nat) (h : k < z.length) : letAt z (k : Int) = letterF (z.getD k 0) := by
  unfold letAt
  have h1 : decide (0 ≤ (k : Int)) = true := by rw [decide_eq_true_eq]; omega
  have h2 : decide ((k : Int) < z.length) = true := by rw [decide_eq_true_eq]; omega
  rw [h1, h2, Int.toNat_natCast]; rfl
theorem letAt_next (z : List Int) (k : Nat) : letAt z ((k : Int) + 1) = nextL (z.drop (k + 1)) := by
  by_cases h : k + 1 < z.length
  · have e : z.drop (k + 1) = z.getD (k + 1) 0 :: z.drop (k + 2) := by
      rw [List.getD, List.getElem?_eq_getElem h]; exact List.drop_eq_getElem_cons h
    rw [e]
    have := letAt_in z (k + 1) h
    push_cast at this
    rw [this]; rfl
  · rw [List.drop_eq_nil_of_le (by omega)]
    unfold letAt
    have h2 : decide ((k : Int) + 1 < z.length) = false := by rw [decide_eq_false_iff_not]; omega
    rw [h2]; simp [nextL]
theorem letAt_neg (z : List Int) (i : Int) (h : i < 0) : letAt z i = false := by
  unfold letAt
  have h1 : decide (0 ≤ i) = false := by rw [decide_eq_false_iff_not]; omega
  rw [h1]; rfl

set_option maxRecDepth 100000 in
theorem rlet_any (ao : Option Addr) (len cap : Nat) (z : List Int) (i : Int) (w : World) (hr : Reads w ao len cap (z.map (.int .i32))) (hlen : len ≤ 1000000000000) :
    Calls Tryd.prog 42 #[.slice ao len cap, .int .i64 i] w fun e w' => e = .returned (.bool (letAt z i)) ∧ w' = w := by
  have hl : z.length = len := by simpa using hr.length
  by_cases h0 : i < 0
  · have hE : Hid (letAt z i = false) := letAt_neg z i h0
    have g0 : decide (0 ≤ i) = false := by rw [decide_eq_false_iff_not]; omega
    clear h0
    go_enter Tryd.func42, Tryd.ntmps42
    go_wp2
    go_ret
    exact ⟨by rw [hE.out]; rfl, rfl⟩
  have g0 : 0 ≤ i := by omega
  by_cases h1 : i < len
  · obtain ⟨k, rfl⟩ := Int.eq_ofNat_of_zero_le g0
    obtain ⟨b1, o1, rfl, hb1, hat1⟩ := hr.at (by omega)
    have hE : Hid (letAt z (k : Int) = letterF (z.getD k 0)) := letAt_in z k (by omega)
    have hc := hat1 k (by omega)
    generalize z.getD k 0 = x at hc hE
    clear hat1 h0
    go_enter Tryd.func42, Tryd.ntmps42
    go_wp2_with fail
    refine (rletter_any x w).mono ?_
    rintro e wb ⟨rfl, rfl⟩
    go_wp2
    go_ret
    exact ⟨by rw [hE.out]; rfl, rfl⟩
  · have hE : Hid (letAt z i = false) := by
      show _ = _
      unfold letAt
      have h2 : decide (i < z.length) = false := by rw [decide_eq_false_iff_not]; omega
      rw [h2]; simp
    have g1 : decide (i < len) = false := by rw [decide_eq_false_iff_not]; omega
    clear h0 h1
    go_enter Tryd.func42, Tryd.ntmps42
    go_wp2
    go_ret
    exact ⟨by rw [hE.out]; rfl, rfl⟩
#print axioms rlet_any

/-- Whether the rune at a place is one of a stretch. -/
def inW (z : List Int) (k : Nat) : Bool := letterF (z.getD k 0) || markF (z.getD k 0) && letAt z ((k : Int) - 1) && letAt z ((k : Int) + 1)

set_option maxRecDepth 100000 in
theorem rwithin_any (ao : Option Addr) (len cap : Nat) (z : List Int) (k : Nat) (w : World) (hr : Reads w ao len cap (z.map (.int .i32))) (hlen : len ≤ 1000000000000) (hk : k < len) :
    Calls Tryd.prog 41 #[.slice ao len cap, .int .i64 (k : Int)] w fun e w' => e = .returned (.bool (inW z k)) ∧ w' = w := by
  have hl : z.length = len := by simpa using hr.length
  have hki : (k : Int) < len := by omega
  obtain ⟨b1, o1, rfl, hb1, hat1⟩ := hr.at (by omega)
  have hc := hat1 k (by omega)
  have hA : Hid (letAt z (k : Int) = letterF (z.getD k 0)) := letAt_in z k (by omega)
  have hI : Hid (inW z k = (letterF (z.getD k 0) || markF (z.getD k 0) && letAt z ((k : Int) - 1) && letAt z ((k : Int) + 1))) := rfl
  generalize z.getD k 0 = x at hc hA hI
  clear hat1
  go_enter Tryd.func41, Tryd.ntmps41
  go_wp2_with fail
  refine (rlet_any _ _ _ z _ w hr hlen).mono ?_
  rintro e wb ⟨rfl, rfl⟩
  rw [hA.out]
  cases hL : letterF x with
  | true =>
    have hE : Hid (inW z k = true) := by show _ = _; rw [hI.out, hL]; rfl
    clear hL
    go_wp2
    go_ret
    exact ⟨by rw [hE.out]; rfl, rfl⟩
  | false =>
    rw [hL] at hI
    go_wp2_with fail
    refine (rmark_any x wb).mono ?_
    rintro e wc ⟨rfl, rfl⟩
    cases hM : markF x with
    | false =>
      have hE : Hid (inW z k = false) := by show _ = _; rw [hI.out, hM]; rfl
      clear hL hM
      go_wp2
      go_ret
      exact ⟨by rw [hE.out]; rfl, rfl⟩
    | true =>
      rw [hM] at hI
      clear hL hM
      have s1 : IntKind.i64.wrap ((k : Int) - 1) = (k : Int) - 1 := by rw [IntKind.wrap_i64]; omega
      have s2 : IntKind.i64.wrap ((k : Int) + 1) = (k : Int) + 1 := by rw [IntKind.wrap_i64]; omega
      go_wp2_with fail
      refine (rlet_any _ _ _ z _ wc hr hlen).mono ?_
      rintro e wd ⟨rfl, rfl⟩
      cases hP : letAt z ((k : Int) - 1) with
      | false =>
        have hE : Hid (inW z k = false) := by show _ = _; rw [hI.out, hP]; rfl
        clear hP
        go_wp2
        go_ret
        exact ⟨by rw [hE.out]; rfl, rfl⟩
      | true =>
        rw [hP] at hI
        clear hP
        go_wp2_with fail
        refine (rlet_any _ _ _ z _ wd hr hlen).mono ?_
        rintro e we ⟨rfl, rfl⟩
        have hE : Hid (inW z k = letAt z ((k : Int) + 1)) := by show _ = _; rw [hI.out]; simp
        go_wp2
        go_ret
        exact ⟨by rw [hE.out]; rfl, rfl⟩
#print axioms rwithin_any
end Go.Proofs.YtdhbbknjnbdplaaDoor
