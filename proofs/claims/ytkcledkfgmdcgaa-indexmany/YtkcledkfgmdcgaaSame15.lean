/- manteletref15's Same, over counts. -/
import Derived.Test.YtkcledkfgmdcgaaKept
import Derived.Deep.QuietTactic
import Derived.BigQuiet
namespace Go.Proofs.Ytkcledkfgmdcgaa
open Go.RowKit
set_option linter.unusedVariables false
set_option linter.unusedSimpArgs false

set_option maxRecDepth 100000 in
set_option maxHeartbeats 4000000 in
theorem rsame15_any {w : World} {ao bo : Option Addr} {len cap blen bcap : Nat} {x y : List Nat} (hr : Reads w ao len cap (x.map fun (n : Nat) => Value.int .u64 (n : Int))) (hk : Reads w bo blen bcap (y.map fun (n : Nat) => Value.int .u64 (n : Int))) :
    Calls Try.prog 18 #[.slice ao len cap, .slice bo blen bcap] w fun e w' => e = .returned (.bool (decide (x = y))) ∧ ∃ m, w' = w.drewN m := by
  have hl := (by simpa using hr.length : x.length = len)
  have hl2 := (by simpa using hk.length : y.length = blen)
  have hm1 := Nat.le_trans hr.le hr.most
  have hm2 := Nat.le_trans hk.le hk.most
  unfold maxLen at hm1 hm2
  by_cases hlb : len = blen
  case neg =>
    have hE : Hid (decide (x = y) = false) := by show _ = _; rw [decide_eq_false_iff_not]; intro h; rw [h] at hl; omega
    have hne : ((len : Int) == blen) = false := by simp; omega
    clear hm1 hm2
    go_enter Try.func18, Try.ntmps18
    go_wp2
    go_ret
    exact ⟨by rw [hE.out]; rfl, 0, rfl⟩
  subst hlb
  have hm3 : (len : Int) ≤ 9223372036854775807 := by omega
  have Hl : Hid _ := hl
  have Hl2 : Hid _ := hl2
  clear hm1 hm2 hl hl2
  go_enter Try.func18, Try.ntmps18
  go_wp2_with fail
  go_loopw [5] (fun i wr => ∃ j : Nat, i = .int .i64 j ∧ j ≤ len ∧ Hid (x.take j = y.take j) ∧ ∃ m, wr = w.drewN m) (fun i _ => (len - intOf i).toNat)
  case atStart => exact ⟨0, rfl, by omega, rfl, 0, rfl⟩
  case round =>
    obtain ⟨j, rfl, hj, hT, md, hw⟩ := hrel
    have Hw : Hid _ := hw
    clear hw
    by_cases hjl : j = len
    · subst hjl
      have hE : Hid (decide (x = y) = true) := by show _ = _; simp only [decide_eq_true_eq]; have := hT.out; rwa [List.take_of_length_le (by rw [Hl.out]; omega), List.take_of_length_le (by rw [Hl2.out]; omega)] at this
      go_wp2
      go_ret
      exact ⟨by rw [hE.out]; rfl, md, Hw.out⟩
    · have hlt : (j : Int) < len := by omega
      have hltN : j < len := by omega
      obtain ⟨b1, o1, rfl, hb1, hat1⟩ := hr.at15 (by omega)
      obtain ⟨b2, o2, rfl, hb2, hat2⟩ := hk.at15 (by omega)
      obtain ⟨p, hp⟩ : ∃ p, x[j]? = some p := ⟨_, List.getElem?_eq_getElem (by rw [Hl.out]; exact hltN)⟩
      obtain ⟨q, hq⟩ : ∃ q, y[j]? = some q := ⟨_, List.getElem?_eq_getElem (by rw [Hl2.out]; exact hltN)⟩
      have hc1 : wr.cell? ⟨b1, o1 + j, none⟩ = some (.int .u64 (p : Nat)) := by rw [Hw.out]; exact hat1 j _ (by rw [List.getElem?_map, hp]; rfl)
      have hc2 : wr.cell? ⟨b2, o2 + j, none⟩ = some (.int .u64 (q : Nat)) := by rw [Hw.out]; exact hat2 j _ (by rw [List.getElem?_map, hq]; rfl)
      have t1 : x.take (j + 1) = x.take j ++ [p] := by rw [List.take_add_one, hp]; rfl
      have t2 : y.take (j + 1) = y.take j ++ [q] := by rw [List.take_add_one, hq]; rfl
      have hne : Hid (p ≠ q → decide (x = y) = false) := by show _ → _; intro h; simp only [decide_eq_false_iff_not]; intro h'; subst h'; exact h (Option.some.inj (hp.symm.trans hq))
      have T1 : Hid _ := t1
      have T2 : Hid _ := t2
      clear hat1 hat2 hjl hp hq t1 t2 hb1 hb2
      by_cases hq : p = q
      · subst hq
        have hpp : (((p : Nat) : Int) == ((p : Nat) : Int)) = true := by simp
        have hT' : Hid (x.take (j + 1) = y.take (j + 1)) := by show _ = _; rw [T1.out, T2.out, hT.out]
        clear T1 T2 hne
        go_wp2_with fail
        go_quiet (fail)
        go_wp2
        go_roundw
        case rel => exact ⟨j + 1, by go_num, by omega, hT', md + nq, by rw [Hw.out, World.drewN_drewN]⟩
        case measure => simp [intOf]; omega
      · have hqd : (((p : Nat) : Int) == ((q : Nat) : Int)) = false := by rw [beq_eq_false_iff_ne]; omega
        have hE : Hid (decide (x = y) = false) := hne.out hq
        clear T1 T2 hne hq
        go_wp2_with fail
        go_quiet (fail)
        go_wp2
        go_ret
        exact ⟨by rw [hE.out]; rfl, md + nq, by rw [Hw.out, World.drewN_drewN]⟩
#print axioms rsame15_any
end Go.Proofs.Ytkcledkfgmdcgaa
