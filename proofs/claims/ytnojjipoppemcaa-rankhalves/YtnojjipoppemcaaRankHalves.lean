/- For every input RankHalves answers true, and leaves its arguments as they were. Conditions: none. -/
import Derived.Test.YtnojjipoppemcaaRows
import Derived.Test.YtnojjipoppemcaaShown13
import Derived.Test.YtnojjipoppemcaaFound
import Derived.ProofKit
import Derived.OpenShut
import Derived.ShutString
import Derived.ChangeOld
import Derived.SizedLaws
import Derived.Deep.RegionHeld
import Derived.Deep.RegionHeld3
import Derived.Deep.QuietTactic
import Derived.BigQuiet
import Derived.Deep.Cut
import Derived.Deep.CutBlock
namespace Go.Proofs.Ytnojjipoppemcaa.rankHalves
open Go.ChangeShapes Go.WideShapes Go.ChangeAt Go.RowKit
open Go.ChangeMaps (open_string shut_string)
set_option linter.unusedVariables false

theorem own : ownKnob Try.prog.godebug = none := by kernel_rfl
theorem laidOut : laidOutB Try.prog = true := by kernel_rfl


set_option maxRecDepth 100000 in
set_option maxHeartbeats 4000000 in
theorem walk (w : World) (a0 : Int) (w0 : (Lit.int .u32 a0).wf = true) (a1 : Int) (w1 : (Lit.int .u32 a1).wf = true) :
    Calls Try.prog 6 #[.int .u32 a0, .int .u32 a1] w fun e w' => e = .returned (.bool true) ∧ Below w.heap.size w w' := by
  have hx := bounds_u32 w0
  have hy := bounds_u32 w1
  obtain ⟨a, rfl⟩ := Int.eq_ofNat_of_zero_le (show 0 ≤ a0 by omega)
  obtain ⟨b, rfl⟩ := Int.eq_ofNat_of_zero_le (show 0 ≤ a1 by omega)
  have ha : a ≤ 4294967295 := by omega
  have hb : b ≤ 4294967295 := by omega
  have pa : ∀ W, Calls Try.prog 15 #[.int .u64 (a : Nat)] W fun e w' => e = .returned (.int .i64 (halfs a : Nat)) ∧ w' = W := fun W => half_any a W (by omega)
  have pb : ∀ W, Calls Try.prog 15 #[.int .u64 (b : Nat)] W fun e w' => e = .returned (.int .i64 (halfs b : Nat)) ∧ w' = W := fun W => half_any b W (by omega)
  obtain ⟨a2, ha2⟩ : ∃ x, x = 2 * a := ⟨_, rfl⟩
  obtain ⟨a3, ha3⟩ : ∃ x, x = 2 * a + 1 := ⟨_, rfl⟩
  have pc : ∀ W, Calls Try.prog 15 #[.int .u64 (a2 : Nat)] W fun e w' => e = .returned (.int .i64 (halfs a2 : Nat)) ∧ w' = W := fun W => half_any a2 W (by omega)
  have pd : ∀ W, Calls Try.prog 15 #[.int .u64 (a3 : Nat)] W fun e w' => e = .returned (.int .i64 (halfs a3 : Nat)) ∧ w' = W := fun W => half_any a3 W (by omega)
  have e2 : (2 : Int) * a = (a2 : Nat) := by omega
  have e3 : (a2 : Int) + 1 = (a3 : Nat) := by omega
  have k1 : halfs a ≤ 32 := half_most 32 a (by omega)
  have k3 : a ≠ 0 → halfs a2 = halfs a + 1 := fun h0 => by rw [ha2]; exact half_twice h0
  have k2 : a ≠ 0 → halfs a3 = halfs a2 := fun h0 => by rw [ha3, ha2]; exact half_odd h0
  have k4 : a ≤ b → halfs a ≤ halfs b := half_mono a b
  have k5 : halfs a = 0 ↔ a = 0 := half_iff
  generalize halfs a = x at *
  generalize halfs b = y at *
  generalize halfs a2 = z at *
  generalize halfs a3 = u at *
  have PA : Hid _ := pa
  have PB : Hid _ := pb
  have PC : Hid _ := pc
  have PD : Hid _ := pd
  have k1b : (x : Int) ≤ 32 := by omega
  have K4 : Hid _ := k4
  clear pa pb pc pd hx hy w0 w1 ha2 ha3 k4
  by_cases h0 : a = 0
  · have hx0 : x = 0 := k5.2 h0
    subst h0 hx0
    clear k1 k2 k3 k5 PC PD
    have hlt : ¬ (0 : Int) > (b : Int) := by omega
    have h5 : ¬ (b : Int) < 0 := by omega
    have hy0 : (0 : Int) ≤ y := by omega
    clear K4 e2 e3
    go_enter Try.func6, Try.ntmps6
    go_wp2_with fail
    refine (shown_any w).mono ?_
    rintro e wa ⟨rfl, hB1⟩
    have HB1 : Hid _ := hB1
    clear hB1
    go_wp2_with fail
    refine (PA.out _).mono ?_
    rintro e wb ⟨rfl, hw⟩
    obtain rfl := hw.symm
    go_wp2_with fail
    refine (PB.out _).mono ?_
    rintro e wb ⟨rfl, hw⟩
    obtain rfl := hw.symm
    go_wp2_with fail
    refine (PA.out _).mono ?_
    rintro e wb ⟨rfl, hw⟩
    obtain rfl := hw.symm
    go_wp2_with fail
    refine (PA.out _).mono ?_
    rintro e wb ⟨rfl, hw⟩
    obtain rfl := hw.symm
    go_wp2
    go_ret
    exact ⟨rfl, HB1.out⟩
  · obtain rfl := k2 h0
    have hz := k3 h0
    have a1 : ((a : Int) == 0) = false := by rw [beq_eq_false_iff_ne]; omega
    have a4 : ((x : Int) == 0) = false := by rw [beq_eq_false_iff_ne]; omega
    have z1 : ((u : Int) == (x : Int) + 1) = true := by rw [beq_iff_eq]; omega
    have z2 : ((u : Int) == u) = true := by simp
    clear k1 k2 k3 k5 hz h0
    by_cases hab : a ≤ b
    · have h5 : ¬ (b : Int) < a := by omega
      have h6 : (x : Int) ≤ y := by have := K4.out hab; omega
      clear K4 hab
      go_enter Try.func6, Try.ntmps6
      go_wp2_with fail
      refine (shown_any w).mono ?_
      rintro e wa ⟨rfl, hB1⟩
      have HB1 : Hid _ := hB1
      clear hB1
      go_wp2_with fail
      refine (PC.out _).mono ?_
      rintro e wb ⟨rfl, hw⟩
      obtain rfl := hw.symm
      go_wp2_with fail
      refine (PA.out _).mono ?_
      rintro e wb ⟨rfl, hw⟩
      obtain rfl := hw.symm
      go_wp2_with fail
      refine (PD.out _).mono ?_
      rintro e wb ⟨rfl, hw⟩
      obtain rfl := hw.symm
      go_wp2_with fail
      refine (PC.out _).mono ?_
      rintro e wb ⟨rfl, hw⟩
      obtain rfl := hw.symm
      go_wp2_with fail
      refine (PA.out _).mono ?_
      rintro e wb ⟨rfl, hw⟩
      obtain rfl := hw.symm
      go_wp2_with fail
      refine (PB.out _).mono ?_
      rintro e wb ⟨rfl, hw⟩
      obtain rfl := hw.symm
      go_wp2_with fail
      refine (PA.out _).mono ?_
      rintro e wb ⟨rfl, hw⟩
      obtain rfl := hw.symm
      go_wp2_with fail
      refine (PA.out _).mono ?_
      rintro e wb ⟨rfl, hw⟩
      obtain rfl := hw.symm
      go_wp2
      go_ret
      exact ⟨rfl, HB1.out⟩
    · have h5 : (b : Int) < a := by omega
      clear K4 hab
      go_enter Try.func6, Try.ntmps6
      go_wp2_with fail
      refine (shown_any w).mono ?_
      rintro e wa ⟨rfl, hB1⟩
      have HB1 : Hid _ := hB1
      clear hB1
      go_wp2_with fail
      refine (PC.out _).mono ?_
      rintro e wb ⟨rfl, hw⟩
      obtain rfl := hw.symm
      go_wp2_with fail
      refine (PA.out _).mono ?_
      rintro e wb ⟨rfl, hw⟩
      obtain rfl := hw.symm
      go_wp2_with fail
      refine (PD.out _).mono ?_
      rintro e wb ⟨rfl, hw⟩
      obtain rfl := hw.symm
      go_wp2_with fail
      refine (PC.out _).mono ?_
      rintro e wb ⟨rfl, hw⟩
      obtain rfl := hw.symm
      go_wp2_with fail
      refine (PA.out _).mono ?_
      rintro e wb ⟨rfl, hw⟩
      obtain rfl := hw.symm
      go_wp2_with fail
      refine (PA.out _).mono ?_
      rintro e wb ⟨rfl, hw⟩
      obtain rfl := hw.symm
      go_wp2
      go_ret
      exact ⟨rfl, HB1.out⟩

set_option maxRecDepth 100000 in
theorem lifted (os : Os) (started : os.Started) (H : Type) (enc : TypeId × Value → H) :
    ReturnsInHanded {} Try.checked os 6 .any (Rows.rankHalvesSpec.pre6 enc Try.prog Try.f6 Rows.rankHalvesRow.domain false) (Rows.rankHalvesSpec.post enc Try.prog Try.f6 false true false false) := by
  refine returnsInHanded_of_change_sized (C := Try.checked) own started (by kernel_rfl) Try.func6
    (ChangeSpec.witness6 (enc := enc) (C := Try.checked) false ⟨#[], #[.int .u32 0, .int .u32 0], []⟩ 8 (by kernel_rfl) (by kernel_rfl) (by kernel_rfl) (by kernel_rfl)) ?_
  intro W base args ds gs before hval0 hW hcnd hsz0 _
  have hsz : (DataW.weightsEach Try.prog (Try.f6.params.toList ++ Rows.rankHalvesSpec.plain.varTypes Try.prog) (ds ++ gs)).all (· ≤ reachBytes) = true := hsz0
  clear hsz0
  have hval : ∀ (j : Nat) t v, Try.f6.params[j]? = some t → args[j]? = some v → Value.okWide Try.prog W .any base t v := hval0
  have hW' := hW
  obtain ⟨p, q, hA0, hV, rfl, hfz, hnd⟩ := hW
  have hA : DataW.TrodAll enc Try.prog W 0 (fun _ => true) true Try.f6.params.toList args.toList ds p := hA0
  rw [Try.params6] at hA hval hsz
  obtain ⟨v0, vs0, d0, ds0, p0, q0, hargs, rfl, rfl, h0, rr0⟩ := trodAll_cons hA
  obtain ⟨v1, vs1, d1, ds1, p1, q1, rfl, rfl, rfl, h1, rr1⟩ := trodAll_cons rr0
  obtain ⟨rfl, rfl, rfl⟩ := trodAll_nil rr1
  obtain rfl : args = #[v0, v1] := by cases args; simp_all
  obtain ⟨rfl, rfl⟩ := trodVars_none hV
  obtain ⟨a0, rfl, rfl, rfl, w0⟩ := open_int Try.underlying37 (hval 0 37 v0 rfl rfl) h0
  obtain ⟨a1, rfl, rfl, rfl, w1⟩ := open_int Try.underlying37 (hval 1 37 v1 rfl rfl) h1
  clear hA0 hval0
  refine (walk W a0 w0 a1 w1).mono fun e W' ⟨he, bel⟩ => ?_
  subst he
  exact ⟨_, rfl, _, _, _, [], _, [], hW', trodAll_mk1 (shut_bool Try.underlying4 _), (trodAll_cons_mk (shut_int Try.underlying37 w0) (trodAll_cons_mk (shut_int Try.underlying37 w1) trodAll_mk0)), rfl, bel.frame _, fun h => by cases h⟩

theorem over : Rows.rankHalvesRow.holds Try.pinned (OpenSpec.ofChange Rows.rankHalvesSpec) :=
  OpenClaim.holds_of_wide 6 Try.f6 rfl rfl rfl rfl rfl rfl rfl ⟨rfl, rfl, rfl, rfl, rfl⟩ rfl rfl rfl rfl rfl (by kernel_rfl) Try.func6 (by kernel_rfl)
    (of_decide_eq_true (by kernel_rfl)) (by unfold Func.isWrapper; first | (rw [if_pos (by decide +kernel)]; kernel_rfl) | (rw [if_neg (by decide +kernel)]; exact ⟨rfl, rfl⟩))
    (fun os started H enc _ => lifted os started H enc)
end Go.Proofs.Ytnojjipoppemcaa.rankHalves
namespace Go.Proofs.Ytnojjipoppemcaa
theorem rankHalves_holds : Rows.RankHalvesSaid := rankHalves.over
#print axioms rankHalves_holds
end Go.Proofs.Ytnojjipoppemcaa
