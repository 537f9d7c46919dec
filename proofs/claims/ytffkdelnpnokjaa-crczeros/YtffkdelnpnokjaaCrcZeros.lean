/- For every input CrcZeros answers true, and leaves its arguments as they were. Conditions: none. -/
import Derived.Test.YtffkdelnpnokjaaRows
import Derived.Test.YtffkdelnpnokjaaCrcMade
import Derived.Test.YtffkdelnpnokjaaShown02
import Derived.Test.YtffkdelnpnokjaaOpen
import Derived.Test.YtffkdelnpnokjaaCuts
import Derived.ProofKit
import Derived.OpenShut
import Derived.ShutString
import Derived.ChangeOld
import Derived.SizedLaws
import Derived.Deep.RegionHeld
import Derived.Deep.QuietTactic
import Derived.BigQuiet
namespace Go.Proofs.Ytffkdelnpnokjaa.crcZeros
open Go.ChangeShapes Go.WideShapes Go.ChangeAt Go.RowKit
open Go.ChangeMaps (open_string shut_string)
set_option linter.unusedVariables false

theorem own : ownKnob Try.prog.godebug = none := by kernel_rfl
theorem laidOut : laidOutB Try.prog = true := by kernel_rfl


set_option maxRecDepth 100000 in
set_option maxHeartbeats 4000000 in
theorem walk (w : World) (a0 : Int) (w0 : (Lit.int .u16 a0).wf = true) (a1 : Int) (w1 : (Lit.int .u16 a1).wf = true) :
    Calls Try.prog 7 #[.int .u16 a0, .int .u16 a1] w fun e w' => e = .returned (.bool true) ∧ Below w.heap.size w w' := by
  have g0 := bounds_u16 w0
  have g1 := bounds_u16 w1
  obtain ⟨m0, rfl⟩ := Int.eq_ofNat_of_zero_le g0.1
  obtain ⟨m1, rfl⟩ := Int.eq_ofNat_of_zero_le g1.1
  obtain ⟨n0, hn0, hl0⟩ : ∃ k : Nat, (m0 : Int) % 5000 = (k : Int) ∧ k < 5000 := ⟨m0 % 5000, by simp, by omega⟩
  obtain ⟨n1, hn1, hl1⟩ : ∃ k : Nat, (m1 : Int) % 5000 = (k : Int) ∧ k < 5000 := ⟨m1 % 5000, by simp, by omega⟩
  obtain ⟨C0, mk0, rd0, rd0'⟩ := made n0 (by omega)
  obtain ⟨C1, mk1, rd1, rd1'⟩ := made n1 (by omega)
  have HZ : Hid _ := zeros_iff hl0 hl1
  have h80 := zeros_bytes n0
  have h81 := zeros_bytes n1
  go_enter Try.func7, Try.ntmps7
  go_wp2_with fail
  refine (shown_any _).mono ?_
  rintro e wa ⟨rfl, hb1⟩
  go_wp2_with fail
  by_cases hab : n0 = n1
  · subst hab
    first | go_region_held (fun W => Below wa.heap.size wa W) (first | exact Below.refl _ _ | exact Below.drew (Below.refl _ _) | assumption | exact Grow.trans (by assumption) (by assumption) | exact Below.alloc (by assumption) (Below.size (by assumption)) _) (first | (go_at_call 9; refine (of_any _ _ _ _ _ (by first | exact (rd0 _) | exact (rd0' _ _) | exact (rd1 _) | exact (rd1' _ _) | exact (rd0 _).later (Below.drew (Below.refl _ _)) (Nat.le_refl _) | exact (rd0' _ _).later (Below.drew (Below.refl _ _)) (Nat.le_refl _) | exact (rd1 _).later (Below.drew (Below.refl _ _)) (Nat.le_refl _) | exact (rd1' _ _).later (Below.drew (Below.refl _ _)) (Nat.le_refl _) | exact (rd0 _).later ((Below.refl _ _).alloc (Nat.le_refl _) _) (Nat.le_refl _) | exact (rd0' _ _).later ((Below.refl _ _).alloc (Nat.le_refl _) _) (Nat.le_refl _) | exact (rd1 _).later ((Below.refl _ _).alloc (Nat.le_refl _) _) (Nat.le_refl _) | exact (rd1' _ _).later ((Below.refl _ _).alloc (Nat.le_refl _) _) (Nat.le_refl _) | exact (rd0 _).later (Below.drew ((Below.refl _ _).alloc (Nat.le_refl _) _)) (Nat.le_refl _) | exact (rd0' _ _).later (Below.drew ((Below.refl _ _).alloc (Nat.le_refl _) _)) (Nat.le_refl _) | exact (rd1 _).later (Below.drew ((Below.refl _ _).alloc (Nat.le_refl _) _)) (Nat.le_refl _) | exact (rd1' _ _).later (Below.drew ((Below.refl _ _).alloc (Nat.le_refl _) _)) (Nat.le_refl _) | exact ((rd0 _)).later (by assumption) (Nat.le_refl _) | exact ((rd0' _ _)).later (by assumption) (Nat.le_refl _) | exact ((rd1 _)).later (by assumption) (Nat.le_refl _) | exact ((rd1' _ _)).later (by assumption) (Nat.le_refl _) | exact ((rd0 _).later (Below.drew (Below.refl _ _)) (Nat.le_refl _)).later (by assumption) (Nat.le_refl _) | exact ((rd0' _ _).later (Below.drew (Below.refl _ _)) (Nat.le_refl _)).later (by assumption) (Nat.le_refl _) | exact ((rd1 _).later (Below.drew (Below.refl _ _)) (Nat.le_refl _)).later (by assumption) (Nat.le_refl _) | exact ((rd1' _ _).later (Below.drew (Below.refl _ _)) (Nat.le_refl _)).later (by assumption) (Nat.le_refl _) | exact ((rd0 _).later ((Below.refl _ _).alloc (Nat.le_refl _) _) (Nat.le_refl _)).later (by assumption) (Nat.le_refl _) | exact ((rd0' _ _).later ((Below.refl _ _).alloc (Nat.le_refl _) _) (Nat.le_refl _)).later (by assumption) (Nat.le_refl _) | exact ((rd1 _).later ((Below.refl _ _).alloc (Nat.le_refl _) _) (Nat.le_refl _)).later (by assumption) (Nat.le_refl _) | exact ((rd1' _ _).later ((Below.refl _ _).alloc (Nat.le_refl _) _) (Nat.le_refl _)).later (by assumption) (Nat.le_refl _) | exact ((rd0 _).later (Below.drew ((Below.refl _ _).alloc (Nat.le_refl _) _)) (Nat.le_refl _)).later (by assumption) (Nat.le_refl _) | exact ((rd0' _ _).later (Below.drew ((Below.refl _ _).alloc (Nat.le_refl _) _)) (Nat.le_refl _)).later (by assumption) (Nat.le_refl _) | exact ((rd1 _).later (Below.drew ((Below.refl _ _).alloc (Nat.le_refl _) _)) (Nat.le_refl _)).later (by assumption) (Nat.le_refl _) | exact ((rd1' _ _).later (Below.drew ((Below.refl _ _).alloc (Nat.le_refl _) _)) (Nat.le_refl _)).later (by assumption) (Nat.le_refl _)) (zeros_bytes _)).mono ?_; rintro e w' ⟨rfl, hb⟩)) | fail
    all_goals
      go_wp2
      go_ret
      exact ⟨by simp, Grow.trans hb1 (by assumption)⟩
  · have hab1 : ((n0 : Int) == (n1 : Int)) = false := by simp; omega
    have hab2 : (((ofL (List.replicate n0 0) : Nat) : Int) == ((ofL (List.replicate n1 0) : Nat) : Int)) = false := by
      have : ofL (List.replicate n0 0) ≠ ofL (List.replicate n1 0) := fun h => hab (HZ.out.1 h)
      simp; omega
    clear hab
    first | go_region_held (fun W => Below wa.heap.size wa W) (first | exact Below.refl _ _ | exact Below.drew (Below.refl _ _) | assumption | exact Grow.trans (by assumption) (by assumption) | exact Below.alloc (by assumption) (Below.size (by assumption)) _) (first | (go_at_call 9; refine (of_any _ _ _ _ _ (by first | exact (rd0 _) | exact (rd0' _ _) | exact (rd1 _) | exact (rd1' _ _) | exact (rd0 _).later (Below.drew (Below.refl _ _)) (Nat.le_refl _) | exact (rd0' _ _).later (Below.drew (Below.refl _ _)) (Nat.le_refl _) | exact (rd1 _).later (Below.drew (Below.refl _ _)) (Nat.le_refl _) | exact (rd1' _ _).later (Below.drew (Below.refl _ _)) (Nat.le_refl _) | exact (rd0 _).later ((Below.refl _ _).alloc (Nat.le_refl _) _) (Nat.le_refl _) | exact (rd0' _ _).later ((Below.refl _ _).alloc (Nat.le_refl _) _) (Nat.le_refl _) | exact (rd1 _).later ((Below.refl _ _).alloc (Nat.le_refl _) _) (Nat.le_refl _) | exact (rd1' _ _).later ((Below.refl _ _).alloc (Nat.le_refl _) _) (Nat.le_refl _) | exact (rd0 _).later (Below.drew ((Below.refl _ _).alloc (Nat.le_refl _) _)) (Nat.le_refl _) | exact (rd0' _ _).later (Below.drew ((Below.refl _ _).alloc (Nat.le_refl _) _)) (Nat.le_refl _) | exact (rd1 _).later (Below.drew ((Below.refl _ _).alloc (Nat.le_refl _) _)) (Nat.le_refl _) | exact (rd1' _ _).later (Below.drew ((Below.refl _ _).alloc (Nat.le_refl _) _)) (Nat.le_refl _) | exact ((rd0 _)).later (by assumption) (Nat.le_refl _) | exact ((rd0' _ _)).later (by assumption) (Nat.le_refl _) | exact ((rd1 _)).later (by assumption) (Nat.le_refl _) | exact ((rd1' _ _)).later (by assumption) (Nat.le_refl _) | exact ((rd0 _).later (Below.drew (Below.refl _ _)) (Nat.le_refl _)).later (by assumption) (Nat.le_refl _) | exact ((rd0' _ _).later (Below.drew (Below.refl _ _)) (Nat.le_refl _)).later (by assumption) (Nat.le_refl _) | exact ((rd1 _).later (Below.drew (Below.refl _ _)) (Nat.le_refl _)).later (by assumption) (Nat.le_refl _) | exact ((rd1' _ _).later (Below.drew (Below.refl _ _)) (Nat.le_refl _)).later (by assumption) (Nat.le_refl _) | exact ((rd0 _).later ((Below.refl _ _).alloc (Nat.le_refl _) _) (Nat.le_refl _)).later (by assumption) (Nat.le_refl _) | exact ((rd0' _ _).later ((Below.refl _ _).alloc (Nat.le_refl _) _) (Nat.le_refl _)).later (by assumption) (Nat.le_refl _) | exact ((rd1 _).later ((Below.refl _ _).alloc (Nat.le_refl _) _) (Nat.le_refl _)).later (by assumption) (Nat.le_refl _) | exact ((rd1' _ _).later ((Below.refl _ _).alloc (Nat.le_refl _) _) (Nat.le_refl _)).later (by assumption) (Nat.le_refl _) | exact ((rd0 _).later (Below.drew ((Below.refl _ _).alloc (Nat.le_refl _) _)) (Nat.le_refl _)).later (by assumption) (Nat.le_refl _) | exact ((rd0' _ _).later (Below.drew ((Below.refl _ _).alloc (Nat.le_refl _) _)) (Nat.le_refl _)).later (by assumption) (Nat.le_refl _) | exact ((rd1 _).later (Below.drew ((Below.refl _ _).alloc (Nat.le_refl _) _)) (Nat.le_refl _)).later (by assumption) (Nat.le_refl _) | exact ((rd1' _ _).later (Below.drew ((Below.refl _ _).alloc (Nat.le_refl _) _)) (Nat.le_refl _)).later (by assumption) (Nat.le_refl _)) (zeros_bytes _)).mono ?_; rintro e w' ⟨rfl, hb⟩)) | fail
    all_goals
      go_wp2
      go_ret
      exact ⟨rfl, Grow.trans hb1 (by assumption)⟩

set_option maxRecDepth 100000 in
theorem lifted (os : Os) (started : os.Started) (H : Type) (enc : TypeId × Value → H) :
    ReturnsInHanded {} Try.checked os 7 .any (Rows.crcZerosSpec.pre6 enc Try.prog Try.f7 Rows.crcZerosRow.domain false) (Rows.crcZerosSpec.post enc Try.prog Try.f7 false true false false) := by
  refine returnsInHanded_of_change_sized (C := Try.checked) own started (by kernel_rfl) Try.func7
    (ChangeSpec.witness6 (enc := enc) (C := Try.checked) false ⟨#[], #[.int .u16 0, .int .u16 0], []⟩ 8 (by kernel_rfl) (by kernel_rfl) (by kernel_rfl) (by kernel_rfl)) ?_
  intro W base args ds gs before hval0 hW hcnd hsz0 _
  have hsz : (DataW.weightsEach Try.prog (Try.f7.params.toList ++ Rows.crcZerosSpec.plain.varTypes Try.prog) (ds ++ gs)).all (· ≤ reachBytes) = true := hsz0
  clear hsz0
  have hval : ∀ (j : Nat) t v, Try.f7.params[j]? = some t → args[j]? = some v → Value.okWide Try.prog W .any base t v := hval0
  have hW' := hW
  obtain ⟨p, q, hA0, hV, rfl, hfz, hnd⟩ := hW
  have hA : DataW.TrodAll enc Try.prog W 0 (fun _ => true) true Try.f7.params.toList args.toList ds p := hA0
  rw [Try.params7] at hA hval hsz
  obtain ⟨v0, vs0, d0, ds0, p0, q0, hargs, rfl, rfl, h0, rr0⟩ := trodAll_cons hA
  obtain ⟨v1, vs1, d1, ds1, p1, q1, rfl, rfl, rfl, h1, rr1⟩ := trodAll_cons rr0
  obtain ⟨rfl, rfl, rfl⟩ := trodAll_nil rr1
  obtain rfl : args = #[v0, v1] := by cases args; simp_all
  obtain ⟨rfl, rfl⟩ := trodVars_none hV
  obtain ⟨a0, rfl, rfl, rfl, w0⟩ := open_int Try.underlying28 (hval 0 28 v0 rfl rfl) h0
  obtain ⟨a1, rfl, rfl, rfl, w1⟩ := open_int Try.underlying28 (hval 1 28 v1 rfl rfl) h1
  clear hA0 hval0
  refine (walk W a0 w0 a1 w1).mono fun e W' ⟨he, bel⟩ => ?_
  subst he
  exact ⟨_, rfl, _, _, _, [], _, [], hW', trodAll_mk1 (shut_bool Try.underlying4 _), (trodAll_cons_mk (shut_int Try.underlying28 w0) (trodAll_cons_mk (shut_int Try.underlying28 w1) trodAll_mk0)), rfl, bel.frame _, fun h => by cases h⟩

theorem over : Rows.crcZerosRow.holds Try.pinned (OpenSpec.ofChange Rows.crcZerosSpec) :=
  OpenClaim.holds_of_wide 7 Try.f7 rfl rfl rfl rfl rfl rfl rfl ⟨rfl, rfl, rfl, rfl, rfl⟩ rfl rfl rfl rfl rfl (by kernel_rfl) Try.func7 (by kernel_rfl)
    (of_decide_eq_true (by kernel_rfl)) (by unfold Func.isWrapper; first | (rw [if_pos (by decide +kernel)]; kernel_rfl) | (rw [if_neg (by decide +kernel)]; exact ⟨rfl, rfl⟩))
    (fun os started H enc _ => lifted os started H enc)
end Go.Proofs.Ytffkdelnpnokjaa.crcZeros
namespace Go.Proofs.Ytffkdelnpnokjaa
theorem crcZeros_holds : Rows.CrcZerosSaid := crcZeros.over
#print axioms crcZeros_holds
end Go.Proofs.Ytffkdelnpnokjaa
