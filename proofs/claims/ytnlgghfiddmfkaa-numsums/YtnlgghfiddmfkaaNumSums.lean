/- For every input NumSums answers true, and leaves its arguments as they were. Conditions: none. -/
import Derived.Test.YtnlgghfiddmfkaaRows
import Derived.Test.YtnlgghfiddmfkaaShown
import Derived.Test.YtnlgghfiddmfkaaOpen
import Derived.ProofKit
import Derived.OpenShut
import Derived.ShutString
import Derived.ChangeOld
import Derived.SizedLaws
namespace Go.Proofs.Ytnlgghfiddmfkaa.numSums
open Go.ChangeShapes Go.WideShapes Go.ChangeAt Go.RowKit
open Go.ChangeMaps (open_string shut_string)
set_option linter.unusedVariables false

theorem own : ownKnob Try.prog.godebug = none := by kernel_rfl
theorem laidOut : laidOutB Try.prog = true := by kernel_rfl


set_option maxRecDepth 100000 in
set_option maxHeartbeats 4000000 in
theorem walk (w : World) (a0 : Int) (w0 : (Lit.int .u64 a0).wf = true) (a1 : Int) (w1 : (Lit.int .u64 a1).wf = true) (a2 : Int) (w2 : (Lit.int .u64 a2).wf = true) :
    Calls Try.prog 6 #[.int .u64 a0, .int .u64 a1, .int .u64 a2] w fun e w' => e = .returned (.bool true) ∧ Below w.heap.size w w' := by
  have g0 := bounds_u64 w0
  have g1 := bounds_u64 w1
  have g2 := bounds_u64 w2
  have nn : ∀ x y : Int, 0 ≤ x → 0 ≤ y → 0 ≤ addN x y ∧ addN x y ≤ 4611686018427387904 := by intro x y h1 h2; unfold addN; split <;> omega
  have n1 := nn a0 a1 g0.1 g1.1
  have n2 := nn a1 a2 g1.1 g2.1
  have cN : addN a1 a0 = addN a0 a1 := by unfold addN; rw [Int.add_comm]
  have cB : addB a1 a0 = addB a0 a1 := by unfold addB; rw [Int.add_comm]
  have HcN : Hid _ := cN
  have HcB : Hid _ := cB
  clear nn cN cB
  go_enter Try.func6, Try.ntmps6
  go_wp2_with fail
  refine (shown_any _).mono ?_
  rintro e w1' ⟨rfl, hb⟩
  go_wp2_with fail
  refine (add_any a0 a1 _ (by omega) (by omega) (by omega) (by omega)).mono ?_
  rintro e w2' ⟨rfl, rfl⟩
  go_wp2_with fail
  refine (add_any a1 a0 _ (by omega) (by omega) (by omega) (by omega)).mono ?_
  rintro e w3' ⟨rfl, rfl⟩
  rw [HcN.out, HcB.out]
  go_wp2_with fail
  refine (add_any (addN a0 a1) a2 _ (by omega) (by omega) (by omega) (by omega)).mono ?_
  rintro e w4' ⟨rfl, rfl⟩
  go_wp2_with fail
  refine (add_any a1 a2 _ (by omega) (by omega) (by omega) (by omega)).mono ?_
  rintro e w5' ⟨rfl, rfl⟩
  go_wp2_with fail
  refine (add_any a0 (addN a1 a2) _ (by omega) (by omega) (by omega) (by omega)).mono ?_
  rintro e w6' ⟨rfl, rfl⟩
  have k1 : addB a0 a1 = true → a0 ≤ addN a0 a1 ∧ a1 ≤ addN a0 a1 := by unfold addN addB; intro h; have := of_decide_eq_true h; rw [if_pos this]; omega
  have k2 : addB a0 a1 = false → addN a0 a1 = 0 := by unfold addN addB; intro h; have := of_decide_eq_false h; rw [if_neg this]
  have k3 : addB a0 a1 = true → addB a1 a2 = true → addB (addN a0 a1) a2 = addB a0 (addN a1 a2) ∧ addN (addN a0 a1) a2 = addN a0 (addN a1 a2) := by
    unfold addN addB
    intro h h'
    have := of_decide_eq_true h
    have := of_decide_eq_true h'
    rw [if_pos (by assumption), if_pos (by assumption), Int.add_assoc]
    exact ⟨rfl, rfl⟩
  generalize addN (addN a0 a1) a2 = p at *
  generalize addB (addN a0 a1) a2 = one at *
  generalize addN a0 (addN a1 a2) = s at *
  generalize addB a0 (addN a1 a2) = three at *
  generalize addN a0 a1 = x at *
  generalize addB a0 a1 = is at *
  generalize addB a1 a2 = two at *
  clear HcN HcB
  cases is with
  | true =>
    have k4 := k1 rfl
    clear k1 k2
    cases two with
    | true =>
      obtain ⟨rfl, rfl⟩ := k3 rfl rfl
      clear k3
      go_wp2
      go_ret
      exact ⟨rfl, hb⟩
    | false =>
      clear k3
      go_wp2
      go_ret
      exact ⟨rfl, hb⟩
  | false =>
    obtain rfl := k2 rfl
    clear k1 k2 k3
    go_wp2
    go_ret
    exact ⟨rfl, hb⟩

set_option maxRecDepth 100000 in
theorem lifted (os : Os) (started : os.Started) (H : Type) (enc : TypeId × Value → H) :
    ReturnsInHanded {} Try.checked os 6 .any (Rows.numSumsSpec.pre6 enc Try.prog Try.f6 Rows.numSumsRow.domain false) (Rows.numSumsSpec.post enc Try.prog Try.f6 false true false false) := by
  refine returnsInHanded_of_change_sized (C := Try.checked) own started (by kernel_rfl) Try.func6
    (ChangeSpec.witness6 (enc := enc) (C := Try.checked) false ⟨#[], #[.int .u64 0, .int .u64 0, .int .u64 0], []⟩ 8 (by kernel_rfl) (by kernel_rfl) (by kernel_rfl) (by kernel_rfl)) ?_
  intro W base args ds gs before hval0 hW hcnd hsz0 _
  have hsz : (DataW.weightsEach Try.prog (Try.f6.params.toList ++ Rows.numSumsSpec.plain.varTypes Try.prog) (ds ++ gs)).all (· ≤ reachBytes) = true := hsz0
  clear hsz0
  have hval : ∀ (j : Nat) t v, Try.f6.params[j]? = some t → args[j]? = some v → Value.okWide Try.prog W .any base t v := hval0
  have hW' := hW
  obtain ⟨p, q, hA0, hV, rfl, hfz, hnd⟩ := hW
  have hA : DataW.TrodAll enc Try.prog W 0 (fun _ => true) true Try.f6.params.toList args.toList ds p := hA0
  rw [Try.params6] at hA hval hsz
  obtain ⟨v0, vs0, d0, ds0, p0, q0, hargs, rfl, rfl, h0, rr0⟩ := trodAll_cons hA
  obtain ⟨v1, vs1, d1, ds1, p1, q1, rfl, rfl, rfl, h1, rr1⟩ := trodAll_cons rr0
  obtain ⟨v2, vs2, d2, ds2, p2, q2, rfl, rfl, rfl, h2, rr2⟩ := trodAll_cons rr1
  obtain ⟨rfl, rfl, rfl⟩ := trodAll_nil rr2
  obtain rfl : args = #[v0, v1, v2] := by cases args; simp_all
  obtain ⟨rfl, rfl⟩ := trodVars_none hV
  obtain ⟨a0, rfl, rfl, rfl, w0⟩ := open_int Try.underlying23 (hval 0 23 v0 rfl rfl) h0
  obtain ⟨a1, rfl, rfl, rfl, w1⟩ := open_int Try.underlying23 (hval 1 23 v1 rfl rfl) h1
  obtain ⟨a2, rfl, rfl, rfl, w2⟩ := open_int Try.underlying23 (hval 2 23 v2 rfl rfl) h2
  clear hA0 hval0
  refine (walk W a0 w0 a1 w1 a2 w2).mono fun e W' ⟨he, bel⟩ => ?_
  subst he
  exact ⟨_, rfl, _, _, _, [], _, [], hW', trodAll_mk1 (shut_bool Try.underlying4 _), (trodAll_cons_mk (shut_int Try.underlying23 w0) (trodAll_cons_mk (shut_int Try.underlying23 w1) (trodAll_cons_mk (shut_int Try.underlying23 w2) trodAll_mk0))), rfl, bel.frame _, fun h => by cases h⟩

theorem over : Rows.numSumsRow.holds Try.pinned (OpenSpec.ofChange Rows.numSumsSpec) :=
  OpenClaim.holds_of_wide 6 Try.f6 rfl rfl rfl rfl rfl rfl rfl ⟨rfl, rfl, rfl, rfl, rfl⟩ rfl rfl rfl rfl rfl (by kernel_rfl) Try.func6 (by kernel_rfl)
    (of_decide_eq_true (by kernel_rfl)) (by unfold Func.isWrapper; first | (rw [if_pos (by decide +kernel)]; kernel_rfl) | (rw [if_neg (by decide +kernel)]; exact ⟨rfl, rfl⟩))
    (fun os started H enc _ => lifted os started H enc)
end Go.Proofs.Ytnlgghfiddmfkaa.numSums
namespace Go.Proofs.Ytnlgghfiddmfkaa
theorem numSums_holds : Rows.NumSumsSaid := numSums.over
#print axioms numSums_holds
end Go.Proofs.Ytnlgghfiddmfkaa
