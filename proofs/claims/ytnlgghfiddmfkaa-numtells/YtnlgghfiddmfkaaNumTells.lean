/- For every input NumTells answers true, and leaves its arguments as they were. Conditions: none. -/
import Derived.Test.YtnlgghfiddmfkaaRows
import Derived.Test.YtnlgghfiddmfkaaShown
import Derived.Test.YtnlgghfiddmfkaaOpen
import Derived.Test.YtnlgghfiddmfkaaCuts
import Derived.Test.YtnlgghfiddmfkaaMath
import Derived.Test.YtnlgghfiddmfkaaRefPut
import Derived.ProofKit
import Derived.OpenShut
import Derived.ShutString
import Derived.ChangeOld
import Derived.SizedLaws
import Derived.Deep.RegionHeld
import Derived.Deep.QuietTactic
import Derived.BigQuiet
namespace Go.Proofs.Ytnlgghfiddmfkaa.numTells
open Go.ChangeShapes Go.WideShapes Go.ChangeAt Go.RowKit
open Go.ChangeMaps (open_string shut_string)
set_option linter.unusedVariables false

theorem own : ownKnob Try.prog.godebug = none := by kernel_rfl
theorem laidOut : laidOutB Try.prog = true := by kernel_rfl

theorem bytes_of {z : List Int} (f : ∀ x ∈ z, (Lit.int .u8 x).wf = true) : isBytes z := fun x hx => bounds_u8 (f x hx)

set_option maxRecDepth 100000 in
set_option maxHeartbeats 4000000 in
theorem walk (w : World) (a0 : Option Addr) (len0 cap0 : Nat) (z0 : List Int) (r0 : Reads w a0 len0 cap0 (z0.map (.int .u8))) (f0 : ∀ z ∈ z0, (Lit.int .u8 z).wf = true) (b0 : len0 * 1 ≤ 140737488351232) (a1 : Int) (w1 : (Lit.int .u64 a1).wf = true) (a2 : Int) (w2 : (Lit.int .u64 a2).wf = true) (a3 : Int) (w3 : (Lit.int .u64 a3).wf = true) :
    Calls Try.prog 3 #[.slice a0 len0 cap0, .int .u64 a1, .int .u64 a2, .int .u64 a3] w fun e w' => e = .returned (.bool true) ∧ Below w.heap.size w w' := by
  have g1 := bounds_u64 w1
  have g2 := bounds_u64 w2
  have g3 := bounds_u64 w3
  obtain ⟨n, rfl⟩ := Int.eq_ofNat_of_zero_le g1.1
  have h8 := bytes_of f0
  go_enter Try.func3, Try.ntmps3
  go_wp2_with fail
  refine (shown_any _).mono ?_
  rintro e wa ⟨rfl, hb1⟩
  have r1 := r0.later hb1 (Nat.le_refl _)
  go_wp2_with fail
  refine (get_any _ _ _ _ _ r1 h8).mono ?_
  rintro e wb ⟨rfl, rfl⟩
  rcases hgl : getL z0 with ⟨x, i, f⟩
  have Hgl : Hid _ := hgl
  clear hgl
  unfold getV
  go_wp2_with fail
  refine (rget_any _ _ _ _ _ r1 h8).mono ?_
  rintro e wc ⟨rfl, rfl⟩
  rw [Hgl.out]
  unfold getV
  go_wp2_with fail
  refine (add_any a2 a3 _ (by omega) (by omega) (by omega) (by omega)).mono ?_
  rintro e wd ⟨rfl, rfl⟩
  go_wp2_with fail
  refine (radd_any a2 a3 _ (by omega) (by omega) (by omega) (by omega)).mono ?_
  rintro e we ⟨rfl, rfl⟩
  go_wp2_with fail
  first | go_region_held (fun W => Below we.heap.size we W) (first | exact Below.refl _ _ | exact Below.drew (Below.refl _ _) | assumption | exact Grow.trans (by assumption) (by assumption)) (first | (go_at_call 15; refine (put_any a0 len0 cap0 z0 n _ (r1.later (by first | assumption | exact Below.drew (Below.refl _ _)) (Nat.le_refl _)) (by omega) (by omega)).mono ?_; rintro e w1 ⟨g, c, k, hk, rfl, hown, hb⟩; have Hk : Hid _ := hk; clear hk; have hcv := conv_of Try.underlying22 Try.underlying5 Try.underlying9 (Reads.owned hown); have hcv' := fun W (hW : Below w1.heap.size w1 W) => conv_of Try.underlying22 Try.underlying5 Try.underlying9 ((Reads.owned hown).later hW (Nat.le_refl _))) | (go_at_call 16; refine (rput_any a0 len0 cap0 z0 n _ (r1.later (by first | assumption | exact Below.drew (Below.refl _ _)) (Nat.le_refl _)) (by omega) (by omega)).mono ?_; rintro e w2 ⟨g2, c2, k2, hk, rfl, hown2, hb2⟩; have Hk2 : Hid _ := hk; clear hk; have hcv2 := conv_of Try.underlying22 Try.underlying5 Try.underlying9 (Reads.own hown2); first | have hcv3 := hcv' _ hb2 | skip)) | fail
  all_goals
    go_wp2
    go_ret
    exact ⟨rfl, Grow.trans hb1 (by assumption)⟩

set_option maxRecDepth 100000 in
theorem lifted (os : Os) (started : os.Started) (H : Type) (enc : TypeId × Value → H) :
    ReturnsInHanded {} Try.checked os 3 .any (Rows.numTellsSpec.pre6 enc Try.prog Try.f3 Rows.numTellsRow.domain false) (Rows.numTellsSpec.post enc Try.prog Try.f3 false true false false) := by
  refine returnsInHanded_of_change_sized (C := Try.checked) own started (by kernel_rfl) Try.func3
    (ChangeSpec.witness6 (enc := enc) (C := Try.checked) false ⟨#[], #[.slice none 0 0, .int .u64 0, .int .u64 0, .int .u64 0], []⟩ 8 (by kernel_rfl) (by kernel_rfl) (by kernel_rfl) (by kernel_rfl)) ?_
  intro W base args ds gs before hval0 hW hcnd hsz0 _
  have hsz : (DataW.weightsEach Try.prog (Try.f3.params.toList ++ Rows.numTellsSpec.plain.varTypes Try.prog) (ds ++ gs)).all (· ≤ reachBytes) = true := hsz0
  clear hsz0
  have hval : ∀ (j : Nat) t v, Try.f3.params[j]? = some t → args[j]? = some v → Value.okWide Try.prog W .any base t v := hval0
  have hW' := hW
  obtain ⟨p, q, hA0, hV, rfl, hfz, hnd⟩ := hW
  have hA : DataW.TrodAll enc Try.prog W 0 (fun _ => true) true Try.f3.params.toList args.toList ds p := hA0
  rw [Try.params3] at hA hval hsz
  obtain ⟨v0, vs0, d0, ds0, p0, q0, hargs, rfl, rfl, h0, rr0⟩ := trodAll_cons hA
  obtain ⟨v1, vs1, d1, ds1, p1, q1, rfl, rfl, rfl, h1, rr1⟩ := trodAll_cons rr0
  obtain ⟨v2, vs2, d2, ds2, p2, q2, rfl, rfl, rfl, h2, rr2⟩ := trodAll_cons rr1
  obtain ⟨v3, vs3, d3, ds3, p3, q3, rfl, rfl, rfl, h3, rr3⟩ := trodAll_cons rr2
  obtain ⟨rfl, rfl, rfl⟩ := trodAll_nil rr3
  obtain rfl : args = #[v0, v1, v2, v3] := by cases args; simp_all
  obtain ⟨rfl, rfl⟩ := trodVars_none hV
  obtain ⟨a0, len0, cap0, rfl⟩ := okWide_slice Try.underlying22 (hval 0 22 v0 rfl rfl)
  have k0 := h0
  have lt0 : ∀ x ∈ p0, x.block < W.heap.size := by obtain ⟨m, hm⟩ := k0; exact DataW.trod_lt m _ _ _ hm
  obtain ⟨z0, r0, f0, b0⟩ := slice_in Try.underlying22 Try.underlying5 (by kernel_rfl) (B := 1) (by kernel_rfl) hsz (j := 0) rfl rfl h0
  obtain ⟨a1, rfl, rfl, rfl, w1⟩ := open_int Try.underlying23 (hval 1 23 v1 rfl rfl) h1
  obtain ⟨a2, rfl, rfl, rfl, w2⟩ := open_int Try.underlying23 (hval 2 23 v2 rfl rfl) h2
  obtain ⟨a3, rfl, rfl, rfl, w3⟩ := open_int Try.underlying23 (hval 3 23 v3 rfl rfl) h3
  clear hA0 hval0
  refine (walk W a0 len0 cap0 z0 r0 f0 b0 a1 w1 a2 w2 a3 w3).mono fun e W' ⟨he, bel⟩ => ?_
  subst he
  exact ⟨_, rfl, _, _, _, [], _, [], hW', trodAll_mk1 (shut_bool Try.underlying4 _), (trodAll_cons_mk (Below.trod laidOut (by kernel_rfl) (of_decide_eq_true (by kernel_rfl)) k0 bel lt0) (trodAll_cons_mk (shut_int Try.underlying23 w1) (trodAll_cons_mk (shut_int Try.underlying23 w2) (trodAll_cons_mk (shut_int Try.underlying23 w3) trodAll_mk0)))), rfl, bel.frame _, fun h => by cases h⟩

theorem over : Rows.numTellsRow.holds Try.pinned (OpenSpec.ofChange Rows.numTellsSpec) :=
  OpenClaim.holds_of_wide 3 Try.f3 rfl rfl rfl rfl rfl rfl rfl ⟨rfl, rfl, rfl, rfl, rfl⟩ rfl rfl rfl rfl rfl (by kernel_rfl) Try.func3 (by kernel_rfl)
    (of_decide_eq_true (by kernel_rfl)) (by unfold Func.isWrapper; first | (rw [if_pos (by decide +kernel)]; kernel_rfl) | (rw [if_neg (by decide +kernel)]; exact ⟨rfl, rfl⟩))
    (fun os started H enc _ => lifted os started H enc)
end Go.Proofs.Ytnlgghfiddmfkaa.numTells
namespace Go.Proofs.Ytnlgghfiddmfkaa
theorem numTells_holds : Rows.NumTellsSaid := numTells.over
#print axioms numTells_holds
end Go.Proofs.Ytnlgghfiddmfkaa
