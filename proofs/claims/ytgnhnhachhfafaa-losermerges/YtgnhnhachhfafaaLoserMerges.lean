/- For every input LoserMerges answers true, and leaves its arguments as they were. Conditions: none. -/
import Derived.Test.YtgnhnhachhfafaaRows
import Derived.Test.YtgnhnhachhfafaaRef11
import Derived.Test.YtgnhnhachhfafaaShown11
import Derived.Test.YtgnhnhachhfafaaEnAll
import Derived.ProofKit
import Derived.OpenShut
import Derived.ShutString
import Derived.ChangeOld
import Derived.SizedLaws
import Derived.Deep.RegionHeld
import Derived.Deep.RegionHeld3
import Derived.Deep.QuietTactic
import Derived.BigQuiet
import Derived.Deep.Cut
import Derived.Deep.CutBlock
namespace Go.Proofs.Ytgnhnhachhfafaa.loserMerges
open Go.ChangeShapes Go.WideShapes Go.ChangeAt Go.RowKit
open Go.ChangeMaps (open_string shut_string)
set_option linter.unusedVariables false

theorem own : ownKnob Try.prog.godebug = none := by kernel_rfl
theorem laidOut : laidOutB Try.prog = true := by kernel_rfl


set_option maxRecDepth 100000 in
set_option maxHeartbeats 4000000 in
theorem walk (w : World) (a0 : Option Addr) (len0 cap0 : Nat) (vv0 : List Value) (z0 : List (List En)) (r0 : Reads w a0 len0 cap0 vv0) (q0 : ListVals w.heap.size w vv0 z0) (f0 : ∀ l ∈ z0, ∀ z ∈ l, z.1.length ≤ 140737488351232 ∧ z.2 ≤ 18446744073709551615) (b0 : len0 * 24 ≤ 140737488351232) :
    Calls Try.prog 3 #[.slice a0 len0 cap0] w fun e w' => e = .returned (.bool true) ∧ Below w.heap.size w w' := by
  have pf := few_any r0 q0 f0
  go_enter Try.func3, Try.ntmps3
  go_wp2_with fail
  refine (shown_any w).mono ?_
  rintro e w1 ⟨rfl, hB1⟩
  have r1 := r0.later hB1 (Nat.le_refl _)
  have q1 := q0.later hB1 (Nat.le_refl _)
  have pf := few_any r1 q1 f0
  by_cases hfw : fewL z0 = true
  case neg =>
    have hfw' : fewL z0 = false := by simpa using hfw
    rw [hfw'] at pf
    clear hfw hfw' r1 q1
    go_wp2_with fail
    refine pf.mono ?_
    rintro e w2 ⟨rfl, rfl⟩
    go_wp2
    go_ret
    exact ⟨rfl, hB1⟩
  rw [hfw] at pf
  obtain ⟨g1, g2⟩ := fewL_iff.1 hfw
  have htot := few_tot fun l hl => (g2 l hl).1
  unfold totL at htot
  clear hfw
  go_wp2_with fail
  refine pf.mono ?_
  rintro e w2 ⟨rfl, rfl⟩
  have pm := merge_any r1 q1 f0 (by omega)
  unfold DecOut at pm
  clear pf
  go_wp2_with fail
  refine pm.mono ?_
  rintro e w3 ⟨ag, c, m, rfl, hm, ho, hG3⟩
  have hB3 := hB1.trans (hG3.mono hB1.size)
  have pr := rmerge_any (r1.later hG3 (Nat.le_refl _)) (q1.later hG3 (Nat.le_refl _)) f0 (by omega)
  unfold MergeOut at pr
  clear pm
  go_wp2_with fail
  refine pr.mono ?_
  rintro e w4 ⟨v4, rfl, hr4, hG4⟩
  have hB4 := hB3.trans (hG4.mono hB3.size)
  rcases hy : mergeL z0 with ⟨y, d⟩
  rw [hy] at hm ho hr4
  simp only at hm ho hr4
  subst hm
  have ps := rsame_any (own2_later (own2_mono ho (Nat.zero_le _)) hG4 (Nat.le_refl _)) hr4
  obtain ⟨ab, cb, rfl⟩ := own2_slice hr4
  have hd : decide (y = y) = true := decide_eq_true rfl
  rw [hd] at ps
  clear pr hy hd ho hr4 hG3 hG4 hB3 hB1 r1 q1
  go_wp2_with (go_at_call 13; refine ps.mono ?_; rintro e w' ⟨rfl, mm, rfl⟩)
  go_ret
  exact ⟨rfl, below_drewN hB4 _⟩

set_option maxRecDepth 100000 in
theorem lifted (os : Os) (started : os.Started) (H : Type) (enc : TypeId × Value → H) :
    ReturnsInHanded {} Try.checked os 3 .any (Rows.loserMergesSpec.pre6 enc Try.prog Try.f3 Rows.loserMergesRow.domain false) (Rows.loserMergesSpec.post enc Try.prog Try.f3 false true false false) := by
  refine returnsInHanded_of_change_sized (C := Try.checked) own started (by kernel_rfl) Try.func3
    (ChangeSpec.witness6 (enc := enc) (C := Try.checked) false ⟨#[], #[.slice none 0 0], []⟩ 8 (by kernel_rfl) (by kernel_rfl) (by kernel_rfl) (by kernel_rfl)) ?_
  intro W base args ds gs before hval0 hW hcnd hsz0 _
  have hsz : (DataW.weightsEach Try.prog (Try.f3.params.toList ++ Rows.loserMergesSpec.plain.varTypes Try.prog) (ds ++ gs)).all (· ≤ reachBytes) = true := hsz0
  clear hsz0
  have hval : ∀ (j : Nat) t v, Try.f3.params[j]? = some t → args[j]? = some v → Value.okWide Try.prog W .any base t v := hval0
  have hW' := hW
  obtain ⟨p, q, hA0, hV, rfl, hfz, hnd⟩ := hW
  have hA : DataW.TrodAll enc Try.prog W 0 (fun _ => true) true Try.f3.params.toList args.toList ds p := hA0
  rw [Try.params3] at hA hval hsz
  obtain ⟨v0, vs0, d0, ds0, p0, q0, hargs, rfl, rfl, h0, rr0⟩ := trodAll_cons hA
  obtain ⟨rfl, rfl, rfl⟩ := trodAll_nil rr0
  obtain rfl : args = #[v0] := by cases args; simp_all
  obtain ⟨rfl, rfl⟩ := trodVars_none hV
  obtain ⟨a0, len0, cap0, rfl⟩ := okWide_slice Try.underlying22 (hval 0 22 v0 rfl rfl)
  have k0 := h0
  have lt0 : ∀ x ∈ p0, x.block < W.heap.size := by obtain ⟨m, hm⟩ := k0; exact DataW.trod_lt m _ _ _ hm
  obtain ⟨vv0, z0, r0, qq0, f0, b0⟩ := lists_in Try.underlying22 (by kernel_rfl) Try.underlying25 Try.underlying44 (by kernel_rfl) rfl rfl (by kernel_rfl) (by kernel_rfl) Try.underlying9 Try.underlying41 (B := 24) (by kernel_rfl) hsz (j := 0) rfl rfl h0
  clear hA0 hval0
  refine (walk W a0 len0 cap0 vv0 z0 r0 qq0 f0 b0).mono fun e W' ⟨he, bel⟩ => ?_
  subst he
  exact ⟨_, rfl, _, _, _, [], _, [], hW', trodAll_mk1 (shut_bool Try.underlying4 _), (trodAll_cons_mk (Below.trod laidOut (by kernel_rfl) (of_decide_eq_true (by kernel_rfl)) k0 bel lt0) trodAll_mk0), rfl, bel.frame _, fun h => by cases h⟩

theorem over : Rows.loserMergesRow.holds Try.pinned (OpenSpec.ofChange Rows.loserMergesSpec) :=
  OpenClaim.holds_of_wide 3 Try.f3 rfl rfl rfl rfl rfl rfl rfl ⟨rfl, rfl, rfl, rfl, rfl⟩ rfl rfl rfl rfl rfl (by kernel_rfl) Try.func3 (by kernel_rfl)
    (of_decide_eq_true (by kernel_rfl)) (by unfold Func.isWrapper; first | (rw [if_pos (by decide +kernel)]; kernel_rfl) | (rw [if_neg (by decide +kernel)]; exact ⟨rfl, rfl⟩))
    (fun os started H enc _ => lifted os started H enc)
end Go.Proofs.Ytgnhnhachhfafaa.loserMerges
namespace Go.Proofs.Ytgnhnhachhfafaa
theorem loserMerges_holds : Rows.LoserMergesSaid := loserMerges.over
#print axioms loserMerges_holds
end Go.Proofs.Ytgnhnhachhfafaa
