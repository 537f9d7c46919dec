/- For every input IndexRefuses answers true, and leaves its arguments as they were. Conditions: none. -/
import Derived.Test.YtkcledkfgmdcgaaRows
import Derived.Test.YtkcledkfgmdcgaaIndexAllC
import Derived.Test.YtkcledkfgmdcgaaStatesIn
import Derived.Test.YtkcledkfgmdcgaaDawMayAll
import Derived.Test.YtkcledkfgmdcgaaShown15
import Derived.Test.YtkcledkfgmdcgaaFound
import Derived.ProofKit
import Derived.OpenShut
import Derived.ShutString
import Derived.ChangeOld
import Derived.SizedLaws
import Derived.Deep.RegionHeld
import Derived.Deep.RegionHeld3
import Derived.Deep.QuietTactic
import Derived.BigQuiet
import Derived.Deep.Cut
import Derived.Deep.CutBlock
namespace Go.Proofs.Ytkcledkfgmdcgaa.indexRefuses
open Go.ChangeShapes Go.WideShapes Go.ChangeAt Go.RowKit
open Go.ChangeMaps (open_string shut_string)
set_option linter.unusedVariables false

theorem own : ownKnob Try.prog.godebug = none := by kernel_rfl
theorem laidOut : laidOutB Try.prog = true := by kernel_rfl


set_option maxRecDepth 100000 in
set_option maxHeartbeats 4000000 in
theorem walk (w : World) (a0 : Option Addr) (len0 cap0 : Nat) (z0 : List StZ) (r0 : ReadsA w a0 len0 cap0 z0) (f0 : ∀ x ∈ z0, ∀ y ∈ x.2, -9223372036854775808 ≤ y.2 ∧ y.2 ≤ 9223372036854775807) (b0 : len0 * 32 ≤ 140737488351232) (a1 : ByteArray) (b1 : a1.size ≤ 140737488351232) (a2 : Int) (w2 : (Lit.int .i64 a2).wf = true) :
    Calls Try.prog 4 #[.slice a0 len0 cap0, .string a1, .int .i64 a2] w fun e w' => e = .returned (.bool true) ∧ Below w.heap.size w w' := by
  obtain ⟨k, rfl⟩ := str_list a1
  have hk : k.length ≤ 140737488351232 := by simpa [ByteArray.size] using b1
  have hn := bounds_i64 w2
  have hl : len0 ≤ 10000000000000 := by omega
  have hml : len0 ≤ 9223372036854775807 := by omega
  have Hn : Hid (z0.length = len0) := r0.count
  have R0 := hid r0
  have F0 := hid f0
  have Hk := hid hk
  have Hnn := hid hn
  clear r0 f0 b0 b1 w2 hk hn
  go_enter Try.func4, Try.ntmps4
  go_wp2_with fail
  refine (shown_any w).mono ?_
  rintro e w1 ⟨rfl, hB1⟩
  have B1 : Hid (Below w.heap.size w w1) := hB1
  have p2 := icounts_all (R0.out.later hB1 (Nat.le_refl _)) hl F0.out
  clear hB1
  go_wp2_with fail
  refine p2.mono ?_
  rintro e w2 ⟨ag, m, c, d, rfl, hc, hB2⟩
  have B2 : Hid (Below w.heap.size w w2) := B1.out.trans (hB2.mono B1.out.size)
  have HC := hid hc
  have p3 := iof_all (R0.out.later B2.out (Nat.le_refl _)) hl F0.out k Hk.out
  clear p2 hc hB2
  go_wp2_with fail
  refine p3.mono ?_
  rintro e w3 ⟨i, b, rfl, ho, hB3⟩
  have B3 : Hid (Below w.heap.size w w3) := B2.out.trans (hB3.mono B2.out.size)
  have HO := hid ho
  have p4 := iword_all (R0.out.later B3.out (Nat.le_refl _)) hl F0.out a2 Hnn.out.1 Hnn.out.2
  clear p3 ho hB3
  go_wp2_with fail
  refine p4.mono ?_
  rintro e w4 ⟨v, bw, rfl, hw, hB4⟩
  have B4 : Hid (Below w.heap.size w w4) := B3.out.trans (hB4.mono B3.out.size)
  have HW := hid hw
  have p5 := amay_any (R0.out.later B4.out (Nat.le_refl _)) hl F0.out
  clear p4 hw hB4
  go_wp2_with fail
  refine p5.mono ?_
  rintro e w5 ⟨⟨bb, rfl, hbb⟩, hB5⟩
  have B5 : Hid (Below w.heap.size w w5) := B4.out.trans (hB5.mono B4.out.size)
  have HBb := hid hbb
  clear p5 hB5 hbb
  cases bb with
  | true =>
    have hM := HBb.out.1 rfl
    rcases HC.out with ⟨_, ⟨rfl, rfl⟩ | rfl⟩ | ⟨h, _⟩
    · clear hM
      go_wp2_with fail
      go_ret
      exact ⟨rfl, B5.out⟩
    · clear hM
      go_wp2_with fail
      go_ret
      exact ⟨rfl, B5.out⟩
    · exact absurd hM h
  | false =>
    have hM : ¬ MayP z0 := fun h => by have := HBb.out.2 h; cases this
    rcases HC.out with ⟨h, _⟩ | ⟨_, rfl, rfl⟩
    · exact absurd h hM
    · rcases HO.out with h | ⟨rfl, rfl⟩
      · exact absurd h hM
      · rcases HW.out with h | ⟨rfl, rfl⟩
        · exact absurd h hM
        · clear hM
          go_wp2_with fail
          go_ret
          exact ⟨rfl, B5.out⟩

set_option maxRecDepth 100000 in
theorem lifted (os : Os) (started : os.Started) (H : Type) (enc : TypeId × Value → H) :
    ReturnsInHanded {} Try.checked os 4 .any (Rows.indexRefusesSpec.pre6 enc Try.prog Try.f4 Rows.indexRefusesRow.domain false) (Rows.indexRefusesSpec.post enc Try.prog Try.f4 false true false false) := by
  refine returnsInHanded_of_change_sized (C := Try.checked) own started (by kernel_rfl) Try.func4
    (ChangeSpec.witness6 (enc := enc) (C := Try.checked) false ⟨#[], #[.slice none 0 0, .string ByteArray.empty, .int .i64 0], []⟩ 8 (by kernel_rfl) (by kernel_rfl) (by kernel_rfl) (by kernel_rfl)) ?_
  intro W base args ds gs before hval0 hW hcnd hsz0 _
  have hsz : (DataW.weightsEach Try.prog (Try.f4.params.toList ++ Rows.indexRefusesSpec.plain.varTypes Try.prog) (ds ++ gs)).all (· ≤ reachBytes) = true := hsz0
  clear hsz0
  have hval : ∀ (j : Nat) t v, Try.f4.params[j]? = some t → args[j]? = some v → Value.okWide Try.prog W .any base t v := hval0
  have hW' := hW
  obtain ⟨p, q, hA0, hV, rfl, hfz, hnd⟩ := hW
  have hA : DataW.TrodAll enc Try.prog W 0 (fun _ => true) true Try.f4.params.toList args.toList ds p := hA0
  rw [Try.params4] at hA hval hsz
  obtain ⟨v0, vs0, d0, ds0, p0, q0, hargs, rfl, rfl, h0, rr0⟩ := trodAll_cons hA
  obtain ⟨v1, vs1, d1, ds1, p1, q1, rfl, rfl, rfl, h1, rr1⟩ := trodAll_cons rr0
  obtain ⟨v2, vs2, d2, ds2, p2, q2, rfl, rfl, rfl, h2, rr2⟩ := trodAll_cons rr1
  obtain ⟨rfl, rfl, rfl⟩ := trodAll_nil rr2
  obtain rfl : args = #[v0, v1, v2] := by cases args; simp_all
  obtain ⟨rfl, rfl⟩ := trodVars_none hV
  obtain ⟨a0, len0, cap0, rfl⟩ := okWide_slice Try.underlying25 (hval 0 25 v0 rfl rfl)
  have k0 := h0
  have lt0 : ∀ x ∈ p0, x.block < W.heap.size := by obtain ⟨m, hm⟩ := k0; exact DataW.trod_lt m _ _ _ hm
  obtain ⟨z0, r0, f0, b0⟩ := states_in Try.underlying25 Try.underlying45 (by kernel_rfl) rfl rfl (by kernel_rfl) (by kernel_rfl) Try.underlying4 Try.underlying43 Try.underlying47 (by kernel_rfl) rfl rfl (by kernel_rfl) (by kernel_rfl) Try.underlying5 Try.underlying3 (B := 32) (by kernel_rfl) hsz (j := 0) rfl rfl h0
  obtain ⟨a1, rfl, rfl, rfl, w1⟩ := open_string Try.underlying9 (hval 1 9 v1 rfl rfl) h1
  have b1 : a1.size ≤ 140737488351232 := by have := sized_string hsz (j := 1) (t := 9) rfl rfl; simpa [reachBytes] using this
  obtain ⟨a2, rfl, rfl, rfl, w2⟩ := open_int Try.underlying3 (hval 2 3 v2 rfl rfl) h2
  clear hA0 hval0
  refine (walk W a0 len0 cap0 z0 r0 f0 b0 a1 b1 a2 w2).mono fun e W' ⟨he, bel⟩ => ?_
  subst he
  exact ⟨_, rfl, _, _, _, [], _, [], hW', trodAll_mk1 (shut_bool Try.underlying4 _), (trodAll_cons_mk (Below.trod laidOut (by kernel_rfl) (of_decide_eq_true (by kernel_rfl)) k0 bel lt0) (trodAll_cons_mk (shut_string Try.underlying9 w1) (trodAll_cons_mk (shut_int Try.underlying3 w2) trodAll_mk0))), rfl, bel.frame _, fun h => by cases h⟩

theorem over : Rows.indexRefusesRow.holds Try.pinned (OpenSpec.ofChange Rows.indexRefusesSpec) :=
  OpenClaim.holds_of_wide 4 Try.f4 rfl rfl rfl rfl rfl rfl rfl ⟨rfl, rfl, rfl, rfl, rfl⟩ rfl rfl rfl rfl rfl (by kernel_rfl) Try.func4 (by kernel_rfl)
    (of_decide_eq_true (by kernel_rfl)) (by unfold Func.isWrapper; first | (rw [if_pos (by decide +kernel)]; kernel_rfl) | (rw [if_neg (by decide +kernel)]; exact ⟨rfl, rfl⟩))
    (fun os started H enc _ => lifted os started H enc)
end Go.Proofs.Ytkcledkfgmdcgaa.indexRefuses
namespace Go.Proofs.Ytkcledkfgmdcgaa
theorem indexRefuses_holds : Rows.IndexRefusesSaid := indexRefuses.over
#print axioms indexRefuses_holds
end Go.Proofs.Ytkcledkfgmdcgaa
