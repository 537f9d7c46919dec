/- For every input FoldTwice answers true, and leaves its arguments as they were. Conditions: none. -/
import Derived.Test.YtalfganfifkgjaaDoorRows
import Derived.Test.YtalfganfifkgjaaDoorCards
import Derived.Test.YtalfganfifkgjaaDoorTie
import Derived.Test.YtalfganfifkgjaaDoorFoldCode
import Derived.Test.YtalfganfifkgjaaDoorShown05
import Derived.Test.YtalfganfifkgjaaDoorOpen
import Derived.ProofKit
import Derived.OpenShut
import Derived.ShutString
import Derived.ChangeOld
import Derived.SizedLaws
import Derived.Deep.RegionHeld
import Derived.Deep.QuietTactic
import Derived.BigQuiet
import Derived.Deep.Cut
import Derived.Deep.CutBlock
import Derived.Lay
import Derived.LaidOnce
import Derived.SevenTiedAt
namespace Go.Proofs.YtalfganfifkgjaaDoor.foldTwice
open Go.ChangeShapes Go.WideShapes Go.ChangeAt Go.RowKit
open Go.ChangeMaps (open_string shut_string)
set_option linter.unusedVariables false

theorem own : ownKnob Tryd.prog.godebug = none := by kernel_rfl
theorem laidOut : laidOutB Tryd.prog = true := by kernel_rfl


set_option maxRecDepth 100000 in
set_option maxHeartbeats 4000000 in
theorem walk (w : World) (a0 : Int) (w0 : (Lit.int .i32 a0).wf = true) (ht : Tabs w) :
    Calls Tryd.prog 5 #[.int .i32 a0] w fun e w' => e = .returned (.bool true) ∧ Below w.heap.size w w' := by
  have g0 : -2147483648 ≤ a0 ∧ a0 ≤ 2147483647 := bounds_i32 w0
  clear w0
  have g1 := fold_i32 a0 g0
  have m1 : Hid (foldF (foldF a0) = foldF a0) := fold_fold a0
  have m2 : Hid (letterF (foldF a0) = letterF a0) := fold_letter a0
  have m3 : Hid (letterF a0 = false → foldF a0 = a0) := fold_other a0
  have m4 : Hid ((letterF a0 && markF a0) = false) := letter_mark a0
  go_enter Tryd.func5, Tryd.ntmps5
  go_wp2_with fail
  refine (shown_any _).mono ?_
  rintro e wa ⟨rfl, hb1⟩
  go_wp2_with fail
  refine (ffold_any a0 _ g0).mono ?_
  rintro e w1 ⟨rfl, hb2⟩
  have hB2 := Grow.trans hb1 hb2
  clear hb1 hb2
  go_wp2_with fail
  refine (fletter_any a0 _ g0).mono ?_
  rintro e w2 ⟨rfl, hb3⟩
  have hB3 := Grow.trans hB2 hb3
  clear hB2 hb3
  go_wp2_with fail
  refine (ffold_any (foldF a0) _ g1).mono ?_
  rintro e w3 ⟨rfl, hb4⟩
  rw [m1.out]
  have hB4 := Grow.trans hB3 hb4
  clear hB3 hb4
  go_wp2_with fail
  refine (fletter_any (foldF a0) _ g1).mono ?_
  rintro e w4 ⟨rfl, hb5⟩
  rw [m2.out]
  have hB5 := Grow.trans hB4 hb5
  clear hB4 hb5
  cases hL : letterF a0 with
  | true =>
    have hM : Hid (markF a0 = false) := by show _ = _; have := m4.out; rw [hL] at this; simpa using this
    clear hL
    go_wp2_with fail
    refine (fmark_any a0 _ g0).mono ?_
    rintro e w5 ⟨rfl, hb6⟩
    rw [hM.out]
    have hB6 := Grow.trans hB5 hb6
    clear hB5 hb6
    go_wp2
    go_ret
    exact ⟨rfl, hB6⟩
  | false =>
    have hF : foldF a0 = a0 := m3.out hL
    rw [hF]
    clear hL hF
    go_wp2
    go_ret
    exact ⟨rfl, hB5⟩

set_option maxRecDepth 100000 in
theorem lifted (os : Os) (started : os.Started) (H : Type) (enc : TypeId × Value → H) :
    ReturnsInHanded {} Tryd.checked os 5 .any (fun w args => (Rows.foldTwiceSpec.pre enc Tryd.prog Tryd.f5 [] false w args ∧ laidMetH Tryd.prog tabLaid w) ∧ sizedMet enc Tryd.prog Tryd.f5 (OpenSpec.ofChange Rows.foldTwiceSpec) false w args) (Rows.foldTwiceSpec.post enc Tryd.prog Tryd.f5 false true false false) := by
  refine returnsInHanded_of_change_and (C := Tryd.checked) (X := fun w _ => laidMetH Tryd.prog tabLaid w) (fun _ _ _ hh h => h.of_heap hh) own started (by kernel_rfl) Tryd.func5
    (ChangeSpec.witness_shaped (enc := enc) (C := Tryd.checked) (os := os) (X := fun w _ => laidMetH Tryd.prog tabLaid w) false (World.laidAll Tryd.prog os tabLaid) #[.int .i32 0] 8 (World.laidAll_os _ _ _)
      (World.shaped_of_ZipB (by kernel_rfl) (by kernel_rfl)) (by kernel_rfl) (by kernel_rfl) (by kernel_rfl)
      (by rw [MakeChecks.laidMetH_plain _ _ _ (by kernel_rfl)]; exact laidMet_laidAll _ (by kernel_rfl) (by kernel_rfl))) ?_
  intro W base args ds gs before hval0 hW hcnd hsz0 hL _
  rw [MakeChecks.laidMetH_plain _ _ _ (by kernel_rfl)] at hL
  have ht : Tabs W := tabs_of hL
  clear hL
  have hsz : (DataW.weightsEach Tryd.prog (Tryd.f5.params.toList ++ Rows.foldTwiceSpec.plain.varTypes Tryd.prog) (ds ++ gs)).all (· ≤ reachBytes) = true := hsz0
  clear hsz0
  have hval : ∀ (j : Nat) t v, Tryd.f5.params[j]? = some t → args[j]? = some v → Value.okWide Tryd.prog W .any base t v := hval0
  have hW' := hW
  obtain ⟨p, q, hA0, hV, rfl, hfz, hnd⟩ := hW
  have hA : DataW.TrodAll enc Tryd.prog W 0 (fun _ => true) true Tryd.f5.params.toList args.toList ds p := hA0
  rw [Tryd.params5] at hA hval hsz
  obtain ⟨v0, vs0, d0, ds0, p0, q0, hargs, rfl, rfl, h0, rr0⟩ := trodAll_cons hA
  obtain ⟨rfl, rfl, rfl⟩ := trodAll_nil rr0
  obtain rfl : args = #[v0] := by cases args; simp_all
  obtain ⟨rfl, rfl⟩ := trodVars_none hV
  obtain ⟨a0, rfl, rfl, rfl, w0⟩ := open_int Tryd.underlying21 (hval 0 21 v0 rfl rfl) h0
  clear hA0 hval0
  refine (walk W a0 w0 ht).mono fun e W' ⟨he, bel⟩ => ?_
  subst he
  exact ⟨_, rfl, _, _, _, [], _, [], hW', trodAll_mk1 (shut_bool Tryd.underlying4 _), (trodAll_cons_mk (shut_int Tryd.underlying21 w0) trodAll_mk0), rfl, bel.frame _, fun h => by cases h⟩

theorem over : Rows.foldTwiceRow.holds Tryd.pinned (OpenSpec.ofChange Rows.foldTwiceSpec) :=
  OpenClaim.holds_of_wide 5 Tryd.f5 rfl rfl rfl rfl rfl rfl rfl ⟨rfl, rfl, rfl, rfl, rfl⟩ rfl rfl rfl rfl rfl (by kernel_rfl) Tryd.func5 (by kernel_rfl)
    (of_decide_eq_true (by kernel_rfl)) (by unfold Func.isWrapper; first | (rw [if_pos (by decide +kernel)]; kernel_rfl) | (rw [if_neg (by decide +kernel)]; exact ⟨rfl, rfl⟩))
    (fun os started H enc _ => lifted os started H enc)
end Go.Proofs.YtalfganfifkgjaaDoor.foldTwice
namespace Go.Proofs.YtalfganfifkgjaaDoor
theorem foldTwice_holds : Rows.FoldTwiceCardSaid :=
  Claim7.holds_tied_plain_at .later [] [.data, .data] true (true, "431f81fcf1a65600043fa3d267c8528a0a4388a7b40072ea468da683d6194d4a") false foldTwice.over (fun _ h => by cases h) (by kernel_rfl) (fun _ h => by cases h) foldTwice_row_tie rfl ⟨rfl, rfl⟩ (by kernel_rfl) rfl
    (fun f fn hf hfn => by
      obtain rfl : f = 5 := Option.some.inj ((show Tryd.prog.funcNamed "mantelet/manteletlaw05.FoldTwice" = some 5 by kernel_rfl).symm.trans hf) |>.symm
      obtain rfl : fn = Tryd.f5 := (Option.some.inj (Tryd.func5.symm.trans hfn)).symm
      exact ⟨by kernel_rfl, fun j t ht => by
        rw [Tryd.params5] at ht
        have hm : t ∈ [21] := by simpa using Array.mem_of_getElem? ht
        have hall : ([21].all fun u => !Tryd.prog.wantsStandIn u) = true := by kernel_rfl
        exact (show Tryd.prog.wantsStandIn t = false by simpa using List.all_eq_true.1 hall t hm)⟩)
    (by kernel_rfl)
#print axioms foldTwice_holds
end Go.Proofs.YtalfganfifkgjaaDoor
