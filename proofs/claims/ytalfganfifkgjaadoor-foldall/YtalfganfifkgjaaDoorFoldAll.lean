/- For every input FoldAll answers true, and leaves its arguments as they were. Conditions: none. -/
import Derived.Test.YtalfganfifkgjaaDoorRows
import Derived.Test.YtalfganfifkgjaaDoorCards
import Derived.Test.YtalfganfifkgjaaDoorTie
import Derived.Test.YtalfganfifkgjaaDoorRef05Text
import Derived.Test.YtalfganfifkgjaaDoorFoldCode
import Derived.Test.YtalfganfifkgjaaDoorShown05
import Derived.Test.YtalfganfifkgjaaDoorOpen
import Derived.ProofKit
import Derived.OpenShut
import Derived.ShutString
import Derived.ChangeOld
import Derived.SizedLaws
import Derived.Deep.RegionHeld
import Derived.Deep.QuietTactic
import Derived.BigQuiet
import Derived.Deep.Cut
import Derived.Deep.CutBlock
import Derived.Lay
import Derived.LaidOnce
import Derived.SevenTiedAt
namespace Go.Proofs.YtalfganfifkgjaaDoor.foldAll
open Go.ChangeShapes Go.WideShapes Go.ChangeAt Go.RowKit
open Go.ChangeMaps (open_string shut_string)
set_option linter.unusedVariables false

theorem own : ownKnob Tryd.prog.godebug = none := by kernel_rfl
theorem laidOut : laidOutB Tryd.prog = true := by kernel_rfl


set_option maxRecDepth 100000 in
set_option maxHeartbeats 4000000 in
theorem walk (w : World) (a0 : Int) (w0 : (Lit.int .u16 a0).wf = true) (ht : Tabs w) :
    Calls Tryd.prog 4 #[.int .u16 a0] w fun e w' => e = .returned (.bool true) ∧ Below w.heap.size w w' := by
  have g0 := bounds_u16 w0
  clear w0
  obtain ⟨fr, rfl⟩ := Int.eq_ofNat_of_zero_le g0.1
  have g1 : (fr : Int) ≤ 65535 := g0.2
  clear g0
  go_enter Tryd.func4, Tryd.ntmps4
  go_wp2_with fail
  refine (shown_any _).mono ?_
  rintro e wa ⟨rfl, hb1⟩
  go_wp2_with fail
  go_loopw [4] (fun v wr => ∃ i : Nat, v = .int .i64 i ∧ i ≤ 700 ∧ Below w.heap.size w wr) (fun v _ => (700 - intOf v).toNat)
  case atStart => exact ⟨0, rfl, by omega, hb1⟩
  case round =>
    obtain ⟨i, rfl, hi, hb⟩ := hrel
    by_cases hil : i = 700
    · subst hil
      go_wp2
      go_ret
      exact ⟨rfl, hb⟩
    have hil' : (i : Int) < 700 := by omega
    have hc : -2147483648 ≤ (fr : Int) + i ∧ (fr : Int) + i ≤ 2147483647 := by omega
    have hc2 : (fr : Int) + i ≤ 70000 := by omega
    clear hil
    go_wp2_with fail
    refine (fletter_any _ _ hc).mono ?_
    rintro e w1 ⟨rfl, hb2⟩
    have hB2 := Grow.trans hb hb2
    clear hb hb2
    go_wp2_with fail
    refine (rletter_any _ _).mono ?_
    rintro e w2 ⟨rfl, rfl⟩
    generalize letterF ((fr : Int) + i) = x1
    have e1 : (x1 == x1) = true := by simp
    go_wp2_with fail
    refine (ffold_any _ _ hc).mono ?_
    rintro e w5 ⟨rfl, hb5⟩
    have hB5 := Grow.trans hB2 hb5
    clear hB2 hb5
    go_wp2_with fail
    refine (rfold_any _ _).mono ?_
    rintro e w6 ⟨rfl, rfl⟩
    generalize foldF ((fr : Int) + i) = x3
    go_wp2_with fail
    refine (fmark_any _ _ hc).mono ?_
    rintro e w3 ⟨rfl, hb3⟩
    have hB3 := Grow.trans hB5 hb3
    clear hB5 hb3
    go_wp2_with fail
    refine (rmark_any _ _).mono ?_
    rintro e w4 ⟨rfl, rfl⟩
    generalize markF ((fr : Int) + i) = x2
    have e2 : (x2 == x2) = true := by simp
    go_wp2
    go_roundw
    case rel => exact ⟨i + 1, by go_num, by omega, hB3⟩
    case measure => simp [intOf]; omega

set_option maxRecDepth 100000 in
theorem lifted (os : Os) (started : os.Started) (H : Type) (enc : TypeId × Value → H) :
    ReturnsInHanded {} Tryd.checked os 4 .any (fun w args => (Rows.foldAllSpec.pre enc Tryd.prog Tryd.f4 [] false w args ∧ laidMetH Tryd.prog tabLaid w) ∧ sizedMet enc Tryd.prog Tryd.f4 (OpenSpec.ofChange Rows.foldAllSpec) false w args) (Rows.foldAllSpec.post enc Tryd.prog Tryd.f4 false true false false) := by
  refine returnsInHanded_of_change_and (C := Tryd.checked) (X := fun w _ => laidMetH Tryd.prog tabLaid w) (fun _ _ _ hh h => h.of_heap hh) own started (by kernel_rfl) Tryd.func4
    (ChangeSpec.witness_shaped (enc := enc) (C := Tryd.checked) (os := os) (X := fun w _ => laidMetH Tryd.prog tabLaid w) false (World.laidAll Tryd.prog os tabLaid) #[.int .u16 0] 8 (World.laidAll_os _ _ _)
      (World.shaped_of_ZipB (by kernel_rfl) (by kernel_rfl)) (by kernel_rfl) (by kernel_rfl) (by kernel_rfl)
      (by rw [MakeChecks.laidMetH_plain _ _ _ (by kernel_rfl)]; exact laidMet_laidAll _ (by kernel_rfl) (by kernel_rfl))) ?_
  intro W base args ds gs before hval0 hW hcnd hsz0 hL _
  rw [MakeChecks.laidMetH_plain _ _ _ (by kernel_rfl)] at hL
  have ht : Tabs W := tabs_of hL
  clear hL
  have hsz : (DataW.weightsEach Tryd.prog (Tryd.f4.params.toList ++ Rows.foldAllSpec.plain.varTypes Tryd.prog) (ds ++ gs)).all (· ≤ reachBytes) = true := hsz0
  clear hsz0
  have hval : ∀ (j : Nat) t v, Tryd.f4.params[j]? = some t → args[j]? = some v → Value.okWide Tryd.prog W .any base t v := hval0
  have hW' := hW
  obtain ⟨p, q, hA0, hV, rfl, hfz, hnd⟩ := hW
  have hA : DataW.TrodAll enc Tryd.prog W 0 (fun _ => true) true Tryd.f4.params.toList args.toList ds p := hA0
  rw [Tryd.params4] at hA hval hsz
  obtain ⟨v0, vs0, d0, ds0, p0, q0, hargs, rfl, rfl, h0, rr0⟩ := trodAll_cons hA
  obtain ⟨rfl, rfl, rfl⟩ := trodAll_nil rr0
  obtain rfl : args = #[v0] := by cases args; simp_all
  obtain ⟨rfl, rfl⟩ := trodVars_none hV
  obtain ⟨a0, rfl, rfl, rfl, w0⟩ := open_int Tryd.underlying27 (hval 0 27 v0 rfl rfl) h0
  clear hA0 hval0
  refine (walk W a0 w0 ht).mono fun e W' ⟨he, bel⟩ => ?_
  subst he
  exact ⟨_, rfl, _, _, _, [], _, [], hW', trodAll_mk1 (shut_bool Tryd.underlying4 _), (trodAll_cons_mk (shut_int Tryd.underlying27 w0) trodAll_mk0), rfl, bel.frame _, fun h => by cases h⟩

theorem over : Rows.foldAllRow.holds Tryd.pinned (OpenSpec.ofChange Rows.foldAllSpec) :=
  OpenClaim.holds_of_wide 4 Tryd.f4 rfl rfl rfl rfl rfl rfl rfl ⟨rfl, rfl, rfl, rfl, rfl⟩ rfl rfl rfl rfl rfl (by kernel_rfl) Tryd.func4 (by kernel_rfl)
    (of_decide_eq_true (by kernel_rfl)) (by unfold Func.isWrapper; first | (rw [if_pos (by decide +kernel)]; kernel_rfl) | (rw [if_neg (by decide +kernel)]; exact ⟨rfl, rfl⟩))
    (fun os started H enc _ => lifted os started H enc)
end Go.Proofs.YtalfganfifkgjaaDoor.foldAll
namespace Go.Proofs.YtalfganfifkgjaaDoor
theorem foldAll_holds : Rows.FoldAllCardSaid :=
  Claim7.holds_tied_plain_at .later [] [.data, .data] true (true, "431f81fcf1a65600043fa3d267c8528a0a4388a7b40072ea468da683d6194d4a") false foldAll.over (fun _ h => by cases h) (by kernel_rfl) (fun _ h => by cases h) foldAll_row_tie rfl ⟨rfl, rfl⟩ (by kernel_rfl) rfl
    (fun f fn hf hfn => by
      obtain rfl : f = 4 := Option.some.inj ((show Tryd.prog.funcNamed "mantelet/manteletlaw05.FoldAll" = some 4 by kernel_rfl).symm.trans hf) |>.symm
      obtain rfl : fn = Tryd.f4 := (Option.some.inj (Tryd.func4.symm.trans hfn)).symm
      exact ⟨by kernel_rfl, fun j t ht => by
        rw [Tryd.params4] at ht
        have hm : t ∈ [27] := by simpa using Array.mem_of_getElem? ht
        have hall : ([27].all fun u => !Tryd.prog.wantsStandIn u) = true := by kernel_rfl
        exact (show Tryd.prog.wantsStandIn t = false by simpa using List.all_eq_true.1 hall t hm)⟩)
    (by kernel_rfl)
#print axioms foldAll_holds
end Go.Proofs.YtalfganfifkgjaaDoor
