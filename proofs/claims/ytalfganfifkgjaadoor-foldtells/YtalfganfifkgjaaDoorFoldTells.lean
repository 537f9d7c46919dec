/- For every input FoldTells answers true, and leaves its arguments as they were. Conditions: none. -/
import Derived.Test.YtalfganfifkgjaaDoorRows
import Derived.Test.YtalfganfifkgjaaDoorCards
import Derived.Test.YtalfganfifkgjaaDoorTie
import Derived.Test.YtalfganfifkgjaaDoorFoldCode
import Derived.Test.YtalfganfifkgjaaDoorRef05Text
import Derived.Test.YtalfganfifkgjaaDoorShown05
import Derived.Test.YtalfganfifkgjaaDoorOpen
import Derived.ProofKit
import Derived.OpenShut
import Derived.ShutString
import Derived.ChangeOld
import Derived.SizedLaws
import Derived.Deep.RegionHeld
import Derived.Deep.QuietTactic
import Derived.BigQuiet
import Derived.Deep.Cut
import Derived.Deep.CutBlock
import Derived.Lay
import Derived.LaidOnce
import Derived.SevenTiedAt
namespace Go.Proofs.YtalfganfifkgjaaDoor.foldTells
open Go.ChangeShapes Go.WideShapes Go.ChangeAt Go.RowKit
open Go.ChangeMaps (open_string shut_string)
set_option linter.unusedVariables false

theorem own : ownKnob Tryd.prog.godebug = none := by kernel_rfl
theorem laidOut : laidOutB Tryd.prog = true := by kernel_rfl


set_option maxRecDepth 100000 in
set_option maxHeartbeats 4000000 in
theorem walk (w : World) (a0 : Int) (w0 : (Lit.int .i32 a0).wf = true) (a1 : ByteArray) (b1 : a1.size ≤ 140737488351232) (ht : Tabs w) :
    Calls Tryd.prog 3 #[.int .i32 a0, .string a1] w fun e w' => e = .returned (.bool true) ∧ Below w.heap.size w w' := by
  have g0 : -2147483648 ≤ a0 ∧ a0 ≤ 2147483647 := bounds_i32 w0
  clear w0
  obtain ⟨zs, h8, rfl, hzl⟩ := str_bytes_inv a1
  clear hzl
  have hsz : (strOfNums zs).size = zs.length := str_size zs
  rw [hsz] at b1
  go_enter Tryd.func3, Tryd.ntmps3
  go_wp2_with fail
  refine (shown_any _).mono ?_
  rintro e wa ⟨rfl, hb1⟩
  by_cases hbig : zs.length ≤ 20000
  case neg =>
    have g1 : (20001 : Int) ≤ zs.length := by omega
    clear hbig
    go_wp2
    go_ret
    exact ⟨rfl, hb1⟩
  have g1 : (zs.length : Int) ≤ 20000 := by omega
  go_wp2_with fail
  refine (fletter_any a0 _ g0).mono ?_
  rintro e w1 ⟨rfl, hb2⟩
  have hB2 := Grow.trans hb1 hb2
  clear hb1 hb2
  go_wp2_with fail
  refine (rletter_any a0 _).mono ?_
  rintro e w2 ⟨rfl, rfl⟩
  generalize letterF a0 = x1
  have e1 : (x1 == x1) = true := by simp
  go_wp2_with fail
  refine (fmark_any a0 _ g0).mono ?_
  rintro e w3 ⟨rfl, hb3⟩
  have hB3 := Grow.trans hB2 hb3
  clear hB2 hb3
  go_wp2_with fail
  refine (rmark_any a0 _).mono ?_
  rintro e w4 ⟨rfl, rfl⟩
  generalize markF a0 = x2
  have e2 : (x2 == x2) = true := by simp
  go_wp2_with fail
  refine (ffold_any a0 _ g0).mono ?_
  rintro e w5 ⟨rfl, hb5⟩
  have hB5 := Grow.trans hB3 hb5
  clear hB3 hb5
  go_wp2_with fail
  refine (rfold_any a0 _).mono ?_
  rintro e w6 ⟨rfl, rfl⟩
  generalize foldF a0 = x3
  go_wp2_with fail
  refine (ftext_any zs _ h8 (by omega)).mono ?_
  rintro e w7 ⟨rfl, hb7⟩
  have hB7 := Grow.trans hB5 hb7
  clear hB5 hb7
  go_wp2_with fail
  refine (rtext_any zs _ h8 (by omega)).mono ?_
  rintro e w8 ⟨rfl, hb8⟩
  have hB8 := Grow.trans hB7 hb8
  clear hB7 hb8
  go_wp2
  go_ret
  exact ⟨rfl, hB8⟩

set_option maxRecDepth 100000 in
theorem lifted (os : Os) (started : os.Started) (H : Type) (enc : TypeId × Value → H) :
    ReturnsInHanded {} Tryd.checked os 3 .any (fun w args => (Rows.foldTellsSpec.pre enc Tryd.prog Tryd.f3 [] false w args ∧ laidMetH Tryd.prog tabLaid w) ∧ sizedMet enc Tryd.prog Tryd.f3 (OpenSpec.ofChange Rows.foldTellsSpec) false w args) (Rows.foldTellsSpec.post enc Tryd.prog Tryd.f3 false true false false) := by
  refine returnsInHanded_of_change_and (C := Tryd.checked) (X := fun w _ => laidMetH Tryd.prog tabLaid w) (fun _ _ _ hh h => h.of_heap hh) own started (by kernel_rfl) Tryd.func3
    (ChangeSpec.witness_shaped (enc := enc) (C := Tryd.checked) (os := os) (X := fun w _ => laidMetH Tryd.prog tabLaid w) false (World.laidAll Tryd.prog os tabLaid) #[.int .i32 0, .string ByteArray.empty] 8 (World.laidAll_os _ _ _)
      (World.shaped_of_ZipB (by kernel_rfl) (by kernel_rfl)) (by kernel_rfl) (by kernel_rfl) (by kernel_rfl)
      (by rw [MakeChecks.laidMetH_plain _ _ _ (by kernel_rfl)]; exact laidMet_laidAll _ (by kernel_rfl) (by kernel_rfl))) ?_
  intro W base args ds gs before hval0 hW hcnd hsz0 hL _
  rw [MakeChecks.laidMetH_plain _ _ _ (by kernel_rfl)] at hL
  have ht : Tabs W := tabs_of hL
  clear hL
  have hsz : (DataW.weightsEach Tryd.prog (Tryd.f3.params.toList ++ Rows.foldTellsSpec.plain.varTypes Tryd.prog) (ds ++ gs)).all (· ≤ reachBytes) = true := hsz0
  clear hsz0
  have hval : ∀ (j : Nat) t v, Tryd.f3.params[j]? = some t → args[j]? = some v → Value.okWide Tryd.prog W .any base t v := hval0
  have hW' := hW
  obtain ⟨p, q, hA0, hV, rfl, hfz, hnd⟩ := hW
  have hA : DataW.TrodAll enc Tryd.prog W 0 (fun _ => true) true Tryd.f3.params.toList args.toList ds p := hA0
  rw [Tryd.params3] at hA hval hsz
  obtain ⟨v0, vs0, d0, ds0, p0, q0, hargs, rfl, rfl, h0, rr0⟩ := trodAll_cons hA
  obtain ⟨v1, vs1, d1, ds1, p1, q1, rfl, rfl, rfl, h1, rr1⟩ := trodAll_cons rr0
  obtain ⟨rfl, rfl, rfl⟩ := trodAll_nil rr1
  obtain rfl : args = #[v0, v1] := by cases args; simp_all
  obtain ⟨rfl, rfl⟩ := trodVars_none hV
  obtain ⟨a0, rfl, rfl, rfl, w0⟩ := open_int Tryd.underlying21 (hval 0 21 v0 rfl rfl) h0
  obtain ⟨a1, rfl, rfl, rfl, w1⟩ := open_string Tryd.underlying9 (hval 1 9 v1 rfl rfl) h1
  have b1 : a1.size ≤ 140737488351232 := by have := sized_string hsz (j := 1) (t := 9) rfl rfl; simpa [reachBytes] using this
  clear hA0 hval0
  refine (walk W a0 w0 a1 b1 ht).mono fun e W' ⟨he, bel⟩ => ?_
  subst he
  exact ⟨_, rfl, _, _, _, [], _, [], hW', trodAll_mk1 (shut_bool Tryd.underlying4 _), (trodAll_cons_mk (shut_int Tryd.underlying21 w0) (trodAll_cons_mk (shut_string Tryd.underlying9 w1) trodAll_mk0)), rfl, bel.frame _, fun h => by cases h⟩

theorem over : Rows.foldTellsRow.holds Tryd.pinned (OpenSpec.ofChange Rows.foldTellsSpec) :=
  OpenClaim.holds_of_wide 3 Tryd.f3 rfl rfl rfl rfl rfl rfl rfl ⟨rfl, rfl, rfl, rfl, rfl⟩ rfl rfl rfl rfl rfl (by kernel_rfl) Tryd.func3 (by kernel_rfl)
    (of_decide_eq_true (by kernel_rfl)) (by unfold Func.isWrapper; first | (rw [if_pos (by decide +kernel)]; kernel_rfl) | (rw [if_neg (by decide +kernel)]; exact ⟨rfl, rfl⟩))
    (fun os started H enc _ => lifted os started H enc)
end Go.Proofs.YtalfganfifkgjaaDoor.foldTells
namespace Go.Proofs.YtalfganfifkgjaaDoor
theorem foldTells_holds : Rows.FoldTellsCardSaid :=
  Claim7.holds_tied_plain_at .later [] [.data, .data] true (true, "431f81fcf1a65600043fa3d267c8528a0a4388a7b40072ea468da683d6194d4a") false foldTells.over (fun _ h => by cases h) (by kernel_rfl) (fun _ h => by cases h) foldTells_row_tie rfl ⟨rfl, rfl⟩ (by kernel_rfl) rfl
    (fun f fn hf hfn => by
      obtain rfl : f = 3 := Option.some.inj ((show Tryd.prog.funcNamed "mantelet/manteletlaw05.FoldTells" = some 3 by kernel_rfl).symm.trans hf) |>.symm
      obtain rfl : fn = Tryd.f3 := (Option.some.inj (Tryd.func3.symm.trans hfn)).symm
      exact ⟨by kernel_rfl, fun j t ht => by
        rw [Tryd.params3] at ht
        have hm : t ∈ [21, 9] := by simpa using Array.mem_of_getElem? ht
        have hall : ([21, 9].all fun u => !Tryd.prog.wantsStandIn u) = true := by kernel_rfl
        exact (show Tryd.prog.wantsStandIn t = false by simpa using List.all_eq_true.1 hall t hm)⟩)
    (by kernel_rfl)
#print axioms foldTells_holds
end Go.Proofs.YtalfganfifkgjaaDoor
