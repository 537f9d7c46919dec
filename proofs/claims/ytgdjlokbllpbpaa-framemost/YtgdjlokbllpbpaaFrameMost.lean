/- For every input FrameMost answers true, and leaves its arguments as they were. Conditions: none. -/
import Derived.Test.YtgdjlokbllpbpaaRows
import Derived.Test.YtgdjlokbllpbpaaMade
import Derived.Test.YtgdjlokbllpbpaaFrameGet
import Derived.Test.YtgdjlokbllpbpaaShown03
import Derived.Test.YtgdjlokbllpbpaaFrameMore
import Derived.Test.YtgdjlokbllpbpaaOpen
import Derived.ProofKit
import Derived.OpenShut
import Derived.ShutString
import Derived.ChangeOld
import Derived.SizedLaws
import Derived.Deep.RegionHeld
import Derived.Deep.QuietTactic
import Derived.BigQuiet
import Derived.Deep.Cut
namespace Go.Proofs.Ytgdjlokbllpbpaa.frameMost
open Go.ChangeShapes Go.WideShapes Go.ChangeAt Go.RowKit
open Go.ChangeMaps (open_string shut_string)
set_option linter.unusedVariables false

theorem own : ownKnob Try.prog.godebug = none := by kernel_rfl
theorem laidOut : laidOutB Try.prog = true := by kernel_rfl

theorem enc_most : (encode 1048576).length = 3 := by decide +kernel

set_option maxRecDepth 100000 in
set_option maxHeartbeats 4000000 in
theorem walk (w : World) (a0 : Int) (w0 : (Lit.int .u8 a0).wf = true) :
    Calls Try.prog 6 #[.int .u8 a0] w fun e w' => e = .returned (.bool true) ∧ Below w.heap.size w w' := by
  have g0 := bounds_u8 w0
  clear w0
  have hcase : a0 % 2 = 0 ∨ a0 % 2 = 1 := by omega
  have hb21 : isBytes [129, 128, 64, 1, 2, 3] := by simp [isBytes]
  have hb22 : isBytes [128, 128, 64, 1, 2, 3] := by simp [isBytes]
  rcases hcase with hx | hx
  · obtain ⟨C, zs, hzl, hz8, hmk, hrd⟩ := made_letter 1048576 (by decide)
    replace hmk : ∀ W : World, (Instr.makeSlice 22 (.int .i64 1048576) (.int .i64 1048576)).run Try.prog W = .ok (.slice (some ⟨W.heap.size, 0, none⟩) 1048576 1048576) (W.alloc (.cells C 5)) := hmk
    have hrl : Hid ((recL zs).length = 1048583) := by show _ = _; rw [rec_len, hzl, enc_most]
    have Hzl : Hid _ := hzl
    clear hzl
    have ht : Int.tmod a0 2 = 0 := by rw [Int.tmod_eq_emod_of_nonneg g0.1]; exact hx
    go_enter Try.func6, Try.ntmps6
    go_wp2_with fail
    refine (shown_any _).mono ?_
    rintro e wa ⟨rfl, hb1⟩
    go_wp2_with fail
    refine (fput_ok none 0 0 [] _ _ _ _ _ (Reads.nil _) (hrd wa) hz8 (by decide) (by decide)).mono ?_
    rintro e wb ⟨ag1, c1, m1, hm1, rfl, hown1, hb2⟩
    replace hm1 : m1 = 1048583 := by rw [hm1, hrl.out]
    subst hm1
    have hB2 : Below w.heap.size w wb := Grow.trans hb1 (Below.trans ((Below.refl wa.heap.size wa).alloc (Nat.le_refl _) _) (hb2.mono (by simp)))
    clear hown1 hb1 hb2 hrd hmk
    go_wp2_with fail
    refine (fget_any _ _ _ [129, 128, 64, 1, 2, 3] _ (reads_new wb (([129, 128, 64, 1, 2, 3] : List Int).map (.int .u8)) 5 (by decide)) hb21 (by decide)).mono ?_
    rintro e wc ⟨ag3, c3, rfl, hown3, hb3⟩
    rw [get_most1]
    unfold getRV
    have hB3 : Below w.heap.size w wc := Grow.trans hB2 (Below.trans ((Below.refl wb.heap.size wb).alloc (Nat.le_refl _) _) (hb3.mono (by simp)))
    clear hown3 hb3 hB2
    go_wp2_with fail
    refine (fget_any _ _ _ [128, 128, 64, 1, 2, 3] _ (reads_new wc (([128, 128, 64, 1, 2, 3] : List Int).map (.int .u8)) 5 (by decide)) hb22 (by decide)).mono ?_
    rintro e wd ⟨ag4, c4, rfl, hown4, hb4⟩
    rw [get_most2]
    unfold getRV
    have hB4 : Below w.heap.size w wd := Grow.trans hB3 (Below.trans ((Below.refl wc.heap.size wc).alloc (Nat.le_refl _) _) (hb4.mono (by simp)))
    clear hown4 hb4 hB3
    go_wp2
    go_ret
    exact ⟨rfl, hB4⟩
  · obtain ⟨C, zs, hzl, hz8, hmk, hrd⟩ := made_letter 1048577 (by decide)
    replace hmk : ∀ W : World, (Instr.makeSlice 22 (.int .i64 1048577) (.int .i64 1048577)).run Try.prog W = .ok (.slice (some ⟨W.heap.size, 0, none⟩) 1048577 1048577) (W.alloc (.cells C 5)) := hmk
    clear hzl hrd
    have ht : Int.tmod a0 2 = 1 := by rw [Int.tmod_eq_emod_of_nonneg g0.1]; exact hx
    go_enter Try.func6, Try.ntmps6
    go_wp2_with fail
    refine (shown_any _).mono ?_
    rintro e wa ⟨rfl, hb1⟩
    go_wp2_with fail
    refine (fput_full none 0 0 _ 1048577 1048577 _ (by decide) (by decide)).mono ?_
    rintro e wb ⟨rfl, rfl⟩
    have hB2 : Below w.heap.size w (wa.alloc (.cells C 5)) := Grow.trans hb1 ((Below.refl wa.heap.size wa).alloc (Nat.le_refl _) _)
    clear hb1 hmk
    generalize wa.alloc (.cells C 5) = wb at hB2
    go_wp2_with fail
    refine (fget_any _ _ _ [129, 128, 64, 1, 2, 3] _ (reads_new wb (([129, 128, 64, 1, 2, 3] : List Int).map (.int .u8)) 5 (by decide)) hb21 (by decide)).mono ?_
    rintro e wc ⟨ag3, c3, rfl, hown3, hb3⟩
    rw [get_most1]
    unfold getRV
    have hB3 : Below w.heap.size w wc := Grow.trans hB2 (Below.trans ((Below.refl wb.heap.size wb).alloc (Nat.le_refl _) _) (hb3.mono (by simp)))
    clear hown3 hb3 hB2
    go_wp2_with fail
    refine (fget_any _ _ _ [128, 128, 64, 1, 2, 3] _ (reads_new wc (([128, 128, 64, 1, 2, 3] : List Int).map (.int .u8)) 5 (by decide)) hb22 (by decide)).mono ?_
    rintro e wd ⟨ag4, c4, rfl, hown4, hb4⟩
    rw [get_most2]
    unfold getRV
    have hB4 : Below w.heap.size w wd := Grow.trans hB3 (Below.trans ((Below.refl wc.heap.size wc).alloc (Nat.le_refl _) _) (hb4.mono (by simp)))
    clear hown4 hb4 hB3
    go_wp2
    go_ret
    exact ⟨rfl, hB4⟩

set_option maxRecDepth 100000 in
theorem lifted (os : Os) (started : os.Started) (H : Type) (enc : TypeId × Value → H) :
    ReturnsInHanded {} Try.checked os 6 .any (Rows.frameMostSpec.pre6 enc Try.prog Try.f6 Rows.frameMostRow.domain false) (Rows.frameMostSpec.post enc Try.prog Try.f6 false true false false) := by
  refine returnsInHanded_of_change_sized (C := Try.checked) own started (by kernel_rfl) Try.func6
    (ChangeSpec.witness6 (enc := enc) (C := Try.checked) false ⟨#[], #[.int .u8 0], []⟩ 8 (by kernel_rfl) (by kernel_rfl) (by kernel_rfl) (by kernel_rfl)) ?_
  intro W base args ds gs before hval0 hW hcnd hsz0 _
  have hsz : (DataW.weightsEach Try.prog (Try.f6.params.toList ++ Rows.frameMostSpec.plain.varTypes Try.prog) (ds ++ gs)).all (· ≤ reachBytes) = true := hsz0
  clear hsz0
  have hval : ∀ (j : Nat) t v, Try.f6.params[j]? = some t → args[j]? = some v → Value.okWide Try.prog W .any base t v := hval0
  have hW' := hW
  obtain ⟨p, q, hA0, hV, rfl, hfz, hnd⟩ := hW
  have hA : DataW.TrodAll enc Try.prog W 0 (fun _ => true) true Try.f6.params.toList args.toList ds p := hA0
  rw [Try.params6] at hA hval hsz
  obtain ⟨v0, vs0, d0, ds0, p0, q0, hargs, rfl, rfl, h0, rr0⟩ := trodAll_cons hA
  obtain ⟨rfl, rfl, rfl⟩ := trodAll_nil rr0
  obtain rfl : args = #[v0] := by cases args; simp_all
  obtain ⟨rfl, rfl⟩ := trodVars_none hV
  obtain ⟨a0, rfl, rfl, rfl, w0⟩ := open_int Try.underlying5 (hval 0 5 v0 rfl rfl) h0
  clear hA0 hval0
  refine (walk W a0 w0).mono fun e W' ⟨he, bel⟩ => ?_
  subst he
  exact ⟨_, rfl, _, _, _, [], _, [], hW', trodAll_mk1 (shut_bool Try.underlying4 _), (trodAll_cons_mk (shut_int Try.underlying5 w0) trodAll_mk0), rfl, bel.frame _, fun h => by cases h⟩

theorem over : Rows.frameMostRow.holds Try.pinned (OpenSpec.ofChange Rows.frameMostSpec) :=
  OpenClaim.holds_of_wide 6 Try.f6 rfl rfl rfl rfl rfl rfl rfl ⟨rfl, rfl, rfl, rfl, rfl⟩ rfl rfl rfl rfl rfl (by kernel_rfl) Try.func6 (by kernel_rfl)
    (of_decide_eq_true (by kernel_rfl)) (by unfold Func.isWrapper; first | (rw [if_pos (by decide +kernel)]; kernel_rfl) | (rw [if_neg (by decide +kernel)]; exact ⟨rfl, rfl⟩))
    (fun os started H enc _ => lifted os started H enc)
end Go.Proofs.Ytgdjlokbllpbpaa.frameMost
namespace Go.Proofs.Ytgdjlokbllpbpaa
theorem frameMost_holds : Rows.FrameMostSaid := frameMost.over
#print axioms frameMost_holds
end Go.Proofs.Ytgdjlokbllpbpaa
