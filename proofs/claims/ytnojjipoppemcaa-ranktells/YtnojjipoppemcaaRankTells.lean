/- For every input RankTells answers true, and leaves its arguments as they were. Conditions: none. -/
import Derived.Test.YtnojjipoppemcaaRows
import Derived.Test.YtnojjipoppemcaaShown13
import Derived.Test.YtnojjipoppemcaaFound
import Derived.ProofKit
import Derived.OpenShut
import Derived.ShutString
import Derived.ChangeOld
import Derived.SizedLaws
import Derived.Deep.RegionHeld
import Derived.Deep.RegionHeld3
import Derived.Deep.QuietTactic
import Derived.BigQuiet
import Derived.Deep.Cut
import Derived.Deep.CutBlock
namespace Go.Proofs.Ytnojjipoppemcaa.rankTells
open Go.ChangeShapes Go.WideShapes Go.ChangeAt Go.RowKit
open Go.ChangeMaps (open_string shut_string)
set_option linter.unusedVariables false

theorem own : ownKnob Try.prog.godebug = none := by kernel_rfl
theorem laidOut : laidOutB Try.prog = true := by kernel_rfl


set_option maxRecDepth 100000 in
set_option maxHeartbeats 4000000 in
theorem walk (w : World) (a0 : Option Addr) (len0 cap0 : Nat) (z0 : List En) (r0 : ReadsE w a0 len0 cap0 (cellsE z0)) (f0 : ∀ z ∈ z0, z.1.length ≤ 140737488351232 ∧ z.2 ≤ 18446744073709551615) (b0 : len0 * 24 ≤ 140737488351232) (a1 : Int) (w1 : (Lit.int .u64 a1).wf = true) (a2 : Int) (w2 : (Lit.int .u64 a2).wf = true) :
    Calls Try.prog 3 #[.slice a0 len0 cap0, .int .u64 a1, .int .u64 a2] w fun e w' => e = .returned (.bool true) ∧ Below w.heap.size w w' := by
  have hx := bounds_u64 w1
  have hy := bounds_u64 w2
  obtain ⟨a, rfl⟩ := Int.eq_ofNat_of_zero_le (show 0 ≤ a1 by omega)
  obtain ⟨n, rfl⟩ := Int.eq_ofNat_of_zero_le (show 0 ≤ a2 by omega)
  have hfit : ∀ e ∈ z0, e.2 ≤ 18446744073709551615 := fun e he => (f0 e he).2
  have Ha : Hid (a ≤ 18446744073709551615) := (by omega : a ≤ 18446744073709551615)
  have Hn : Hid (n ≤ 18446744073709551615) := (by omega : n ≤ 18446744073709551615)
  have Hfit : Hid _ := hfit
  have hml : len0 ≤ 9223372036854775807 := by omega
  have R0 : Hid _ := r0
  have S0 : Hid _ := fun wa (h : Below w.heap.size w wa) => r0.later h (Nat.le_refl _)
  clear f0 w1 w2 hx hy hfit r0 b0
  go_enter Try.func3, Try.ntmps3
  go_wp2_with fail
  refine (shown_any w).mono ?_
  rintro e wa ⟨rfl, hB1⟩
  have HB1 : Hid _ := hB1
  clear hB1
  by_cases h400 : len0 ≤ 400
  case neg =>
    have i1 : (400 : Int) < len0 := by omega
    clear h400
    go_wp2
    go_ret
    exact ⟨rfl, HB1.out⟩
  have i1 : ¬ (400 : Int) < len0 := by omega
  have h4 : len0 ≤ 1000000 := by omega
  have ra := S0.out wa HB1.out
  have p1 := prune_any ra h4 a Ha.out Hfit.out
  have RA : Hid _ := ra
  clear h400 ra hml
  go_wp2_with fail
  refine p1.mono ?_
  rintro e wb ⟨ag, c, m, rfl, hm, ho, hB2⟩
  subst hm
  have rb := RA.out.later hB2 (Nat.le_refl _)
  have p2 := rprune_any rb h4 a Ha.out Hfit.out
  have HB2 : Hid _ := HB1.out.trans (hB2.mono HB1.out.size)
  have E1 : Hid _ := ReadsE.own ho
  have RB : Hid _ := rb
  clear p1 ho hB2 rb RA HB1
  go_wp2_with fail
  refine p2.mono ?_
  rintro e wc ⟨ag2, c2, m2, rfl, hm, ho, hB3⟩
  subst hm
  have p3 := rsameE_any (E1.out.later hB3 (Nat.le_refl _)) (ReadsE.own ho)
  rw [show decide (pruneL z0 a = pruneL z0 a) = true by simp] at p3
  have rc := RB.out.later hB3 (Nat.le_refl _)
  have RC : Hid _ := rc
  have HB3 : Hid _ := HB2.out.trans (hB3.mono HB2.out.size)
  clear p2 ho hB3 rc RB HB2 E1
  go_wp2_with fail
  refine p3.mono ?_
  rintro e wd ⟨rfl, q, hw⟩
  have hB4 : Below wc.heap.size wc wd := by rw [hw]; exact below_drewN (Below.refl _ _) q
  have rd := RC.out.later hB4 (Nat.le_refl _)
  have HB4 : Hid _ := HB3.out.trans (hB4.mono HB3.out.size)
  have p4 := classes_any rd h4 Hfit.out
  have RD : Hid _ := rd
  clear p3 hw hB4 rd RC HB3
  go_wp2_with fail
  refine p4.mono ?_
  rintro e we ⟨ag4, c4, m4, rfl, hm, ho, hB5⟩
  subst hm
  have re := RD.out.later hB5 (Nat.le_refl _)
  have p5 := rclasses_any re h4
  have HB5 : Hid _ := HB4.out.trans (hB5.mono HB4.out.size)
  have E5 : Hid _ := Reads.own ho
  clear p4 ho hB5 re RD HB4
  go_wp2_with fail
  refine p5.mono ?_
  rintro e wf ⟨ag5, c5, m5, rfl, hm, ho, hB6⟩
  subst hm
  have p6 := rints_any (E5.out.later hB6 (Nat.le_refl _)) (Reads.own ho)
  rw [show decide (classesI (z0.map (·.2)) = classesI (z0.map (·.2))) = true by simp] at p6
  have HB6 : Hid _ := HB5.out.trans (hB6.mono HB5.out.size)
  clear p5 ho hB6 HB5 E5
  go_wp2_with fail
  refine p6.mono ?_
  rintro e wg ⟨rfl, q2, hw⟩
  have hB7 : Below wf.heap.size wf wg := by rw [hw]; exact below_drewN (Below.refl _ _) q2
  have HB7 : Hid _ := HB6.out.trans (hB7.mono HB6.out.size)
  clear p6 hw hB7 HB6
  have hpp : ((halfs n : Int) == halfs n) = true := by simp
  have p7 := half_any n wg Hn.out
  have p8 := fun W => rhalf_any n W Hn.out
  have P8 : Hid _ := p8
  generalize halfs n = y at *
  clear p8
  go_wp2_with fail
  refine p7.mono ?_
  rintro e wh ⟨rfl, rfl⟩
  clear p7
  go_wp2_with fail
  refine (P8.out _).mono ?_
  rintro e wi ⟨rfl, hwi⟩
  have HB9 : Hid (Below w.heap.size w wi) := by show Below _ _ _; rw [hwi]; exact HB7.out
  clear hwi HB7 P8
  go_wp2
  go_ret
  exact ⟨rfl, HB9.out⟩

set_option maxRecDepth 100000 in
theorem lifted (os : Os) (started : os.Started) (H : Type) (enc : TypeId × Value → H) :
    ReturnsInHanded {} Try.checked os 3 .any (Rows.rankTellsSpec.pre6 enc Try.prog Try.f3 Rows.rankTellsRow.domain false) (Rows.rankTellsSpec.post enc Try.prog Try.f3 false true false false) := by
  refine returnsInHanded_of_change_sized (C := Try.checked) own started (by kernel_rfl) Try.func3
    (ChangeSpec.witness6 (enc := enc) (C := Try.checked) false ⟨#[], #[.slice none 0 0, .int .u64 0, .int .u64 0], []⟩ 8 (by kernel_rfl) (by kernel_rfl) (by kernel_rfl) (by kernel_rfl)) ?_
  intro W base args ds gs before hval0 hW hcnd hsz0 _
  have hsz : (DataW.weightsEach Try.prog (Try.f3.params.toList ++ Rows.rankTellsSpec.plain.varTypes Try.prog) (ds ++ gs)).all (· ≤ reachBytes) = true := hsz0
  clear hsz0
  have hval : ∀ (j : Nat) t v, Try.f3.params[j]? = some t → args[j]? = some v → Value.okWide Try.prog W .any base t v := hval0
  have hW' := hW
  obtain ⟨p, q, hA0, hV, rfl, hfz, hnd⟩ := hW
  have hA : DataW.TrodAll enc Try.prog W 0 (fun _ => true) true Try.f3.params.toList args.toList ds p := hA0
  rw [Try.params3] at hA hval hsz
  obtain ⟨v0, vs0, d0, ds0, p0, q0, hargs, rfl, rfl, h0, rr0⟩ := trodAll_cons hA
  obtain ⟨v1, vs1, d1, ds1, p1, q1, rfl, rfl, rfl, h1, rr1⟩ := trodAll_cons rr0
  obtain ⟨v2, vs2, d2, ds2, p2, q2, rfl, rfl, rfl, h2, rr2⟩ := trodAll_cons rr1
  obtain ⟨rfl, rfl, rfl⟩ := trodAll_nil rr2
  obtain rfl : args = #[v0, v1, v2] := by cases args; simp_all
  obtain ⟨rfl, rfl⟩ := trodVars_none hV
  obtain ⟨a0, len0, cap0, rfl⟩ := okWide_slice Try.underlying22 (hval 0 22 v0 rfl rfl)
  have k0 := h0
  have lt0 : ∀ x ∈ p0, x.block < W.heap.size := by obtain ⟨m, hm⟩ := k0; exact DataW.trod_lt m _ _ _ hm
  obtain ⟨z0, r0, f0, b0⟩ := entries_in Try.underlying22 Try.underlying35 (by kernel_rfl) rfl rfl (by kernel_rfl) (by kernel_rfl) Try.underlying9 Try.underlying23 (B := 24) (by kernel_rfl) hsz (j := 0) rfl rfl h0
  obtain ⟨a1, rfl, rfl, rfl, w1⟩ := open_int Try.underlying23 (hval 1 23 v1 rfl rfl) h1
  obtain ⟨a2, rfl, rfl, rfl, w2⟩ := open_int Try.underlying23 (hval 2 23 v2 rfl rfl) h2
  clear hA0 hval0
  refine (walk W a0 len0 cap0 z0 r0 f0 b0 a1 w1 a2 w2).mono fun e W' ⟨he, bel⟩ => ?_
  subst he
  exact ⟨_, rfl, _, _, _, [], _, [], hW', trodAll_mk1 (shut_bool Try.underlying4 _), (trodAll_cons_mk (Below.trod laidOut (by kernel_rfl) (of_decide_eq_true (by kernel_rfl)) k0 bel lt0) (trodAll_cons_mk (shut_int Try.underlying23 w1) (trodAll_cons_mk (shut_int Try.underlying23 w2) trodAll_mk0))), rfl, bel.frame _, fun h => by cases h⟩

theorem over : Rows.rankTellsRow.holds Try.pinned (OpenSpec.ofChange Rows.rankTellsSpec) :=
  OpenClaim.holds_of_wide 3 Try.f3 rfl rfl rfl rfl rfl rfl rfl ⟨rfl, rfl, rfl, rfl, rfl⟩ rfl rfl rfl rfl rfl (by kernel_rfl) Try.func3 (by kernel_rfl)
    (of_decide_eq_true (by kernel_rfl)) (by unfold Func.isWrapper; first | (rw [if_pos (by decide +kernel)]; kernel_rfl) | (rw [if_neg (by decide +kernel)]; exact ⟨rfl, rfl⟩))
    (fun os started H enc _ => lifted os started H enc)
end Go.Proofs.Ytnojjipoppemcaa.rankTells
namespace Go.Proofs.Ytnojjipoppemcaa
theorem rankTells_holds : Rows.RankTellsSaid := rankTells.over
#print axioms rankTells_holds
end Go.Proofs.Ytnojjipoppemcaa
