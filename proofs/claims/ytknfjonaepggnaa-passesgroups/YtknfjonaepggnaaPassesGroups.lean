/- For every input PassesGroups answers true, and leaves its arguments as they were. Conditions: none. -/
import Derived.Test.YtknfjonaepggnaaRows
import Derived.Test.YtknfjonaepggnaaShown12
import Derived.Test.YtknfjonaepggnaaFound
import Derived.ProofKit
import Derived.OpenShut
import Derived.ShutString
import Derived.ChangeOld
import Derived.SizedLaws
import Derived.Deep.RegionHeld
import Derived.Deep.RegionHeld3
import Derived.Deep.QuietTactic
import Derived.BigQuiet
import Derived.Deep.Cut
import Derived.Deep.CutBlock
namespace Go.Proofs.Ytknfjonaepggnaa.passesGroups
open Go.ChangeShapes Go.WideShapes Go.ChangeAt Go.RowKit
open Go.ChangeMaps (open_string shut_string)
set_option linter.unusedVariables false

theorem own : ownKnob Try.prog.godebug = none := by kernel_rfl
theorem laidOut : laidOutB Try.prog = true := by kernel_rfl


set_option maxRecDepth 100000 in
set_option maxHeartbeats 4000000 in
theorem walk (w : World) (a0 : Int) (w0 : (Lit.int .i64 a0).wf = true) (a1 : Int) (w1 : (Lit.int .i64 a1).wf = true) :
    Calls Try.prog 3 #[.int .i64 a0, .int .i64 a1] w fun e w' => e = .returned (.bool true) ∧ Below w.heap.size w w' := by
  have ha := bounds_i64 w0
  have hb := bounds_i64 w1
  have b1 : a0 ≤ 9223372036854775807 := by omega
  have b2 : -9223372036854775808 ≤ a0 := by omega
  have b3 : a1 ≤ 9223372036854775807 := by omega
  have b4 : -9223372036854775808 ≤ a1 := by omega
  clear w0 w1 ha hb
  have pg := fun W => groups_any a0 a1 W b1 b2 b3 b4
  have pr := fun W => rgroups_any a0 a1 W b1 b2 b3 b4
  have pp := fun W => passes_any a0 a1 W b1 b2 b3 b4
  have pq := fun W => rpasses_any a0 a1 W b1 b2 b3 b4
  generalize groupsZ a0 a1 = gs at *
  generalize passesZ a0 a1 = p at *
  have PP : Hid _ := pp
  have PQ : Hid _ := pq
  have PR : Hid _ := pr
  have PG : Hid _ := pg
  clear pp pq pr pg b1 b2 b3 b4
  go_enter Try.func3, Try.ntmps3
  go_wp2_with fail
  refine (shown_any w).mono ?_
  rintro e wa ⟨rfl, hB1⟩
  have HB1 : Hid _ := hB1
  clear hB1
  go_wp2_with fail
  refine (PG.out wa).mono ?_
  rintro e wb ⟨ag, c, rfl, ho, hB2⟩
  have HB2 : Hid _ := hB2
  have Ho : Hid _ := ho
  clear hB2 ho
  go_wp2_with fail
  refine (PR.out wb).mono ?_
  rintro e wc ⟨ag2, c2, rfl, ho2, hB3⟩
  have ra : ReadsE wc ag gs.length c (cellsP gs) := (ReadsE.own Ho.out).later hB3 (Nat.le_refl _)
  have rb : ReadsE wc ag2 gs.length c2 (cellsP gs) := ReadsE.own ho2
  have HB4 : Hid _ := HB1.out.trans ((HB2.out.trans (hB3.mono HB2.out.size)).mono HB1.out.size)
  clear hB3 ho2 Ho HB1 HB2
  obtain ⟨n, hn⟩ : ∃ n, n = gs.length := ⟨_, rfl⟩
  rw [← hn] at ra rb ⊢
  have hnm : n ≤ 9223372036854775807 := by have := Nat.le_trans ra.le ra.most; unfold maxLen at this; omega
  have HN : Hid _ := hn
  have RA : Hid _ := ra
  have RB : Hid _ := rb
  clear hn ra rb
  go_wp2_with fail
  go_loopw [8] (fun i wr => ∃ j : Nat, i = .int .i64 j ∧ j ≤ n ∧ ∃ k, wr = wc.drewN k) (fun i _ => (n - intOf i).toNat)
  case atStart => exact ⟨0, rfl, Nat.zero_le _, 0, rfl⟩
  case round =>
    obtain ⟨j, rfl, hj, k, hw⟩ := hrel
    have Hw : Hid _ := hw
    clear hw
    by_cases hjl : j < n
    · have q1 : (j : Int) < n := by omega
      obtain ⟨g, hg⟩ : ∃ g, gs[j]? = some g := ⟨_, List.getElem?_eq_getElem (by rw [← HN.out]; exact hjl)⟩
      obtain ⟨b, off, rfl, hbl, hc⟩ := ReadsE.atP RA.out (by omega)
      obtain ⟨b', off', rfl, hbl', hc'⟩ := ReadsE.atP RB.out (by omega)
      have c1 : wr.cell? ⟨b, off + j * 2, none⟩ = some (.int .i64 (g.1 : Int)) := by rw [Hw.out]; exact (hc j g hg).1
      have c2 : wr.cell? ⟨b, off + j * 2 + 1, none⟩ = some (.int .i64 (g.2 : Int)) := by rw [Hw.out]; exact (hc j g hg).2
      have d1 : wr.cell? ⟨b', off' + j * 2, none⟩ = some (.int .i64 (g.1 : Int)) := by rw [Hw.out]; exact (hc' j g hg).1
      have d2 : wr.cell? ⟨b', off' + j * 2 + 1, none⟩ = some (.int .i64 (g.2 : Int)) := by rw [Hw.out]; exact (hc' j g hg).2
      obtain ⟨g1, g2⟩ := g
      have hrun : ∀ W, (binOp .neq 25 (.agg #[.int .i64 (g1 : Int), .int .i64 (g2 : Int)]) (.agg #[.int .i64 (g1 : Int), .int .i64 (g2 : Int)])).run Try.prog W = .ok (.bool false) W := fun W => by rw [pair_neq]; simp
      simp only at c1 c2 d1 d2
      clear hc hc' hg hbl hbl' hjl
      go_wp2_with fail
      go_quiet (fail)
      go_wp2
      go_roundw
      case rel => exact ⟨j + 1, by go_num, by omega, k + nq, by rw [Hw.out, World.drewN_drewN]⟩
      case measure => simp [intOf]; omega
    · have q1 : ¬ (j : Int) < n := by omega
      have hBw : Below wc.heap.size wc wr := by rw [Hw.out]; exact below_drewN (Below.refl _ _) _
      have HBw : Hid _ := HB4.out.trans (hBw.mono HB4.out.size)
      clear hBw Hw
      have hpp : ((p : Int) == p) = true := by simp
      go_wp2_with fail
      refine (PP.out _).mono ?_
      rintro e we ⟨rfl, hB5⟩
      have HBx : Hid _ := HBw.out.trans (hB5.mono HBw.out.size)
      clear hB5 HBw
      go_wp2_with fail
      refine (PQ.out _).mono ?_
      rintro e wf ⟨rfl, rfl⟩
      go_wp2
      go_ret
      exact ⟨rfl, HBx.out⟩

set_option maxRecDepth 100000 in
theorem lifted (os : Os) (started : os.Started) (H : Type) (enc : TypeId × Value → H) :
    ReturnsInHanded {} Try.checked os 3 .any (Rows.passesGroupsSpec.pre6 enc Try.prog Try.f3 Rows.passesGroupsRow.domain false) (Rows.passesGroupsSpec.post enc Try.prog Try.f3 false true false false) := by
  refine returnsInHanded_of_change_sized (C := Try.checked) own started (by kernel_rfl) Try.func3
    (ChangeSpec.witness6 (enc := enc) (C := Try.checked) false ⟨#[], #[.int .i64 0, .int .i64 0], []⟩ 8 (by kernel_rfl) (by kernel_rfl) (by kernel_rfl) (by kernel_rfl)) ?_
  intro W base args ds gs before hval0 hW hcnd hsz0 _
  have hsz : (DataW.weightsEach Try.prog (Try.f3.params.toList ++ Rows.passesGroupsSpec.plain.varTypes Try.prog) (ds ++ gs)).all (· ≤ reachBytes) = true := hsz0
  clear hsz0
  have hval : ∀ (j : Nat) t v, Try.f3.params[j]? = some t → args[j]? = some v → Value.okWide Try.prog W .any base t v := hval0
  have hW' := hW
  obtain ⟨p, q, hA0, hV, rfl, hfz, hnd⟩ := hW
  have hA : DataW.TrodAll enc Try.prog W 0 (fun _ => true) true Try.f3.params.toList args.toList ds p := hA0
  rw [Try.params3] at hA hval hsz
  obtain ⟨v0, vs0, d0, ds0, p0, q0, hargs, rfl, rfl, h0, rr0⟩ := trodAll_cons hA
  obtain ⟨v1, vs1, d1, ds1, p1, q1, rfl, rfl, rfl, h1, rr1⟩ := trodAll_cons rr0
  obtain ⟨rfl, rfl, rfl⟩ := trodAll_nil rr1
  obtain rfl : args = #[v0, v1] := by cases args; simp_all
  obtain ⟨rfl, rfl⟩ := trodVars_none hV
  obtain ⟨a0, rfl, rfl, rfl, w0⟩ := open_int Try.underlying3 (hval 0 3 v0 rfl rfl) h0
  obtain ⟨a1, rfl, rfl, rfl, w1⟩ := open_int Try.underlying3 (hval 1 3 v1 rfl rfl) h1
  clear hA0 hval0
  refine (walk W a0 w0 a1 w1).mono fun e W' ⟨he, bel⟩ => ?_
  subst he
  exact ⟨_, rfl, _, _, _, [], _, [], hW', trodAll_mk1 (shut_bool Try.underlying4 _), (trodAll_cons_mk (shut_int Try.underlying3 w0) (trodAll_cons_mk (shut_int Try.underlying3 w1) trodAll_mk0)), rfl, bel.frame _, fun h => by cases h⟩

theorem over : Rows.passesGroupsRow.holds Try.pinned (OpenSpec.ofChange Rows.passesGroupsSpec) :=
  OpenClaim.holds_of_wide 3 Try.f3 rfl rfl rfl rfl rfl rfl rfl ⟨rfl, rfl, rfl, rfl, rfl⟩ rfl rfl rfl rfl rfl (by kernel_rfl) Try.func3 (by kernel_rfl)
    (of_decide_eq_true (by kernel_rfl)) (by unfold Func.isWrapper; first | (rw [if_pos (by decide +kernel)]; kernel_rfl) | (rw [if_neg (by decide +kernel)]; exact ⟨rfl, rfl⟩))
    (fun os started H enc _ => lifted os started H enc)
end Go.Proofs.Ytknfjonaepggnaa.passesGroups
namespace Go.Proofs.Ytknfjonaepggnaa
theorem passesGroups_holds : Rows.PassesGroupsSaid := passesGroups.over
#print axioms passesGroups_holds
end Go.Proofs.Ytknfjonaepggnaa
