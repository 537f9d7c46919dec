/- For every input PassesMerges answers true, and leaves its arguments as they were. Conditions: none. -/
import Derived.Test.YtknfjonaepggnaaRows
import Derived.Test.YtknfjonaepggnaaPassesMergeC
import Derived.Test.YtknfjonaepggnaaShown12
import Derived.Test.YtknfjonaepggnaaFound
import Derived.ProofKit
import Derived.OpenShut
import Derived.ShutString
import Derived.ChangeOld
import Derived.SizedLaws
import Derived.Deep.RegionHeld
import Derived.Deep.RegionHeld3
import Derived.Deep.QuietTactic
import Derived.BigQuiet
import Derived.Deep.Cut
import Derived.Deep.CutBlock
namespace Go.Proofs.Ytknfjonaepggnaa.passesMerges
open Go.ChangeShapes Go.WideShapes Go.ChangeAt Go.RowKit
open Go.ChangeMaps (open_string shut_string)
set_option linter.unusedVariables false

theorem own : ownKnob Try.prog.godebug = none := by kernel_rfl
theorem laidOut : laidOutB Try.prog = true := by kernel_rfl


set_option maxRecDepth 100000 in
set_option maxHeartbeats 4000000 in
theorem walk (w : World) (a0 : Option Addr) (len0 cap0 : Nat) (z0 : List (List Int)) (r0 : ReadsRows w a0 len0 cap0 z0) (f0 : ∀ l ∈ z0, isBytes l) (b0 : len0 * 24 ≤ 140737488351232) (a1 : Int) (w1 : (Lit.int .i64 a1).wf = true) (a2 : Int) (w2 : (Lit.int .i64 a2).wf = true) :
    Calls Try.prog 4 #[.slice a0 len0 cap0, .int .i64 a1, .int .i64 a2] w fun e w' => e = .returned (.bool true) ∧ Below w.heap.size w w' := by
  have ha := bounds_i64 w1
  have hb := bounds_i64 w2
  have k1 : a1 ≤ 9223372036854775807 := by omega
  have k2 : a2 ≤ 9223372036854775807 := by omega
  clear w1 w2 ha hb
  go_enter Try.func4, Try.ntmps4
  go_wp2_with fail
  refine (shown_any w).mono ?_
  rintro e wa ⟨rfl, hB1⟩
  have r1 := r0.later hB1 (Nat.le_refl _)
  go_wp2_with fail
  refine (few_any r1).mono ?_
  rintro e wa2 ⟨rfl, rfl⟩
  cases hfew : fewR z0 with
  | false =>
    go_wp2
    go_ret
    exact ⟨rfl, hB1⟩
  | true =>
    have hb : ∀ r ∈ z0, isBytes r ∧ r.length ≤ 100000000 := fun r hr => ⟨f0 r hr, by have := (fewR_iff.1 hfew).2 r hr; omega⟩
    have ht := fewR_tot hfew
    have p1 := pmerge_any a1 a2 r1 hb ht k1 k2
    have P2 : Hid (∀ W, Below wa2.heap.size wa2 W → _) := fun W (hW : Below wa2.heap.size wa2 W) => rpmerge_any a1 a2 (r1.later hW (Nat.le_refl _)) hb ht k1 k2
    have Hb : Hid _ := hb
    clear hb ht hfew
    obtain ⟨⟨y, d⟩, hy⟩ : ∃ q, q = mergeZ z0 a1 a2 := ⟨_, rfl⟩
    rw [← hy] at P2
    rw [← hy] at p1
    unfold EncOut at p1
    simp only at p1
    clear hy
    go_wp2_with fail
    refine p1.mono ?_
    rintro e wb ⟨ag, c2, m, rfl, hm, ho, hG⟩
    subst hm
    have hB2 := hB1.trans (hG.mono hB1.size)
    have p2 := P2.out wb hG
    unfold EncOut at p2
    simp only at p2
    clear p1 P2
    go_wp2_with fail
    refine p2.mono ?_
    rintro e wd ⟨ag2, c3, m2, rfl, hm2, ho2, hG2⟩
    subst hm2
    have hB3 := hB2.trans (hG2.mono hB2.size)
    have v1 := conv_of Try.underlying30 Try.underlying5 Try.underlying9 ((Reads.own ho).later hG2 (Nat.le_refl _))
    have v2 := conv_of Try.underlying30 Try.underlying5 Try.underlying9 (Reads.own ho2)
    have hbe : ((strOfNums y).toList == (strOfNums y).toList) = true := by simp
    clear p2 ho ho2 hG hG2 hB2 r1
    generalize y.length = yl at *
    go_wp2
    go_ret
    exact ⟨rfl, hB3⟩

set_option maxRecDepth 100000 in
theorem lifted (os : Os) (started : os.Started) (H : Type) (enc : TypeId × Value → H) :
    ReturnsInHanded {} Try.checked os 4 .any (Rows.passesMergesSpec.pre6 enc Try.prog Try.f4 Rows.passesMergesRow.domain false) (Rows.passesMergesSpec.post enc Try.prog Try.f4 false true false false) := by
  refine returnsInHanded_of_change_sized (C := Try.checked) own started (by kernel_rfl) Try.func4
    (ChangeSpec.witness6 (enc := enc) (C := Try.checked) false ⟨#[], #[.slice none 0 0, .int .i64 0, .int .i64 0], []⟩ 8 (by kernel_rfl) (by kernel_rfl) (by kernel_rfl) (by kernel_rfl)) ?_
  intro W base args ds gs before hval0 hW hcnd hsz0 _
  have hsz : (DataW.weightsEach Try.prog (Try.f4.params.toList ++ Rows.passesMergesSpec.plain.varTypes Try.prog) (ds ++ gs)).all (· ≤ reachBytes) = true := hsz0
  clear hsz0
  have hval : ∀ (j : Nat) t v, Try.f4.params[j]? = some t → args[j]? = some v → Value.okWide Try.prog W .any base t v := hval0
  have hW' := hW
  obtain ⟨p, q, hA0, hV, rfl, hfz, hnd⟩ := hW
  have hA : DataW.TrodAll enc Try.prog W 0 (fun _ => true) true Try.f4.params.toList args.toList ds p := hA0
  rw [Try.params4] at hA hval hsz
  obtain ⟨v0, vs0, d0, ds0, p0, q0, hargs, rfl, rfl, h0, rr0⟩ := trodAll_cons hA
  obtain ⟨v1, vs1, d1, ds1, p1, q1, rfl, rfl, rfl, h1, rr1⟩ := trodAll_cons rr0
  obtain ⟨v2, vs2, d2, ds2, p2, q2, rfl, rfl, rfl, h2, rr2⟩ := trodAll_cons rr1
  obtain ⟨rfl, rfl, rfl⟩ := trodAll_nil rr2
  obtain rfl : args = #[v0, v1, v2] := by cases args; simp_all
  obtain ⟨rfl, rfl⟩ := trodVars_none hV
  obtain ⟨a0, len0, cap0, rfl⟩ := okWide_slice Try.underlying28 (hval 0 28 v0 rfl rfl)
  have k0 := h0
  have lt0 : ∀ x ∈ p0, x.block < W.heap.size := by obtain ⟨m, hm⟩ := k0; exact DataW.trod_lt m _ _ _ hm
  obtain ⟨z0, r0, f0, b0⟩ := rows_in Try.underlying28 Try.underlying30 Try.underlying5 (by kernel_rfl) (by kernel_rfl) (B := 24) (by kernel_rfl) hsz (j := 0) rfl rfl h0
  obtain ⟨a1, rfl, rfl, rfl, w1⟩ := open_int Try.underlying3 (hval 1 3 v1 rfl rfl) h1
  obtain ⟨a2, rfl, rfl, rfl, w2⟩ := open_int Try.underlying3 (hval 2 3 v2 rfl rfl) h2
  clear hA0 hval0
  refine (walk W a0 len0 cap0 z0 r0 f0 b0 a1 w1 a2 w2).mono fun e W' ⟨he, bel⟩ => ?_
  subst he
  exact ⟨_, rfl, _, _, _, [], _, [], hW', trodAll_mk1 (shut_bool Try.underlying4 _), (trodAll_cons_mk (Below.trod laidOut (by kernel_rfl) (of_decide_eq_true (by kernel_rfl)) k0 bel lt0) (trodAll_cons_mk (shut_int Try.underlying3 w1) (trodAll_cons_mk (shut_int Try.underlying3 w2) trodAll_mk0))), rfl, bel.frame _, fun h => by cases h⟩

theorem over : Rows.passesMergesRow.holds Try.pinned (OpenSpec.ofChange Rows.passesMergesSpec) :=
  OpenClaim.holds_of_wide 4 Try.f4 rfl rfl rfl rfl rfl rfl rfl ⟨rfl, rfl, rfl, rfl, rfl⟩ rfl rfl rfl rfl rfl (by kernel_rfl) Try.func4 (by kernel_rfl)
    (of_decide_eq_true (by kernel_rfl)) (by unfold Func.isWrapper; first | (rw [if_pos (by decide +kernel)]; kernel_rfl) | (rw [if_neg (by decide +kernel)]; exact ⟨rfl, rfl⟩))
    (fun os started H enc _ => lifted os started H enc)
end Go.Proofs.Ytknfjonaepggnaa.passesMerges
namespace Go.Proofs.Ytknfjonaepggnaa
theorem passesMerges_holds : Rows.PassesMergesSaid := passesMerges.over
#print axioms passesMerges_holds
end Go.Proofs.Ytknfjonaepggnaa
