/- For every input LoserRuns answers true, and leaves its arguments as they were. Conditions: none. -/
import Derived.Test.YtgnhnhachhfafaaRows
import Derived.Test.YtgnhnhachhfafaaLoserRunsC
import Derived.Test.YtgnhnhachhfafaaRef11Runs
import Derived.Test.YtgnhnhachhfafaaShown11
import Derived.Test.YtgnhnhachhfafaaEnAll
import Derived.ProofKit
import Derived.OpenShut
import Derived.ShutString
import Derived.ChangeOld
import Derived.SizedLaws
import Derived.Deep.RegionHeld
import Derived.Deep.RegionHeld3
import Derived.Deep.QuietTactic
import Derived.BigQuiet
import Derived.Deep.Cut
import Derived.Deep.CutBlock
namespace Go.Proofs.Ytgnhnhachhfafaa.loserRuns
open Go.ChangeShapes Go.WideShapes Go.ChangeAt Go.RowKit
open Go.ChangeMaps (open_string shut_string)
set_option linter.unusedVariables false

theorem own : ownKnob Try.prog.godebug = none := by kernel_rfl
theorem laidOut : laidOutB Try.prog = true := by kernel_rfl

theorem flat_most : ∀ {rs : List (List Int)} {m : Nat}, (∀ r ∈ rs, r.length ≤ m) → rs.flatten.length ≤ m * rs.length
  | [], m, _ => by simp
  | r :: rs, m, h => by
    have h1 := flat_most (rs := rs) (m := m) fun x hx => h x (by simp [hx])
    have h2 := h r (by simp)
    simp only [List.flatten_cons, List.length_append, List.length_cons, Nat.mul_add, Nat.mul_one]
    omega

set_option maxRecDepth 100000 in
set_option maxHeartbeats 4000000 in
theorem walk (w : World) (a0 : Option Addr) (len0 cap0 : Nat) (z0 : List (List Int)) (r0 : ReadsRows w a0 len0 cap0 z0) (f0 : ∀ l ∈ z0, isBytes l) (b0 : len0 * 24 ≤ 140737488351232) (a1 : Int) (w1 : (Lit.int .i64 a1).wf = true) :
    Calls Try.prog 4 #[.slice a0 len0 cap0, .int .i64 a1] w fun e w' => e = .returned (.bool true) ∧ Below w.heap.size w w' := by
  have ha := bounds_i64 w1
  obtain ⟨s, hs⟩ : ∃ s : Nat, a1 = s ∨ (a1 < 0 ∧ s = 0) := ⟨a1.toNat, by omega⟩
  have hs9 : a1 ≤ 9223372036854775807 := by omega
  have Hlx : Hid _ := r0.length
  clear w1 ha
  go_enter Try.func4, Try.ntmps4
  go_wp2_with fail
  refine (shown_any w).mono ?_
  rintro e wa ⟨rfl, hB1⟩
  have r1 := r0.later hB1 (Nat.le_refl _)
  go_wp2_with fail
  go_loop [6] (fun i => ∃ j : Nat, i = .int .i64 j ∧ j ≤ len0 ∧ j ≤ 21 ∧ Hid (∀ r ∈ z0.take j, r.length ≤ 5000)) (fun i => (len0 - intOf i).toNat)
  case atStart => exact ⟨0, rfl, Nat.zero_le _, by omega, (show ∀ r ∈ z0.take 0, r.length ≤ 5000 from fun r hr => by simp at hr)⟩
  case round =>
    obtain ⟨j, rfl, hj, hj2, hA⟩ := hrel
    by_cases hjl : j < len0 ∧ j < 21
    · obtain ⟨hj3, hj4⟩ := hjl
      have q1 : (j : Int) < len0 := by omega
      have q2 : (j : Int) < 21 := by omega
      obtain ⟨b, off, rfl, hbl, hc⟩ := r1.at (by omega)
      obtain ⟨ai, li, ci, c0, hr0⟩ := hc j hj3
      obtain ⟨r, hr⟩ : ∃ r, z0[j]? = some r := ⟨_, List.getElem?_eq_getElem (by rw [Hlx.out]; exact hj3)⟩
      have hre : z0.getD j [] = r := by simp [List.getD_eq_getElem?_getD, hr]
      rw [hre] at hr0
      have hli : r.length = li := by have := hr0.length; simpa using this
      have hlm : li ≤ 9223372036854775807 := by have := Nat.le_trans hr0.le hr0.most; unfold maxLen at this; omega
      by_cases h5 : li ≤ 5000
      · have hA2 : Hid (∀ r ∈ z0.take (j + 1), r.length ≤ 5000) := by
          show ∀ x ∈ _, _
          intro x hx
          rw [List.take_add_one, hr] at hx
          rcases List.mem_append.1 hx with hx | hx
          · exact hA.out x hx
          · simp at hx; subst hx; omega
        have i1 : ¬ (5000 : Int) < li := by omega
        clear hc hr0 hA hr hre hli h5
        go_wp2
        go_round
        case rel => exact ⟨j + 1, by go_num, by omega, by omega, hA2⟩
        case measure => simp [intOf]; omega
      · have i1 : (5000 : Int) < li := by omega
        clear hc hr0 hA hr hre hli h5
        go_wp2
        go_ret
        exact ⟨rfl, hB1⟩
    · by_cases h20 : len0 ≤ 20
      case neg =>
        have hsp : ¬ (j : Int) < len0 ∨ ((j : Int) < len0 ∧ ¬ (j : Int) < 21) := by omega
        have i1 : (20 : Int) < len0 := by omega
        clear hA hjl h20
        rcases hsp with q1 | ⟨q1, q2⟩
        all_goals go_wp2
        all_goals go_ret
        all_goals exact ⟨rfl, hB1⟩
      have hje : j = len0 := by omega
      have q1 : ¬ (j : Int) < len0 := by omega
      have i1 : ¬ (20 : Int) < len0 := by omega
      have hall : ∀ r ∈ z0, r.length ≤ 5000 := by have := hA.out; rw [hje, List.take_of_length_le (by rw [Hlx.out]; exact Nat.le_refl _)] at this; exact this
      have hft := flat_most hall
      have hft2 : z0.flatten.length ≤ 400000 := by rw [Hlx.out] at hft; omega
      have p1 := runs_any r1 f0 (fun r hr => by have := hall r hr; omega) hft2 (by omega) a1 s hs hs9
      unfold EncOut at p1
      have Hall : Hid _ := hall
      clear hA hjl hje hft hall
      obtain ⟨⟨y, d⟩, hy⟩ : ∃ q, q = runsM z0 s := ⟨_, rfl⟩
      rw [← hy] at p1
      simp only at p1
      have HY : Hid _ := hy
      clear hy
      go_wp2_with fail
      refine p1.mono ?_
      rintro e wb ⟨ag, c2, m, rfl, hm, ho, hG⟩
      subst hm
      have hB2 := hB1.trans (hG.mono hB1.size)
      have p2 := rruns_any (r1.later hG (Nat.le_refl _)) f0 (fun r hr => by have := Hall.out r hr; omega) hft2 (by omega) a1 s hs hs9
      unfold EncOut at p2
      rw [← HY.out] at p2
      simp only at p2
      clear p1
      go_wp2_with fail
      refine p2.mono ?_
      rintro e wd ⟨ag2, c3, m2, rfl, hm2, ho2, hG2⟩
      subst hm2
      have hB3 := hB2.trans (hG2.mono hB2.size)
      have v1 := conv_of Try.underlying33 Try.underlying5 Try.underlying9 ((Reads.own ho).later hG2 (Nat.le_refl _))
      have v2 := conv_of Try.underlying33 Try.underlying5 Try.underlying9 (Reads.own ho2)
      have hbe : ((strOfNums y).toList == (strOfNums y).toList) = true := by simp
      clear p2 ho ho2 hG hG2 hB2 r1 hft2 HY
      generalize y.length = yl at *
      go_wp2
      go_ret
      exact ⟨rfl, hB3⟩

set_option maxRecDepth 100000 in
theorem lifted (os : Os) (started : os.Started) (H : Type) (enc : TypeId × Value → H) :
    ReturnsInHanded {} Try.checked os 4 .any (Rows.loserRunsSpec.pre6 enc Try.prog Try.f4 Rows.loserRunsRow.domain false) (Rows.loserRunsSpec.post enc Try.prog Try.f4 false true false false) := by
  refine returnsInHanded_of_change_sized (C := Try.checked) own started (by kernel_rfl) Try.func4
    (ChangeSpec.witness6 (enc := enc) (C := Try.checked) false ⟨#[], #[.slice none 0 0, .int .i64 0], []⟩ 8 (by kernel_rfl) (by kernel_rfl) (by kernel_rfl) (by kernel_rfl)) ?_
  intro W base args ds gs before hval0 hW hcnd hsz0 _
  have hsz : (DataW.weightsEach Try.prog (Try.f4.params.toList ++ Rows.loserRunsSpec.plain.varTypes Try.prog) (ds ++ gs)).all (· ≤ reachBytes) = true := hsz0
  clear hsz0
  have hval : ∀ (j : Nat) t v, Try.f4.params[j]? = some t → args[j]? = some v → Value.okWide Try.prog W .any base t v := hval0
  have hW' := hW
  obtain ⟨p, q, hA0, hV, rfl, hfz, hnd⟩ := hW
  have hA : DataW.TrodAll enc Try.prog W 0 (fun _ => true) true Try.f4.params.toList args.toList ds p := hA0
  rw [Try.params4] at hA hval hsz
  obtain ⟨v0, vs0, d0, ds0, p0, q0, hargs, rfl, rfl, h0, rr0⟩ := trodAll_cons hA
  obtain ⟨v1, vs1, d1, ds1, p1, q1, rfl, rfl, rfl, h1, rr1⟩ := trodAll_cons rr0
  obtain ⟨rfl, rfl, rfl⟩ := trodAll_nil rr1
  obtain rfl : args = #[v0, v1] := by cases args; simp_all
  obtain ⟨rfl, rfl⟩ := trodVars_none hV
  obtain ⟨a0, len0, cap0, rfl⟩ := okWide_slice Try.underlying32 (hval 0 32 v0 rfl rfl)
  have k0 := h0
  have lt0 : ∀ x ∈ p0, x.block < W.heap.size := by obtain ⟨m, hm⟩ := k0; exact DataW.trod_lt m _ _ _ hm
  obtain ⟨z0, r0, f0, b0⟩ := rows_in Try.underlying32 Try.underlying33 Try.underlying5 (by kernel_rfl) (by kernel_rfl) (B := 24) (by kernel_rfl) hsz (j := 0) rfl rfl h0
  obtain ⟨a1, rfl, rfl, rfl, w1⟩ := open_int Try.underlying3 (hval 1 3 v1 rfl rfl) h1
  clear hA0 hval0
  refine (walk W a0 len0 cap0 z0 r0 f0 b0 a1 w1).mono fun e W' ⟨he, bel⟩ => ?_
  subst he
  exact ⟨_, rfl, _, _, _, [], _, [], hW', trodAll_mk1 (shut_bool Try.underlying4 _), (trodAll_cons_mk (Below.trod laidOut (by kernel_rfl) (of_decide_eq_true (by kernel_rfl)) k0 bel lt0) (trodAll_cons_mk (shut_int Try.underlying3 w1) trodAll_mk0)), rfl, bel.frame _, fun h => by cases h⟩

theorem over : Rows.loserRunsRow.holds Try.pinned (OpenSpec.ofChange Rows.loserRunsSpec) :=
  OpenClaim.holds_of_wide 4 Try.f4 rfl rfl rfl rfl rfl rfl rfl ⟨rfl, rfl, rfl, rfl, rfl⟩ rfl rfl rfl rfl rfl (by kernel_rfl) Try.func4 (by kernel_rfl)
    (of_decide_eq_true (by kernel_rfl)) (by unfold Func.isWrapper; first | (rw [if_pos (by decide +kernel)]; kernel_rfl) | (rw [if_neg (by decide +kernel)]; exact ⟨rfl, rfl⟩))
    (fun os started H enc _ => lifted os started H enc)
end Go.Proofs.Ytgnhnhachhfafaa.loserRuns
namespace Go.Proofs.Ytgnhnhachhfafaa
theorem loserRuns_holds : Rows.LoserRunsSaid := loserRuns.over
#print axioms loserRuns_holds
end Go.Proofs.Ytgnhnhachhfafaa
