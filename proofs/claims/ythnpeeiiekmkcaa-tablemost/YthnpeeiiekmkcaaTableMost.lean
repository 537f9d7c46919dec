/- For every input TableMost answers true, and leaves its arguments as they were. Conditions: none. -/
import Derived.Test.YthnpeeiiekmkcaaRows
import Derived.Test.YthnpeeiiekmkcaaShown08
import Derived.Test.YthnpeeiiekmkcaaOpen
import Derived.ProofKit
import Derived.OpenShut
import Derived.ShutString
import Derived.ChangeOld
import Derived.SizedLaws
import Derived.Deep.RegionHeld
import Derived.Deep.RegionHeld3
import Derived.Deep.QuietTactic
import Derived.BigQuiet
import Derived.Deep.Cut
import Derived.Deep.CutBlock
namespace Go.Proofs.Ythnpeeiiekmkcaa.tableMost
open Go.ChangeShapes Go.WideShapes Go.ChangeAt Go.RowKit
open Go.ChangeMaps (open_string shut_string)
set_option linter.unusedVariables false

theorem own : ownKnob Try.prog.godebug = none := by kernel_rfl
theorem laidOut : laidOutB Try.prog = true := by kernel_rfl

theorem m_empty (n : Nat) (h1 : 1 ≤ n) (h2 : n ≤ 4611686018427387904) : addE 1 [] [97] n = ([([97], n)], 0) := by
  unfold addE
  simp only [getE, Nat.zero_add]
  rw [if_neg (by simp; omega), if_neg (by omega), if_neg (by omega), if_neg (by simp)]; rfl
theorem m_empty_bad (n : Nat) (h : ¬ (1 ≤ n ∧ n ≤ 4611686018427387904)) : (addE 1 [] [97] n).2 ≠ 0 := by
  unfold addE
  simp only [getE, Nat.zero_add]
  by_cases h0 : n = 0
  · simp [h0]
  · rw [if_neg (by simp [h0]), if_pos (by omega)]; simp
theorem m_more (n m : Nat) (h0 : 1 ≤ n) (h1 : 1 ≤ m) (h2 : n + m ≤ 4611686018427387904) : addE 1 [([97], n)] [97] m = ([([97], n + m)], 0) := by
  unfold addE
  have e : getE [([97], n)] [97] = n := by simp [getE]
  rw [e, if_neg (by simp; omega), if_neg (by omega), if_pos (by omega)]; simp [setE]
theorem m_more_bad (n m : Nat) (h : ¬ (1 ≤ m ∧ n + m ≤ 4611686018427387904)) : (addE 1 [([97], n)] [97] m).1 = [([97], n)] ∧ (addE 1 [([97], n)] [97] m).2 ≠ 0 := by
  unfold addE
  have e : getE [([97], n)] [97] = n := by simp [getE]
  rw [e]
  by_cases h0 : m = 0
  · simp [h0]
  · rw [if_neg (by simp [h0]), if_pos (by omega)]; exact ⟨rfl, by simp⟩
theorem m_full (n : Nat) : addE 1 [([97], n)] [98] 1 = ([([97], n)], 6) := by
  unfold addE
  have e : getE [([97], n)] [98] = 0 := by simp [getE]
  rw [e]; rfl

set_option maxRecDepth 100000 in
set_option maxHeartbeats 4000000 in
theorem walk (w : World) (a0 : Int) (w0 : (Lit.int .u64 a0).wf = true) (a1 : Int) (w1 : (Lit.int .u64 a1).wf = true) :
    Calls Try.prog 6 #[.int .u64 a0, .int .u64 a1] w fun e w' => e = .returned (.bool true) ∧ Below w.heap.size w w' := by
  obtain ⟨n0, n1⟩ := bounds_u64 w0
  obtain ⟨m0, m1⟩ := bounds_u64 w1
  obtain ⟨n, rfl⟩ := Int.eq_ofNat_of_zero_le n0
  obtain ⟨m, rfl⟩ := Int.eq_ofNat_of_zero_le m0
  have n2 : n ≤ 18446744073709551615 := by omega
  have m2 : m ≤ 18446744073709551615 := by omega
  clear n0 m0 w0 w1
  go_enter Try.func6, Try.ntmps6
  go_wp2_with fail
  refine (shown_any w).mono ?_
  rintro e wa ⟨rfl, ba⟩
  have s0 : Calls Try.prog 10 #[.int .i64 1] wa _ := tabnew_any 1 wa (by decide) (by decide)
  go_wp2_with fail
  refine s0.mono ?_
  rintro e wb ⟨rfl, h1, b1⟩
  have bb := Below.trans ba (b1.mono ba.size)
  generalize hB : wa.heap.size = B at h1 b1 ⊢
  generalize hb : B + 1 = b at h1 ⊢
  have hwB : w.heap.size ≤ B := by have := ba.size; omega
  clear s0 ba b1 hb hB
  have s1 := tabadd_any h1 [97] n (by decide) n2
  go_wp2_with fail
  by_cases hf : 1 ≤ n ∧ n ≤ 4611686018427387904
  · rw [m_empty n hf.1 hf.2] at s1
    refine s1.mono ?_
    rintro e wc ⟨rfl, v2, h2, t2⟩
    have bc := Below.trans bb (t2.below h1 hwB)
    clear s1 h1 bb t2
    have s2 := tabadd_any h2 [97] m (by decide) m2
    have i1 : (1 : Int) ≤ n := by omega
    have i2 : (n : Int) ≤ 4611686018427387904 := by omega
    have i3 : IntKind.u64.wrap (4611686018427387904 - (n : Int)) = 4611686018427387904 - n := by simp [IntKind.wrap, IntKind.bits, IntKind.signed]; omega
    go_wp2_with fail
    by_cases hq : 1 ≤ m ∧ n + m ≤ 4611686018427387904
    · rw [m_more n m hf.1 hq.1 hq.2] at s2
      refine s2.mono ?_
      rintro e wd ⟨rfl, v3, h3, t3⟩
      have bd := Below.trans bc (t3.below h2 hwB)
      clear s2 h2 bc t3
      have s3 := tabadd_any h3 [98] 1 (by decide) (by decide)
      rw [m_full] at s3
      have i4 : (1 : Int) ≤ m := by omega
      have i5 : (m : Int) ≤ 4611686018427387904 - n := by omega
      have i6 : IntKind.u64.wrap ((n : Int) + m) = ((n + m : Nat) : Int) := by simp [IntKind.wrap, IntKind.bits, IntKind.signed]; omega
      go_wp2_with fail
      refine s3.mono ?_
      rintro e we ⟨rfl, v4, h4, t4⟩
      have be := Below.trans bd (t4.below h3 hwB)
      have g1 := tabget_any h4 [97] (by decide)
      have g2 := tabget_any h4 [98] (by decide)
      have e1 : getE [([97], n + m)] [97] = n + m := by simp [getE]
      have e2 : getE [([97], n + m)] [98] = 0 := by simp [getE]
      rw [e1] at g1
      rw [e2] at g2
      have gl := tablen_any h4
      clear s3 h3 bd t4 h4 e1 e2 hf hq
      go_wp2_with fail
      refine g1.mono ?_
      rintro e wx ⟨rfl, rfl⟩
      go_wp2_with fail
      refine g2.mono ?_
      rintro e wy ⟨rfl, rfl⟩
      go_wp2_with fail
      refine gl.mono ?_
      rintro e wz ⟨rfl, rfl⟩
      go_wp2
      go_ret
      exact ⟨rfl, be⟩
    · have hq' := m_more_bad n m hq
      obtain ⟨hq1, hq2⟩ := hq'
      rw [hq1] at s2
      generalize (addE 1 [([97], n)] [97] m).2 = c2 at s2 hq2
      have hc2 : ((c2 : Int) == 0) = false := by rw [beq_eq_false_iff_ne]; omega
      refine s2.mono ?_
      rintro e wd ⟨rfl, v3, h3, t3⟩
      have bd := Below.trans bc (t3.below h2 hwB)
      clear s2 h2 bc t3 hq1
      have s3 := tabadd_any h3 [98] 1 (by decide) (by decide)
      rw [m_full] at s3
      go_wp2_with fail
      refine s3.mono ?_
      rintro e we ⟨rfl, v4, h4, t4⟩
      have be := Below.trans bd (t4.below h3 hwB)
      have g1 := tabget_any h4 [97] (by decide)
      have g2 := tabget_any h4 [98] (by decide)
      have e1 : getE [([97], n)] [97] = n := by simp [getE]
      have e2 : getE [([97], n)] [98] = 0 := by simp [getE]
      rw [e1] at g1
      rw [e2] at g2
      have gl := tablen_any h4
      have hsplit : (m : Int) < 1 ∨ (1 ≤ (m : Int) ∧ decide ((m : Int) ≤ 4611686018427387904 - (n : Int)) = false) := by rw [decide_eq_false_iff_not]; omega
      clear s3 h3 bd t4 h4 e1 e2 hf hq hq2
      rcases hsplit with j1 | ⟨j1, j2⟩
      all_goals
        go_wp2_with fail
        refine g1.mono ?_
        rintro e wx ⟨rfl, rfl⟩
        go_wp2_with fail
        refine g2.mono ?_
        rintro e wy ⟨rfl, rfl⟩
        go_wp2_with fail
        refine gl.mono ?_
        rintro e wz ⟨rfl, rfl⟩
        go_wp2
        go_ret
        exact ⟨rfl, be⟩
  · have hq2 := m_empty_bad n hf
    generalize addE 1 [] [97] n = y1 at s1 hq2
    have hc1 : ((y1.2 : Int) != 0) = true := by rw [bne_iff_ne]; omega
    generalize y1.2 = c1 at s1 hc1
    refine s1.mono ?_
    rintro e wc ⟨rfl, v2, h2, t2⟩
    have bc := Below.trans bb (t2.below h1 hwB)
    clear s1 h1 bb t2 hq2
    have s2 := tabadd_any h2 [97] m (by decide) m2
    generalize y1.1 = es1 at h2 s2
    generalize addE 1 es1 [97] m = y2 at s2
    generalize y2.2 = c2 at s2
    go_wp2_with fail
    refine s2.mono ?_
    rintro e wd ⟨rfl, v3, h3, t3⟩
    have bd := Below.trans bc (t3.below h2 hwB)
    clear s2 h2 bc t3
    have s3 := tabadd_any h3 [98] 1 (by decide) (by decide)
    generalize y2.1 = es2 at h3 s3
    generalize addE 1 es2 [98] 1 = y3 at s3
    generalize y3.2 = c3 at s3
    go_wp2_with fail
    refine s3.mono ?_
    rintro e we ⟨rfl, v4, h4, t4⟩
    have be := Below.trans bd (t4.below h3 hwB)
    have hsplit : (n : Int) < 1 ∨ (1 ≤ (n : Int) ∧ decide ((n : Int) ≤ 4611686018427387904) = false) := by rw [decide_eq_false_iff_not]; omega
    clear s3 h3 bd t4 h4 hf
    rcases hsplit with j1 | ⟨j1, j2⟩
    all_goals
      go_wp2
      go_ret
      exact ⟨rfl, be⟩

set_option maxRecDepth 100000 in
theorem lifted (os : Os) (started : os.Started) (H : Type) (enc : TypeId × Value → H) :
    ReturnsInHanded {} Try.checked os 6 .any (Rows.tableMostSpec.pre6 enc Try.prog Try.f6 Rows.tableMostRow.domain false) (Rows.tableMostSpec.post enc Try.prog Try.f6 false true false false) := by
  refine returnsInHanded_of_change_sized (C := Try.checked) own started (by kernel_rfl) Try.func6
    (ChangeSpec.witness6 (enc := enc) (C := Try.checked) false ⟨#[], #[.int .u64 0, .int .u64 0], []⟩ 8 (by kernel_rfl) (by kernel_rfl) (by kernel_rfl) (by kernel_rfl)) ?_
  intro W base args ds gs before hval0 hW hcnd hsz0 _
  have hsz : (DataW.weightsEach Try.prog (Try.f6.params.toList ++ Rows.tableMostSpec.plain.varTypes Try.prog) (ds ++ gs)).all (· ≤ reachBytes) = true := hsz0
  clear hsz0
  have hval : ∀ (j : Nat) t v, Try.f6.params[j]? = some t → args[j]? = some v → Value.okWide Try.prog W .any base t v := hval0
  have hW' := hW
  obtain ⟨p, q, hA0, hV, rfl, hfz, hnd⟩ := hW
  have hA : DataW.TrodAll enc Try.prog W 0 (fun _ => true) true Try.f6.params.toList args.toList ds p := hA0
  rw [Try.params6] at hA hval hsz
  obtain ⟨v0, vs0, d0, ds0, p0, q0, hargs, rfl, rfl, h0, rr0⟩ := trodAll_cons hA
  obtain ⟨v1, vs1, d1, ds1, p1, q1, rfl, rfl, rfl, h1, rr1⟩ := trodAll_cons rr0
  obtain ⟨rfl, rfl, rfl⟩ := trodAll_nil rr1
  obtain rfl : args = #[v0, v1] := by cases args; simp_all
  obtain ⟨rfl, rfl⟩ := trodVars_none hV
  obtain ⟨a0, rfl, rfl, rfl, w0⟩ := open_int Try.underlying29 (hval 0 29 v0 rfl rfl) h0
  obtain ⟨a1, rfl, rfl, rfl, w1⟩ := open_int Try.underlying29 (hval 1 29 v1 rfl rfl) h1
  clear hA0 hval0
  refine (walk W a0 w0 a1 w1).mono fun e W' ⟨he, bel⟩ => ?_
  subst he
  exact ⟨_, rfl, _, _, _, [], _, [], hW', trodAll_mk1 (shut_bool Try.underlying4 _), (trodAll_cons_mk (shut_int Try.underlying29 w0) (trodAll_cons_mk (shut_int Try.underlying29 w1) trodAll_mk0)), rfl, bel.frame _, fun h => by cases h⟩

theorem over : Rows.tableMostRow.holds Try.pinned (OpenSpec.ofChange Rows.tableMostSpec) :=
  OpenClaim.holds_of_wide 6 Try.f6 rfl rfl rfl rfl rfl rfl rfl ⟨rfl, rfl, rfl, rfl, rfl⟩ rfl rfl rfl rfl rfl (by kernel_rfl) Try.func6 (by kernel_rfl)
    (of_decide_eq_true (by kernel_rfl)) (by unfold Func.isWrapper; first | (rw [if_pos (by decide +kernel)]; kernel_rfl) | (rw [if_neg (by decide +kernel)]; exact ⟨rfl, rfl⟩))
    (fun os started H enc _ => lifted os started H enc)
end Go.Proofs.Ythnpeeiiekmkcaa.tableMost
namespace Go.Proofs.Ythnpeeiiekmkcaa
theorem tableMost_holds : Rows.TableMostSaid := tableMost.over
#print axioms tableMost_holds
end Go.Proofs.Ythnpeeiiekmkcaa
