/- For every input RunSizes answers true, and leaves its arguments as they were. Conditions: none. -/
import Derived.Test.YtabecgeemhkkmaaRows
import Derived.Test.YtabecgeemhkkmaaRunLaw
import Derived.Test.YtabecgeemhkkmaaOpen09
import Derived.ProofKit
import Derived.OpenShut
import Derived.ShutString
import Derived.ChangeOld
import Derived.SizedLaws
import Derived.Deep.RegionHeld
import Derived.Deep.RegionHeld3
import Derived.Deep.QuietTactic
import Derived.BigQuiet
import Derived.Deep.Cut
import Derived.Deep.CutBlock
namespace Go.Proofs.Ytabecgeemhkkmaa.runSizes
open Go.ChangeShapes Go.WideShapes Go.ChangeAt Go.RowKit
open Go.ChangeMaps (open_string shut_string)
set_option linter.unusedVariables false

theorem own : ownKnob Try.prog.godebug = none := by kernel_rfl
theorem laidOut : laidOutB Try.prog = true := by kernel_rfl


set_option maxRecDepth 100000 in
set_option maxHeartbeats 4000000 in
theorem walk (w : World) (a0 : Option Addr) (len0 cap0 : Nat) (z0 : List En) (r0 : ReadsE w a0 len0 cap0 (cellsE z0)) (f0 : ∀ z ∈ z0, z.1.length ≤ 140737488351232 ∧ z.2 ≤ 18446744073709551615) (b0 : len0 * 24 ≤ 140737488351232) (a1 : Int) (w1 : (Lit.int .u8 a1).wf = true) (a2 : Int) (w2 : (Lit.int .u8 a2).wf = true) :
    Calls Try.prog 7 #[.slice a0 len0 cap0, .int .u8 a1, .int .u8 a2] w fun e w' => e = .returned (.bool true) ∧ Below w.heap.size w w' := by
  have hw : ∀ e ∈ z0, e.1.length ≤ 140737488355328 := fun e he => by have := (f0 e he).1; omega
  have hb : ∀ e ∈ z0, e.2 ≤ 18446744073709551615 := fun e he => (f0 e he).2
  obtain ⟨x1, rfl, hx1⟩ := u8_nat w1
  obtain ⟨x2, rfl, hx2⟩ := u8_nat w2
  have hl : len0 ≤ 1000000000000000 := by omega
  obtain ⟨n, hn, n1, n2⟩ : ∃ n : Nat, 1 + (x1 : Int) % 255 = (n : Nat) ∧ 1 ≤ n ∧ n ≤ 255 := ⟨1 + x1 % 255, by omega, by omega, by omega⟩
  obtain ⟨m, hmm, m1, m2⟩ : ∃ m : Nat, 1 + (x2 : Int) % 255 = (m : Nat) ∧ 1 ≤ m ∧ m ≤ 255 := ⟨1 + x2 % 255, by omega, by omega, by omega⟩
  clear w1 w2 b0 f0
  go_enter Try.func7, Try.ntmps7
  go_wp2_with fail
  refine (shown_any w).mono ?_
  rintro e w1 ⟨rfl, hB1⟩
  have hr1 := r0.later hB1 (Nat.le_refl _)
  have pf := few_any hr1 hw hl
  have hz := hr1.count
  go_wp2_with fail
  refine pf.mono ?_
  rintro e w2 ⟨rfl, rfl⟩
  clear pf
  cases hfe : fewE z0 with
  | false =>
    go_wp2
    go_ret
    exact ⟨rfl, hB1⟩
  | true =>
    obtain ⟨hf1, hf2⟩ := few_iff.1 hfe
    have pm := may_any hr1 hb hw
    clear hfe
    go_wp2_with fail
    refine pm.mono ?_
    rintro e w3 ⟨rfl, hG3⟩
    have hB3 := hB1.trans (hG3.mono hB1.size)
    have hr3 := hr1.later hG3 (Nat.le_refl _)
    clear pm hG3 hB1 hr1
    by_cases hm : mayE z0 = 0
    case neg =>
      have hmi : ¬ ((mayE z0 : Nat) : Int) = 0 := by omega
      generalize mayE z0 = mz at *
      clear hm
      go_wp2
      go_ret
      exact ⟨rfl, hB3⟩
    obtain ⟨en1, ln1, by1, dn1⟩ := law_run hf1 hm n1 n2
    obtain ⟨en2, ln2, by2, dn2⟩ := law_run hf1 hm m1 m2
    have hinj : runL z0 n = runL z0 m → n = m := run_inj hf1 hm n1 n2 m1 m2
    have p1 := encode_any hr3 hb hw (by omega) (n : Nat) n (.inl rfl) (by omega)
    rw [en1] at p1
    unfold EncOut at p1
    rw [hm]
    have Hm : Hid _ := hm
    have Hinj : Hid _ := hinj
    clear hm hinj hf2
    go_wp2_with fail
    refine p1.mono ?_
    rintro e w4 ⟨g4, c4, k4, rfl, hk4, ho4, hG4⟩
    have hB4 := hB3.trans (hG4.mono hB3.size)
    have hr4 := hr3.later hG4 (Nat.le_refl _)
    have p2 := encode_any hr4 hb hw (by omega) (m : Nat) m (.inl rfl) (by omega)
    rw [en2] at p2
    unfold EncOut at p2
    have rd4 := Reads.own ho4
    have hk4' : k4 ≤ 100000 := by rw [hk4]; show (runL z0 n).length ≤ _; omega
    clear p1 hG4 hB3 hr3 hk4 ho4
    go_wp2_with fail
    refine p2.mono ?_
    rintro e w5 ⟨g5, c5, k5, rfl, hk5, ho5, hG5⟩
    have hB5 := hB4.trans (hG5.mono hB4.size)
    have rd5 := Reads.own ho5
    have rd45 := rd4.later hG5 (Nat.le_refl _)
    have hk5' : k5 ≤ 100000 := by rw [hk5]; show (runL z0 m).length ≤ _; omega
    have p3 := decode_any rd45 by1 hk4'
    try simp only at p3
    rw [dn1] at p3
    unfold DecOut at p3
    clear p2 hG5 hB4 hr4 hk5 ho5 rd4
    go_wp2_with fail
    refine p3.mono ?_
    rintro e w6 ⟨g6, c6, k6, rfl, hk6, ho6, hG6⟩
    have hB6 := hB5.trans (hG6.mono hB5.size)
    have rd46 := rd45.later hG6 (Nat.le_refl _)
    have rd56 := rd5.later hG6 (Nat.le_refl _)
    have re6 := ReadsE.own ho6
    have p4 := decode_any rd56 by2 hk5'
    try simp only at p4
    rw [dn2] at p4
    unfold DecOut at p4
    clear p3 hG6 hB5 rd45 rd5 hk6 ho6
    go_wp2_with fail
    refine p4.mono ?_
    rintro e w7 ⟨g7, c7, k7, rfl, hk7, ho7, hG7⟩
    have hB7 := hB6.trans (hG7.mono hB6.size)
    have rd47 := rd46.later hG7 (Nat.le_refl _)
    have rd57 := rd56.later hG7 (Nat.le_refl _)
    have re67 := re6.later hG7 (Nat.le_refl _)
    have re7 := ReadsE.own ho7
    have ps := rsameE_any re67 re7
    rw [decide_eq_true (show (z0 : List En) = z0 from rfl)] at ps
    have q1 : ∀ mm, (convert 23 9 (.slice g4 k4 c4)).run Try.prog (w7.drewN mm) = .ok (.string (strOfNums (runL z0 n))) (w7.drewN mm) := fun mm => conv_of Try.underlying23 Try.underlying5 Try.underlying9 (rd47.later (below_drewN (Below.refl _ _) mm) (Nat.le_refl _))
    have q2 : ∀ mm, (convert 23 9 (.slice g5 k5 c5)).run Try.prog (w7.drewN mm) = .ok (.string (strOfNums (runL z0 m))) (w7.drewN mm) := fun mm => conv_of Try.underlying23 Try.underlying5 Try.underlying9 (rd57.later (below_drewN (Below.refl _ _) mm) (Nat.le_refl _))
    have hsb := str_beq by1 by2
    clear p4 hG7 hB6 rd46 rd56 re6 hk7 ho7 rd47 rd57 re67 re7 en1 en2 ln1 ln2 dn1 dn2 by1 by2
    by_cases hnm : n = m
    · subst hnm
      rw [decide_eq_true (show runL z0 n = runL z0 n from rfl)] at hsb
      clear Hinj
      go_wp2_with (go_at_call 21; refine ps.mono ?_; rintro e w' ⟨rfl, mm, rfl⟩)
      go_ret
      exact ⟨rfl, below_drewN hB7 _⟩
    · rw [decide_eq_false (fun hh => hnm (Hinj.out hh))] at hsb
      have i1 : ¬ (n : Int) = m := by omega
      have i2 : ((n : Int) == m) = false := by rw [beq_eq_false_iff_ne]; omega
      clear Hinj
      go_wp2_with (go_at_call 21; refine ps.mono ?_; rintro e w' ⟨rfl, mm, rfl⟩)
      go_ret
      exact ⟨rfl, below_drewN hB7 _⟩

set_option maxRecDepth 100000 in
theorem lifted (os : Os) (started : os.Started) (H : Type) (enc : TypeId × Value → H) :
    ReturnsInHanded {} Try.checked os 7 .any (Rows.runSizesSpec.pre6 enc Try.prog Try.f7 Rows.runSizesRow.domain false) (Rows.runSizesSpec.post enc Try.prog Try.f7 false true false false) := by
  refine returnsInHanded_of_change_sized (C := Try.checked) own started (by kernel_rfl) Try.func7
    (ChangeSpec.witness6 (enc := enc) (C := Try.checked) false ⟨#[], #[.slice none 0 0, .int .u8 0, .int .u8 0], []⟩ 8 (by kernel_rfl) (by kernel_rfl) (by kernel_rfl) (by kernel_rfl)) ?_
  intro W base args ds gs before hval0 hW hcnd hsz0 _
  have hsz : (DataW.weightsEach Try.prog (Try.f7.params.toList ++ Rows.runSizesSpec.plain.varTypes Try.prog) (ds ++ gs)).all (· ≤ reachBytes) = true := hsz0
  clear hsz0
  have hval : ∀ (j : Nat) t v, Try.f7.params[j]? = some t → args[j]? = some v → Value.okWide Try.prog W .any base t v := hval0
  have hW' := hW
  obtain ⟨p, q, hA0, hV, rfl, hfz, hnd⟩ := hW
  have hA : DataW.TrodAll enc Try.prog W 0 (fun _ => true) true Try.f7.params.toList args.toList ds p := hA0
  rw [Try.params7] at hA hval hsz
  obtain ⟨v0, vs0, d0, ds0, p0, q0, hargs, rfl, rfl, h0, rr0⟩ := trodAll_cons hA
  obtain ⟨v1, vs1, d1, ds1, p1, q1, rfl, rfl, rfl, h1, rr1⟩ := trodAll_cons rr0
  obtain ⟨v2, vs2, d2, ds2, p2, q2, rfl, rfl, rfl, h2, rr2⟩ := trodAll_cons rr1
  obtain ⟨rfl, rfl, rfl⟩ := trodAll_nil rr2
  obtain rfl : args = #[v0, v1, v2] := by cases args; simp_all
  obtain ⟨rfl, rfl⟩ := trodVars_none hV
  obtain ⟨a0, len0, cap0, rfl⟩ := okWide_slice Try.underlying22 (hval 0 22 v0 rfl rfl)
  have k0 := h0
  have lt0 : ∀ x ∈ p0, x.block < W.heap.size := by obtain ⟨m, hm⟩ := k0; exact DataW.trod_lt m _ _ _ hm
  obtain ⟨z0, r0, f0, b0⟩ := entries_in Try.underlying22 Try.underlying44 (by kernel_rfl) rfl rfl (by kernel_rfl) (by kernel_rfl) Try.underlying9 Try.underlying42 (B := 24) (by kernel_rfl) hsz (j := 0) rfl rfl h0
  obtain ⟨a1, rfl, rfl, rfl, w1⟩ := open_int Try.underlying5 (hval 1 5 v1 rfl rfl) h1
  obtain ⟨a2, rfl, rfl, rfl, w2⟩ := open_int Try.underlying5 (hval 2 5 v2 rfl rfl) h2
  clear hA0 hval0
  refine (walk W a0 len0 cap0 z0 r0 f0 b0 a1 w1 a2 w2).mono fun e W' ⟨he, bel⟩ => ?_
  subst he
  exact ⟨_, rfl, _, _, _, [], _, [], hW', trodAll_mk1 (shut_bool Try.underlying4 _), (trodAll_cons_mk (Below.trod laidOut (by kernel_rfl) (of_decide_eq_true (by kernel_rfl)) k0 bel lt0) (trodAll_cons_mk (shut_int Try.underlying5 w1) (trodAll_cons_mk (shut_int Try.underlying5 w2) trodAll_mk0))), rfl, bel.frame _, fun h => by cases h⟩

theorem over : Rows.runSizesRow.holds Try.pinned (OpenSpec.ofChange Rows.runSizesSpec) :=
  OpenClaim.holds_of_wide 7 Try.f7 rfl rfl rfl rfl rfl rfl rfl ⟨rfl, rfl, rfl, rfl, rfl⟩ rfl rfl rfl rfl rfl (by kernel_rfl) Try.func7 (by kernel_rfl)
    (of_decide_eq_true (by kernel_rfl)) (by unfold Func.isWrapper; first | (rw [if_pos (by decide +kernel)]; kernel_rfl) | (rw [if_neg (by decide +kernel)]; exact ⟨rfl, rfl⟩))
    (fun os started H enc _ => lifted os started H enc)
end Go.Proofs.Ytabecgeemhkkmaa.runSizes
namespace Go.Proofs.Ytabecgeemhkkmaa
theorem runSizes_holds : Rows.RunSizesSaid := runSizes.over
#print axioms runSizes_holds
end Go.Proofs.Ytabecgeemhkkmaa
