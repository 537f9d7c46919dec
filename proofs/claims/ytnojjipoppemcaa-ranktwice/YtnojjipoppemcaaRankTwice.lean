/- For every input RankTwice answers true, and leaves its arguments as they were. Conditions: none. -/
import Derived.Test.YtnojjipoppemcaaRows
import Derived.Test.YtnojjipoppemcaaShown13
import Derived.Test.YtnojjipoppemcaaFound
import Derived.ProofKit
import Derived.OpenShut
import Derived.ShutString
import Derived.ChangeOld
import Derived.SizedLaws
import Derived.Deep.RegionHeld
import Derived.Deep.RegionHeld3
import Derived.Deep.QuietTactic
import Derived.BigQuiet
import Derived.Deep.Cut
import Derived.Deep.CutBlock
namespace Go.Proofs.Ytnojjipoppemcaa.rankTwice
open Go.ChangeShapes Go.WideShapes Go.ChangeAt Go.RowKit
open Go.ChangeMaps (open_string shut_string)
set_option linter.unusedVariables false

theorem own : ownKnob Try.prog.godebug = none := by kernel_rfl
theorem laidOut : laidOutB Try.prog = true := by kernel_rfl


set_option maxRecDepth 100000 in
set_option maxHeartbeats 4000000 in
theorem walk (w : World) (a0 : Option Addr) (len0 cap0 : Nat) (z0 : List En) (r0 : ReadsE w a0 len0 cap0 (cellsE z0)) (f0 : ∀ z ∈ z0, z.1.length ≤ 140737488351232 ∧ z.2 ≤ 18446744073709551615) (b0 : len0 * 24 ≤ 140737488351232) (a1 : Int) (w1 : (Lit.int .u64 a1).wf = true) (a2 : Int) (w2 : (Lit.int .u64 a2).wf = true) :
    Calls Try.prog 5 #[.slice a0 len0 cap0, .int .u64 a1, .int .u64 a2] w fun e w' => e = .returned (.bool true) ∧ Below w.heap.size w w' := by
  have hx := bounds_u64 w1
  have hy := bounds_u64 w2
  obtain ⟨a, rfl⟩ := Int.eq_ofNat_of_zero_le (show 0 ≤ a1 by omega)
  obtain ⟨b, rfl⟩ := Int.eq_ofNat_of_zero_le (show 0 ≤ a2 by omega)
  have hfit : ∀ e ∈ z0, e.2 ≤ 18446744073709551615 := fun e he => (f0 e he).2
  have hfitP : ∀ x, ∀ e ∈ pruneL z0 x, e.2 ≤ 18446744073709551615 := fun x e he => hfit e (List.mem_filter.1 he).1
  have Ha : Hid (a ≤ 18446744073709551615) := (by omega : a ≤ 18446744073709551615)
  have Hb : Hid (b ≤ 18446744073709551615) := (by omega : b ≤ 18446744073709551615)
  have Hfit : Hid _ := hfit
  have HfitP : Hid _ := hfitP
  have hml : len0 ≤ 9223372036854775807 := by omega
  have Hlx : Hid _ := r0.count
  have S0 : Hid _ := fun wa (h : Below w.heap.size w wa) => r0.later h (Nat.le_refl _)
  have Htw : Hid _ := prune_twice z0 a b
  have Hle : Hid _ := prune_len z0 (max a b)
  have Hle1 : Hid _ := prune_len z0 a
  have HM : Hid ((a ≤ b → max a b = b) ∧ (¬ a ≤ b → max a b = a)) := ⟨fun h => Nat.max_eq_right h, fun h => Nat.max_eq_left (by omega)⟩
  clear f0 w1 w2 hx hy hfit hfitP r0 b0
  go_enter Try.func5, Try.ntmps5
  go_wp2_with fail
  refine (shown_any w).mono ?_
  rintro e wa ⟨rfl, hB1⟩
  have HB1 : Hid _ := hB1
  clear hB1
  by_cases h400 : len0 ≤ 400
  case neg =>
    have i1 : (400 : Int) < len0 := by omega
    clear h400
    go_wp2
    go_ret
    exact ⟨rfl, HB1.out⟩
  have i1 : ¬ (400 : Int) < len0 := by omega
  have h4 : len0 ≤ 1000000 := by omega
  have p1 := prune_any (S0.out wa HB1.out) h4 a Ha.out Hfit.out
  clear h400 hml
  go_wp2_with fail
  refine p1.mono ?_
  rintro e wb ⟨ag, c, m, rfl, hm, ho, hB2⟩
  subst hm
  have hm1 : (pruneL z0 a).length ≤ len0 := by rw [← Hlx.out]; exact Hle1.out
  have p2 := prune_any (ReadsE.own ho) (by omega) b Hb.out (HfitP.out a)
  rw [Htw.out] at p2
  have HB2 : Hid _ := HB1.out.trans (hB2.mono HB1.out.size)
  clear p1 ho hB2 HB1 Hle1
  generalize (pruneL z0 a).length = m1 at *
  clear hm1
  go_wp2_with fail
  refine p2.mono ?_
  rintro e wc ⟨ag2, c2, m2, rfl, hm, ho, hB3⟩
  have hm2 : m2 ≤ len0 := by rw [hm, ← Hlx.out]; exact Hle.out
  have Hm : Hid _ := hm
  have Ho : Hid _ := ReadsE.own ho
  have HB3 : Hid _ := HB2.out.trans (hB3.mono HB2.out.size)
  clear p2 ho hB3 HB2 hm Hle
  have hr := S0.out wc HB3.out
  have Hr : Hid _ := hr
  clear hr
  go_wp2_with fail
  go_loop [9, 10] (fun z i => ∃ (zb : Bool) (j : Nat), z = .bool zb ∧ i = .int .i64 (j : Nat) ∧ j ≤ len0 ∧ Hid (zb = true ↔ ∃ e ∈ z0.take j, e.2 = 0)) (fun _ i => (len0 - intOf i).toNat)
  case atStart => exact ⟨false, 0, rfl, rfl, Nat.zero_le _, (by simp : false = true ↔ ∃ e ∈ z0.take 0, e.2 = 0)⟩
  case round =>
    obtain ⟨zb, j, rfl, rfl, hj, hz⟩ := hrel
    by_cases hjl : j < len0
    · have q1 : (j : Int) < len0 := by omega
      obtain ⟨bb, off, hao, hbl, hc⟩ := Hr.out.at (by omega)
      subst hao
      obtain ⟨ej, hej⟩ : ∃ e, z0[j]? = some e := ⟨_, List.getElem?_eq_getElem (by rw [Hlx.out]; exact hjl)⟩
      have d2 := (hc j ej hej).2
      have Hst : Hid (∀ x, (x = true ↔ (zb = true ∨ ej.2 = 0)) → (x = true ↔ ∃ e ∈ z0.take (j + 1), e.2 = 0)) := by
        intro x hx
        rw [hx, hz.out, List.take_add_one, hej]
        simp only [List.mem_append, Option.mem_toList, Option.some.injEq]
        constructor
        · rintro (⟨e, h1, h2⟩ | h2)
          · exact ⟨e, .inl h1, h2⟩
          · exact ⟨ej, .inr rfl, h2⟩
        · rintro ⟨e, h1 | rfl, h2⟩
          · exact .inl ⟨e, h1, h2⟩
          · exact .inr h2
      obtain ⟨ew, ec⟩ := ej
      simp only at d2 Hst
      clear hc hej hbl hz
      cases zb with
      | true =>
        have Hz : Hid (true = true ↔ ∃ e ∈ z0.take (j + 1), e.2 = 0) := Hst.out true (by simp)
        clear Hst d2
        go_wp2
        go_round
        case rel => exact ⟨true, j + 1, rfl, by go_num, by omega, Hz⟩
        case measure => simp [intOf]; omega
      | false =>
        by_cases he0 : ec = 0
        · have q2 : ((ec : Int) == 0) = true := by rw [beq_iff_eq]; omega
          have Hz : Hid (true = true ↔ ∃ e ∈ z0.take (j + 1), e.2 = 0) := Hst.out true (by simp [he0])
          clear Hst he0
          go_wp2
          go_round
          case rel => exact ⟨true, j + 1, rfl, by go_num, by omega, Hz⟩
          case measure => simp [intOf]; omega
        · have q2 : ((ec : Int) == 0) = false := by rw [beq_eq_false_iff_ne]; omega
          have Hz : Hid (false = true ↔ ∃ e ∈ z0.take (j + 1), e.2 = 0) := Hst.out false (by simp [he0])
          clear Hst he0
          go_wp2
          go_round
          case rel => exact ⟨false, j + 1, rfl, by go_num, by omega, Hz⟩
          case measure => simp [intOf]; omega
    · have q1 : ¬ (j : Int) < len0 := by omega
      have hzz : zb = true ∨ (zb = false ∧ ∀ e ∈ z0, e.2 ≠ 0) := by
        cases zb with
        | true => exact .inl rfl
        | false =>
          refine .inr ⟨rfl, fun e he h0 => ?_⟩
          have := hz.out.2 ⟨e, by rw [List.take_of_length_le (by rw [Hlx.out]; omega)]; exact he, h0⟩
          cases this
      have Hzz : Hid _ := hzz
      have hor : ∃ M, Hid (M = max a b) ∧ (((a : Int) < b ∧ ¬ (b : Int) ≤ a ∧ b = M) ∨ (¬ (a : Int) < b ∧ (b : Int) ≤ a ∧ a = M)) := by
        refine ⟨max a b, rfl, ?_⟩
        by_cases h : a < b
        · exact .inl ⟨by omega, by omega, (HM.out.1 (by omega)).symm⟩
        · exact .inr ⟨by omega, by omega, by omega⟩
      obtain ⟨M, hM, hor⟩ := hor
      have hMl : M ≤ 18446744073709551615 := by have := Ha.out; have := Hb.out; omega
      have pp := fun W (h : Below w.heap.size w W) x hx => prune_any (S0.out W h) h4 x hx Hfit.out
      have PP : Hid _ := pp
      have HMl : Hid _ := hMl
      have q3 : (m2 : Int) ≤ len0 := by omega
      have hmx : max (a : Int) (b : Int) = (M : Int) := by rw [hM.out]; omega
      have W2 : Hid (wc = wc) := rfl
      clear hzz hz Hr HM Ha Hb pp hMl hjl
      rcases hor with ⟨s1, s2, rfl⟩ | ⟨s1, s2, rfl⟩
      all_goals
        go_wp2_with fail
        refine (PP.out _ HB3.out _ HMl.out).mono ?_
        rintro e wd ⟨ag3, c3, m3, rfl, hm3, ho3, hB4⟩
        rw [hM.out] at ho3 hm3
        have hsame := rsameE_any (x := pruneL z0 (max a b)) (y := pruneL z0 (max a b)) (Ho.out.later hB4 (Nat.le_refl _)) (ReadsE.own ho3)
        rw [show decide (pruneL z0 (max a b) = pruneL z0 (max a b)) = true by simp] at hsame
        have HB4 : Hid _ := HB3.out.trans (hB4.mono HB3.out.size)
        clear hM ho3 hm3 hB4 HB3 s1 s2
        go_wp2_with fail
        refine hsame.mono ?_
        rintro e we ⟨rfl, q, hw⟩
        have hB5 : Below wd.heap.size wd we := by rw [hw]; exact below_drewN (Below.refl _ _) q
        have HB5 : Hid _ := HB4.out.trans (hB5.mono HB4.out.size)
        clear hsame hw hB5 HB4
        have p0 := PP.out _ HB5.out 0 (by omega)
        rw [prune_zero] at p0
        go_wp2_with fail
        refine p0.mono ?_
        rintro e wf ⟨ag4, c4, m4, rfl, hm4, ho4, hB6⟩
        have HB6 : Hid _ := HB5.out.trans (hB6.mono HB5.out.size)
        have hsame := rsameE_any (ReadsE.own ho4) (S0.out wf HB6.out)
        rw [show decide (z0 = z0) = true by simp] at hsame
        clear p0 hm4 ho4 hB6 HB5
        go_wp2_with fail
        refine hsame.mono ?_
        rintro e wg ⟨rfl, q4, hw⟩
        have hB7 : Below wf.heap.size wf wg := by rw [hw]; exact below_drewN (Below.refl _ _) q4
        have HB7 : Hid _ := HB6.out.trans (hB7.mono HB6.out.size)
        clear hsame hw hB7 HB6
        rcases Hzz.out with rfl | ⟨rfl, hnz⟩
        · clear PP Hzz
          go_wp2
          go_ret
          exact ⟨rfl, HB7.out⟩
        · have p0 := PP.out _ HB7.out 1 (by omega)
          rw [prune_one hnz] at p0
          clear PP Hzz hnz
          go_wp2_with fail
          refine p0.mono ?_
          rintro e wh ⟨ag5, c5, m5, rfl, hm5, ho5, hB8⟩
          have HB8 : Hid _ := HB7.out.trans (hB8.mono HB7.out.size)
          have hsame := rsameE_any (ReadsE.own ho5) (S0.out wh HB8.out)
          rw [show decide (z0 = z0) = true by simp] at hsame
          clear p0 hm5 ho5 hB8 HB7
          go_wp2_with fail
          refine hsame.mono ?_
          rintro e wi ⟨rfl, q5, hw⟩
          have hB9 : Below wh.heap.size wh wi := by rw [hw]; exact below_drewN (Below.refl _ _) q5
          have HB9 : Hid _ := HB8.out.trans (hB9.mono HB8.out.size)
          clear hsame hw hB9 HB8
          go_wp2
          go_ret
          exact ⟨rfl, HB9.out⟩

set_option maxRecDepth 100000 in
theorem lifted (os : Os) (started : os.Started) (H : Type) (enc : TypeId × Value → H) :
    ReturnsInHanded {} Try.checked os 5 .any (Rows.rankTwiceSpec.pre6 enc Try.prog Try.f5 Rows.rankTwiceRow.domain false) (Rows.rankTwiceSpec.post enc Try.prog Try.f5 false true false false) := by
  refine returnsInHanded_of_change_sized (C := Try.checked) own started (by kernel_rfl) Try.func5
    (ChangeSpec.witness6 (enc := enc) (C := Try.checked) false ⟨#[], #[.slice none 0 0, .int .u64 0, .int .u64 0], []⟩ 8 (by kernel_rfl) (by kernel_rfl) (by kernel_rfl) (by kernel_rfl)) ?_
  intro W base args ds gs before hval0 hW hcnd hsz0 _
  have hsz : (DataW.weightsEach Try.prog (Try.f5.params.toList ++ Rows.rankTwiceSpec.plain.varTypes Try.prog) (ds ++ gs)).all (· ≤ reachBytes) = true := hsz0
  clear hsz0
  have hval : ∀ (j : Nat) t v, Try.f5.params[j]? = some t → args[j]? = some v → Value.okWide Try.prog W .any base t v := hval0
  have hW' := hW
  obtain ⟨p, q, hA0, hV, rfl, hfz, hnd⟩ := hW
  have hA : DataW.TrodAll enc Try.prog W 0 (fun _ => true) true Try.f5.params.toList args.toList ds p := hA0
  rw [Try.params5] at hA hval hsz
  obtain ⟨v0, vs0, d0, ds0, p0, q0, hargs, rfl, rfl, h0, rr0⟩ := trodAll_cons hA
  obtain ⟨v1, vs1, d1, ds1, p1, q1, rfl, rfl, rfl, h1, rr1⟩ := trodAll_cons rr0
  obtain ⟨v2, vs2, d2, ds2, p2, q2, rfl, rfl, rfl, h2, rr2⟩ := trodAll_cons rr1
  obtain ⟨rfl, rfl, rfl⟩ := trodAll_nil rr2
  obtain rfl : args = #[v0, v1, v2] := by cases args; simp_all
  obtain ⟨rfl, rfl⟩ := trodVars_none hV
  obtain ⟨a0, len0, cap0, rfl⟩ := okWide_slice Try.underlying22 (hval 0 22 v0 rfl rfl)
  have k0 := h0
  have lt0 : ∀ x ∈ p0, x.block < W.heap.size := by obtain ⟨m, hm⟩ := k0; exact DataW.trod_lt m _ _ _ hm
  obtain ⟨z0, r0, f0, b0⟩ := entries_in Try.underlying22 Try.underlying35 (by kernel_rfl) rfl rfl (by kernel_rfl) (by kernel_rfl) Try.underlying9 Try.underlying23 (B := 24) (by kernel_rfl) hsz (j := 0) rfl rfl h0
  obtain ⟨a1, rfl, rfl, rfl, w1⟩ := open_int Try.underlying23 (hval 1 23 v1 rfl rfl) h1
  obtain ⟨a2, rfl, rfl, rfl, w2⟩ := open_int Try.underlying23 (hval 2 23 v2 rfl rfl) h2
  clear hA0 hval0
  refine (walk W a0 len0 cap0 z0 r0 f0 b0 a1 w1 a2 w2).mono fun e W' ⟨he, bel⟩ => ?_
  subst he
  exact ⟨_, rfl, _, _, _, [], _, [], hW', trodAll_mk1 (shut_bool Try.underlying4 _), (trodAll_cons_mk (Below.trod laidOut (by kernel_rfl) (of_decide_eq_true (by kernel_rfl)) k0 bel lt0) (trodAll_cons_mk (shut_int Try.underlying23 w1) (trodAll_cons_mk (shut_int Try.underlying23 w2) trodAll_mk0))), rfl, bel.frame _, fun h => by cases h⟩

theorem over : Rows.rankTwiceRow.holds Try.pinned (OpenSpec.ofChange Rows.rankTwiceSpec) :=
  OpenClaim.holds_of_wide 5 Try.f5 rfl rfl rfl rfl rfl rfl rfl ⟨rfl, rfl, rfl, rfl, rfl⟩ rfl rfl rfl rfl rfl (by kernel_rfl) Try.func5 (by kernel_rfl)
    (of_decide_eq_true (by kernel_rfl)) (by unfold Func.isWrapper; first | (rw [if_pos (by decide +kernel)]; kernel_rfl) | (rw [if_neg (by decide +kernel)]; exact ⟨rfl, rfl⟩))
    (fun os started H enc _ => lifted os started H enc)
end Go.Proofs.Ytnojjipoppemcaa.rankTwice
namespace Go.Proofs.Ytnojjipoppemcaa
theorem rankTwice_holds : Rows.RankTwiceSaid := rankTwice.over
#print axioms rankTwice_holds
end Go.Proofs.Ytnojjipoppemcaa
