/- For every input PassesOnce answers true, and leaves its arguments as they were. Conditions: none. -/
import Derived.Test.YtknfjonaepggnaaRows
import Derived.Test.YtknfjonaepggnaaPassesMergeC
import Derived.Test.YtknfjonaepggnaaLoserRunsC
import Derived.Test.YtknfjonaepggnaaShown12
import Derived.Test.YtknfjonaepggnaaFound
import Derived.ProofKit
import Derived.OpenShut
import Derived.ShutString
import Derived.ChangeOld
import Derived.SizedLaws
import Derived.Deep.RegionHeld
import Derived.Deep.RegionHeld3
import Derived.Deep.QuietTactic
import Derived.BigQuiet
import Derived.Deep.Cut
import Derived.Deep.CutBlock
namespace Go.Proofs.Ytknfjonaepggnaa.passesOnce
open Go.ChangeShapes Go.WideShapes Go.ChangeAt Go.RowKit
open Go.ChangeMaps (open_string shut_string)
set_option linter.unusedVariables false

theorem own : ownKnob Try.prog.godebug = none := by kernel_rfl
theorem laidOut : laidOutB Try.prog = true := by kernel_rfl

theorem runsM_bad {rs : List (List Int)} {s : Nat} (h : (runsM rs s).2 ≠ 0) : (runsM rs s).1 = [] := by
  have he : ∀ es, (encR es s).2 ≠ 0 → (encR es s).1 = [] := fun es h => by
    unfold encR at h ⊢
    by_cases h1 : 1 ≤ s ∧ s ≤ 255
    · rw [if_pos h1] at h ⊢
      by_cases h2 : mayE es = 0
      · rw [if_pos h2] at h; exact absurd rfl h
      · rw [if_neg h2]
    · rw [if_neg h1]
  unfold runsM at h ⊢
  by_cases h1 : rs.all (fun r => decide ((decL r).2 = 0)) = true
  · rw [if_pos h1] at h ⊢
    by_cases h2 : (mergeL (decAll rs)).2 = 0
    · rw [if_pos h2] at h ⊢; exact he _ h
    · rw [if_neg h2]
  · rw [if_neg h1]
theorem merge_once {rs : List (List Int)} {k s : Nat} (h1 : 1 ≤ s) (h2 : s ≤ 255) (k1 : 2 ≤ k) (k2 : k ≤ 8) (hl : rs.length ≤ 256) (ht : totL (decAll rs) ≤ 200000) (h : (runsM rs s).2 = 0) : mergeZ rs k s = runsM rs s := by
  unfold mergeZ
  rw [if_pos (by omega), if_neg (by omega), Int.toNat_natCast, Int.toNat_natCast]
  exact pass_once _ rs k s h1 h2 k1 hl (Nat.le_refl _) (by omega) h

set_option maxRecDepth 100000 in
set_option maxHeartbeats 4000000 in
theorem walk (w : World) (a0 : Option Addr) (len0 cap0 : Nat) (z0 : List (List Int)) (r0 : ReadsRows w a0 len0 cap0 z0) (f0 : ∀ l ∈ z0, isBytes l) (b0 : len0 * 24 ≤ 140737488351232) (a1 : Int) (w1 : (Lit.int .u8 a1).wf = true) :
    Calls Try.prog 5 #[.slice a0 len0 cap0, .int .u8 a1] w fun e w' => e = .returned (.bool true) ∧ Below w.heap.size w w' := by
  obtain ⟨q, hq⟩ : ∃ q : Nat, a1 = q := Int.eq_ofNat_of_zero_le (by have := bounds_u8 w1; omega)
  subst hq
  have hq2 : q ≤ 255 := by have := bounds_u8 w1; omega
  clear w1
  obtain ⟨k, hk⟩ : ∃ k, k = 1 + q % 255 := ⟨_, rfl⟩
  have k1 : 1 ≤ k := by omega
  have k2 : k ≤ 255 := by omega
  have e1 : (1 : Int) + (q : Int) % 255 = (k : Nat) := by omega
  clear hk
  go_enter Try.func5, Try.ntmps5
  go_wp2_with fail
  refine (shown_any w).mono ?_
  rintro e wa ⟨rfl, hB1⟩
  have r1 := r0.later hB1 (Nat.le_refl _)
  go_wp2_with fail
  refine (few_any r1).mono ?_
  rintro e wa2 ⟨rfl, rfl⟩
  cases hfew : fewR z0 with
  | false =>
    go_wp2
    go_ret
    exact ⟨rfl, hB1⟩
  | true =>
    have hb : ∀ r ∈ z0, isBytes r ∧ r.length ≤ 100000000 := fun r hr => ⟨f0 r hr, by have := (fewR_iff.1 hfew).2 r hr; omega⟩
    have ht := fewR_tot hfew
    have hl := (fewR_iff.1 hfew).1
    have hlx := r0.length
    have p1 := runs_any r1 f0 (fun r hr => (hb r hr).2) (by unfold totL at ht; omega) (by omega) (k : Nat) k (.inl rfl) (by omega)
    by_cases hd : (runsM z0 k).2 = 0
    case neg =>
      have hy := runsM_bad hd
      unfold EncOut at p1
      generalize (runsM z0 k).1 = y at *
      generalize (runsM z0 k).2 = d at *
      subst hy
      have hd2 : ¬ (d : Int) = 0 := by omega
      clear hb ht hl hlx hfew
      go_wp2_with fail
      refine p1.mono ?_
      rintro e wb ⟨ag, c2, m, rfl, hm, ho, hG⟩
      obtain rfl : m = 0 := by simpa using hm
      clear p1 ho hm
      go_wp2
      go_ret
      exact ⟨rfl, hB1.trans (hG.mono hB1.size)⟩
    have P2 : Hid (∀ (W : World) (j : Nat), Below wa2.heap.size wa2 W → 2 ≤ j → j ≤ 8 → Calls Try.prog 14 #[.slice _ len0 cap0, .int .i64 (j : Nat), .int .i64 (k : Nat)] W fun e w' => EncOut W (runsM z0 k) e w') := fun W j (hW : Below wa2.heap.size wa2 W) j1 j2 => by
      have := pmerge_any (j : Nat) (k : Nat) (r1.later hW (Nat.le_refl _)) hb ht (by omega) (by omega)
      rwa [merge_once k1 k2 j1 j2 (by omega) ht hd] at this
    obtain ⟨⟨y, d⟩, hy⟩ : ∃ q, q = runsM z0 k := ⟨_, rfl⟩
    rw [← hy] at P2 p1 hd
    simp only at hd
    subst hd
    unfold EncOut at p1
    simp only at p1
    clear hy hb ht hl hlx hfew
    go_wp2_with fail
    refine p1.mono ?_
    rintro e wb ⟨ag, c2, m, rfl, hm, ho, hG⟩
    subst hm
    have HO : Hid _ := ho
    have HG : Hid _ := hG
    have HB1 : Hid _ := hB1
    have hbe : ((strOfNums y).toList == (strOfNums y).toList) = true := by simp
    clear p1 ho hG hB1 r1
    go_wp2_with fail
    go_loopw [9] (fun i wr => ∃ j : Nat, i = .int .i64 j ∧ 2 ≤ j ∧ j ≤ 9 ∧ Hid (Below wb.heap.size wb wr)) (fun i _ => (9 - intOf i).toNat)
    case atStart => exact ⟨2, rfl, by omega, by omega, Below.refl _ _⟩
    case round =>
      obtain ⟨j, rfl, j1, j2, hB⟩ := hrel
      by_cases hj : j ≤ 8
      · have q1 : (j : Int) ≤ 8 := by omega
        have p2 := P2.out wr j (HG.out.trans (hB.out.mono HG.out.size)) j1 hj
        unfold EncOut at p2
        simp only at p2
        go_wp2_with fail
        refine p2.mono ?_
        rintro e wd ⟨ag2, c3, m2, rfl, hm2, ho2, hG2⟩
        subst hm2
        have hB3 := hB.out.trans (hG2.mono hB.out.size)
        have v1 := conv_of Try.underlying30 Try.underlying5 Try.underlying9 ((Reads.own HO.out).later hB3 (Nat.le_refl _))
        have v2 := conv_of Try.underlying30 Try.underlying5 Try.underlying9 (Reads.own ho2)
        have HB3 : Hid _ := hB3
        clear p2 ho2 hG2 hB3
        go_wp2
        go_roundw
        case rel => exact ⟨j + 1, by go_num, by omega, by omega, HB3⟩
        case measure => simp [intOf]; omega
      · have q1 : ¬ (j : Int) ≤ 8 := by omega
        go_wp2
        go_ret
        exact ⟨rfl, HB1.out.trans ((HG.out.trans (hB.out.mono HG.out.size)).mono HB1.out.size)⟩

set_option maxRecDepth 100000 in
theorem lifted (os : Os) (started : os.Started) (H : Type) (enc : TypeId × Value → H) :
    ReturnsInHanded {} Try.checked os 5 .any (Rows.passesOnceSpec.pre6 enc Try.prog Try.f5 Rows.passesOnceRow.domain false) (Rows.passesOnceSpec.post enc Try.prog Try.f5 false true false false) := by
  refine returnsInHanded_of_change_sized (C := Try.checked) own started (by kernel_rfl) Try.func5
    (ChangeSpec.witness6 (enc := enc) (C := Try.checked) false ⟨#[], #[.slice none 0 0, .int .u8 0], []⟩ 8 (by kernel_rfl) (by kernel_rfl) (by kernel_rfl) (by kernel_rfl)) ?_
  intro W base args ds gs before hval0 hW hcnd hsz0 _
  have hsz : (DataW.weightsEach Try.prog (Try.f5.params.toList ++ Rows.passesOnceSpec.plain.varTypes Try.prog) (ds ++ gs)).all (· ≤ reachBytes) = true := hsz0
  clear hsz0
  have hval : ∀ (j : Nat) t v, Try.f5.params[j]? = some t → args[j]? = some v → Value.okWide Try.prog W .any base t v := hval0
  have hW' := hW
  obtain ⟨p, q, hA0, hV, rfl, hfz, hnd⟩ := hW
  have hA : DataW.TrodAll enc Try.prog W 0 (fun _ => true) true Try.f5.params.toList args.toList ds p := hA0
  rw [Try.params5] at hA hval hsz
  obtain ⟨v0, vs0, d0, ds0, p0, q0, hargs, rfl, rfl, h0, rr0⟩ := trodAll_cons hA
  obtain ⟨v1, vs1, d1, ds1, p1, q1, rfl, rfl, rfl, h1, rr1⟩ := trodAll_cons rr0
  obtain ⟨rfl, rfl, rfl⟩ := trodAll_nil rr1
  obtain rfl : args = #[v0, v1] := by cases args; simp_all
  obtain ⟨rfl, rfl⟩ := trodVars_none hV
  obtain ⟨a0, len0, cap0, rfl⟩ := okWide_slice Try.underlying28 (hval 0 28 v0 rfl rfl)
  have k0 := h0
  have lt0 : ∀ x ∈ p0, x.block < W.heap.size := by obtain ⟨m, hm⟩ := k0; exact DataW.trod_lt m _ _ _ hm
  obtain ⟨z0, r0, f0, b0⟩ := rows_in Try.underlying28 Try.underlying30 Try.underlying5 (by kernel_rfl) (by kernel_rfl) (B := 24) (by kernel_rfl) hsz (j := 0) rfl rfl h0
  obtain ⟨a1, rfl, rfl, rfl, w1⟩ := open_int Try.underlying5 (hval 1 5 v1 rfl rfl) h1
  clear hA0 hval0
  refine (walk W a0 len0 cap0 z0 r0 f0 b0 a1 w1).mono fun e W' ⟨he, bel⟩ => ?_
  subst he
  exact ⟨_, rfl, _, _, _, [], _, [], hW', trodAll_mk1 (shut_bool Try.underlying4 _), (trodAll_cons_mk (Below.trod laidOut (by kernel_rfl) (of_decide_eq_true (by kernel_rfl)) k0 bel lt0) (trodAll_cons_mk (shut_int Try.underlying5 w1) trodAll_mk0)), rfl, bel.frame _, fun h => by cases h⟩

theorem over : Rows.passesOnceRow.holds Try.pinned (OpenSpec.ofChange Rows.passesOnceSpec) :=
  OpenClaim.holds_of_wide 5 Try.f5 rfl rfl rfl rfl rfl rfl rfl ⟨rfl, rfl, rfl, rfl, rfl⟩ rfl rfl rfl rfl rfl (by kernel_rfl) Try.func5 (by kernel_rfl)
    (of_decide_eq_true (by kernel_rfl)) (by unfold Func.isWrapper; first | (rw [if_pos (by decide +kernel)]; kernel_rfl) | (rw [if_neg (by decide +kernel)]; exact ⟨rfl, rfl⟩))
    (fun os started H enc _ => lifted os started H enc)
end Go.Proofs.Ytknfjonaepggnaa.passesOnce
namespace Go.Proofs.Ytknfjonaepggnaa
theorem passesOnce_holds : Rows.PassesOnceSaid := passesOnce.over
#print axioms passesOnce_holds
end Go.Proofs.Ytknfjonaepggnaa
