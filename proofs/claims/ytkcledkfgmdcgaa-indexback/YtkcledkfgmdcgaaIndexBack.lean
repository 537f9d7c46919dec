/- For every input IndexBack answers true, and leaves its arguments as they were. Conditions: none. -/
import Derived.Test.YtkcledkfgmdcgaaRows
import Derived.Test.YtkcledkfgmdcgaaIndexMath
import Derived.Test.YtkcledkfgmdcgaaShown15
import Derived.Test.YtkcledkfgmdcgaaFound
import Derived.ProofKit
import Derived.OpenShut
import Derived.ShutString
import Derived.ChangeOld
import Derived.SizedLaws
import Derived.Deep.RegionHeld
import Derived.Deep.RegionHeld3
import Derived.Deep.QuietTactic
import Derived.BigQuiet
import Derived.Deep.Cut
import Derived.Deep.CutBlock
namespace Go.Proofs.Ytkcledkfgmdcgaa.indexBack
open Go.ChangeShapes Go.WideShapes Go.ChangeAt Go.RowKit
open Go.ChangeMaps (open_string shut_string)
set_option linter.unusedVariables false

theorem own : ownKnob Try.prog.godebug = none := by kernel_rfl
theorem laidOut : laidOutB Try.prog = true := by kernel_rfl


set_option maxRecDepth 100000 in
set_option maxHeartbeats 4000000 in
theorem walk (w : World) (a0 : Option Addr) (len0 cap0 : Nat) (z0 : List Wd) (r0 : Reads w a0 len0 cap0 (z0.map strV)) (f0 : ∀ z ∈ z0, z.length ≤ 140737488351232) (b0 : len0 * 16 ≤ 140737488351232) :
    Calls Try.prog 5 #[.slice a0 len0 cap0] w fun e w' => e = .returned (.bool true) ∧ Below w.heap.size w w' := by
  have hml : len0 ≤ 9223372036854775807 := by have := Nat.le_trans r0.le r0.most; unfold maxLen at this; omega
  have hlx : z0.length = len0 := by simpa using r0.length
  have Hlx := hid hlx
  have S0 : Hid _ := fun wa (h : Below w.heap.size w wa) => r0.later h (Nat.le_refl _)
  have R0 := hid r0
  clear f0 r0 b0 hlx
  go_enter Try.func5, Try.ntmps5
  go_wp2_with fail
  refine (shown_any w).mono ?_
  rintro e wa ⟨rfl, hB1⟩
  have pf := few15_any (S0.out wa hB1)
  have HB1 : Hid _ := hB1
  clear hB1
  cases hfew : fewS z0 with
  | false =>
    rw [hfew] at pf
    clear hfew
    go_wp2_with fail
    refine pf.mono ?_
    rintro e wb ⟨rfl, hw⟩
    obtain rfl := hw.symm
    clear pf
    go_wp2
    go_ret
    exact ⟨rfl, HB1.out⟩
  | true =>
    rw [hfew] at pf
    obtain ⟨hn6, hsum⟩ := few_sum hfew
    rw [Hlx.out] at hn6
    have pb := rbuild_any (S0.out wa HB1.out) (by omega) (by omega)
    have Hsum : Hid _ := hsum
    have Hn6 := hid hn6
    clear hfew hsum
    go_wp2_with fail
    refine pf.mono ?_
    rintro e wb ⟨rfl, hw⟩
    obtain rfl := hw.symm
    clear pf
    rcases build_cases z0 with ⟨d, hd1, hd2, hq⟩ | ⟨hne, hri, hq⟩
    · rw [hq] at pb
      clear hq
      go_wp2_with fail
      refine pb.mono ?_
      rintro e wc ⟨ag, m, c, rfl, hr, hB2⟩
      have HB2 : Hid _ := HB1.out.trans (hB2.mono HB1.out.size)
      have hdn : ¬ (d : Int) = 0 := by omega
      clear pb hr hB2 HB1
      go_wp2
      go_ret
      exact ⟨rfl, HB2.out⟩
    · rw [hq] at pb
      have Hne := hid hne
      have Hri := hid hri
      clear hq hne hri
      go_wp2_with fail
      refine pb.mono ?_
      rintro e wk ⟨ag, m, c, rfl, hr, hB2⟩
      have HB2 : Hid _ := HB1.out.trans (hB2.mono HB1.out.size)
      have HR := hid (show ∀ W, Below wk.heap.size wk W → ReadsA W ag m c (zA (buildL z0)) from fun W h => hr.later h (Nat.le_refl _))
      have hsm : (z0.map List.length).sum ≤ 1000000 := by have := Hsum.out; omega
      have hbl : (buildL z0).length ≤ 1000000000 := by have := (build_len z0).2; omega
      have hb1 : 1 ≤ (buildL z0).length := (build_len z0).1
      have HSm := hid hsm
      have HBl := hid hbl
      have HBp := hid hb1
      clear pb hr hB2 HB1 hsm hbl hb1
      go_wp2_with fail
      go_loopw [6] (fun i wr => ∃ j : Nat, i = .int .i64 (j : Nat) ∧ j ≤ len0 ∧ Hid (Below wk.heap.size wk wr)) (fun i _ => (len0 - intOf i).toNat)
      case atStart => exact ⟨0, rfl, Nat.zero_le _, Below.refl _ _⟩
      case round =>
        obtain ⟨j, rfl, hj, hb⟩ := hrel
        by_cases hjl : j < len0
        · have q1 : (j : Int) < len0 := by omega
          obtain ⟨bb, off, hao, hbl, hc⟩ := R0.out.atW (by omega)
          subst hao
          obtain ⟨p, hp⟩ : ∃ p, z0[j]? = some p := ⟨_, List.getElem?_eq_getElem (by rw [Hlx.out]; exact hjl)⟩
          have hcp := hid (show ∀ W, Below w.heap.size w W → W.cell? ⟨bb, off + j, none⟩ = some (strV p) from fun W h => cell_in h hbl (hc j p hp))
          have d1 := hcp.out wr (HB2.out.trans (hb.out.mono HB2.out.size))
          have hpl : p.length ≤ 140737488351232 := by have h1 := len_le_sum (List.mem_of_getElem? hp); have h2 := Hsum.out; omega
          have p1 := iof_any (HR.out wr hb.out) Hne.out Hri.out HSm.out p hpl
          rw [place_at Hri.out hp] at p1
          have HP := hid hp
          clear hc hbl hp hpl hjl hj
          go_wp2_with fail
          refine p1.mono ?_
          rintro e w1 ⟨rfl, hB⟩
          have K1 := hid (show Below wk.heap.size wk w1 from hb.out.trans (hB.mono hb.out.size))
          have p2 := iword_any (HR.out w1 K1.out) Hne.out Hri.out HSm.out (j : Nat) (by omega) (by omega)
          rw [word_at HP.out] at p2
          clear p1 hB d1
          go_wp2_with fail
          refine p2.mono ?_
          rintro e w2 ⟨rfl, hB⟩
          have K2 := hid (show Below wk.heap.size wk w2 from K1.out.trans (hB.mono K1.out.size))
          have d2 := hcp.out w2 (HB2.out.trans (K2.out.mono HB2.out.size))
          have e1 : (p == p) = true := by simp
          clear p2 hB HP
          go_wp2
          go_roundw
          case rel => exact ⟨j + 1, by go_num, by omega, K2.out⟩
          case measure => simp [intOf]; omega
        · have q1 : ¬ (j : Int) < len0 := by omega
          have p1 := iword_any (HR.out wr hb.out) Hne.out Hri.out HSm.out (-1) (by omega) (by omega)
          rw [word_out (.inl (by omega))] at p1
          clear hjl hj
          go_wp2_with fail
          refine p1.mono ?_
          rintro e w1 ⟨rfl, hB⟩
          have K1 := hid (show Below wk.heap.size wk w1 from hb.out.trans (hB.mono hb.out.size))
          have p2 := iword_any (HR.out w1 K1.out) Hne.out Hri.out HSm.out (len0 : Nat) (by omega) (by omega)
          rw [word_out (.inr (by rw [Hlx.out]; omega))] at p2
          clear p1 hB
          go_wp2_with fail
          refine p2.mono ?_
          rintro e w2 ⟨rfl, hB⟩
          have K2 := hid (show Below wk.heap.size wk w2 from K1.out.trans (hB.mono K1.out.size))
          have p3 := icounts_any (HR.out w2 K2.out) Hne.out Hri.out HSm.out
          clear p2 hB
          go_wp2_with fail
          refine p3.mono ?_
          rintro e w3 ⟨cg, cm, cc, rfl, hc, hB⟩
          have K3 := hid (show Below wk.heap.size wk w3 from K2.out.trans (hB.mono K2.out.size))
          have hcm : cm = m := by
            have h1 : (zN (countsL (buildL z0))).length = cm := by simpa using hc.length
            have h2 := (HR.out wk (Below.refl _ _)).count
            rw [zA_len] at h2
            rw [← h1, ← h2]
            simp [zN, counts_len]
          subst hcm
          have hcp : 1 ≤ cm := by
            have h2 := (HR.out wk (Below.refl _ _)).count
            rw [zA_len] at h2
            have := HBp.out; omega
          obtain ⟨t, ht⟩ : ∃ t, cm = t + 1 := ⟨cm - 1, by omega⟩
          obtain ⟨bc, oc, hac, hbc, hcc⟩ := hc.at15 (by omega)
          subst hac
          have hlast : (zN (countsL (buildL z0)))[t]? = some (.int .u64 (len0 : Nat)) := by
            have h2 := (HR.out wk (Below.refl _ _)).count
            rw [zA_len] at h2
            have h3 := build_lang Hri.out
            rw [show (buildL z0).length - 1 = t by omega] at h3
            unfold zN
            rw [List.getElem?_map, counts_at (by omega), h3, Hlx.out]; rfl
          have d1 := hcc t _ hlast
          have q5 : (t : Int) < t + 1 := by omega
          have hmx : (cm : Int) ≤ 9223372036854775807 := by have h1 := hc.le; have h2 := hc.most; unfold maxLen at h2; omega
          have HE := hid (HB2.out.trans (K3.out.mono HB2.out.size))
          have q6 : (cm : Int) - 1 = t := by omega
          have q7 : (t : Int) < cm := by omega
          clear p3 hB hc hcc hlast hbc ht hcp
          go_wp2
          go_ret
          exact ⟨by simp, HE.out⟩

set_option maxRecDepth 100000 in
theorem lifted (os : Os) (started : os.Started) (H : Type) (enc : TypeId × Value → H) :
    ReturnsInHanded {} Try.checked os 5 .any (Rows.indexBackSpec.pre6 enc Try.prog Try.f5 Rows.indexBackRow.domain false) (Rows.indexBackSpec.post enc Try.prog Try.f5 false true false false) := by
  refine returnsInHanded_of_change_sized (C := Try.checked) own started (by kernel_rfl) Try.func5
    (ChangeSpec.witness6 (enc := enc) (C := Try.checked) false ⟨#[], #[.slice none 0 0], []⟩ 8 (by kernel_rfl) (by kernel_rfl) (by kernel_rfl) (by kernel_rfl)) ?_
  intro W base args ds gs before hval0 hW hcnd hsz0 _
  have hsz : (DataW.weightsEach Try.prog (Try.f5.params.toList ++ Rows.indexBackSpec.plain.varTypes Try.prog) (ds ++ gs)).all (· ≤ reachBytes) = true := hsz0
  clear hsz0
  have hval : ∀ (j : Nat) t v, Try.f5.params[j]? = some t → args[j]? = some v → Value.okWide Try.prog W .any base t v := hval0
  have hW' := hW
  obtain ⟨p, q, hA0, hV, rfl, hfz, hnd⟩ := hW
  have hA : DataW.TrodAll enc Try.prog W 0 (fun _ => true) true Try.f5.params.toList args.toList ds p := hA0
  rw [Try.params5] at hA hval hsz
  obtain ⟨v0, vs0, d0, ds0, p0, q0, hargs, rfl, rfl, h0, rr0⟩ := trodAll_cons hA
  obtain ⟨rfl, rfl, rfl⟩ := trodAll_nil rr0
  obtain rfl : args = #[v0] := by cases args; simp_all
  obtain ⟨rfl, rfl⟩ := trodVars_none hV
  obtain ⟨a0, len0, cap0, rfl⟩ := okWide_slice Try.underlying22 (hval 0 22 v0 rfl rfl)
  have k0 := h0
  have lt0 : ∀ x ∈ p0, x.block < W.heap.size := by obtain ⟨m, hm⟩ := k0; exact DataW.trod_lt m _ _ _ hm
  obtain ⟨z0, r0, f0, b0⟩ := strs_in Try.underlying22 Try.underlying9 (by kernel_rfl) (B := 16) (by kernel_rfl) hsz (j := 0) rfl rfl h0
  clear hA0 hval0
  refine (walk W a0 len0 cap0 z0 r0 f0 b0).mono fun e W' ⟨he, bel⟩ => ?_
  subst he
  exact ⟨_, rfl, _, _, _, [], _, [], hW', trodAll_mk1 (shut_bool Try.underlying4 _), (trodAll_cons_mk (Below.trod laidOut (by kernel_rfl) (of_decide_eq_true (by kernel_rfl)) k0 bel lt0) trodAll_mk0), rfl, bel.frame _, fun h => by cases h⟩

theorem over : Rows.indexBackRow.holds Try.pinned (OpenSpec.ofChange Rows.indexBackSpec) :=
  OpenClaim.holds_of_wide 5 Try.f5 rfl rfl rfl rfl rfl rfl rfl ⟨rfl, rfl, rfl, rfl, rfl⟩ rfl rfl rfl rfl rfl (by kernel_rfl) Try.func5 (by kernel_rfl)
    (of_decide_eq_true (by kernel_rfl)) (by unfold Func.isWrapper; first | (rw [if_pos (by decide +kernel)]; kernel_rfl) | (rw [if_neg (by decide +kernel)]; exact ⟨rfl, rfl⟩))
    (fun os started H enc _ => lifted os started H enc)
end Go.Proofs.Ytkcledkfgmdcgaa.indexBack
namespace Go.Proofs.Ytkcledkfgmdcgaa
theorem indexBack_holds : Rows.IndexBackSaid := indexBack.over
#print axioms indexBack_holds
end Go.Proofs.Ytkcledkfgmdcgaa
