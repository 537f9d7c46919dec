/- For every input IndexTells answers true, and leaves its arguments as they were. Conditions: none. -/
import Derived.Test.YtkcledkfgmdcgaaRows
import Derived.Test.YtkcledkfgmdcgaaIndexMath
import Derived.Test.YtkcledkfgmdcgaaShown15
import Derived.Test.YtkcledkfgmdcgaaFound
import Derived.ProofKit
import Derived.OpenShut
import Derived.ShutString
import Derived.ChangeOld
import Derived.SizedLaws
import Derived.Deep.RegionHeld
import Derived.Deep.RegionHeld3
import Derived.Deep.QuietTactic
import Derived.BigQuiet
import Derived.Deep.Cut
import Derived.Deep.CutBlock
namespace Go.Proofs.Ytkcledkfgmdcgaa.indexTells
open Go.ChangeShapes Go.WideShapes Go.ChangeAt Go.RowKit
open Go.ChangeMaps (open_string shut_string)
set_option linter.unusedVariables false

theorem own : ownKnob Try.prog.godebug = none := by kernel_rfl
theorem laidOut : laidOutB Try.prog = true := by kernel_rfl


set_option maxRecDepth 100000 in
set_option maxHeartbeats 4000000 in
theorem walk (w : World) (a0 : Option Addr) (len0 cap0 : Nat) (z0 : List Wd) (r0 : Reads w a0 len0 cap0 (z0.map strV)) (f0 : ∀ z ∈ z0, z.length ≤ 140737488351232) (b0 : len0 * 16 ≤ 140737488351232) (a1 : ByteArray) (b1 : a1.size ≤ 140737488351232) (a2 : Int) (w2 : (Lit.int .i64 a2).wf = true) :
    Calls Try.prog 3 #[.slice a0 len0 cap0, .string a1, .int .i64 a2] w fun e w' => e = .returned (.bool true) ∧ Below w.heap.size w w' := by
  obtain ⟨k, rfl⟩ := str_list a1
  have hk : k.length ≤ 140737488351232 := by simpa [ByteArray.size] using b1
  have Hk := hid hk
  have hml : len0 ≤ 9223372036854775807 := by have := Nat.le_trans r0.le r0.most; unfold maxLen at this; omega
  have hlx : z0.length = len0 := by simpa using r0.length
  have Hlx := hid hlx
  have S0 : Hid _ := fun wa (h : Below w.heap.size w wa) => r0.later h (Nat.le_refl _)
  have hn := bounds_i64 w2
  have Hn := hid hn
  clear f0 r0 b0 b1 w2 hn hk hlx
  go_enter Try.func3, Try.ntmps3
  go_wp2_with fail
  refine (shown_any w).mono ?_
  rintro e wa ⟨rfl, hB1⟩
  have pf := few15_any (S0.out wa hB1)
  have HB1 : Hid _ := hB1
  clear hB1
  cases hfew : fewS z0 with
  | false =>
    rw [hfew] at pf
    clear hfew
    go_wp2_with fail
    refine pf.mono ?_
    rintro e wb ⟨rfl, hw⟩
    obtain rfl := hw.symm
    clear pf
    go_wp2
    go_ret
    exact ⟨rfl, HB1.out⟩
  | true =>
    rw [hfew] at pf
    obtain ⟨hn6, hsum⟩ := few_sum hfew
    rw [Hlx.out] at hn6
    have pb := rbuild_any (S0.out wa HB1.out) (by omega) (by omega)
    have Hsum : Hid _ := hsum
    have Hn6 := hid hn6
    clear hfew hsum
    go_wp2_with fail
    refine pf.mono ?_
    rintro e wb ⟨rfl, hw⟩
    obtain rfl := hw.symm
    clear pf
    rcases build_cases z0 with ⟨d, hd1, hd2, hq⟩ | ⟨hne, hri, hq⟩
    · rw [hq] at pb
      clear hq
      go_wp2_with fail
      refine pb.mono ?_
      rintro e wc ⟨ag, m, c, rfl, hr, hB2⟩
      have HB2 : Hid _ := HB1.out.trans (hB2.mono HB1.out.size)
      have hdn : ¬ (d : Int) = 0 := by omega
      clear pb hr hB2 HB1
      go_wp2
      go_ret
      exact ⟨rfl, HB2.out⟩
    · rw [hq] at pb
      have Hne := hid hne
      have Hri := hid hri
      clear hq hne hri
      go_wp2_with fail
      refine pb.mono ?_
      rintro e wk ⟨ag, m, c, rfl, hr, hB2⟩
      have HB2 : Hid _ := HB1.out.trans (hB2.mono HB1.out.size)
      have HR := hid (show ∀ W, Below wk.heap.size wk W → ReadsA W ag m c (zA (buildL z0)) from fun W h => hr.later h (Nat.le_refl _))
      have hsm : (z0.map List.length).sum ≤ 1000000 := by have := Hsum.out; omega
      have hbl : (buildL z0).length ≤ 1000000000 := by have := (build_len z0).2; omega
      have hb1 : 1 ≤ (buildL z0).length := (build_len z0).1
      have HSm := hid hsm
      have HBl := hid hbl
      have HBp := hid hb1
      have p1 := icounts_any (HR.out wk (Below.refl _ _)) Hne.out Hri.out HSm.out
      clear pb hr hB2 HB1 hsm hbl hb1
      go_wp2_with fail
      refine p1.mono ?_
      rintro e w1 ⟨cg, cm, cc, rfl, hc, hB⟩
      have HC := hid (show ∀ W, Below w1.heap.size w1 W → Reads W cg cm cc (zN (countsL (buildL z0))) from fun W h => hc.later h (Nat.le_refl _))
      have K1 := hid (show Below wk.heap.size wk w1 from hB)
      have p2 := rcounts_any (build_good z0) HBl.out (fun i hi => by have h1 := build_langs Hri.out hi; have h2 := Hlx.out; have h3 := Hn6.out; omega) (HR.out w1 K1.out)
      clear p1 hc hB
      go_wp2_with fail
      refine p2.mono ?_
      rintro e w2 ⟨dg, dc, dm, rfl, hdm, hd, hB⟩
      have HD := hid (show ∀ W, Below w2.heap.size w2 W → Reads W dg dm dc (zN (countsL (buildL z0))) from fun W h => (Reads.own hd).later h (Nat.le_refl _))
      have G2 := hid (show Below w1.heap.size w1 w2 from hB)
      have K2 := hid (show Below wk.heap.size wk w2 from K1.out.trans (hB.mono K1.out.size))
      have p3 := iof_any (HR.out w2 K2.out) Hne.out Hri.out HSm.out k Hk.out
      clear p2 hd hB hdm
      go_wp2_with fail
      refine p3.mono ?_
      rintro e w3 ⟨rfl, hB⟩
      have G3 := hid (show Below w2.heap.size w2 w3 from hB)
      have K3 := hid (show Below wk.heap.size wk w3 from K2.out.trans (hB.mono K2.out.size))
      have hbl3 := build_lang Hri.out
      have hc3 : (langS (buildL z0) ((buildL z0).length - 1)).length ≤ 100000 := by rw [hbl3, Hlx.out]; have := Hn6.out; omega
      have p4 := rof_any (build_good z0) HBl.out HBp.out hc3 (HR.out w3 K3.out) k
      rw [hbl3] at p4
      have HC3 := hid hc3
      have HBL3 := hid hbl3
      clear p3 hB hc3 hbl3
      go_wp2_with fail
      refine p4.mono ?_
      rintro e w4 ⟨rfl, hB⟩
      have G4 := hid (show Below w3.heap.size w3 w4 from hB)
      have K4 := hid (show Below wk.heap.size wk w4 from K3.out.trans (hB.mono K3.out.size))
      have p5 := iword_any (HR.out w4 K4.out) Hne.out Hri.out HSm.out a2 (by have := Hn.out; omega) (by have := Hn.out; omega)
      clear p4 hB
      go_wp2_with fail
      refine p5.mono ?_
      rintro e w5 ⟨rfl, hB⟩
      have G5 := hid (show Below w4.heap.size w4 w5 from hB)
      have K5 := hid (show Below wk.heap.size wk w5 from K4.out.trans (hB.mono K4.out.size))
      have p6 := rword_any (build_good z0) HBl.out HBp.out HC3.out (HR.out w5 K5.out) a2 (by have := Hn.out; omega) (by have := Hn.out; omega)
      rw [HBL3.out] at p6
      clear p5 hB
      go_wp2_with fail
      refine p6.mono ?_
      rintro e w6 ⟨rfl, hB⟩
      have G6 := hid (show Below w5.heap.size w5 w6 from hB)
      have g26 : Below w2.heap.size w2 w6 := ((((G3.out).trans (G4.out.mono G3.out.size)).trans (G5.out.mono (Nat.le_trans G3.out.size G4.out.size))).trans (hB.mono (Nat.le_trans G3.out.size (Nat.le_trans G4.out.size G5.out.size))))
      have G26 := hid g26
      have K6 := hid (show Below wk.heap.size wk w6 from K5.out.trans (hB.mono K5.out.size))
      have p7 := rsame15_any (HC.out w6 (G2.out.trans (G26.out.mono G2.out.size))) (HD.out w6 G26.out)
      rw [decide_eq_true rfl] at p7
      have HE := hid (HB2.out.trans (K6.out.mono HB2.out.size))
      clear p6 hB g26
      have hwe : ((wordR z0 a2).1 == (wordR z0 a2).1) = true := by simp
      go_wp2_with fail
      refine p7.mono ?_
      rintro e w7 ⟨rfl, q, hw⟩
      have HF := hid (show Below w.heap.size w w7 from by rw [hw]; exact below_drewN HE.out q)
      clear p7 hw HE
      go_wp2
      go_ret
      exact ⟨by simp, HF.out⟩

set_option maxRecDepth 100000 in
theorem lifted (os : Os) (started : os.Started) (H : Type) (enc : TypeId × Value → H) :
    ReturnsInHanded {} Try.checked os 3 .any (Rows.indexTellsSpec.pre6 enc Try.prog Try.f3 Rows.indexTellsRow.domain false) (Rows.indexTellsSpec.post enc Try.prog Try.f3 false true false false) := by
  refine returnsInHanded_of_change_sized (C := Try.checked) own started (by kernel_rfl) Try.func3
    (ChangeSpec.witness6 (enc := enc) (C := Try.checked) false ⟨#[], #[.slice none 0 0, .string ByteArray.empty, .int .i64 0], []⟩ 8 (by kernel_rfl) (by kernel_rfl) (by kernel_rfl) (by kernel_rfl)) ?_
  intro W base args ds gs before hval0 hW hcnd hsz0 _
  have hsz : (DataW.weightsEach Try.prog (Try.f3.params.toList ++ Rows.indexTellsSpec.plain.varTypes Try.prog) (ds ++ gs)).all (· ≤ reachBytes) = true := hsz0
  clear hsz0
  have hval : ∀ (j : Nat) t v, Try.f3.params[j]? = some t → args[j]? = some v → Value.okWide Try.prog W .any base t v := hval0
  have hW' := hW
  obtain ⟨p, q, hA0, hV, rfl, hfz, hnd⟩ := hW
  have hA : DataW.TrodAll enc Try.prog W 0 (fun _ => true) true Try.f3.params.toList args.toList ds p := hA0
  rw [Try.params3] at hA hval hsz
  obtain ⟨v0, vs0, d0, ds0, p0, q0, hargs, rfl, rfl, h0, rr0⟩ := trodAll_cons hA
  obtain ⟨v1, vs1, d1, ds1, p1, q1, rfl, rfl, rfl, h1, rr1⟩ := trodAll_cons rr0
  obtain ⟨v2, vs2, d2, ds2, p2, q2, rfl, rfl, rfl, h2, rr2⟩ := trodAll_cons rr1
  obtain ⟨rfl, rfl, rfl⟩ := trodAll_nil rr2
  obtain rfl : args = #[v0, v1, v2] := by cases args; simp_all
  obtain ⟨rfl, rfl⟩ := trodVars_none hV
  obtain ⟨a0, len0, cap0, rfl⟩ := okWide_slice Try.underlying22 (hval 0 22 v0 rfl rfl)
  have k0 := h0
  have lt0 : ∀ x ∈ p0, x.block < W.heap.size := by obtain ⟨m, hm⟩ := k0; exact DataW.trod_lt m _ _ _ hm
  obtain ⟨z0, r0, f0, b0⟩ := strs_in Try.underlying22 Try.underlying9 (by kernel_rfl) (B := 16) (by kernel_rfl) hsz (j := 0) rfl rfl h0
  obtain ⟨a1, rfl, rfl, rfl, w1⟩ := open_string Try.underlying9 (hval 1 9 v1 rfl rfl) h1
  have b1 : a1.size ≤ 140737488351232 := by have := sized_string hsz (j := 1) (t := 9) rfl rfl; simpa [reachBytes] using this
  obtain ⟨a2, rfl, rfl, rfl, w2⟩ := open_int Try.underlying3 (hval 2 3 v2 rfl rfl) h2
  clear hA0 hval0
  refine (walk W a0 len0 cap0 z0 r0 f0 b0 a1 b1 a2 w2).mono fun e W' ⟨he, bel⟩ => ?_
  subst he
  exact ⟨_, rfl, _, _, _, [], _, [], hW', trodAll_mk1 (shut_bool Try.underlying4 _), (trodAll_cons_mk (Below.trod laidOut (by kernel_rfl) (of_decide_eq_true (by kernel_rfl)) k0 bel lt0) (trodAll_cons_mk (shut_string Try.underlying9 w1) (trodAll_cons_mk (shut_int Try.underlying3 w2) trodAll_mk0))), rfl, bel.frame _, fun h => by cases h⟩

theorem over : Rows.indexTellsRow.holds Try.pinned (OpenSpec.ofChange Rows.indexTellsSpec) :=
  OpenClaim.holds_of_wide 3 Try.f3 rfl rfl rfl rfl rfl rfl rfl ⟨rfl, rfl, rfl, rfl, rfl⟩ rfl rfl rfl rfl rfl (by kernel_rfl) Try.func3 (by kernel_rfl)
    (of_decide_eq_true (by kernel_rfl)) (by unfold Func.isWrapper; first | (rw [if_pos (by decide +kernel)]; kernel_rfl) | (rw [if_neg (by decide +kernel)]; exact ⟨rfl, rfl⟩))
    (fun os started H enc _ => lifted os started H enc)
end Go.Proofs.Ytkcledkfgmdcgaa.indexTells
namespace Go.Proofs.Ytkcledkfgmdcgaa
theorem indexTells_holds : Rows.IndexTellsSaid := indexTells.over
#print axioms indexTells_holds
end Go.Proofs.Ytkcledkfgmdcgaa
