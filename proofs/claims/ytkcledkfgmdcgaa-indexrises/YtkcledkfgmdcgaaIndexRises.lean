/- For every input IndexRises answers true, and leaves its arguments as they were. Conditions: none. -/
import Derived.Test.YtkcledkfgmdcgaaRows
import Derived.Test.YtkcledkfgmdcgaaIndexMath
import Derived.Test.YtkcledkfgmdcgaaShown15
import Derived.Test.YtkcledkfgmdcgaaFound
import Derived.ProofKit
import Derived.OpenShut
import Derived.ShutString
import Derived.ChangeOld
import Derived.SizedLaws
import Derived.Deep.RegionHeld
import Derived.Deep.RegionHeld3
import Derived.Deep.QuietTactic
import Derived.BigQuiet
import Derived.Deep.Cut
import Derived.Deep.CutBlock
namespace Go.Proofs.Ytkcledkfgmdcgaa.indexRises
open Go.ChangeShapes Go.WideShapes Go.ChangeAt Go.RowKit
open Go.ChangeMaps (open_string shut_string)
set_option linter.unusedVariables false

theorem own : ownKnob Try.prog.godebug = none := by kernel_rfl
theorem laidOut : laidOutB Try.prog = true := by kernel_rfl


set_option maxRecDepth 100000 in
set_option maxHeartbeats 4000000 in
theorem walk (w : World) (a0 : Option Addr) (len0 cap0 : Nat) (z0 : List Wd) (r0 : Reads w a0 len0 cap0 (z0.map strV)) (f0 : ∀ z ∈ z0, z.length ≤ 140737488351232) (b0 : len0 * 16 ≤ 140737488351232) (a1 : Int) (w1 : (Lit.int .u8 a1).wf = true) (a2 : Int) (w2 : (Lit.int .u8 a2).wf = true) :
    Calls Try.prog 7 #[.slice a0 len0 cap0, .int .u8 a1, .int .u8 a2] w fun e w' => e = .returned (.bool true) ∧ Below w.heap.size w w' := by
  obtain ⟨hx0, hx1⟩ := bounds_u8 w1
  obtain ⟨hy0, hy1⟩ := bounds_u8 w2
  obtain ⟨x, rfl⟩ := Int.eq_ofNat_of_zero_le hx0
  obtain ⟨y, rfl⟩ := Int.eq_ofNat_of_zero_le hy0
  have hml : len0 ≤ 9223372036854775807 := by have := Nat.le_trans r0.le r0.most; unfold maxLen at this; omega
  have hlx : z0.length = len0 := by simpa using r0.length
  have Hlx := hid hlx
  have S0 : Hid _ := fun wa (h : Below w.heap.size w wa) => r0.later h (Nat.le_refl _)
  have R0 := hid r0
  clear f0 r0 b0 hlx w1 w2 hx0 hy0
  go_enter Try.func7, Try.ntmps7
  go_wp2_with fail
  refine (shown_any w).mono ?_
  rintro e wa ⟨rfl, hB1⟩
  have pf := few15_any (S0.out wa hB1)
  have HB1 : Hid _ := hB1
  clear hB1
  cases hfew : fewS z0 with
  | false =>
    rw [hfew] at pf
    clear hfew
    go_wp2_with fail
    refine pf.mono ?_
    rintro e wb ⟨rfl, hw⟩
    obtain rfl := hw.symm
    clear pf
    go_wp2
    go_ret
    exact ⟨rfl, HB1.out⟩
  | true =>
    rw [hfew] at pf
    by_cases hz : len0 = 0
    · subst hz
      clear hfew
      go_wp2_with fail
      refine pf.mono ?_
      rintro e wb ⟨rfl, hw⟩
      obtain rfl := hw.symm
      clear pf
      go_wp2
      go_ret
      exact ⟨rfl, HB1.out⟩
    have hz0 : ((len0 : Int) == 0) = false := by rw [beq_eq_false_iff_ne]; omega
    obtain ⟨ix, hix⟩ : ∃ ix, ix = x % len0 := ⟨_, rfl⟩
    have eix : (x : Int) % len0 = (ix : Nat) := by rw [hix]; exact (Int.natCast_emod _ _).symm
    have eix2 : Int.tmod (x : Int) len0 = (ix : Nat) := by rw [Int.tmod_eq_emod_of_nonneg (by omega)]; exact eix
    have lix : ix < len0 := by rw [hix]; exact Nat.mod_lt _ (by omega)
    obtain ⟨iy, hiy⟩ : ∃ iy, iy = y % len0 := ⟨_, rfl⟩
    have eiy : (y : Int) % len0 = (iy : Nat) := by rw [hiy]; exact (Int.natCast_emod _ _).symm
    have eiy2 : Int.tmod (y : Int) len0 = (iy : Nat) := by rw [Int.tmod_eq_emod_of_nonneg (by omega)]; exact eiy
    have liy : iy < len0 := by rw [hiy]; exact Nat.mod_lt _ (by omega)
    have qx : (ix : Int) < len0 := by omega
    have qy : (iy : Int) < len0 := by omega
    have hl0 : ¬ (len0 : Int) = 0 := by omega
    clear hix hiy
    obtain ⟨hn6, hsum⟩ := few_sum hfew
    rw [Hlx.out] at hn6
    have pb := rbuild_any (S0.out wa HB1.out) (by omega) (by omega)
    have Hsum : Hid _ := hsum
    have Hn6 := hid hn6
    clear hfew hsum
    go_wp2_with fail
    refine pf.mono ?_
    rintro e wb ⟨rfl, hw⟩
    obtain rfl := hw.symm
    clear pf
    rcases build_cases z0 with ⟨d, hd1, hd2, hq⟩ | ⟨hne, hri, hq⟩
    · rw [hq] at pb
      clear hq
      go_wp2_with fail
      refine pb.mono ?_
      rintro e wc ⟨ag, m, c, rfl, hr, hB2⟩
      have HB2 : Hid _ := HB1.out.trans (hB2.mono HB1.out.size)
      have hdn : ¬ (d : Int) = 0 := by omega
      clear pb hr hB2 HB1
      go_wp2
      go_ret
      exact ⟨rfl, HB2.out⟩
    · rw [hq] at pb
      have Hne := hid hne
      have Hri := hid hri
      clear hq hne hri
      go_wp2_with fail
      refine pb.mono ?_
      rintro e wk ⟨ag, m, c, rfl, hr, hB2⟩
      have HB2 : Hid _ := HB1.out.trans (hB2.mono HB1.out.size)
      have HR := hid (show ∀ W, Below wk.heap.size wk W → ReadsA W ag m c (zA (buildL z0)) from fun W h => hr.later h (Nat.le_refl _))
      have hsm : (z0.map List.length).sum ≤ 1000000 := by have := Hsum.out; omega
      have hbl : (buildL z0).length ≤ 1000000000 := by have := (build_len z0).2; omega
      have hb1 : 1 ≤ (buildL z0).length := (build_len z0).1
      have HSm := hid hsm
      have HBl := hid hbl
      have HBp := hid hb1
      obtain ⟨bb, off, hao, hbl, hc⟩ := R0.out.atW (by omega)
      subst hao
      obtain ⟨p, hp⟩ : ∃ p, z0[ix]? = some p := ⟨_, List.getElem?_eq_getElem (by rw [Hlx.out]; exact lix)⟩
      obtain ⟨v, hv⟩ : ∃ v, z0[iy]? = some v := ⟨_, List.getElem?_eq_getElem (by rw [Hlx.out]; exact liy)⟩
      have d1 := cell_in HB2.out hbl (hc ix p hp)
      have d2 := cell_in HB2.out hbl (hc iy v hv)
      have hpl : p.length ≤ 140737488351232 := by have h1 := len_le_sum (List.mem_of_getElem? hp); have h2 := Hsum.out; omega
      have hvl : v.length ≤ 140737488351232 := by have h1 := len_le_sum (List.mem_of_getElem? hv); have h2 := Hsum.out; omega
      have p1 := iof_any (HR.out wk (Below.refl _ _)) Hne.out Hri.out HSm.out p hpl
      rw [place_at Hri.out hp] at p1
      have HP := hid hp
      have HV := hid hv
      have HVL := hid hvl
      clear pb hr hB2 HB1 hsm hbl hb1 hc hp hv hpl hvl
      go_wp2_with fail
      refine p1.mono ?_
      rintro e w1 ⟨rfl, hB⟩
      have K1 := hid (show Below wk.heap.size wk w1 from hB)
      have p2 := iof_any (HR.out w1 K1.out) Hne.out Hri.out HSm.out v HVL.out
      rw [place_at Hri.out HV.out] at p2
      clear p1 hB d1 d2
      go_wp2_with fail
      refine p2.mono ?_
      rintro e w2 ⟨rfl, hB⟩
      have K2 := hid (show Below wk.heap.size wk w2 from K1.out.trans (hB.mono K1.out.size))
      have p3 := iword_any (HR.out w2 K2.out) Hne.out Hri.out HSm.out (ix : Nat) (by omega) (by omega)
      rw [word_at HP.out] at p3
      clear p2 hB
      go_wp2_with fail
      refine p3.mono ?_
      rintro e w3 ⟨rfl, hB⟩
      have K3 := hid (show Below wk.heap.size wk w3 from K2.out.trans (hB.mono K2.out.size))
      have HE := hid (HB2.out.trans (K3.out.mono HB2.out.size))
      have HLt := hid (rise_lt Hri.out HP.out HV.out)
      have e1 : (p == p) = true := by simp
      have e2 : ((ix : Int) == (iy : Int)) = (p == v) := by
        rw [← HLt.out.2]
        by_cases h : ix = iy
        · rw [decide_eq_true h, h]; simp
        · rw [decide_eq_false h, beq_eq_false_iff_ne]; omega
      have e3 : decide ((ix : Int) < iy) = Go.Op.bytesLess p v := by
        rw [← show decide (ix < iy) = Go.Op.bytesLess p v from HLt.out.1]
        by_cases h : ix < iy
        · rw [decide_eq_true h, decide_eq_true (by omega)]
        · rw [decide_eq_false h, decide_eq_false (by omega)]
      have e4 : decide (ix < iy) = Go.Op.bytesLess p v := HLt.out.1
      clear p3 hB eix eix2 eiy eiy2 lix liy qx qy
      go_wp2
      go_ret
      exact ⟨by simp, HE.out⟩

set_option maxRecDepth 100000 in
theorem lifted (os : Os) (started : os.Started) (H : Type) (enc : TypeId × Value → H) :
    ReturnsInHanded {} Try.checked os 7 .any (Rows.indexRisesSpec.pre6 enc Try.prog Try.f7 Rows.indexRisesRow.domain false) (Rows.indexRisesSpec.post enc Try.prog Try.f7 false true false false) := by
  refine returnsInHanded_of_change_sized (C := Try.checked) own started (by kernel_rfl) Try.func7
    (ChangeSpec.witness6 (enc := enc) (C := Try.checked) false ⟨#[], #[.slice none 0 0, .int .u8 0, .int .u8 0], []⟩ 8 (by kernel_rfl) (by kernel_rfl) (by kernel_rfl) (by kernel_rfl)) ?_
  intro W base args ds gs before hval0 hW hcnd hsz0 _
  have hsz : (DataW.weightsEach Try.prog (Try.f7.params.toList ++ Rows.indexRisesSpec.plain.varTypes Try.prog) (ds ++ gs)).all (· ≤ reachBytes) = true := hsz0
  clear hsz0
  have hval : ∀ (j : Nat) t v, Try.f7.params[j]? = some t → args[j]? = some v → Value.okWide Try.prog W .any base t v := hval0
  have hW' := hW
  obtain ⟨p, q, hA0, hV, rfl, hfz, hnd⟩ := hW
  have hA : DataW.TrodAll enc Try.prog W 0 (fun _ => true) true Try.f7.params.toList args.toList ds p := hA0
  rw [Try.params7] at hA hval hsz
  obtain ⟨v0, vs0, d0, ds0, p0, q0, hargs, rfl, rfl, h0, rr0⟩ := trodAll_cons hA
  obtain ⟨v1, vs1, d1, ds1, p1, q1, rfl, rfl, rfl, h1, rr1⟩ := trodAll_cons rr0
  obtain ⟨v2, vs2, d2, ds2, p2, q2, rfl, rfl, rfl, h2, rr2⟩ := trodAll_cons rr1
  obtain ⟨rfl, rfl, rfl⟩ := trodAll_nil rr2
  obtain rfl : args = #[v0, v1, v2] := by cases args; simp_all
  obtain ⟨rfl, rfl⟩ := trodVars_none hV
  obtain ⟨a0, len0, cap0, rfl⟩ := okWide_slice Try.underlying22 (hval 0 22 v0 rfl rfl)
  have k0 := h0
  have lt0 : ∀ x ∈ p0, x.block < W.heap.size := by obtain ⟨m, hm⟩ := k0; exact DataW.trod_lt m _ _ _ hm
  obtain ⟨z0, r0, f0, b0⟩ := strs_in Try.underlying22 Try.underlying9 (by kernel_rfl) (B := 16) (by kernel_rfl) hsz (j := 0) rfl rfl h0
  obtain ⟨a1, rfl, rfl, rfl, w1⟩ := open_int Try.underlying5 (hval 1 5 v1 rfl rfl) h1
  obtain ⟨a2, rfl, rfl, rfl, w2⟩ := open_int Try.underlying5 (hval 2 5 v2 rfl rfl) h2
  clear hA0 hval0
  refine (walk W a0 len0 cap0 z0 r0 f0 b0 a1 w1 a2 w2).mono fun e W' ⟨he, bel⟩ => ?_
  subst he
  exact ⟨_, rfl, _, _, _, [], _, [], hW', trodAll_mk1 (shut_bool Try.underlying4 _), (trodAll_cons_mk (Below.trod laidOut (by kernel_rfl) (of_decide_eq_true (by kernel_rfl)) k0 bel lt0) (trodAll_cons_mk (shut_int Try.underlying5 w1) (trodAll_cons_mk (shut_int Try.underlying5 w2) trodAll_mk0))), rfl, bel.frame _, fun h => by cases h⟩

theorem over : Rows.indexRisesRow.holds Try.pinned (OpenSpec.ofChange Rows.indexRisesSpec) :=
  OpenClaim.holds_of_wide 7 Try.f7 rfl rfl rfl rfl rfl rfl rfl ⟨rfl, rfl, rfl, rfl, rfl⟩ rfl rfl rfl rfl rfl (by kernel_rfl) Try.func7 (by kernel_rfl)
    (of_decide_eq_true (by kernel_rfl)) (by unfold Func.isWrapper; first | (rw [if_pos (by decide +kernel)]; kernel_rfl) | (rw [if_neg (by decide +kernel)]; exact ⟨rfl, rfl⟩))
    (fun os started H enc _ => lifted os started H enc)
end Go.Proofs.Ytkcledkfgmdcgaa.indexRises
namespace Go.Proofs.Ytkcledkfgmdcgaa
theorem indexRises_holds : Rows.IndexRisesSaid := indexRises.over
#print axioms indexRises_holds
end Go.Proofs.Ytkcledkfgmdcgaa
