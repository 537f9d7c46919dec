/- For every input IndexSums answers true, and leaves its arguments as they were. Conditions: none. -/
import Derived.Test.YtkcledkfgmdcgaaRows
import Derived.Test.YtkcledkfgmdcgaaIndexMath
import Derived.Test.YtkcledkfgmdcgaaShown15
import Derived.Test.YtkcledkfgmdcgaaFound
import Derived.ProofKit
import Derived.OpenShut
import Derived.ShutString
import Derived.ChangeOld
import Derived.SizedLaws
import Derived.Deep.RegionHeld
import Derived.Deep.RegionHeld3
import Derived.Deep.QuietTactic
import Derived.BigQuiet
import Derived.Deep.Cut
import Derived.Deep.CutBlock
namespace Go.Proofs.Ytkcledkfgmdcgaa.indexSums
open Go.ChangeShapes Go.WideShapes Go.ChangeAt Go.RowKit
open Go.ChangeMaps (open_string shut_string)
set_option linter.unusedVariables false

theorem own : ownKnob Try.prog.godebug = none := by kernel_rfl
theorem laidOut : laidOutB Try.prog = true := by kernel_rfl


set_option maxRecDepth 100000 in
set_option maxHeartbeats 4000000 in
theorem walk (w : World) (a0 : Option Addr) (len0 cap0 : Nat) (z0 : List Wd) (r0 : Reads w a0 len0 cap0 (z0.map strV)) (f0 : ∀ z ∈ z0, z.length ≤ 140737488351232) (b0 : len0 * 16 ≤ 140737488351232) :
    Calls Try.prog 8 #[.slice a0 len0 cap0] w fun e w' => e = .returned (.bool true) ∧ Below w.heap.size w w' := by
  have hml : len0 ≤ 9223372036854775807 := by have := Nat.le_trans r0.le r0.most; unfold maxLen at this; omega
  have hlx : z0.length = len0 := by simpa using r0.length
  have Hlx := hid hlx
  have S0 : Hid _ := fun wa (h : Below w.heap.size w wa) => r0.later h (Nat.le_refl _)
  have R0 := hid r0
  clear f0 r0 b0 hlx
  go_enter Try.func8, Try.ntmps8
  go_wp2_with fail
  refine (shown_any w).mono ?_
  rintro e wa ⟨rfl, hB1⟩
  have pf := few15_any (S0.out wa hB1)
  have HB1 : Hid _ := hB1
  clear hB1
  cases hfew : fewS z0 with
  | false =>
    rw [hfew] at pf
    clear hfew
    go_wp2_with fail
    refine pf.mono ?_
    rintro e wb ⟨rfl, hw⟩
    obtain rfl := hw.symm
    clear pf
    go_wp2
    go_ret
    exact ⟨rfl, HB1.out⟩
  | true =>
    rw [hfew] at pf
    obtain ⟨hn6, hsum⟩ := few_sum hfew
    rw [Hlx.out] at hn6
    have pb := rbuild_any (S0.out wa HB1.out) (by omega) (by omega)
    have Hsum : Hid _ := hsum
    have Hn6 := hid hn6
    clear hfew hsum
    go_wp2_with fail
    refine pf.mono ?_
    rintro e wb ⟨rfl, hw⟩
    obtain rfl := hw.symm
    clear pf
    rcases build_cases z0 with ⟨d, hd1, hd2, hq⟩ | ⟨hne, hri, hq⟩
    · rw [hq] at pb
      clear hq
      go_wp2_with fail
      refine pb.mono ?_
      rintro e wc ⟨ag, m, c, rfl, hr, hB2⟩
      have HB2 : Hid _ := HB1.out.trans (hB2.mono HB1.out.size)
      have hdn : ¬ (d : Int) = 0 := by omega
      clear pb hr hB2 HB1
      go_wp2
      go_ret
      exact ⟨rfl, HB2.out⟩
    · rw [hq] at pb
      have Hne := hid hne
      have Hri := hid hri
      clear hq hne hri
      go_wp2_with fail
      refine pb.mono ?_
      rintro e wk ⟨ag, m, c, rfl, hr, hB2⟩
      have HB2 : Hid _ := HB1.out.trans (hB2.mono HB1.out.size)
      have HR := hid (show ∀ W, Below wk.heap.size wk W → ReadsA W ag m c (zA (buildL z0)) from fun W h => hr.later h (Nat.le_refl _))
      have hsm : (z0.map List.length).sum ≤ 1000000 := by have := Hsum.out; omega
      have hbl : (buildL z0).length ≤ 1000000000 := by have := (build_len z0).2; omega
      have hb1 : 1 ≤ (buildL z0).length := (build_len z0).1
      have HSm := hid hsm
      have HBl := hid hbl
      have HBp := hid hb1
      have p1 := icounts_any (HR.out wk (Below.refl _ _)) Hne.out Hri.out HSm.out
      clear pb hr hB2 HB1 hsm hbl hb1
      go_wp2_with fail
      refine p1.mono ?_
      rintro e w1 ⟨cg, cm, cc, rfl, hc, hB⟩
      have K1 := hid (show Below wk.heap.size wk w1 from hB)
      have hml1 : (buildL z0).length = m := by
        have h2 := (HR.out wk (Below.refl _ _)).count
        rw [zA_len] at h2; exact h2
      have hcm : cm = m := by
        have h1 : (zN (countsL (buildL z0))).length = cm := by simpa using hc.length
        rw [← h1, ← hml1]
        simp [zN, counts_len]
      subst hcm
      have Hml := hid hml1
      have hcp : 1 ≤ cm := by have := HBp.out; omega
      have hmx : cm ≤ 1000000000 := by have := HBl.out; omega
      have HE := hid (HB2.out.trans (K1.out.mono HB2.out.size))
      obtain ⟨S, hS⟩ : ∃ S, S = buildL z0 := ⟨_, rfl⟩
      have HS := hid (show GoodS S from hS ▸ build_good z0)
      have HLs := hid (show ∀ i, i < cm → (langS S i).length ≤ 1000 from fun i hi => by
        have h1 := build_langs Hri.out (i := i) (by omega)
        rw [hS]
        have h2 := Hlx.out
        have h3 := Hn6.out
        omega)
      rw [← hS] at hc Hml
      obtain ⟨bc, oc, hac, hbc, hcc⟩ := hc.at15 (by omega)
      have hr1 := HR.out w1 K1.out
      rw [← hS] at hr1
      obtain ⟨bx, ox, hax, hbx, hcx⟩ := hr1.at (by omega)
      subst hac
      subst hax
      have HCC := hid (show ∀ i, i < cm → w1.cell? ⟨bc, oc + i, none⟩ = some (.int .u64 ((langS S i).length : Nat)) from fun i hi => hcc i _ (by
        unfold zN
        rw [List.getElem?_map, counts_at (by have := Hml.out; omega)]; rfl))
      have HCX := hid hcx
      clear p1 hc hB hml1 hcc hcx hbc hbx hr1 hS HR HBl HBp HSm Hsum Hne Hri
      go_wp2_with fail
      go_loopw [8] (fun i wr => ∃ j : Nat, i = .int .i64 (j : Nat) ∧ j ≤ cm ∧ Hid (wr = w1)) (fun i _ => (cm - intOf i).toNat)
      case atStart => exact ⟨0, rfl, Nat.zero_le _, rfl⟩
      case round =>
        obtain ⟨j, rfl, hj, hw⟩ := hrel
        by_cases hjl : j < cm
        · have q1 : (j : Int) < cm := by omega
          obtain ⟨⟨f, es⟩, hs⟩ : ∃ s, S[j]? = some s := ⟨_, List.getElem?_eq_getElem (by rw [Hml.out]; exact hjl)⟩
          obtain ⟨eg, ec, c1, c2, er⟩ := HCX.out j _ (zA_at hs)
          simp only [zE_len] at c1 c2 er
          have hlow := HS.out.low j _ hs
          have hlang := lang_at HS.out hs
          obtain ⟨k, hk⟩ : ∃ k, k = es.length := ⟨_, rfl⟩
          rw [← hk] at c2 er
          have hkm : k ≤ 9223372036854775807 := by have := Nat.le_trans er.le er.most; unfold maxLen at this; omega
          obtain ⟨b0, hb0⟩ : ∃ b0 : Nat, b0 = if f then 1 else 0 := ⟨_, rfl⟩
          have hsum : ∀ t, b0 + (flatS S (es.take t)).length ≤ (langS S j).length := fun t => by
            have h1 := flat_take_len S es t
            rw [hlang]
            unfold wordsOf
            rw [List.length_append, hb0]
            split <;> simp_all
          have hall : (langS S j).length = b0 + (flatS S es).length := by
            rw [hlang]; unfold wordsOf
            rw [List.length_append, hb0]
            split <;> simp_all
          have hb01 : b0 ≤ 1 := by rw [hb0]; split <;> omega
          have d1 : wr.cell? ⟨bx, ox + j * 2, none⟩ = some (.bool f) := by rw [hw.out]; exact c1
          have d2 : wr.cell? ⟨bx, ox + j * 2 + 1, none⟩ = some (.slice eg k ec) := by rw [hw.out]; exact c2
          have ER := hid er
          have Hk : Hid (es.length = k) := hk.symm
          have Hlow := hid hlow
          have Hsm2 := hid hsum
          have Hall := hid hall
          have HB0 := hid hb0
          clear hs c1 c2 er hlow hlang hk hsum hall hb0 hjl
          go_upto_if 48 with (fail)
          go_cut [9] from 44 to 48 (fun v wq => v = .int .u64 (b0 : Nat) ∧ wq = wr)
          case first =>
            cases f with
            | false =>
              have h0 := HB0.out
              rw [if_neg (by simp)] at h0
              clear HB0
              go_wp2_with fail
              go_meet
              case rel => rw [h0]; exact ⟨rfl, rfl⟩
            | true =>
              have h0 := HB0.out
              rw [if_pos rfl] at h0
              clear HB0
              go_wp2_with fail
              go_meet
              case rel => rw [h0]; exact ⟨rfl, rfl⟩
          case rest =>
            obtain ⟨rfl, hwq⟩ := hcut
            have HW1 : Hid (wc = w1) := hwq.trans hw.out
            have d2 : wc.cell? ⟨bx, ox + j * 2 + 1, none⟩ = some (.slice eg k ec) := by rw [hwq]; exact d2
            clear hwq hw
            go_wp2_with fail
            go_loopw [9, 10] (fun v i w2 => ∃ n t : Nat, v = .int .u64 (n : Nat) ∧ i = .int .i64 (t : Nat) ∧ t ≤ k ∧ n ≤ 1000 ∧ Hid (n = b0 + (flatS S (es.take t)).length) ∧ Hid (w2 = wc)) (fun _ i _ => (k - intOf i).toNat)
            case atStart => exact ⟨b0, 0, rfl, rfl, Nat.zero_le _, by omega, (by simp [flatS] : b0 = b0 + (flatS S (es.take 0)).length), rfl⟩
            case round =>
              obtain ⟨n, t, rfl, rfl, ht, hn, hnt, hw⟩ := hrel
              have hww := hw.out
              have d3 : wr.cell? ⟨bx, ox + j * 2 + 1, none⟩ = some (.slice eg k ec) := by rw [hw.out]; exact d2
              by_cases htk : t < k
              · have q2 : (t : Int) < k := by omega
                obtain ⟨bE, oE, hae, hbE, hce⟩ := ER.out.edge (by omega)
                subst hae
                obtain ⟨⟨cb, ct⟩, he⟩ : ∃ e, es[t]? = some e := ⟨_, List.getElem?_eq_getElem (by rw [Hk.out]; exact htk)⟩
                have hcc := hce t _ (zE_at he)
                simp only at hcc
                have x2 : wr.cell? ⟨bE, oE + t * 2 + 1, none⟩ = some (.int .i64 (ct : Nat)) := by rw [hww, HW1.out]; exact hcc.2
                have hctj := Hlow.out _ (List.mem_of_getElem? he)
                simp only at hctj
                have y := HCC.out ct (by omega)
                have y2 : wr.cell? ⟨bc, oc + ct, none⟩ = some (.int .u64 ((langS S ct).length : Nat)) := by rw [hww, HW1.out]; exact y
                obtain ⟨p, hp⟩ : ∃ p, p = (langS S ct).length := ⟨_, rfl⟩
                rw [← hp] at y2
                have hst := flat_take_step (S := S) he
                have hs1 := Hsm2.out (t + 1)
                have hs2 := HLs.out j (by omega)
                have Hst : Hid (n + p = b0 + (flatS S (es.take (t + 1))).length) := by show _ = _; rw [hst, List.length_append, List.length_map, hnt.out]; simp only; omega
                have hnp : n + p ≤ 1000 := by have := Hst.out; omega
                have hcti : (ct : Int) < cm := by omega
                obtain ⟨np, hnp2⟩ : ∃ np, np = n + p := ⟨_, rfl⟩
                rw [← hnp2] at Hst hnp
                have e1 : (n : Int) + p = (np : Nat) := by omega
                have HW : Hid (wr = wc) := hw.out
                clear hce hcc he hctj y hp hst hs1 hs2 hnt hw hww htk hnp2 hbE
                go_wp2
                go_roundw
                case rel => exact ⟨np, t + 1, rfl, by go_num, by omega, hnp, Hst, HW.out⟩
                case measure => simp [intOf]; omega
              · have q2 : ¬ (t : Int) < k := by omega
                have hfin : n = (langS S j).length := by
                  have h1 := hnt.out
                  rw [List.take_of_length_le (by rw [Hk.out]; omega)] at h1
                  rw [Hall.out]; exact h1
                have y := HCC.out j (by omega)
                have y2 : wr.cell? ⟨bc, oc + j, none⟩ = some (.int .u64 (n : Nat)) := by rw [hww, HW1.out, hfin]; exact y
                have HW : Hid (wr = w1) := hw.out.trans HW1.out
                clear hfin y hnt hw hww htk
                go_wp2
                go_roundw
                case rel => exact ⟨j + 1, by go_num, by omega, HW.out⟩
                case measure => simp [intOf]; omega
        · have q1 : ¬ (j : Int) < cm := by omega
          have HF : Hid (Below w.heap.size w wr) := by show Below _ _ _; rw [hw.out]; exact HE.out
          clear hjl hj hw
          go_wp2
          go_ret
          exact ⟨rfl, HF.out⟩

set_option maxRecDepth 100000 in
theorem lifted (os : Os) (started : os.Started) (H : Type) (enc : TypeId × Value → H) :
    ReturnsInHanded {} Try.checked os 8 .any (Rows.indexSumsSpec.pre6 enc Try.prog Try.f8 Rows.indexSumsRow.domain false) (Rows.indexSumsSpec.post enc Try.prog Try.f8 false true false false) := by
  refine returnsInHanded_of_change_sized (C := Try.checked) own started (by kernel_rfl) Try.func8
    (ChangeSpec.witness6 (enc := enc) (C := Try.checked) false ⟨#[], #[.slice none 0 0], []⟩ 8 (by kernel_rfl) (by kernel_rfl) (by kernel_rfl) (by kernel_rfl)) ?_
  intro W base args ds gs before hval0 hW hcnd hsz0 _
  have hsz : (DataW.weightsEach Try.prog (Try.f8.params.toList ++ Rows.indexSumsSpec.plain.varTypes Try.prog) (ds ++ gs)).all (· ≤ reachBytes) = true := hsz0
  clear hsz0
  have hval : ∀ (j : Nat) t v, Try.f8.params[j]? = some t → args[j]? = some v → Value.okWide Try.prog W .any base t v := hval0
  have hW' := hW
  obtain ⟨p, q, hA0, hV, rfl, hfz, hnd⟩ := hW
  have hA : DataW.TrodAll enc Try.prog W 0 (fun _ => true) true Try.f8.params.toList args.toList ds p := hA0
  rw [Try.params8] at hA hval hsz
  obtain ⟨v0, vs0, d0, ds0, p0, q0, hargs, rfl, rfl, h0, rr0⟩ := trodAll_cons hA
  obtain ⟨rfl, rfl, rfl⟩ := trodAll_nil rr0
  obtain rfl : args = #[v0] := by cases args; simp_all
  obtain ⟨rfl, rfl⟩ := trodVars_none hV
  obtain ⟨a0, len0, cap0, rfl⟩ := okWide_slice Try.underlying22 (hval 0 22 v0 rfl rfl)
  have k0 := h0
  have lt0 : ∀ x ∈ p0, x.block < W.heap.size := by obtain ⟨m, hm⟩ := k0; exact DataW.trod_lt m _ _ _ hm
  obtain ⟨z0, r0, f0, b0⟩ := strs_in Try.underlying22 Try.underlying9 (by kernel_rfl) (B := 16) (by kernel_rfl) hsz (j := 0) rfl rfl h0
  clear hA0 hval0
  refine (walk W a0 len0 cap0 z0 r0 f0 b0).mono fun e W' ⟨he, bel⟩ => ?_
  subst he
  exact ⟨_, rfl, _, _, _, [], _, [], hW', trodAll_mk1 (shut_bool Try.underlying4 _), (trodAll_cons_mk (Below.trod laidOut (by kernel_rfl) (of_decide_eq_true (by kernel_rfl)) k0 bel lt0) trodAll_mk0), rfl, bel.frame _, fun h => by cases h⟩

theorem over : Rows.indexSumsRow.holds Try.pinned (OpenSpec.ofChange Rows.indexSumsSpec) :=
  OpenClaim.holds_of_wide 8 Try.f8 rfl rfl rfl rfl rfl rfl rfl ⟨rfl, rfl, rfl, rfl, rfl⟩ rfl rfl rfl rfl rfl (by kernel_rfl) Try.func8 (by kernel_rfl)
    (of_decide_eq_true (by kernel_rfl)) (by unfold Func.isWrapper; first | (rw [if_pos (by decide +kernel)]; kernel_rfl) | (rw [if_neg (by decide +kernel)]; exact ⟨rfl, rfl⟩))
    (fun os started H enc _ => lifted os started H enc)
end Go.Proofs.Ytkcledkfgmdcgaa.indexSums
namespace Go.Proofs.Ytkcledkfgmdcgaa
theorem indexSums_holds : Rows.IndexSumsSaid := indexSums.over
#print axioms indexSums_holds
end Go.Proofs.Ytkcledkfgmdcgaa
