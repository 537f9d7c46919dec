/- For every input IndexMany answers true, and leaves its arguments as they were. Conditions: none. -/
import Derived.Test.YtkcledkfgmdcgaaRows
import Derived.Test.YtkcledkfgmdcgaaChainMem
import Derived.Test.YtkcledkfgmdcgaaShown15
import Derived.Test.YtkcledkfgmdcgaaFound
import Derived.ProofKit
import Derived.OpenShut
import Derived.ShutString
import Derived.ChangeOld
import Derived.SizedLaws
import Derived.Deep.RegionHeld
import Derived.Deep.RegionHeld3
import Derived.Deep.QuietTactic
import Derived.BigQuiet
import Derived.Deep.Cut
import Derived.Deep.CutBlock
namespace Go.Proofs.Ytkcledkfgmdcgaa.indexMany
open Go.ChangeShapes Go.WideShapes Go.ChangeAt Go.RowKit
open Go.ChangeMaps (open_string shut_string)
set_option linter.unusedVariables false

theorem own : ownKnob Try.prog.godebug = none := by kernel_rfl
theorem laidOut : laidOutB Try.prog = true := by kernel_rfl


set_option maxRecDepth 100000 in
set_option maxHeartbeats 4000000 in
theorem walk (w : World) (a0 : Int) (w0 : (Lit.int .u8 a0).wf = true) (a1 : Int) (w1 : (Lit.int .u64 a1).wf = true) :
    Calls Try.prog 6 #[.int .u8 a0, .int .u64 a1] w fun e w' => e = .returned (.bool true) ∧ Below w.heap.size w w' := by
  obtain ⟨hx0, hx1⟩ := bounds_u8 w0
  obtain ⟨hy0, hy1⟩ := bounds_u64 w1
  obtain ⟨x, rfl⟩ := Int.eq_ofNat_of_zero_le hx0
  obtain ⟨y, rfl⟩ := Int.eq_ofNat_of_zero_le hy0
  obtain ⟨k, hk⟩ : ∃ k, k = 1 + x % 70 := ⟨_, rfl⟩
  have hk1 : 1 ≤ k := by omega
  have hk2 : k ≤ 70 := by omega
  have ek : (1 : Int) + (x : Int) % 70 = (k : Nat) := by omega
  have ek2 : Int.tmod (x : Int) 70 = ((x % 70 : Nat) : Int) := by rw [Int.tmod_eq_emod_of_nonneg (by omega)]; omega
  obtain ⟨q, hq⟩ : ∃ q, q = y % 4611686018427387904 := ⟨_, rfl⟩
  have eq1 : (y : Int) % 4611686018427387904 = (q : Nat) := by omega
  have hq1 : q < 4611686018427387904 := by omega
  clear w0 w1 hx0 hy0 hk hq
  go_enter Try.func6, Try.ntmps6
  go_wp2_with fail
  refine (shown_any w).mono ?_
  rintro e wa ⟨rfl, hB1⟩
  have HB1 : Hid _ := hB1
  have HS := hid (chain_start (B := wa.heap.size) (w := wa) (Nat.le_refl _))
  have HB2 := hid (HB1.out.alloc HB1.out.size (.cells #[.bool true, .slice none 0 0] 45))
  clear hB1
  go_wp2_with fail
  go_loopw [7, 8] (fun v i wr => ∃ (ag : Option Addr) (c j : Nat), v = .slice ag ((j + 1 : Nat)) c ∧ i = .int .i64 (j : Nat) ∧ j ≤ k ∧ Hid (ChainAt wa.heap.size j wr ag c) ∧ Hid (Below w.heap.size w wr) ∧ Hid (wa.heap.size ≤ wr.heap.size)) (fun _ i _ => (k - intOf i).toNat)
  case atStart => exact ⟨_, 1, 0, rfl, rfl, Nat.zero_le _, HS.out, HB2.out, (by show wa.heap.size ≤ _; simp)⟩
  case round =>
    obtain ⟨ag, c, j, rfl, rfl, hj, hC, hB, hZ⟩ := hrel
    by_cases hjk : j < k
    · have q1 : (j : Int) < k := by omega
      obtain ⟨F, vs, h1, h2, h3, h4, h5⟩ := hC.out.ex
      have H1 := hid h1
      have H3 := hid h3
      have H4 := hid h4
      have H5 := hid h5
      have hlt : ∀ b, (Value.slice ag (j + 1) c).ownBlock = some b → b < wr.heap.size := fun b hb => (h2.lt b hb).2
      have HLT := hid hlt
      have o2 := hid ((h2.alloc (.cells #[.int .u8 97, .int .i64 (j : Nat), .int .u8 98, .int .i64 (j : Nat)] 47)).alloc (.cells #[.bool false, .slice (some ⟨wr.heap.size, 0, none⟩) 2 2] 45))
      have lit := readsE_two (wr.alloc (.cells #[.int .u8 97, .int .i64 (j : Nat), .int .u8 98, .int .i64 (j : Nat)] 47)) (.bool false) (.slice (some ⟨wr.heap.size, 0, none⟩) 2 2) 45
      rw [World.size_alloc] at lit
      have LIT := hid lit
      have hone : ∀ u ∈ [Value.bool false, Value.slice (some ⟨wr.heap.size, 0, none⟩) 2 2], u.oneCell' = true := by simp [Value.oneCell']
      have m1 : j + 1 + 1 ≤ maxLen := by unfold maxLen; omega
      have m2 : (j + 1 + 1) * 32 ≤ 140737488355328 := by omega
      have HBase := hid (show wa.heap.size ≤ ((wr.alloc (.cells #[.int .u8 97, .int .i64 (j : Nat), .int .u8 98, .int .i64 (j : Nat)] 47)).alloc (.cells #[.bool false, .slice (some ⟨wr.heap.size, 0, none⟩) 2 2] 45)).heap.size from by have := hZ.out; simp; omega)
      clear h1 h2 h3 h4 h5 hlt lit hC
      go_wp2_with (at_builtin; refine wpList_append_2 rfl _ _ 25 rfl wa.heap.size 45 Try.infoStt rfl Try.underlying25 _ _ _ _ rfl o2.out _ _ _ _ rfl LIT.out hone m1 m2 HBase.out ?_)
      intro ag2 c2 w2 hr2 hg2 hb2 hw2
      have HC2 := hid (chain_step H1.out HLT.out H3.out H4.out H5.out hr2 hg2 hw2)
      have HZ2 := hid (Nat.le_trans HBase.out hb2.size)
      have HBB := hid (show Below w.heap.size w w2 from ((hB.out.alloc hB.out.size _).alloc (Nat.le_trans hB.out.size (by simp)) _).trans (hb2.mono HB1.out.size))
      clear hr2 hg2 hb2 hw2 hone m1 m2
      go_wp2
      go_roundw
      case rel => exact ⟨ag2, c2, j + 1, rfl, by go_num, by omega, HC2.out, HBB.out, HZ2.out⟩
      case measure => simp [intOf]; omega
    · have q1 : ¬ (j : Int) < k := by omega
      have hjk2 : j = k := by omega
      subst hjk2
      have hr := hC.out.reads
      rw [← chain_built] at hr
      have Hne := hid (full_no_nil j hk1)
      have Hri := hid (listN_rise _ (full_rise j))
      have HL := hid (show (buildL (listN (fullN j))).length ≤ 10000000000000 from by rw [chain_built, links_len]; omega)
      have HR := hid (show ∀ W, Below wr.heap.size wr W → ReadsA W ag (j + 1) c (zA (buildL (listN (fullN j)))) from fun W h => hr.later h (Nat.le_refl _))
      have p1 := icounts_gen (HR.out wr (Below.refl _ _)) Hne.out Hri.out HL.out
      have HCB := hid (chain_built j)
      rw [HCB.out] at p1
      clear hr hC
      by_cases h62 : j ≤ 62
      · rw [chain_counts h62] at p1
        have i62 : ¬ (62 : Int) < j := by omega
        have i64 : (j : Int) ≤ 64 := by omega
        obtain ⟨P, hP⟩ : ∃ P, P = 2 ^ j := ⟨_, rfl⟩
        have hP2 : P ≤ 4611686018427387904 := by
          rw [hP]
          calc 2 ^ j ≤ 2 ^ 62 := Nat.pow_le_pow_right (by decide) h62
            _ = 4611686018427387904 := by decide
        have eP : (2 : Int) ^ j = (P : Nat) := by rw [hP]; simp
        have hcj := chain_top j
        rw [← hP] at hcj
        have HCJ := hid hcj
        have HP := hid hP
        clear hcj hP
        go_wp2_with fail
        refine p1.mono ?_
        rintro e w1 ⟨cg, cm, cc, rfl, hc, hB3⟩
        have hcm : cm = j + 1 := by
          have h1 : (zN (countsL (chainS j))).length = cm := by simpa using hc.length
          rw [← h1]; simp [zN, counts_len, links_len]
        subst hcm
        obtain ⟨bc, oc, hac, hbc, hcc⟩ := hc.at15 (by omega)
        subst hac
        have hat := hcc j (.int .u64 (P : Nat)) (by unfold zN; rw [List.getElem?_map, HCJ.out]; rfl)
        have K1 := hid (show Below wr.heap.size wr w1 from hB3)
        have HAT := hid (show ∀ W, Below w1.heap.size w1 W → W.cell? ⟨bc, oc + j, none⟩ = some (.int .u64 (P : Nat)) from fun W h => cell_in h hbc hat)
        have hw : ∃ (wd : Wd) (is : Bool), (if (countsR (buildL (listN (fullN j)))).2 = 0 then wordR (listN (fullN j)) (q : Nat) else ([], false)) = (wd, is) ∧
            (if (countsR (buildL (listN (fullN j)))).2 = 0 then placeR (listN (fullN j)) wd else (0, false)) = (if is then q else 0, is) ∧ ((q < P ∧ is = true ∧ wd.length = j) ∨ (¬ q < P ∧ is = false ∧ wd = [])) := by
          rw [HCB.out, chain_counts h62, if_pos rfl]
          by_cases hqP : q < P
          · obtain ⟨wd, g1, g2, g3⟩ := chain_place (k := j) (n := q) (by rw [← HP.out]; exact hqP)
            exact ⟨wd, true, g1, by rw [if_pos rfl, g2]; rfl, .inl ⟨hqP, rfl, g3⟩⟩
          · refine ⟨[], false, chain_no_place (by rw [← HP.out]; omega), ?_, .inr ⟨hqP, rfl, rfl⟩⟩
            rw [if_pos rfl]
            unfold placeR
            rw [if_neg Hne.out]; rfl
        obtain ⟨wd, is, g1, g2, g3⟩ := hw
        have hwl : wd.length ≤ 140737488351232 := by
          rcases g3 with ⟨_, _, h⟩ | ⟨_, _, h⟩
          · omega
          · rw [h]; simp
        have p2 := iword_gen (HR.out w1 K1.out) Hne.out Hri.out HL.out (q : Nat) (by omega) (by omega)
        rw [g1] at p2
        have HG2 := hid g2
        have HWL := hid hwl
        have HG3 := hid g3
        clear p1 hc hB3 hcc hat g1 g2 g3 hwl
        go_wp2_with fail
        refine p2.mono ?_
        rintro e w2 ⟨rfl, hB3⟩
        have K2 := hid (show Below wr.heap.size wr w2 from K1.out.trans (hB3.mono K1.out.size))
        have L2 := hid (show Below w1.heap.size w1 w2 from hB3)
        have p3 := iof_gen (HR.out w2 K2.out) Hne.out Hri.out HL.out wd HWL.out
        rw [HG2.out] at p3
        clear p2 hB3
        go_wp2_with fail
        refine p3.mono ?_
        rintro e w3 ⟨rfl, hB3⟩
        have d1 := HAT.out w3 (L2.out.trans (hB3.mono L2.out.size))
        have HF := hid (hB.out.trans ((K2.out.trans (hB3.mono K2.out.size)).mono hB.out.size))
        clear p3 hB3
        have i1 : (j : Int) < j + 1 := by omega
        rcases HG3.out with ⟨hqP, hi, hl⟩ | ⟨hqP, hi, hl⟩
        · subst hi
          have i2 : (q : Int) < P := by omega
          have i3 : ((⟨wd.toArray⟩ : ByteArray).size : Int) = j := by simp [ByteArray.size, hl]
          clear HG3 hqP
          go_wp2
          go_ret
          exact ⟨by simp, HF.out⟩
        · subst hi
          have i2 : ¬ (q : Int) < P := by omega
          clear HG3 hqP
          go_wp2
          go_ret
          exact ⟨by simp, HF.out⟩
      · rw [chain_over (by omega)] at p1
        have i62 : (62 : Int) < j := by omega
        go_wp2_with fail
        refine p1.mono ?_
        rintro e w1 ⟨cg, cm, cc, rfl, hc, hB3⟩
        have hcm : cm = 0 := by simpa [zN] using hc.length.symm
        subst hcm
        have K1 := hid (show Below wr.heap.size wr w1 from hB3)
        have p2 := iword_gen (HR.out w1 K1.out) Hne.out Hri.out HL.out (q : Nat) (by omega) (by omega)
        rw [HCB.out, chain_over (by omega), if_neg (by decide)] at p2
        clear p1 hc hB3
        go_wp2_with fail
        refine p2.mono ?_
        rintro e w2 ⟨rfl, hB3⟩
        have HF := hid (hB.out.trans ((K1.out.trans (hB3.mono K1.out.size)).mono hB.out.size))
        clear p2 hB3
        go_wp2
        go_ret
        exact ⟨rfl, HF.out⟩

set_option maxRecDepth 100000 in
theorem lifted (os : Os) (started : os.Started) (H : Type) (enc : TypeId × Value → H) :
    ReturnsInHanded {} Try.checked os 6 .any (Rows.indexManySpec.pre6 enc Try.prog Try.f6 Rows.indexManyRow.domain false) (Rows.indexManySpec.post enc Try.prog Try.f6 false true false false) := by
  refine returnsInHanded_of_change_sized (C := Try.checked) own started (by kernel_rfl) Try.func6
    (ChangeSpec.witness6 (enc := enc) (C := Try.checked) false ⟨#[], #[.int .u8 0, .int .u64 0], []⟩ 8 (by kernel_rfl) (by kernel_rfl) (by kernel_rfl) (by kernel_rfl)) ?_
  intro W base args ds gs before hval0 hW hcnd hsz0 _
  have hsz : (DataW.weightsEach Try.prog (Try.f6.params.toList ++ Rows.indexManySpec.plain.varTypes Try.prog) (ds ++ gs)).all (· ≤ reachBytes) = true := hsz0
  clear hsz0
  have hval : ∀ (j : Nat) t v, Try.f6.params[j]? = some t → args[j]? = some v → Value.okWide Try.prog W .any base t v := hval0
  have hW' := hW
  obtain ⟨p, q, hA0, hV, rfl, hfz, hnd⟩ := hW
  have hA : DataW.TrodAll enc Try.prog W 0 (fun _ => true) true Try.f6.params.toList args.toList ds p := hA0
  rw [Try.params6] at hA hval hsz
  obtain ⟨v0, vs0, d0, ds0, p0, q0, hargs, rfl, rfl, h0, rr0⟩ := trodAll_cons hA
  obtain ⟨v1, vs1, d1, ds1, p1, q1, rfl, rfl, rfl, h1, rr1⟩ := trodAll_cons rr0
  obtain ⟨rfl, rfl, rfl⟩ := trodAll_nil rr1
  obtain rfl : args = #[v0, v1] := by cases args; simp_all
  obtain ⟨rfl, rfl⟩ := trodVars_none hV
  obtain ⟨a0, rfl, rfl, rfl, w0⟩ := open_int Try.underlying5 (hval 0 5 v0 rfl rfl) h0
  obtain ⟨a1, rfl, rfl, rfl, w1⟩ := open_int Try.underlying42 (hval 1 42 v1 rfl rfl) h1
  clear hA0 hval0
  refine (walk W a0 w0 a1 w1).mono fun e W' ⟨he, bel⟩ => ?_
  subst he
  exact ⟨_, rfl, _, _, _, [], _, [], hW', trodAll_mk1 (shut_bool Try.underlying4 _), (trodAll_cons_mk (shut_int Try.underlying5 w0) (trodAll_cons_mk (shut_int Try.underlying42 w1) trodAll_mk0)), rfl, bel.frame _, fun h => by cases h⟩

theorem over : Rows.indexManyRow.holds Try.pinned (OpenSpec.ofChange Rows.indexManySpec) :=
  OpenClaim.holds_of_wide 6 Try.f6 rfl rfl rfl rfl rfl rfl rfl ⟨rfl, rfl, rfl, rfl, rfl⟩ rfl rfl rfl rfl rfl (by kernel_rfl) Try.func6 (by kernel_rfl)
    (of_decide_eq_true (by kernel_rfl)) (by unfold Func.isWrapper; first | (rw [if_pos (by decide +kernel)]; kernel_rfl) | (rw [if_neg (by decide +kernel)]; exact ⟨rfl, rfl⟩))
    (fun os started H enc _ => lifted os started H enc)
end Go.Proofs.Ytkcledkfgmdcgaa.indexMany
namespace Go.Proofs.Ytkcledkfgmdcgaa
theorem indexMany_holds : Rows.IndexManySaid := indexMany.over
#print axioms indexMany_holds
end Go.Proofs.Ytkcledkfgmdcgaa
