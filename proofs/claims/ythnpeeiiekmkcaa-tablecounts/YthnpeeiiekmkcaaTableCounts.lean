/- For every input TableCounts answers true, and leaves its arguments as they were. Conditions: none. -/
import Derived.Test.YthnpeeiiekmkcaaRows
import Derived.Test.YthnpeeiiekmkcaaTabLaw
import Derived.Test.YthnpeeiiekmkcaaTabCount
import Derived.Test.YthnpeeiiekmkcaaOpen
import Derived.ProofKit
import Derived.OpenShut
import Derived.ShutString
import Derived.ChangeOld
import Derived.SizedLaws
import Derived.Deep.RegionHeld
import Derived.Deep.RegionHeld3
import Derived.Deep.QuietTactic
import Derived.BigQuiet
import Derived.Deep.Cut
import Derived.Deep.CutBlock
namespace Go.Proofs.Ythnpeeiiekmkcaa.tableCounts
open Go.ChangeShapes Go.WideShapes Go.ChangeAt Go.RowKit
open Go.ChangeMaps (open_string shut_string)
set_option linter.unusedVariables false

theorem own : ownKnob Try.prog.godebug = none := by kernel_rfl
theorem laidOut : laidOutB Try.prog = true := by kernel_rfl


set_option maxRecDepth 100000 in
set_option maxHeartbeats 4000000 in
theorem walk (w : World) (a0 : Option Addr) (len0 cap0 : Nat) (z0 : List Wd) (r0 : Reads w a0 len0 cap0 (z0.map strV)) (f0 : ∀ z ∈ z0, z.length ≤ 140737488351232) (b0 : len0 * 16 ≤ 140737488351232) :
    Calls Try.prog 5 #[.slice a0 len0 cap0] w fun e w' => e = .returned (.bool true) ∧ Below w.heap.size w w' := by
  have hlb : len0 ≤ 140737488351232 := by omega
  have hll : z0.length = len0 := by simpa using r0.length
  clear b0
  obtain ⟨n, hmin⟩ : ∃ n : Nat, min (len0 : Int) 200 = n := ⟨min len0 200, by omega⟩
  have hni : n ≤ 200 := by omega
  have hnz : n ≤ z0.length := by omega
  have hnl : n ≤ len0 := by omega
  go_enter Try.func5, Try.ntmps5
  go_wp2_with fail
  refine (shown_any w).mono ?_
  rintro e wa ⟨rfl, ba⟩
  have s0 : Calls Try.prog 10 #[.int .i64 200] wa _ := tabnew_any 200 wa (by decide) (by decide)
  go_wp2_with fail
  refine s0.mono ?_
  rintro e wb ⟨rfl, hA, b1⟩
  have bb := Below.trans ba (b1.mono ba.size)
  generalize hBA : wa.heap.size = B at hA ⊢
  generalize hba : B + 1 = b at hA ⊢
  have hw1 : w.heap.size ≤ B := by have := ba.size; omega
  clear s0 ba b1 hBA hba
  go_wp2_with fail
  go_loopw [7, 8] (fun al i wr => ∃ (j s : Nat) (v : Value) (es : List En), i = .int .i64 j ∧ al = .int .u64 s ∧ j ≤ n ∧ s ≤ j ∧ TabAt B wr b B v 200 es ∧ Hid (CountsE es (z0.take j) 1 ∧ es.length ≤ j) ∧ Hid (sumE es = s) ∧ Below w.heap.size w wr) (fun _ i _ => (n - intOf i).toNat)
  case atStart => exact ⟨0, 0, _, [], rfl, rfl, by omega, by omega, hA, ⟨counts_nil 1, Nat.le_refl _⟩, rfl, bb⟩
  case round =>
    obtain ⟨j, s, v, es, rfl, rfl, hj, hsj, hT, hC, hS, hBw⟩ := hrel
    clear hA bb
    by_cases hjn : j < n
    · have hji : (j : Int) < n := by omega
      obtain ⟨b1, o1, rfl, hb1, hc1⟩ := (r0.later hBw (Nat.le_refl _)).atW (by omega)
      obtain ⟨k, hk⟩ : ∃ k, z0[j]? = some k := ⟨_, List.getElem?_eq_getElem (by omega)⟩
      have cw1 := hc1 j k hk
      have fl := f0 k (List.mem_of_getElem? hk)
      have sa := tabadd_any hT k 1 (by omega) (by decide)
      obtain ⟨p1, p2, p3⟩ := add_next hT.tab (Nat.le_refl 1) (by omega) (by rw [List.length_take]; omega : (z0.take j).length = j) hC.out (by omega) k
      rw [← take_next hk] at p2
      have P2 : Hid _ := p2
      have P3 : Hid _ := p3
      clear p2 p3 hC
      rw [p1] at sa
      go_wp2_with fail
      refine sa.mono ?_
      rintro e wd ⟨rfl, v2, hT2, ht2⟩
      have hBd := Below.trans hBw (ht2.below hT hw1)
      obtain ⟨b2, o2, hao, hb2, hc2⟩ := (r0.later hBd (Nat.le_refl _)).atW (by omega)
      cases hao
      have cw2 := hc2 j k hk
      generalize addE 200 es k 1 = Y at hT2 P2 P3 p1
      clear sa hT ht2 hBw hc1 hc2 cw1 p1
      by_cases hk0 : k = []
      · subst hk0
        simp only [if_true] at P3 ⊢
        go_wp2
        go_roundw
        case rel => exact ⟨j + 1, s, v2, Y.1, by go_num, rfl, by omega, by omega, hT2, P2, by show _ = _; rw [P3.out, hS.out, Nat.add_zero], hBd⟩
        case measure => simp [intOf]; omega
      · have hke := empty_not hk0
        simp only [hk0, if_false] at P3 ⊢
        go_wp2
        go_roundw
        case rel => exact ⟨j + 1, s + 1, v2, Y.1, by go_num, by go_num, by omega, by omega, hT2, P2, by show _ = _; rw [P3.out, hS.out], hBd⟩
        case measure => simp [intOf]; omega
    · have hjn' : j = n := by omega
      subst hjn'
      clear hj hjn
      have sd := tabdrain_any hT
      go_wp2_with fail
      refine sd.mono ?_
      rintro e wd ⟨rfl, d, hp, hd, hrow, hT2, ht2⟩
      have hBd := Below.trans hBw (ht2.below hT hw1)
      rw [← hp.length_eq] at hrow
      have hsd : Hid (sumE d = s) := by show _ = _; rw [perm_sum hp, hS.out]
      have hcd : Hid (∀ e ∈ d, e.2 = (z0.take j).count e.1) := by
        show ∀ e ∈ d, _
        intro e he
        have h1 := get_mem hT.tab.keys (hp.mem_iff.1 he)
        have h2 := hC.out.1 e.1
        rw [if_neg (hT.tab.words e (hp.mem_iff.1 he)), Nat.one_mul] at h2
        omega
      have hdl : d.length ≤ 200 := by rw [hp.length_eq]; exact hT.tab.most
      obtain ⟨ao, cap, rfl⟩ := own2_slice hrow
      have Hd : Hid _ := hd
      clear sd hT ht2 hBw hC hS hp hd
      go_wp2_with fail
      go_loopw [11, 12] (fun su i wr => ∃ (m q t : Nat), i = .int .i64 m ∧ su = .int .u64 q ∧ m ≤ d.length ∧ Hid (sumE (d.take m) = q) ∧ q ≤ m * 200 ∧ wr = wd.drewN t) (fun _ i _ => (d.length - intOf i).toNat)
      case atStart => exact ⟨0, 0, 0, rfl, rfl, by omega, rfl, by omega, rfl⟩
      case round =>
        obtain ⟨m, q, t, rfl, rfl, hm, hq, hqm, hwr⟩ := hrel
        have Hw : Hid _ := hwr
        clear hwr
        by_cases hmd : m < d.length
        case neg =>
          have hqs : q = s := by have h1 := hq.out; rw [List.take_of_length_le (by omega), hsd.out] at h1; exact h1.symm
          subst hqs
          have hw := Hw.out
          subst hw
          have hT3 := hT2.later (below_drewN (Below.refl _ _) t) (Nat.le_refl _)
          have sd := tabdrain_any hT3
          have hlt : ¬ (m : Int) < d.length := by omega
          clear hmd hq hsd hT2
          go_wp2_with fail
          refine sd.mono ?_
          rintro e we ⟨rfl, d2, hp2, hd2, hrow2, hT4, ht4⟩
          have hBe := Below.trans (below_drewN hBd t) (ht4.below hT3 hw1)
          clear sd hT3 hT4 ht4 hrow2
          go_wp2
          go_ret
          exact ⟨rfl, hBe⟩
        have hmi : (m : Int) < d.length := by omega
        have hm0 : (0 : Int) ≤ m := by omega
        obtain ⟨⟨ek, en⟩, he⟩ : ∃ e, d[m]? = some e := ⟨_, List.getElem?_eq_getElem hmd⟩
        obtain ⟨g, cap', hv, q1, q2, q3, hc, q4⟩ := own2_at hrow (by omega)
        obtain ⟨rfl, rfl⟩ := slice_inj hv
        have hen : en = (z0.take j).count ek := hcd.out _ (List.mem_of_getElem? he)
        have Hen : Hid _ := hen
        have hen2 : en ≤ 200 := by rw [hen]; exact Nat.le_trans (count_le _ _) (by rw [List.length_take]; omega)
        have a1 := (hc m _ he).1
        have a2 := (hc m _ he).2
        simp only at a1 a2
        have hpre : Hid (∀ m', m = m' + 1 → ∃ pk pn, wd.cell? ⟨g, m' * 2, none⟩ = some (strV pk) ∧ wd.cell? ⟨g, m' * 2 + 1, none⟩ = some (.int .u64 (pn : Nat)) ∧ lessB pk ek = true) := by
          show ∀ m', _
          intro m' hm'
          subst hm'
          obtain ⟨⟨pk, pn⟩, he'⟩ : ∃ e, d[m']? = some e := ⟨_, List.getElem?_eq_getElem (by omega)⟩
          refine ⟨pk, pn, (hc m' _ he').1, (hc m' _ he').2, ?_⟩
          have h1 := List.pairwise_iff_getElem.1 Hd.out m' (m' + 1) (by omega) (by omega) (by omega)
          have h2 : d[m'] = (pk, pn) := by have := List.getElem?_eq_some_iff.1 he'; exact this.2
          have h3 : d[m' + 1] = (ek, en) := by have := List.getElem?_eq_some_iff.1 he; exact this.2
          rw [h2, h3] at h1; exact h1
        have hnext : Hid (sumE (d.take (m + 1)) = q + en) := by
          show _ = _
          rw [List.take_add_one, he]
          have := hq.out
          simp [sumE] at this ⊢
          omega
        clear q1 q2 q3 q4 hv hc he hen hq
        go_wp2_with fail
        go_loopw [13, 14] (fun ma i wq => ∃ (p c u : Nat), i = .int .i64 p ∧ ma = .int .u64 c ∧ p ≤ j ∧ Hid ((z0.take p).count ek = c) ∧ c ≤ p ∧ wq = wd.drewN u) (fun _ i _ => (j - intOf i).toNat)
        case atStart => exact ⟨0, 0, t, rfl, rfl, by omega, rfl, by omega, Hw.out⟩
        case round =>
          obtain ⟨p, c, u, rfl, rfl, hp, hcc, hcp, hwq⟩ := hrel
          have Hq : Hid _ := hwq
          clear hwq
          by_cases hpj : p < j
          · have hpi : (p : Int) < j := by omega
            have hpl : (p : Int) < len0 := by omega
            have hp0 : (0 : Int) ≤ p := by omega
            obtain ⟨b1, o1, rfl, hb1, hc1⟩ := (r0.later hBd (Nat.le_refl _)).atW (by omega)
            obtain ⟨k, hk⟩ : ∃ k, z0[p]? = some k := ⟨_, List.getElem?_eq_getElem (by omega)⟩
            have d1 : wr.cell? ⟨b1, o1 + p, none⟩ = some (strV k) := by rw [Hq.out]; exact hc1 p k hk
            have d2 : wr.cell? ⟨g, m * 2, none⟩ = some (strV ek) := by rw [Hq.out]; exact a1
            have hstep : Hid ((z0.take (p + 1)).count ek = c + if k = ek then 1 else 0) := by show _ = _; rw [take_next hk, count_one, hcc.out]
            clear hc1 hk hcc hpre hnext a1 a2 Hw hcd hrow
            by_cases hq : k = ek
            · subst hq
              rw [if_pos rfl] at hstep
              go_wp2_with fail
              go_quiet (fail)
              go_wp2
              go_roundw
              case rel => exact ⟨p + 1, c + 1, u + nq, by go_num, by go_num, by omega, hstep, by omega, by rw [Hq.out, World.drewN_drewN]⟩
              case measure => simp [intOf]; omega
            · rw [if_neg hq] at hstep
              have hqb : (k == ek) = false := by rw [beq_eq_false_iff_ne]; exact hq
              clear hq
              go_wp2_with fail
              go_quiet (fail)
              go_wp2
              go_roundw
              case rel => exact ⟨p + 1, c, u + nq, by go_num, rfl, by omega, hstep, by omega, by rw [Hq.out, World.drewN_drewN]⟩
              case measure => simp [intOf]; omega
          · have hpe : p = j := by omega
            subst hpe
            have hce : c = en := by rw [Hen.out]; exact hcc.out.symm
            subst hce
            have d1 : wr.cell? ⟨g, m * 2, none⟩ = some (strV ek) := by rw [Hq.out]; exact a1
            have d2 : wr.cell? ⟨g, m * 2 + 1, none⟩ = some (.int .u64 (c : Nat)) := by rw [Hq.out]; exact a2
            clear hcc Hen a1 a2 Hw hcd hrow hpj hp
            rcases Nat.eq_zero_or_pos m with hm1 | hm1
            · subst hm1
              clear hpre
              go_wp2_with fail
              go_quiet (fail)
              go_wp2
              go_roundw
              case rel => exact ⟨1, q + c, u + nq, by go_num, by go_num, by omega, hnext, by omega, by rw [Hq.out, World.drewN_drewN]⟩
              case measure => simp [intOf]; omega
            · obtain ⟨m', rfl⟩ : ∃ m', m = m' + 1 := ⟨m - 1, by omega⟩
              obtain ⟨pk, pn, e1, e2, hless⟩ := hpre.out m' rfl
              have e3 : wr.cell? ⟨g, m' * 2, none⟩ = some (strV pk) := by rw [Hq.out]; exact e1
              have l1 : Op.bytesLess ek pk = false := less_asymm _ _ hless
              have l2 : (ek == pk) = false := by rw [beq_eq_false_iff_ne]; exact fun h => less_ne hless h.symm
              have mi1 : (0 : Int) < (m' : Int) + 1 := by omega
              have mi2 : (m' : Int) < d.length := by omega
              have mi3 : (0 : Int) ≤ m' := by omega
              clear hpre e1 e2 hless
              go_wp2_with fail
              go_quiet (fail)
              go_wp2
              go_roundw
              case rel => exact ⟨m' + 1 + 1, q + c, u + nq, by go_num, by go_num, by omega, hnext, by omega, by rw [Hq.out, World.drewN_drewN]⟩
              case measure => simp [intOf]; omega

set_option maxRecDepth 100000 in
theorem lifted (os : Os) (started : os.Started) (H : Type) (enc : TypeId × Value → H) :
    ReturnsInHanded {} Try.checked os 5 .any (Rows.tableCountsSpec.pre6 enc Try.prog Try.f5 Rows.tableCountsRow.domain false) (Rows.tableCountsSpec.post enc Try.prog Try.f5 false true false false) := by
  refine returnsInHanded_of_change_sized (C := Try.checked) own started (by kernel_rfl) Try.func5
    (ChangeSpec.witness6 (enc := enc) (C := Try.checked) false ⟨#[], #[.slice none 0 0], []⟩ 8 (by kernel_rfl) (by kernel_rfl) (by kernel_rfl) (by kernel_rfl)) ?_
  intro W base args ds gs before hval0 hW hcnd hsz0 _
  have hsz : (DataW.weightsEach Try.prog (Try.f5.params.toList ++ Rows.tableCountsSpec.plain.varTypes Try.prog) (ds ++ gs)).all (· ≤ reachBytes) = true := hsz0
  clear hsz0
  have hval : ∀ (j : Nat) t v, Try.f5.params[j]? = some t → args[j]? = some v → Value.okWide Try.prog W .any base t v := hval0
  have hW' := hW
  obtain ⟨p, q, hA0, hV, rfl, hfz, hnd⟩ := hW
  have hA : DataW.TrodAll enc Try.prog W 0 (fun _ => true) true Try.f5.params.toList args.toList ds p := hA0
  rw [Try.params5] at hA hval hsz
  obtain ⟨v0, vs0, d0, ds0, p0, q0, hargs, rfl, rfl, h0, rr0⟩ := trodAll_cons hA
  obtain ⟨rfl, rfl, rfl⟩ := trodAll_nil rr0
  obtain rfl : args = #[v0] := by cases args; simp_all
  obtain ⟨rfl, rfl⟩ := trodVars_none hV
  obtain ⟨a0, len0, cap0, rfl⟩ := okWide_slice Try.underlying41 (hval 0 41 v0 rfl rfl)
  have k0 := h0
  have lt0 : ∀ x ∈ p0, x.block < W.heap.size := by obtain ⟨m, hm⟩ := k0; exact DataW.trod_lt m _ _ _ hm
  obtain ⟨z0, r0, f0, b0⟩ := strs_in Try.underlying41 Try.underlying9 (by kernel_rfl) (B := 16) (by kernel_rfl) hsz (j := 0) rfl rfl h0
  clear hA0 hval0
  refine (walk W a0 len0 cap0 z0 r0 f0 b0).mono fun e W' ⟨he, bel⟩ => ?_
  subst he
  exact ⟨_, rfl, _, _, _, [], _, [], hW', trodAll_mk1 (shut_bool Try.underlying4 _), (trodAll_cons_mk (Below.trod laidOut (by kernel_rfl) (of_decide_eq_true (by kernel_rfl)) k0 bel lt0) trodAll_mk0), rfl, bel.frame _, fun h => by cases h⟩

theorem over : Rows.tableCountsRow.holds Try.pinned (OpenSpec.ofChange Rows.tableCountsSpec) :=
  OpenClaim.holds_of_wide 5 Try.f5 rfl rfl rfl rfl rfl rfl rfl ⟨rfl, rfl, rfl, rfl, rfl⟩ rfl rfl rfl rfl rfl (by kernel_rfl) Try.func5 (by kernel_rfl)
    (of_decide_eq_true (by kernel_rfl)) (by unfold Func.isWrapper; first | (rw [if_pos (by decide +kernel)]; kernel_rfl) | (rw [if_neg (by decide +kernel)]; exact ⟨rfl, rfl⟩))
    (fun os started H enc _ => lifted os started H enc)
end Go.Proofs.Ythnpeeiiekmkcaa.tableCounts
namespace Go.Proofs.Ythnpeeiiekmkcaa
theorem tableCounts_holds : Rows.TableCountsSaid := tableCounts.over
#print axioms tableCounts_holds
end Go.Proofs.Ythnpeeiiekmkcaa
