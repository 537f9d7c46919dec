/- For every input TableOrder answers true, and leaves its arguments as they were. Conditions: none. -/
import Derived.Test.YthnpeeiiekmkcaaRows
import Derived.Test.YthnpeeiiekmkcaaTabLaw
import Derived.Test.YthnpeeiiekmkcaaTabCount
import Derived.Test.YthnpeeiiekmkcaaOpen
import Derived.ProofKit
import Derived.OpenShut
import Derived.ShutString
import Derived.ChangeOld
import Derived.SizedLaws
import Derived.Deep.RegionHeld
import Derived.Deep.RegionHeld3
import Derived.Deep.QuietTactic
import Derived.BigQuiet
import Derived.Deep.Cut
import Derived.Deep.CutBlock
namespace Go.Proofs.Ythnpeeiiekmkcaa.tableOrder
open Go.ChangeShapes Go.WideShapes Go.ChangeAt Go.RowKit
open Go.ChangeMaps (open_string shut_string)
set_option linter.unusedVariables false

theorem own : ownKnob Try.prog.godebug = none := by kernel_rfl
theorem laidOut : laidOutB Try.prog = true := by kernel_rfl


set_option maxRecDepth 100000 in
set_option maxHeartbeats 4000000 in
theorem walk (w : World) (a0 : Option Addr) (len0 cap0 : Nat) (z0 : List Wd) (r0 : Reads w a0 len0 cap0 (z0.map strV)) (f0 : ∀ z ∈ z0, z.length ≤ 140737488351232) (b0 : len0 * 16 ≤ 140737488351232) (a1 : Int) (w1 : (Lit.int .u8 a1).wf = true) :
    Calls Try.prog 4 #[.slice a0 len0 cap0, .int .u8 a1] w fun e w' => e = .returned (.bool true) ∧ Below w.heap.size w w' := by
  have g1 := bounds_u8 w1
  obtain ⟨y, rfl⟩ := Int.eq_ofNat_of_zero_le g1.1
  have hy : y ≤ 255 := by omega
  have hlb : len0 ≤ 140737488351232 := by omega
  have hll : z0.length = len0 := by simpa using r0.length
  clear b0 w1 g1
  obtain ⟨n, hmin⟩ : ∃ n : Nat, min (len0 : Int) 200 = n := ⟨min len0 200, by omega⟩
  have hni : n ≤ 200 := by omega
  have hnz : n ≤ z0.length := by omega
  have hnl : n ≤ len0 := by omega
  go_enter Try.func4, Try.ntmps4
  go_wp2_with fail
  refine (shown_any w).mono ?_
  rintro e wa ⟨rfl, ba⟩
  have s0 : Calls Try.prog 10 #[.int .i64 200] wa _ := tabnew_any 200 wa (by decide) (by decide)
  go_wp2_with fail
  refine s0.mono ?_
  rintro e wb ⟨rfl, hA, b1⟩
  have bb := Below.trans ba (b1.mono ba.size)
  have s1 : Calls Try.prog 10 #[.int .i64 200] wb _ := tabnew_any 200 wb (by decide) (by decide)
  have hlA := hA.lt
  clear s0
  go_wp2_with fail
  refine s1.mono ?_
  rintro e wc ⟨rfl, hC, b2⟩
  have bc := Below.trans bb (b2.mono bb.size)
  have hA := hA.later b2 (Nat.le_refl _)
  generalize hBA : wa.heap.size = BA at hA hlA ⊢
  generalize hBB : wb.heap.size = BB at hC hlA ⊢
  generalize hba : BA + 1 = ta at hA hlA ⊢
  generalize hbb : BB + 1 = tb at hC ⊢
  have hw1 : w.heap.size ≤ BA := by have := ba.size; omega
  have hw2 : w.heap.size ≤ BB := by omega
  have n1 : tb ≠ ta := by omega
  have n2 : BB ≠ BA := by omega
  clear s1 ba b1 bb b2 hBA hBB hba hbb hlA
  go_wp2_with fail
  go_loopw [11] (fun i wr => ∃ (j : Nat) (va vb : Value) (ea eb : List En), i = .int .i64 j ∧ j ≤ n ∧ TabAt BA wr ta BA va 200 ea ∧ TabAt BB wr tb BB vb 200 eb ∧ OffT va vb ∧ Hid (CountsE ea (z0.take j) 1 ∧ ea.length ≤ j) ∧ Hid (CountsE eb (turnW z0 n y j) 1 ∧ eb.length ≤ j) ∧ Below w.heap.size w wr) (fun i _ => (n - intOf i).toNat)
  case atStart => exact ⟨0, _, _, [], [], rfl, by omega, hA, hC, OffT.nil _, ⟨counts_nil 1, Nat.le_refl _⟩, ⟨counts_nil 1, Nat.le_refl _⟩, bc⟩
  case round =>
    obtain ⟨j, va, vb, ea, eb, rfl, hj, hTa, hTb, hO, hCa, hCb, hBw⟩ := hrel
    clear hA hC bc
    by_cases hjn : j = n
    · subst hjn
      have sa := tabdrain_any hTa
      go_wp2_with fail
      refine sa.mono ?_
      rintro e wd ⟨rfl, da, hpa, hda, hra, hTa2, hta⟩
      have hTb2 := hTb.other hTa hta n1 n2 hO.symm
      have hBd := Below.trans hBw (hta.below hTa hw1)
      have sb := tabdrain_any hTb2
      have eTa := hTa.tab
      clear sa hTa hTb hta hBw hTa2
      go_wp2_with fail
      refine sb.mono ?_
      rintro e we ⟨rfl, db, hpb, hdb, hrb, hTb3, htb⟩
      have hra2 := own2_turned (own2_mono hra (Nat.zero_le _)) hTb2 htb hO
      have hBe := Below.trans hBd (htb.below hTb2 hw2)
      have e1 : da = db := drained_same hCa.out.1 hCb.out.1 (turn_perm z0 j y hnz) hpa hpb hda hdb eTa hTb2.tab
      rw [← hpa.length_eq] at hra2
      rw [← hpb.length_eq] at hrb
      have ss := rsame_any hra2 (own2_mono hrb (Nat.zero_le _))
      rw [decide_eq_true e1] at ss
      clear sb hTb2 htb hBd hTb3 hra hra2 hrb hpa hpb hda hdb e1 hCa hCb hO eTa
      go_wp2_with fail
      refine ss.mono ?_
      rintro e wf ⟨rfl, m, rfl⟩
      go_wp2
      go_ret
      exact ⟨rfl, below_drewN hBe m⟩
    have hjN : j < n := by omega
    have hji : (j : Int) < n := by omega
    obtain ⟨b1, o1, rfl, hb1, hc1⟩ := (r0.later hBw (Nat.le_refl _)).atW (by omega)
    obtain ⟨k1, hk1⟩ : ∃ k, z0[j]? = some k := ⟨_, List.getElem?_eq_getElem (by omega)⟩
    have cw1 := hc1 j k1 hk1
    have fl1 := f0 k1 (List.mem_of_getElem? hk1)
    have sa := tabadd_any hTa k1 1 (by omega) (by decide)
    obtain ⟨_, p2, _⟩ := add_next hTa.tab (Nat.le_refl 1) (by omega) (by rw [List.length_take]; omega : (z0.take j).length = j) hCa.out (by omega) k1
    rw [← take_next hk1] at p2
    have P2 : Hid _ := p2
    clear p2 hCa hjn
    go_wp2_with fail
    refine sa.mono ?_
    rintro e wd ⟨rfl, va2, hTa2, hta⟩
    have hTb2 := hTb.other hTa hta n1 n2 hO.symm
    have hO2 := off_own hTb hta hO
    have hBd := Below.trans hBw (hta.below hTa hw1)
    generalize (addE 200 ea k1 1).1 = ea2 at hTa2 P2
    generalize (addE 200 ea k1 1).2 = c1
    obtain ⟨b2, o2, hao, hb2, hc2⟩ := (r0.later hBd (Nat.le_refl _)).atW (by omega)
    cases hao
    have hti : (n - 1 - j + y) % n < n := Nat.mod_lt _ (by omega)
    obtain ⟨k2, hk2⟩ : ∃ k, z0[(n - 1 - j + y) % n]? = some k := ⟨_, List.getElem?_eq_getElem (by omega)⟩
    have cw2 := hc2 _ k2 hk2
    have fl2 := f0 k2 (List.mem_of_getElem? hk2)
    have hgd : z0.getD ((n - 1 - j + y) % n) [] = k2 := by rw [List.getD, hk2]; rfl
    have sb := tabadd_any hTb2 k2 1 (by omega) (by decide)
    obtain ⟨_, q2, _⟩ := add_next hTb2.tab (Nat.le_refl 1) (by omega) (turn_len z0 n y j) hCb.out (by omega) k2
    rw [← hgd, ← turn_next, hgd] at q2
    have Q2 : Hid _ := q2
    have hrem : ((n : Int) - 1 - j + y).tmod n = ((n - 1 - j + y) % n : Nat) := by
      rw [show (n : Int) - 1 - j + y = ((n - 1 - j + y : Nat) : Int) by omega]; rfl
    clear q2 hCb hTb hTa hta hBw sa hc1 hc2 hk1 cw1 fl1 hgd
    generalize (n - 1 - j + y) % n = ti at *
    have hti2 : (ti : Int) < len0 := by omega
    have hti3 : (0 : Int) ≤ ti := by omega
    have hn0 : ¬ (n : Int) = 0 := by omega
    have hn0b : ((n : Int) == 0) = false := by rw [beq_eq_false_iff_ne]; omega
    go_wp2_with fail
    refine sb.mono ?_
    rintro e we ⟨rfl, vb2, hTb3, htb⟩
    have hTa3 := hTa2.other hTb2 htb n1.symm n2.symm hO2
    have hO3 := (off_own hTa2 htb hO2.symm).symm
    have hBe := Below.trans hBd (htb.below hTb2 hw2)
    generalize (addE 200 eb k2 1).1 = eb2 at hTb3 Q2
    generalize (addE 200 eb k2 1).2 = c2
    clear sb hTa2 hTb2 htb hBd hO2 hrem cw2
    go_wp2
    go_roundw
    case rel => exact ⟨j + 1, va2, vb2, ea2, eb2, by go_num, by omega, hTa3, hTb3, hO3, P2, Q2, hBe⟩
    case measure => simp [intOf]; omega

set_option maxRecDepth 100000 in
theorem lifted (os : Os) (started : os.Started) (H : Type) (enc : TypeId × Value → H) :
    ReturnsInHanded {} Try.checked os 4 .any (Rows.tableOrderSpec.pre6 enc Try.prog Try.f4 Rows.tableOrderRow.domain false) (Rows.tableOrderSpec.post enc Try.prog Try.f4 false true false false) := by
  refine returnsInHanded_of_change_sized (C := Try.checked) own started (by kernel_rfl) Try.func4
    (ChangeSpec.witness6 (enc := enc) (C := Try.checked) false ⟨#[], #[.slice none 0 0, .int .u8 0], []⟩ 8 (by kernel_rfl) (by kernel_rfl) (by kernel_rfl) (by kernel_rfl)) ?_
  intro W base args ds gs before hval0 hW hcnd hsz0 _
  have hsz : (DataW.weightsEach Try.prog (Try.f4.params.toList ++ Rows.tableOrderSpec.plain.varTypes Try.prog) (ds ++ gs)).all (· ≤ reachBytes) = true := hsz0
  clear hsz0
  have hval : ∀ (j : Nat) t v, Try.f4.params[j]? = some t → args[j]? = some v → Value.okWide Try.prog W .any base t v := hval0
  have hW' := hW
  obtain ⟨p, q, hA0, hV, rfl, hfz, hnd⟩ := hW
  have hA : DataW.TrodAll enc Try.prog W 0 (fun _ => true) true Try.f4.params.toList args.toList ds p := hA0
  rw [Try.params4] at hA hval hsz
  obtain ⟨v0, vs0, d0, ds0, p0, q0, hargs, rfl, rfl, h0, rr0⟩ := trodAll_cons hA
  obtain ⟨v1, vs1, d1, ds1, p1, q1, rfl, rfl, rfl, h1, rr1⟩ := trodAll_cons rr0
  obtain ⟨rfl, rfl, rfl⟩ := trodAll_nil rr1
  obtain rfl : args = #[v0, v1] := by cases args; simp_all
  obtain ⟨rfl, rfl⟩ := trodVars_none hV
  obtain ⟨a0, len0, cap0, rfl⟩ := okWide_slice Try.underlying41 (hval 0 41 v0 rfl rfl)
  have k0 := h0
  have lt0 : ∀ x ∈ p0, x.block < W.heap.size := by obtain ⟨m, hm⟩ := k0; exact DataW.trod_lt m _ _ _ hm
  obtain ⟨z0, r0, f0, b0⟩ := strs_in Try.underlying41 Try.underlying9 (by kernel_rfl) (B := 16) (by kernel_rfl) hsz (j := 0) rfl rfl h0
  obtain ⟨a1, rfl, rfl, rfl, w1⟩ := open_int Try.underlying5 (hval 1 5 v1 rfl rfl) h1
  clear hA0 hval0
  refine (walk W a0 len0 cap0 z0 r0 f0 b0 a1 w1).mono fun e W' ⟨he, bel⟩ => ?_
  subst he
  exact ⟨_, rfl, _, _, _, [], _, [], hW', trodAll_mk1 (shut_bool Try.underlying4 _), (trodAll_cons_mk (Below.trod laidOut (by kernel_rfl) (of_decide_eq_true (by kernel_rfl)) k0 bel lt0) (trodAll_cons_mk (shut_int Try.underlying5 w1) trodAll_mk0)), rfl, bel.frame _, fun h => by cases h⟩

theorem over : Rows.tableOrderRow.holds Try.pinned (OpenSpec.ofChange Rows.tableOrderSpec) :=
  OpenClaim.holds_of_wide 4 Try.f4 rfl rfl rfl rfl rfl rfl rfl ⟨rfl, rfl, rfl, rfl, rfl⟩ rfl rfl rfl rfl rfl (by kernel_rfl) Try.func4 (by kernel_rfl)
    (of_decide_eq_true (by kernel_rfl)) (by unfold Func.isWrapper; first | (rw [if_pos (by decide +kernel)]; kernel_rfl) | (rw [if_neg (by decide +kernel)]; exact ⟨rfl, rfl⟩))
    (fun os started H enc _ => lifted os started H enc)
end Go.Proofs.Ythnpeeiiekmkcaa.tableOrder
namespace Go.Proofs.Ythnpeeiiekmkcaa
theorem tableOrder_holds : Rows.TableOrderSaid := tableOrder.over
#print axioms tableOrder_holds
end Go.Proofs.Ythnpeeiiekmkcaa
