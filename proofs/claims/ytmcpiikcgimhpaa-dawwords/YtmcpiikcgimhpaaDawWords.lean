/- For every input DawWords answers true, and leaves its arguments as they were. Conditions: none. -/
import Derived.Test.YtmcpiikcgimhpaaRows
import Derived.Test.YtmcpiikcgimhpaaDawLaw
import Derived.Test.YtmcpiikcgimhpaaFound
import Derived.ProofKit
import Derived.OpenShut
import Derived.ShutString
import Derived.ChangeOld
import Derived.SizedLaws
import Derived.Deep.RegionHeld
import Derived.Deep.RegionHeld3
import Derived.Deep.QuietTactic
import Derived.BigQuiet
import Derived.Deep.Cut
import Derived.Deep.CutBlock
namespace Go.Proofs.Ytmcpiikcgimhpaa.dawWords
open Go.ChangeShapes Go.WideShapes Go.ChangeAt Go.RowKit
open Go.ChangeMaps (open_string shut_string)
set_option linter.unusedVariables false

theorem own : ownKnob Try.prog.godebug = none := by kernel_rfl
theorem laidOut : laidOutB Try.prog = true := by kernel_rfl


set_option maxRecDepth 100000 in
set_option maxHeartbeats 4000000 in
theorem walk (w : World) (a0 : Option Addr) (len0 cap0 : Nat) (z0 : List Wd) (r0 : Reads w a0 len0 cap0 (z0.map strV)) (f0 : ∀ z ∈ z0, z.length ≤ 140737488351232) (b0 : len0 * 16 ≤ 140737488351232) (a1 : ByteArray) (b1 : a1.size ≤ 140737488351232) (a2 : Int) (w2 : (Lit.int .u8 a2).wf = true) :
    Calls Try.prog 3 #[.slice a0 len0 cap0, .string a1, .int .u8 a2] w fun e w' => e = .returned (.bool true) ∧ Below w.heap.size w w' := by
  obtain ⟨k, rfl⟩ := str_list a1
  have hk : k.length ≤ 140737488351232 := by simpa [ByteArray.size] using b1
  have hy := bounds_u8 w2
  obtain ⟨mo, rfl⟩ := Int.eq_ofNat_of_zero_le (show 0 ≤ a2 by omega)
  have hmo : mo ≤ 255 := by omega
  have hml : len0 ≤ 9223372036854775807 := by have := Nat.le_trans r0.le r0.most; unfold maxLen at this; omega
  have Hk : Hid _ := hk
  have Hlx : Hid _ := strs_len r0
  have S0 : Hid _ := fun wa (h : Below w.heap.size w wa) => r0.later h (Nat.le_refl _)
  clear w2 hy f0 r0 b0 b1 hk
  go_enter Try.func3, Try.ntmps3
  go_wp2_with fail
  refine (shown_any w).mono ?_
  rintro e wa ⟨rfl, hB1⟩
  have pf := few14_any (S0.out wa hB1)
  have HB1 : Hid _ := hB1
  clear hB1
  cases hfew : fewS z0 with
  | false =>
    rw [hfew] at pf
    clear hfew
    go_wp2_with fail
    refine pf.mono ?_
    rintro e wb ⟨rfl, hw⟩
    obtain rfl := hw.symm
    clear pf
    go_wp2
    go_ret
    exact ⟨rfl, HB1.out⟩
  | true =>
    rw [hfew] at pf
    obtain ⟨hn6, hsum⟩ := few_sum hfew
    rw [Hlx.out] at hn6
    have pb := build_any (S0.out wa HB1.out) (by omega) (by omega)
    have Hsum : Hid _ := hsum
    clear hfew hsum
    go_wp2_with fail
    refine pf.mono ?_
    rintro e wb ⟨rfl, hw⟩
    obtain rfl := hw.symm
    clear pf
    rcases build_cases z0 with ⟨d, hd1, hd2, hq⟩ | ⟨hne, hri, hq⟩
    · rw [hq] at pb
      clear hq
      go_wp2_with fail
      refine pb.mono ?_
      rintro e wc ⟨ag, m, c, rfl, hr, hB2⟩
      have hm0 : m = 0 := hr.count.symm
      subst hm0
      have HB2 : Hid _ := HB1.out.trans (hB2.mono HB1.out.size)
      have hdn : ¬ (d : Int) = 0 := by omega
      clear pb hr hB2 HB1
      go_wp2
      go_ret
      exact ⟨rfl, HB2.out⟩
    · rw [hq] at pb
      have Hne : Hid _ := hne
      have Hri : Hid _ := hri
      clear hq hne hri
      go_wp2_with fail
      refine pb.mono ?_
      rintro e wc ⟨ag, m, c, rfl, hr, hB2⟩
      have HB2 : Hid _ := HB1.out.trans (hB2.mono HB1.out.size)
      have HR : Hid _ := hr
      have pw := words_any hr Hne.out Hri.out (by have := Hsum.out; omega) (mo : Nat) (by omega) (by omega)
      have hwr : ∃ wz d, wordsR z0 (mo : Nat) = (wz, d) ∧ d ≤ 6 ∧ ((((len0 : Int) ≤ mo) ∧ wz = z0 ∧ d = 0) ∨ ((¬ (len0 : Int) ≤ mo) ∧ wz = [] ∧ d = 6)) := by
        unfold wordsR
        rw [if_neg (by omega), Hlx.out]
        by_cases h : (mo : Int) < len0
        · rw [if_pos h]; exact ⟨_, _, rfl, by omega, .inr ⟨by omega, rfl, rfl⟩⟩
        · rw [if_neg h]; exact ⟨_, _, rfl, by omega, .inl ⟨by omega, rfl, rfl⟩⟩
      obtain ⟨wz, d, hwq, hd6, hwc⟩ := hwr
      rw [hwq] at pw
      have Hwc : Hid _ := hwc
      clear pb hr hB2 HB1 hwq hwc
      go_wp2_with fail
      refine pw.mono ?_
      rintro e wd ⟨ag1, m1, c1, rfl, hw1, hB3⟩
      have HB3 : Hid _ := HB2.out.trans (hB3.mono HB2.out.size)
      have HR3 : Hid _ := HR.out.later hB3 (Nat.le_refl _)
      have HW1 : Hid _ := hw1
      have pw2 := words_any HR3.out Hne.out Hri.out (by have := Hsum.out; omega) 100 (by omega) (by omega)
      rw [show wordsR z0 100 = (z0, 0) by unfold wordsR; rw [if_neg (by omega), Hlx.out, if_neg (by omega)]] at pw2
      clear pw hw1 hB3 HB2 HR
      go_wp2_with fail
      refine pw2.mono ?_
      rintro e we ⟨ag2, m2, c2, rfl, hw2, hB4⟩
      have HB4 : Hid _ := HB3.out.trans (hB4.mono HB3.out.size)
      have HR4 : Hid _ := HR3.out.later hB4 (Nat.le_refl _)
      have HW3 : Hid _ := HW1.out.later hB4 (Nat.le_refl _)
      have HW2 : Hid _ := hw2
      have hm2 : m2 = len0 := by rw [← strs_len hw2]; exact Hlx.out
      subst hm2
      have hws : ∀ wf, Below we.heap.size we wf → Reads wf a0 m2 cap0 (z0.map strV) := fun wf h => S0.out wf (HB4.out.trans (h.mono HB4.out.size))
      have HWS : Hid _ := hws
      clear pw2 hw2 hB4 HB3 HR3 HW1 hws
      go_wp2_with fail
      go_loopw [14, 15] (fun v i wr => ∃ (b : Bool) (j : Nat), v = .bool b ∧ i = .int .i64 (j : Nat) ∧ j ≤ m2 ∧ Hid (b = true ↔ k ∈ z0.take j) ∧ Hid (Below we.heap.size we wr)) (fun _ i _ => (m2 - intOf i).toNat)
      case atStart => exact ⟨false, 0, rfl, rfl, Nat.zero_le _, (by simp : false = true ↔ k ∈ z0.take 0), Below.refl _ _⟩
      case round =>
        obtain ⟨b, j, rfl, rfl, hj, hb, hB⟩ := hrel
        by_cases hjl : j < m2
        · have q1 : (j : Int) < m2 := by omega
          obtain ⟨bb, off, hao, hbl, hc⟩ := (HWS.out wr hB.out).atW (by omega)
          subst hao
          obtain ⟨p, hp⟩ : ∃ p, z0[j]? = some p := ⟨_, List.getElem?_eq_getElem (by rw [Hlx.out]; exact hjl)⟩
          have d2 := hc j p hp
          have hpm := List.mem_of_getElem? hp
          have ph := bhas_any (HR4.out.later hB.out (Nat.le_refl _)) (by have := Hsum.out; omega) p (by have := len_le_sum hpm; have := Hsum.out; omega)
          rw [decide_eq_true hpm] at ph
          have hst : ∀ x : Bool, (x = true ↔ (b = true ∨ p = k)) → (x = true ↔ k ∈ z0.take (j + 1)) := by
            intro x hx
            rw [hx, hb.out, List.take_add_one, hp]
            simp only [List.mem_append, Option.mem_toList, Option.some.injEq]
          have hxb : ∃ x : Bool, Hid (x = true ↔ k ∈ z0.take (j + 1)) ∧ ((b = true ∧ x = true) ∨ (b = false ∧ (p == k) = x)) := by
            cases b with
            | true => exact ⟨true, hst true (by simp), .inl ⟨rfl, rfl⟩⟩
            | false => exact ⟨(p == k), hst (p == k) (by simp), .inr ⟨rfl, rfl⟩⟩
          obtain ⟨x, hx, hxc⟩ := hxb
          have HXC : Hid _ := hxc
          clear hc hp hpm hst hb hxc hbl hjl
          go_upto_region 13 with (fail)
          go_cut [14] from 53 to 61 (fun v wq => v = .bool x ∧ wq = wr)
          case first =>
            rcases HXC.out with ⟨hz, hb⟩ | ⟨hz, hb⟩
            · subst hz hb
              clear HXC ph
              go_wp2_with fail
              go_meet
              case rel => exact ⟨rfl, rfl⟩
            · subst hz
              clear HXC ph
              go_wp2_with fail
              go_meet
              case rel => exact ⟨rfl, rfl⟩
          case rest =>
            obtain ⟨rfl, rfl⟩ := hcut
            clear HXC
            go_wp2_with fail
            refine ph.mono ?_
            rintro e wf ⟨rfl, hBf⟩
            have HBf : Hid _ := hB.out.trans (hBf.mono hB.out.size)
            clear ph hBf hB d2
            go_wp2
            go_roundw
            case rel => exact ⟨x, j + 1, rfl, by go_num, by omega, hx, HBf⟩
            case measure => simp [intOf]; omega
        · have q1 : ¬ (j : Int) < m2 := by omega
          have hje : j = m2 := by omega
          have hbk : decide (k ∈ z0) = b := by
            have h1 := hb.out
            rw [hje, List.take_of_length_le (by rw [Hlx.out]; exact Nat.le_refl _)] at h1
            cases b with
            | true => exact decide_eq_true (h1.1 rfl)
            | false => exact decide_eq_false fun h => by cases h1.2 h
          have HBr : Hid _ := hB.out
          have pm := dmay_any (HR4.out.later hB.out (Nat.le_refl _)) Hne.out Hri.out (by have := Hsum.out; omega)
          have PH : Hid _ := fun W (h : Below wr.heap.size wr W) => bhas_any (HR4.out.later (HBr.out.trans (h.mono HBr.out.size)) (Nat.le_refl _)) (by have := Hsum.out; omega) k Hk.out
          rw [hbk] at PH
          clear hb hje hbk hjl hB
          have hbb : (b == b) = true := by cases b <;> rfl
          have HWSr : Hid _ := fun wf (h : Below wr.heap.size wr wf) => HWS.out wf (HBr.out.trans (h.mono HBr.out.size))
          have HW2r : Hid _ := HW2.out.later HBr.out (Nat.le_refl _)
          have HW3r : Hid _ := HW3.out.later HBr.out (Nat.le_refl _)
          have HBz : Hid _ := HB4.out.trans (HBr.out.mono HB4.out.size)
          clear HWS HW2 HW3 HB4 HR4 S0
          go_wp2_with fail
          refine pm.mono ?_
          rintro e wf ⟨rfl, hB5⟩
          have HB5 : Hid _ := hB5
          clear pm hB5
          go_wp2_with fail
          refine (PH.out _ HB5.out).mono ?_
          rintro e wg ⟨rfl, hB6⟩
          have HB6 : Hid _ := HB5.out.trans (hB6.mono HB5.out.size)
          clear hB6 HB5 PH
          have ps := rsameS_any (HW2r.out.later HB6.out (Nat.le_refl _)) (HWSr.out wg HB6.out)
          rw [show decide (z0 = z0) = true by simp] at ps
          go_wp2_with fail
          refine ps.mono ?_
          rintro e wh ⟨rfl, q, hw⟩
          have hB7 : Below wg.heap.size wg wh := by rw [hw]; exact below_drewN (Below.refl _ _) q
          have HB7 : Hid _ := HB6.out.trans (hB7.mono HB6.out.size)
          clear ps hw hB7 HB6
          rcases Hwc.out with ⟨hfit, rfl, rfl⟩ | ⟨hfit, rfl, rfl⟩
          · have ps := rsameS_any (HW3r.out.later HB7.out (Nat.le_refl _)) (HWSr.out wh HB7.out)
            rw [show decide (wz = wz) = true by simp] at ps
            clear Hwc
            go_wp2_with fail
            refine ps.mono ?_
            rintro e wi ⟨rfl, q, hw⟩
            have hB8 : Below wh.heap.size wh wi := by rw [hw]; exact below_drewN (Below.refl _ _) q
            have HB8 : Hid _ := HB7.out.trans (hB8.mono HB7.out.size)
            have HBf : Hid _ := HBz.out.trans (HB8.out.mono HBz.out.size)
            clear ps hw hB8 HB8 HB7
            go_wp2
            go_ret
            exact ⟨rfl, HBf.out⟩
          · have hm1 : m1 = 0 := by have := strs_len HW3r.out; exact this.symm
            subst hm1
            have HBf : Hid _ := HBz.out.trans (HB7.out.mono HBz.out.size)
            clear Hwc HB7 HW3r
            go_wp2
            go_ret
            exact ⟨rfl, HBf.out⟩

set_option maxRecDepth 100000 in
theorem lifted (os : Os) (started : os.Started) (H : Type) (enc : TypeId × Value → H) :
    ReturnsInHanded {} Try.checked os 3 .any (Rows.dawWordsSpec.pre6 enc Try.prog Try.f3 Rows.dawWordsRow.domain false) (Rows.dawWordsSpec.post enc Try.prog Try.f3 false true false false) := by
  refine returnsInHanded_of_change_sized (C := Try.checked) own started (by kernel_rfl) Try.func3
    (ChangeSpec.witness6 (enc := enc) (C := Try.checked) false ⟨#[], #[.slice none 0 0, .string ByteArray.empty, .int .u8 0], []⟩ 8 (by kernel_rfl) (by kernel_rfl) (by kernel_rfl) (by kernel_rfl)) ?_
  intro W base args ds gs before hval0 hW hcnd hsz0 _
  have hsz : (DataW.weightsEach Try.prog (Try.f3.params.toList ++ Rows.dawWordsSpec.plain.varTypes Try.prog) (ds ++ gs)).all (· ≤ reachBytes) = true := hsz0
  clear hsz0
  have hval : ∀ (j : Nat) t v, Try.f3.params[j]? = some t → args[j]? = some v → Value.okWide Try.prog W .any base t v := hval0
  have hW' := hW
  obtain ⟨p, q, hA0, hV, rfl, hfz, hnd⟩ := hW
  have hA : DataW.TrodAll enc Try.prog W 0 (fun _ => true) true Try.f3.params.toList args.toList ds p := hA0
  rw [Try.params3] at hA hval hsz
  obtain ⟨v0, vs0, d0, ds0, p0, q0, hargs, rfl, rfl, h0, rr0⟩ := trodAll_cons hA
  obtain ⟨v1, vs1, d1, ds1, p1, q1, rfl, rfl, rfl, h1, rr1⟩ := trodAll_cons rr0
  obtain ⟨v2, vs2, d2, ds2, p2, q2, rfl, rfl, rfl, h2, rr2⟩ := trodAll_cons rr1
  obtain ⟨rfl, rfl, rfl⟩ := trodAll_nil rr2
  obtain rfl : args = #[v0, v1, v2] := by cases args; simp_all
  obtain ⟨rfl, rfl⟩ := trodVars_none hV
  obtain ⟨a0, len0, cap0, rfl⟩ := okWide_slice Try.underlying22 (hval 0 22 v0 rfl rfl)
  have k0 := h0
  have lt0 : ∀ x ∈ p0, x.block < W.heap.size := by obtain ⟨m, hm⟩ := k0; exact DataW.trod_lt m _ _ _ hm
  obtain ⟨z0, r0, f0, b0⟩ := strs_in Try.underlying22 Try.underlying9 (by kernel_rfl) (B := 16) (by kernel_rfl) hsz (j := 0) rfl rfl h0
  obtain ⟨a1, rfl, rfl, rfl, w1⟩ := open_string Try.underlying9 (hval 1 9 v1 rfl rfl) h1
  have b1 : a1.size ≤ 140737488351232 := by have := sized_string hsz (j := 1) (t := 9) rfl rfl; simpa [reachBytes] using this
  obtain ⟨a2, rfl, rfl, rfl, w2⟩ := open_int Try.underlying5 (hval 2 5 v2 rfl rfl) h2
  clear hA0 hval0
  refine (walk W a0 len0 cap0 z0 r0 f0 b0 a1 b1 a2 w2).mono fun e W' ⟨he, bel⟩ => ?_
  subst he
  exact ⟨_, rfl, _, _, _, [], _, [], hW', trodAll_mk1 (shut_bool Try.underlying4 _), (trodAll_cons_mk (Below.trod laidOut (by kernel_rfl) (of_decide_eq_true (by kernel_rfl)) k0 bel lt0) (trodAll_cons_mk (shut_string Try.underlying9 w1) (trodAll_cons_mk (shut_int Try.underlying5 w2) trodAll_mk0))), rfl, bel.frame _, fun h => by cases h⟩

theorem over : Rows.dawWordsRow.holds Try.pinned (OpenSpec.ofChange Rows.dawWordsSpec) :=
  OpenClaim.holds_of_wide 3 Try.f3 rfl rfl rfl rfl rfl rfl rfl ⟨rfl, rfl, rfl, rfl, rfl⟩ rfl rfl rfl rfl rfl (by kernel_rfl) Try.func3 (by kernel_rfl)
    (of_decide_eq_true (by kernel_rfl)) (by unfold Func.isWrapper; first | (rw [if_pos (by decide +kernel)]; kernel_rfl) | (rw [if_neg (by decide +kernel)]; exact ⟨rfl, rfl⟩))
    (fun os started H enc _ => lifted os started H enc)
end Go.Proofs.Ytmcpiikcgimhpaa.dawWords
namespace Go.Proofs.Ytmcpiikcgimhpaa
theorem dawWords_holds : Rows.DawWordsSaid := dawWords.over
#print axioms dawWords_holds
end Go.Proofs.Ytmcpiikcgimhpaa
