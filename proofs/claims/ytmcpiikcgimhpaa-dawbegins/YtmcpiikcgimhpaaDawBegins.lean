/- For every input DawBegins answers true, and leaves its arguments as they were. Conditions: none. -/
import Derived.Test.YtmcpiikcgimhpaaRows
import Derived.Test.YtmcpiikcgimhpaaDawLaw
import Derived.Test.YtmcpiikcgimhpaaFound
import Derived.ProofKit
import Derived.OpenShut
import Derived.ShutString
import Derived.ChangeOld
import Derived.SizedLaws
import Derived.Deep.RegionHeld
import Derived.Deep.RegionHeld3
import Derived.Deep.QuietTactic
import Derived.BigQuiet
import Derived.Deep.Cut
import Derived.Deep.CutBlock
namespace Go.Proofs.Ytmcpiikcgimhpaa.dawBegins
open Go.ChangeShapes Go.WideShapes Go.ChangeAt Go.RowKit
open Go.ChangeMaps (open_string shut_string)
set_option linter.unusedVariables false

theorem own : ownKnob Try.prog.godebug = none := by kernel_rfl
theorem laidOut : laidOutB Try.prog = true := by kernel_rfl

theorem mem_step {x : List Wd} {j : Nat} {p k : Wd} (h : x[j]? = some p) {b c : Bool} (hb : b = true ↔ k ∈ x.take j) (hc : c = true ↔ (b = true ∨ p = k)) : c = true ↔ k ∈ x.take (j + 1) := by
  rw [hc, hb, List.take_add_one, h]
  simp only [List.mem_append, Option.mem_toList, Option.some.injEq]
theorem mem_way {b : Bool} {p k : Wd} : ∃ c : Bool, (c = true ↔ (b = true ∨ p = k)) ∧ ((b = true ∧ c = true) ∨ (b = false ∧ (p == k) = c)) := by
  cases b with
  | true => exact ⟨true, by simp, .inl ⟨rfl, rfl⟩⟩
  | false => exact ⟨(p == k), by simp, .inr ⟨rfl, rfl⟩⟩
theorem mem_all {x : List Wd} {n : Nat} (hn : x.length = n) {k : Wd} {b : Bool} (hb : b = true ↔ k ∈ x.take n) : decide (k ∈ x) = b := by
  rw [List.take_of_length_le (by omega)] at hb
  cases b with
  | true => exact decide_eq_true (hb.1 rfl)
  | false => exact decide_eq_false fun h => by cases hb.2 h

set_option maxRecDepth 100000 in
set_option maxHeartbeats 4000000 in
theorem walk (w : World) (a0 : Option Addr) (len0 cap0 : Nat) (z0 : List Wd) (r0 : Reads w a0 len0 cap0 (z0.map strV)) (f0 : ∀ z ∈ z0, z.length ≤ 140737488351232) (b0 : len0 * 16 ≤ 140737488351232) (a1 : Int) (w1 : (Lit.int .u8 a1).wf = true) (a2 : Int) (w2 : (Lit.int .u8 a2).wf = true) (a3 : ByteArray) (b3 : a3.size ≤ 140737488351232) :
    Calls Try.prog 5 #[.slice a0 len0 cap0, .int .u8 a1, .int .u8 a2, .string a3] w fun e w' => e = .returned (.bool true) ∧ Below w.heap.size w w' := by
  obtain ⟨mr, rfl⟩ := str_list a3
  have hx := bounds_u8 w1
  have hy := bounds_u8 w2
  obtain ⟨at1, rfl⟩ := Int.eq_ofNat_of_zero_le (show 0 ≤ a1 by omega)
  obtain ⟨ct, rfl⟩ := Int.eq_ofNat_of_zero_le (show 0 ≤ a2 by omega)
  have ha1 : at1 ≤ 255 := by omega
  have hc1 : ct ≤ 255 := by omega
  have hml : len0 ≤ 9223372036854775807 := by have := Nat.le_trans r0.le r0.most; unfold maxLen at this; omega
  have hmr : mr.length ≤ 140737488351232 := by simpa [ByteArray.size] using b3
  have Hlx : Hid _ := strs_len r0
  have S0 : Hid _ := fun wa (h : Below w.heap.size w wa) => r0.later h (Nat.le_refl _)
  clear w1 w2 hx hy f0 r0 b0 b3
  go_enter Try.func5, Try.ntmps5
  go_wp2_with fail
  refine (shown_any w).mono ?_
  rintro e wa ⟨rfl, hB1⟩
  have pf := few14_any (S0.out wa hB1)
  have HB1 : Hid _ := hB1
  clear hB1
  by_cases hgo : fewS z0 = true ∧ 1 ≤ len0 ∧ mr.length ≤ 20
  case neg =>
    have hsp : fewS z0 = false ∨ (fewS z0 = true ∧ len0 = 0) ∨ (fewS z0 = true ∧ ((len0 : Int) == 0) = false ∧ (20 : Int) < mr.length) := by
      cases hf : fewS z0 with
      | false => exact .inl rfl
      | true =>
        by_cases h0 : len0 = 0
        · exact .inr (.inl ⟨rfl, h0⟩)
        · refine .inr (.inr ⟨rfl, by rw [beq_eq_false_iff_ne]; omega, ?_⟩)
          by_cases h2 : mr.length ≤ 20
          · exact absurd ⟨hf, by omega, h2⟩ hgo
          · omega
    clear hgo
    rcases hsp with hf | ⟨hf, rfl⟩ | ⟨hf, i1, i2⟩
    all_goals
      rw [hf] at pf
      clear hf
      go_wp2_with fail
      refine pf.mono ?_
      rintro e wb ⟨rfl, hw⟩
      obtain rfl := hw.symm
      clear pf
      go_wp2
      go_ret
      exact ⟨rfl, HB1.out⟩
  obtain ⟨hfew, hl1, hmr2⟩ := hgo
  rw [hfew] at pf
  have Hf20 : Hid _ := (fewS_iff.1 hfew).2
  obtain ⟨hn6, hsum⟩ := few_sum hfew
  rw [Hlx.out] at hn6
  have pb := build_any (S0.out wa HB1.out) (by omega) (by omega)
  have Hsum : Hid _ := hsum
  have i1 : ((len0 : Int) == 0) = false := by rw [beq_eq_false_iff_ne]; omega
  have i2 : ¬ (20 : Int) < mr.length := by omega
  have i3 : ¬ (len0 : Int) = 0 := by omega
  clear hfew hsum hmr
  go_wp2_with fail
  refine pf.mono ?_
  rintro e wb ⟨rfl, hw⟩
  obtain rfl := hw.symm
  clear pf
  rcases build_cases z0 with ⟨d, hd1, hd2, hq⟩ | ⟨hne, hri, hq⟩
  · rw [hq] at pb
    clear hq
    go_wp2_with fail
    refine pb.mono ?_
    rintro e wc ⟨ag, m, c, rfl, hr, hB2⟩
    have HB2 : Hid _ := HB1.out.trans (hB2.mono HB1.out.size)
    have hdn : ¬ (d : Int) = 0 := by omega
    clear pb hr hB2 HB1
    go_wp2
    go_ret
    exact ⟨rfl, HB2.out⟩
  rw [hq] at pb
  clear hq hne hri
  go_wp2_with fail
  refine pb.mono ?_
  rintro e wk ⟨ag, m, c, rfl, hr, hB2⟩
  have HB2 : Hid _ := HB1.out.trans (hB2.mono HB1.out.size)
  have HR : Hid _ := hr
  have hws := S0.out wk HB2.out
  obtain ⟨bb, off, hao, hbl, hc⟩ := hws.atW (by omega)
  subst hao
  have Hc : Hid _ := hc
  obtain ⟨ix, hix⟩ : ∃ ix, ix = at1 % len0 := ⟨_, rfl⟩
  have eix : (at1 : Int) % len0 = (ix : Nat) := by rw [hix]; exact (Int.natCast_emod _ _).symm
  have hixl : ix < len0 := by rw [hix]; exact Nat.mod_lt _ (by omega)
  obtain ⟨p, hp⟩ : ∃ p, z0[ix]? = some p := ⟨_, List.getElem?_eq_getElem (by rw [Hlx.out]; exact hixl)⟩
  have d1 := hc ix p hp
  have hp20 := Hf20.out p (List.mem_of_getElem? hp)
  obtain ⟨cu, hcu⟩ : ∃ cu, cu = ct % (p.length + 1) := ⟨_, rfl⟩
  have hcul : cu ≤ p.length := by have := Nat.mod_lt ct (show p.length + 1 > 0 by omega); omega
  obtain ⟨p1, hp1⟩ : ∃ p1, p1 = p.length + 1 := ⟨_, rfl⟩
  have ep1 : (p.length : Int) + 1 = (p1 : Nat) := by omega
  have ecu : (ct : Int) % p1 = (cu : Nat) := by rw [hcu, hp1]; exact (Int.natCast_emod _ _).symm
  have hp1n : ¬ (p1 : Int) = 0 := by omega
  have hstr : ∀ W, (Instr.slice 9 (strV p) none (some (.int .i64 (cu : Int))) none).run Try.prog W = .ok (strV (p.take cu)) W := fun W => by
    unfold strV
    rw [run_slice_string_h W 9 _ Try.underlying9 .i64 (cu : Int) (by omega) (by simp [ByteArray.size]; omega), Int.toNat_natCast]
    congr 2
    apply ByteArray.ext
    simp
  have hcat : ∀ W, (Op.stringOp .add ⟨p.toArray⟩ ⟨mr.toArray⟩).run Try.prog W = .ok (strV (p ++ mr)) W := fun W => by
    rw [run_string_add_sum W _ _ (by simp [ByteArray.size]; omega), ByteArray.mk_append_mk]
  have Hl1 : Hid ((p.take cu).length ≤ 140737488351232 ∧ (p ++ mr).length ≤ 140737488351232) := by constructor <;> simp <;> omega
  obtain ⟨be, hbe⟩ : ∃ x, x = p.take cu := ⟨_, rfl⟩
  obtain ⟨lo, hlo⟩ : ∃ x, x = p ++ mr := ⟨_, rfl⟩
  rw [← hbe] at hstr Hl1
  rw [← hlo] at hcat Hl1
  clear pb hr hB2 HB1 hws hc hp hbl hix hcu hp1 S0 Hf20 hbe hlo
  go_wp2_with fail
  clear eix ecu ep1 hp1n i3
  go_loopw [15, 16, 17] (fun v u i wr => ∃ (b1 b2 : Bool) (j : Nat), v = .bool b1 ∧ u = .bool b2 ∧ i = .int .i64 (j : Nat) ∧ j ≤ len0 ∧ Hid (b1 = true ↔ be ∈ z0.take j) ∧ Hid (b2 = true ↔ lo ∈ z0.take j) ∧ Hid (wr = wk)) (fun _ _ i _ => (len0 - intOf i).toNat)
  case atStart => exact ⟨false, false, 0, rfl, rfl, rfl, Nat.zero_le _, (by simp : false = true ↔ be ∈ z0.take 0), (by simp : false = true ↔ lo ∈ z0.take 0), rfl⟩
  case round =>
    obtain ⟨b1, b2, j, rfl, rfl, rfl, hj, hb1, hb2, hw⟩ := hrel
    by_cases hjl : j < len0
    · have q1 : (j : Int) < len0 := by omega
      obtain ⟨q, hq⟩ : ∃ p, z0[j]? = some p := ⟨_, List.getElem?_eq_getElem (by rw [Hlx.out]; exact hjl)⟩
      have d2 : wr.cell? ⟨bb, off + j, none⟩ = some (strV q) := by rw [hw.out]; exact Hc.out j q hq
      obtain ⟨x1, hx1, hy1⟩ := mem_way (b := b1) (p := q) (k := be)
      obtain ⟨x2, hx2, hy2⟩ := mem_way (b := b2) (p := q) (k := lo)
      have HX1 : Hid _ := mem_step hq hb1.out hx1
      have HX2 : Hid _ := mem_step hq hb2.out hx2
      have HY1 : Hid _ := hy1
      have HY2 : Hid _ := hy2
      clear hq hx1 hx2 hy1 hy2 hb1 hb2 hjl hstr hcat
      go_upto_region 15 with (fail)
      go_cut [15] from 66 to 74 (fun v wq => v = .bool x1 ∧ wq = wr)
      case first =>
        rcases HY1.out with ⟨hz, hb⟩ | ⟨hz, hb⟩
        · subst hz hb
          clear HY1 HY2
          go_wp2_with fail
          go_meet
          case rel => exact ⟨rfl, rfl⟩
        · subst hz
          clear HY1 HY2
          go_wp2_with fail
          go_meet
          case rel => exact ⟨rfl, rfl⟩
      case rest =>
        obtain ⟨rfl, hwq⟩ := hcut
        have Hq : Hid _ := hwq
        have d3 : wc.cell? ⟨bb, off + j, none⟩ = some (strV q) := by rw [hwq]; exact d2
        clear hwq d2 HY1
        have HWC : Hid (wc = wk) := Hq.out.trans hw.out
        clear Hq
        rcases HY2.out with ⟨hz, hb⟩ | ⟨hz, hb⟩
        · subst hz hb
          clear HY2
          go_wp2
          go_roundw
          case rel => exact ⟨x1, true, j + 1, rfl, rfl, by go_num, by omega, HX1, HX2, HWC⟩
          case measure => simp [intOf]; omega
        · subst hz
          clear HY2
          go_wp2
          go_roundw
          case rel => exact ⟨x1, x2, j + 1, rfl, rfl, by go_num, by omega, HX1, HX2, HWC⟩
          case measure => simp [intOf]; omega
    · have q1 : ¬ (j : Int) < len0 := by omega
      have hje : j = len0 := by omega
      have h1 := mem_all Hlx.out (k := be) (b := b1) (by rw [← hje]; exact hb1.out)
      have h2 := mem_all Hlx.out (k := lo) (b := b2) (by rw [← hje]; exact hb2.out)
      have hr : ReadsA wr ag m c (zA (buildL z0)) := by rw [hw.out]; exact HR.out
      have ph1 := bhas_any hr (by have := Hsum.out; omega) be Hl1.out.1
      rw [h1] at ph1
      have PH2 : Hid _ := fun W (h : Below wr.heap.size wr W) => bhas_any (hr.later h (Nat.le_refl _)) (by have := Hsum.out; omega) lo Hl1.out.2
      rw [h2] at PH2
      have HB3 : Hid (Below w.heap.size w wr) := by show Below _ _ _; rw [hw.out]; exact HB2.out
      have hbb1 : (b1 == b1) = true := by cases b1 <;> rfl
      have hbb2 : (b2 == b2) = true := by cases b2 <;> rfl
      clear h1 h2 hje hjl hb1 hb2 hr hw HB2 hstr hcat d1
      go_wp2_with fail
      refine ph1.mono ?_
      rintro e wf ⟨rfl, hB5⟩
      have HB5 : Hid _ := hB5
      clear ph1 hB5
      go_wp2_with fail
      refine (PH2.out _ HB5.out).mono ?_
      rintro e wg ⟨rfl, hB6⟩
      have HB6 : Hid _ := HB3.out.trans ((HB5.out.trans (hB6.mono HB5.out.size)).mono HB3.out.size)
      clear hB6 HB5 PH2
      go_wp2
      go_ret
      exact ⟨rfl, HB6.out⟩

set_option maxRecDepth 100000 in
theorem lifted (os : Os) (started : os.Started) (H : Type) (enc : TypeId × Value → H) :
    ReturnsInHanded {} Try.checked os 5 .any (Rows.dawBeginsSpec.pre6 enc Try.prog Try.f5 Rows.dawBeginsRow.domain false) (Rows.dawBeginsSpec.post enc Try.prog Try.f5 false true false false) := by
  refine returnsInHanded_of_change_sized (C := Try.checked) own started (by kernel_rfl) Try.func5
    (ChangeSpec.witness6 (enc := enc) (C := Try.checked) false ⟨#[], #[.slice none 0 0, .int .u8 0, .int .u8 0, .string ByteArray.empty], []⟩ 8 (by kernel_rfl) (by kernel_rfl) (by kernel_rfl) (by kernel_rfl)) ?_
  intro W base args ds gs before hval0 hW hcnd hsz0 _
  have hsz : (DataW.weightsEach Try.prog (Try.f5.params.toList ++ Rows.dawBeginsSpec.plain.varTypes Try.prog) (ds ++ gs)).all (· ≤ reachBytes) = true := hsz0
  clear hsz0
  have hval : ∀ (j : Nat) t v, Try.f5.params[j]? = some t → args[j]? = some v → Value.okWide Try.prog W .any base t v := hval0
  have hW' := hW
  obtain ⟨p, q, hA0, hV, rfl, hfz, hnd⟩ := hW
  have hA : DataW.TrodAll enc Try.prog W 0 (fun _ => true) true Try.f5.params.toList args.toList ds p := hA0
  rw [Try.params5] at hA hval hsz
  obtain ⟨v0, vs0, d0, ds0, p0, q0, hargs, rfl, rfl, h0, rr0⟩ := trodAll_cons hA
  obtain ⟨v1, vs1, d1, ds1, p1, q1, rfl, rfl, rfl, h1, rr1⟩ := trodAll_cons rr0
  obtain ⟨v2, vs2, d2, ds2, p2, q2, rfl, rfl, rfl, h2, rr2⟩ := trodAll_cons rr1
  obtain ⟨v3, vs3, d3, ds3, p3, q3, rfl, rfl, rfl, h3, rr3⟩ := trodAll_cons rr2
  obtain ⟨rfl, rfl, rfl⟩ := trodAll_nil rr3
  obtain rfl : args = #[v0, v1, v2, v3] := by cases args; simp_all
  obtain ⟨rfl, rfl⟩ := trodVars_none hV
  obtain ⟨a0, len0, cap0, rfl⟩ := okWide_slice Try.underlying22 (hval 0 22 v0 rfl rfl)
  have k0 := h0
  have lt0 : ∀ x ∈ p0, x.block < W.heap.size := by obtain ⟨m, hm⟩ := k0; exact DataW.trod_lt m _ _ _ hm
  obtain ⟨z0, r0, f0, b0⟩ := strs_in Try.underlying22 Try.underlying9 (by kernel_rfl) (B := 16) (by kernel_rfl) hsz (j := 0) rfl rfl h0
  obtain ⟨a1, rfl, rfl, rfl, w1⟩ := open_int Try.underlying5 (hval 1 5 v1 rfl rfl) h1
  obtain ⟨a2, rfl, rfl, rfl, w2⟩ := open_int Try.underlying5 (hval 2 5 v2 rfl rfl) h2
  obtain ⟨a3, rfl, rfl, rfl, w3⟩ := open_string Try.underlying9 (hval 3 9 v3 rfl rfl) h3
  have b3 : a3.size ≤ 140737488351232 := by have := sized_string hsz (j := 3) (t := 9) rfl rfl; simpa [reachBytes] using this
  clear hA0 hval0
  refine (walk W a0 len0 cap0 z0 r0 f0 b0 a1 w1 a2 w2 a3 b3).mono fun e W' ⟨he, bel⟩ => ?_
  subst he
  exact ⟨_, rfl, _, _, _, [], _, [], hW', trodAll_mk1 (shut_bool Try.underlying4 _), (trodAll_cons_mk (Below.trod laidOut (by kernel_rfl) (of_decide_eq_true (by kernel_rfl)) k0 bel lt0) (trodAll_cons_mk (shut_int Try.underlying5 w1) (trodAll_cons_mk (shut_int Try.underlying5 w2) (trodAll_cons_mk (shut_string Try.underlying9 w3) trodAll_mk0)))), rfl, bel.frame _, fun h => by cases h⟩

theorem over : Rows.dawBeginsRow.holds Try.pinned (OpenSpec.ofChange Rows.dawBeginsSpec) :=
  OpenClaim.holds_of_wide 5 Try.f5 rfl rfl rfl rfl rfl rfl rfl ⟨rfl, rfl, rfl, rfl, rfl⟩ rfl rfl rfl rfl rfl (by kernel_rfl) Try.func5 (by kernel_rfl)
    (of_decide_eq_true (by kernel_rfl)) (by unfold Func.isWrapper; first | (rw [if_pos (by decide +kernel)]; kernel_rfl) | (rw [if_neg (by decide +kernel)]; exact ⟨rfl, rfl⟩))
    (fun os started H enc _ => lifted os started H enc)
end Go.Proofs.Ytmcpiikcgimhpaa.dawBegins
namespace Go.Proofs.Ytmcpiikcgimhpaa
theorem dawBegins_holds : Rows.DawBeginsSaid := dawBegins.over
#print axioms dawBegins_holds
end Go.Proofs.Ytmcpiikcgimhpaa
