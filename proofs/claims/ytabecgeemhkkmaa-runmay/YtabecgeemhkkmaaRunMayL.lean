/- For every input RunMay answers true, and leaves its arguments as they were. Conditions: none. -/
import Derived.Test.YtabecgeemhkkmaaRows
import Derived.Test.YtabecgeemhkkmaaRunLaw
import Derived.Test.YtabecgeemhkkmaaOpen09
import Derived.ProofKit
import Derived.OpenShut
import Derived.ShutString
import Derived.ChangeOld
import Derived.SizedLaws
import Derived.Deep.RegionHeld
import Derived.Deep.RegionHeld3
import Derived.Deep.QuietTactic
import Derived.BigQuiet
import Derived.Deep.Cut
import Derived.Deep.CutBlock
namespace Go.Proofs.Ytabecgeemhkkmaa.runMay
open Go.ChangeShapes Go.WideShapes Go.ChangeAt Go.RowKit
open Go.ChangeMaps (open_string shut_string)
set_option linter.unusedVariables false

theorem own : ownKnob Try.prog.godebug = none := by kernel_rfl
theorem laidOut : laidOutB Try.prog = true := by kernel_rfl

theorem may_one (e : En) : mayE [e] = if oneE e = true then 0 else 1 := by
  unfold mayE
  by_cases h : oneE e = true
  · simp [h, upsE]
  · simp [h]
def AllP (z : List En) (j : Nat) (p : Bool) : Prop := p = true ↔ (z.take j).all oneE = true
def UpP (z : List En) (j : Nat) (q : Bool) : Prop := q = true ↔ ∀ (i : Nat) a b, i + 1 < j → z[i]? = some a → z[i + 1]? = some b → lessB a.1 b.1 = true
theorem all_start (z : List En) : AllP z 0 true := ⟨fun _ => rfl, fun _ => rfl⟩
theorem up_start (z : List En) : UpP z 0 true := ⟨fun _ i a b hi => by omega, fun _ => rfl⟩
theorem all_stay {z : List En} {j : Nat} (h : AllP z j false) : AllP z (j + 1) false := by
  constructor
  · intro h; cases h
  · intro hh
    rw [List.take_add_one, List.all_append] at hh
    simp only [Bool.and_eq_true] at hh
    exact h.2 hh.1
theorem all_next {z : List En} {j : Nat} {e : En} (h : AllP z j true) (he : z[j]? = some e) : AllP z (j + 1) (oneE e) := by
  have h1 := h.1 rfl
  unfold AllP
  rw [List.take_add_one, he, List.all_append, h1]
  simp
theorem up_stay {z : List En} {j : Nat} (h : UpP z j false) : UpP z (j + 1) false := by
  constructor
  · intro h; cases h
  · intro hh
    exact h.2 fun i a b hi ha hb => hh i a b (by omega) ha hb
theorem up_one {z : List En} : UpP z (0 + 1) true := ⟨fun _ i a b hi => by omega, fun _ => rfl⟩
theorem up_next {z : List En} {j : Nat} {p e : En} (h : UpP z (j + 1) true) (hp : z[j]? = some p) (he : z[j + 1]? = some e) : UpP z (j + 1 + 1) (lessB p.1 e.1) := by
  constructor
  · intro hlk i a b hi ha hb
    rcases Nat.lt_or_ge (i + 1) (j + 1) with h1 | h1
    · exact h.1 rfl i a b h1 ha hb
    · have hik : i = j := by omega
      subst hik
      rw [hp] at ha
      rw [he] at hb
      cases ha
      cases hb
      exact hlk
  · intro hh
    exact hh j _ _ (by omega) hp he
theorem may_end {z : List En} {p q : Bool} (h1 : AllP z z.length p) (h2 : UpP z z.length q) : mayE z = if p = true then (if q = true then 0 else 9) else 1 := by
  unfold AllP at h1
  unfold UpP at h2
  rw [List.take_of_length_le (Nat.le_refl _)] at h1
  have h3 : q = true ↔ upsE z = true := h2.trans ⟨fun h => (ups_iff z).2 fun i a b ha hb => h i a b (by have := (List.getElem?_eq_some_iff.1 hb).1; omega) ha hb, fun h i a b _ ha hb => (ups_iff z).1 h i a b ha hb⟩
  unfold mayE
  by_cases ha : z.all oneE = true
  · rw [if_pos ha, if_pos (h1.2 ha)]
    by_cases hu : upsE z = true
    · rw [if_pos hu, if_pos (h3.2 hu)]
    · rw [if_neg hu, if_neg (fun hh => hu (h3.1 hh))]
  · rw [if_neg ha, if_neg (fun hh => ha (h1.1 hh))]

set_option maxRecDepth 100000 in
set_option maxHeartbeats 4000000 in
theorem walk (w : World) (a0 : Option Addr) (len0 cap0 : Nat) (z0 : List En) (r0 : ReadsE w a0 len0 cap0 (cellsE z0)) (f0 : ∀ z ∈ z0, z.1.length ≤ 140737488351232 ∧ z.2 ≤ 18446744073709551615) (b0 : len0 * 24 ≤ 140737488351232) :
    Calls Try.prog 6 #[.slice a0 len0 cap0] w fun e w' => e = .returned (.bool true) ∧ Below w.heap.size w w' := by
  have hw : ∀ e ∈ z0, e.1.length ≤ 140737488355328 := fun e he => by have := (f0 e he).1; omega
  have hb : ∀ e ∈ z0, e.2 ≤ 18446744073709551615 := fun e he => (f0 e he).2
  have hl : len0 ≤ 1000000000000000 := by omega
  have hz0 := r0.count
  subst hz0
  clear b0 f0
  go_enter Try.func6, Try.ntmps6
  go_wp2_with fail
  refine (shown_any w).mono ?_
  rintro e w1 ⟨rfl, hB1⟩
  have hr1 := r0.later hB1 (Nat.le_refl _)
  have pf := few_any hr1 hw hl
  go_wp2_with fail
  refine pf.mono ?_
  rintro e w2 ⟨rfl, rfl⟩
  clear pf
  cases hfe : fewE z0 with
  | false =>
    go_wp2
    go_ret
    exact ⟨rfl, hB1⟩
  | true =>
    obtain ⟨hf1, hf2⟩ := few_iff.1 hfe
    have hcap := r0.le
    clear hfe hf2 hr1
    go_wp2_with fail
    go_loopw [4, 5, 6] (fun pv qv iv wr => ∃ (j : Nat) (p q : Bool), iv = .int .i64 (j : Nat) ∧ pv = .bool p ∧ qv = .bool q ∧ j ≤ z0.length ∧ AllP z0 j p ∧ UpP z0 j q ∧ Below w.heap.size w wr) (fun _ _ iv _ => (z0.length - intOf iv).toNat)
    case atStart => exact ⟨0, true, true, rfl, rfl, rfl, Nat.zero_le _, all_start z0, up_start z0, hB1⟩
    case round =>
      obtain ⟨j, p, q, rfl, rfl, rfl, hj, hA, hQ, hB⟩ := hrel
      clear hB1
      by_cases hjl : j < z0.length
      case neg =>
        have hje : j = z0.length := by omega
        have hlt : ¬ (j : Int) < z0.length := by omega
        have hM : Hid (mayE z0 = if p = true then (if q = true then 0 else 9) else 1) := by rw [hje] at hA hQ; exact may_end hA hQ
        have pm := may_any (r0.later hB (Nat.le_refl _)) hb hw
        rw [hM.out] at pm
        clear hA hQ hM hje hjl
        go_wp2_with fail
        refine pm.mono ?_
        rintro e w3 ⟨rfl, hG3⟩
        have hB3 := hB.trans (hG3.mono hB.size)
        clear pm hG3
        cases p <;> cases q
        all_goals go_wp2
        all_goals go_ret
        all_goals exact ⟨rfl, hB3⟩
      have hji : (j : Int) < z0.length := by omega
      obtain ⟨⟨ek, en⟩, he⟩ : ∃ e, z0[j]? = some e := ⟨_, List.getElem?_eq_getElem hjl⟩
      obtain ⟨b, off, hao, hbl, hc⟩ := r0.at (by omega)
      obtain ⟨x1, hs1, hd1⟩ := ReadsE.mid (P := Try.prog) Try.underlying22 Try.sizeEn2 (ao := a0) (len := z0.length) (cap := cap0) hcap j (j + 1) (by omega) (by omega)
      have hr1 := hd1 wr _ (r0.later hB (Nat.le_refl _))
      have heb : ((cellsE z0).drop (j * 2)).take ((j + 1 - j) * 2) = cellsE [(ek, en)] := by
        rw [cells_drop, cells_take]
        congr 1
        rw [show j + 1 - j = 1 by omega, List.drop_eq_getElem_cons hjl]
        have := (List.getElem?_eq_some_iff.1 he).2
        simp [this]
      rw [heb] at hr1
      rw [show j + 1 - j = 1 by omega] at hr1 hs1
      have hs1' : ∀ W, (Instr.slice 22 (.slice a0 z0.length cap0) (some (.int .i64 (j : Nat))) (some (.int .i64 ((j : Int) + 1))) none).run Try.prog W = .ok (.slice x1 1 (cap0 - j)) W := fun W => hs1 W
      have po := may_any hr1 (fun e hm => by simp at hm; subst hm; exact hb _ (List.mem_of_getElem? he)) (fun e hm => by simp at hm; subst hm; exact hw _ (List.mem_of_getElem? he))
      rw [may_one] at po
      obtain ⟨p', hP, hpo⟩ : ∃ p' : Bool, Hid ((p = false → p' = false) ∧ (p = true → p' = oneE (ek, en))) ∧ AllP z0 (j + 1) p' := by
        cases p with
        | false => exact ⟨false, ⟨fun _ => rfl, fun h => by cases h⟩, all_stay hA⟩
        | true => exact ⟨_, ⟨fun h => (by cases h), fun _ => rfl⟩, all_next hA he⟩
      clear hs1 hd1 hr1 heb hA
      subst hao
      go_upto_region 9 with (fail)
      go_cut [4] from 13 to 47 (fun pv wq => pv = .bool p' ∧ Below w.heap.size w wq)
      case first =>
        cases p with
        | false =>
          have hp0 : Hid (p' = false) := hP.out.1 rfl
          clear po hP
          go_wp2_with fail
          go_meet
          case rel => exact ⟨by rw [hp0.out], hB⟩
        | true =>
          have hp0 : Hid (p' = oneE (ek, en)) := hP.out.2 rfl
          clear hP
          go_wp2_with fail
          refine po.mono ?_
          rintro e w3 ⟨rfl, hG3⟩
          have hB3 := hB.trans (hG3.mono hB.size)
          clear po hG3 hB hs1'
          cases ho : oneE (ek, en) with
          | true =>
            simp only [if_true]
            go_wp2_with fail
            go_meet
            case rel => exact ⟨by rw [hp0.out, ho], hB3⟩
          | false =>
            simp only [Bool.false_eq_true, if_false]
            go_wp2_with fail
            go_meet
            case rel => exact ⟨by rw [hp0.out, ho], hB3⟩
      case rest =>
        obtain ⟨rfl, hBq⟩ := hcut
        clear po hs1' hB hP
        cases q with
        | false =>
          have hQ2 := up_stay hQ
          clear hQ
          go_wp2_with fail
          go_quiet (fail)
          go_wp2
          go_roundw
          case rel => exact ⟨j + 1, p', false, by go_num, rfl, rfl, by omega, hpo, hQ2, below_drewN hBq _⟩
          case measure => simp [intOf]; omega
        | true =>
          cases j with
          | zero =>
            clear hQ
            go_wp2_with fail
            go_quiet (fail)
            go_wp2
            go_roundw
            case rel => exact ⟨0 + 1, p', true, by go_num, rfl, rfl, by omega, hpo, up_one, below_drewN hBq _⟩
            case measure => simp [intOf]; omega
          | succ j' =>
            obtain ⟨⟨pk, pn⟩, hp'⟩ : ∃ e, z0[j']? = some e := ⟨_, List.getElem?_eq_getElem (by omega)⟩
            have d1 : wc.cell? ⟨b, off + j' * 2, none⟩ = some (strV pk) := (hBq.cell (p := ⟨b, off + j' * 2, none⟩) hbl).trans (hc j' _ hp').1
            have d2 : wc.cell? ⟨b, off + (j' + 1) * 2, none⟩ = some (strV ek) := (hBq.cell (p := ⟨b, off + (j' + 1) * 2, none⟩) hbl).trans (hc (j' + 1) _ he).1
            have hQ2 := up_next hQ hp' he
            simp only at hQ2
            have y1 : (j' : Int) < z0.length := by omega
            have y2 : (j' : Int) + 1 < z0.length := by omega
            have y3 : (0 : Int) ≤ j' := by omega
            have y4 : ((j' : Int) + 1 == 0) = false := by rw [beq_eq_false_iff_ne]; omega
            have y5 : ¬ (j' : Int) + 1 = 0 := by omega
            have x1 : IntKind.i64.wrap ((j' : Int) + 1 - 1) = j' := by simp [IntKind.wrap, IntKind.bits, IntKind.signed]; omega
            have x2 : IntKind.i64.wrap (j' : Int) = j' := by simp [IntKind.wrap, IntKind.bits, IntKind.signed]; omega
            generalize hlk : lessB pk ek = lb at hQ2
            clear hQ hp' hc he
            go_wp2_with fail
            go_quiet (fail)
            go_wp2
            go_roundw
            case rel => exact ⟨j' + 1 + 1, p', lb, by go_num, rfl, rfl, by omega, hpo, hQ2, below_drewN hBq _⟩
            case measure => simp [intOf]; omega

set_option maxRecDepth 100000 in
theorem lifted (os : Os) (started : os.Started) (H : Type) (enc : TypeId × Value → H) :
    ReturnsInHanded {} Try.checked os 6 .any (Rows.runMaySpec.pre6 enc Try.prog Try.f6 Rows.runMayRow.domain false) (Rows.runMaySpec.post enc Try.prog Try.f6 false true false false) := by
  refine returnsInHanded_of_change_sized (C := Try.checked) own started (by kernel_rfl) Try.func6
    (ChangeSpec.witness6 (enc := enc) (C := Try.checked) false ⟨#[], #[.slice none 0 0], []⟩ 8 (by kernel_rfl) (by kernel_rfl) (by kernel_rfl) (by kernel_rfl)) ?_
  intro W base args ds gs before hval0 hW hcnd hsz0 _
  have hsz : (DataW.weightsEach Try.prog (Try.f6.params.toList ++ Rows.runMaySpec.plain.varTypes Try.prog) (ds ++ gs)).all (· ≤ reachBytes) = true := hsz0
  clear hsz0
  have hval : ∀ (j : Nat) t v, Try.f6.params[j]? = some t → args[j]? = some v → Value.okWide Try.prog W .any base t v := hval0
  have hW' := hW
  obtain ⟨p, q, hA0, hV, rfl, hfz, hnd⟩ := hW
  have hA : DataW.TrodAll enc Try.prog W 0 (fun _ => true) true Try.f6.params.toList args.toList ds p := hA0
  rw [Try.params6] at hA hval hsz
  obtain ⟨v0, vs0, d0, ds0, p0, q0, hargs, rfl, rfl, h0, rr0⟩ := trodAll_cons hA
  obtain ⟨rfl, rfl, rfl⟩ := trodAll_nil rr0
  obtain rfl : args = #[v0] := by cases args; simp_all
  obtain ⟨rfl, rfl⟩ := trodVars_none hV
  obtain ⟨a0, len0, cap0, rfl⟩ := okWide_slice Try.underlying22 (hval 0 22 v0 rfl rfl)
  have k0 := h0
  have lt0 : ∀ x ∈ p0, x.block < W.heap.size := by obtain ⟨m, hm⟩ := k0; exact DataW.trod_lt m _ _ _ hm
  obtain ⟨z0, r0, f0, b0⟩ := entries_in Try.underlying22 Try.underlying44 (by kernel_rfl) rfl rfl (by kernel_rfl) (by kernel_rfl) Try.underlying9 Try.underlying42 (B := 24) (by kernel_rfl) hsz (j := 0) rfl rfl h0
  clear hA0 hval0
  refine (walk W a0 len0 cap0 z0 r0 f0 b0).mono fun e W' ⟨he, bel⟩ => ?_
  subst he
  exact ⟨_, rfl, _, _, _, [], _, [], hW', trodAll_mk1 (shut_bool Try.underlying4 _), (trodAll_cons_mk (Below.trod laidOut (by kernel_rfl) (of_decide_eq_true (by kernel_rfl)) k0 bel lt0) trodAll_mk0), rfl, bel.frame _, fun h => by cases h⟩

theorem over : Rows.runMayRow.holds Try.pinned (OpenSpec.ofChange Rows.runMaySpec) :=
  OpenClaim.holds_of_wide 6 Try.f6 rfl rfl rfl rfl rfl rfl rfl ⟨rfl, rfl, rfl, rfl, rfl⟩ rfl rfl rfl rfl rfl (by kernel_rfl) Try.func6 (by kernel_rfl)
    (of_decide_eq_true (by kernel_rfl)) (by unfold Func.isWrapper; first | (rw [if_pos (by decide +kernel)]; kernel_rfl) | (rw [if_neg (by decide +kernel)]; exact ⟨rfl, rfl⟩))
    (fun os started H enc _ => lifted os started H enc)
end Go.Proofs.Ytabecgeemhkkmaa.runMay
namespace Go.Proofs.Ytabecgeemhkkmaa
theorem runMay_holds : Rows.RunMaySaid := runMay.over
#print axioms runMay_holds
end Go.Proofs.Ytabecgeemhkkmaa
