/- For every input UtfText answers true, and leaves its arguments as they were. Conditions: none. -/
import Derived.Test.YtchafajebkfieaaDoorRows
import Derived.Test.YtchafajebkfieaaDoorCards
import Derived.Test.YtchafajebkfieaaDoorTie
import Derived.Test.YtchafajebkfieaaDoorUtfConv
import Derived.Test.YtchafajebkfieaaDoorUtfCode
import Derived.Test.YtchafajebkfieaaDoorShown04
import Derived.Test.YtchafajebkfieaaDoorOpen
import Derived.ProofKit
import Derived.OpenShut
import Derived.ShutString
import Derived.ChangeOld
import Derived.SizedLaws
import Derived.Deep.RegionHeld
import Derived.Deep.QuietTactic
import Derived.BigQuiet
import Derived.Deep.Cut
import Derived.Deep.CutBlock
import Derived.Lay
import Derived.LaidOnce
import Derived.SevenTiedAt
namespace Go.Proofs.YtchafajebkfieaaDoor.utfText
open Go.ChangeShapes Go.WideShapes Go.ChangeAt Go.RowKit
open Go.ChangeMaps (open_string shut_string)
set_option linter.unusedVariables false

theorem own : ownKnob Tryd.prog.godebug = none := by kernel_rfl
theorem laidOut : laidOutB Tryd.prog = true := by kernel_rfl

theorem enc_len (r : Int) : (encU r).length ≤ 4 := by
  unfold encU
  rw [List.length_map]
  unfold encN
  split
  · simp
  · split
    · simp
    · split <;> simp
theorem text_len : ∀ l : List Int, (textU l).length ≤ 4 * l.length
  | [] => by simp [textU]
  | r :: l => by
    have := text_len l
    have := enc_len r
    simp only [textU, List.length_append, List.length_cons]
    omega

set_option maxRecDepth 100000 in
set_option maxHeartbeats 4000000 in
theorem walk (w : World) (a0 : Option Addr) (len0 cap0 : Nat) (z0 : List Int) (r0 : Reads w a0 len0 cap0 (z0.map (.int .i32))) (f0 : ∀ z ∈ z0, (Lit.int .i32 z).wf = true) (b0 : len0 * 4 ≤ 140737488351232) (ht : Tabs w) :
    Calls Tryd.prog 5 #[.slice a0 len0 cap0] w fun e w' => e = .returned (.bool true) ∧ Below w.heap.size w w' := by
  have hl0 : z0.length = len0 := by simpa using r0.length
  clear f0
  go_enter Tryd.func5, Tryd.ntmps5
  go_wp2_with fail
  refine (shown_any _).mono ?_
  rintro e wa ⟨rfl, hb1⟩
  by_cases hbig : len0 ≤ 2000
  case neg =>
    have g1 : (2001 : Int) ≤ len0 := by omega
    clear hbig
    go_wp2
    go_ret
    exact ⟨rfl, hb1⟩
  have g0 : (len0 : Int) ≤ 2000 := by omega
  have ra := r0.later hb1 (Nat.le_refl _)
  have t8 := text_bytes z0
  have tl := text_len z0
  have hAll := all_text z0
  have hlen : Hid ((z0.map (fun r => (fixN r : Int))).length = len0) := by show _ = _; simp [hl0]
  have hTF : Hid (textU (z0.map (fun r => (fixN r : Int))) = textU z0) := text_fix z0
  have v1 := conv_runes Tryd.underlying9 Tryd.underlying24 Tryd.underlying21 ra
  clear ra
  generalize z0.map (fun r => (fixN r : Int)) = fx at hAll hlen hTF
  generalize textU z0 = tx at t8 tl hAll hTF v1
  have HA1 : Hid _ := hAll.1
  have HA2 : Hid _ := hAll.2
  clear hAll
  have htl : tx.length ≤ 8000 := by omega
  obtain ⟨cp, wb, hc1, rb, hbb⟩ := conv_bytes (P := Tryd.prog) (s := 9) (t := 22) Tryd.underlying9 Tryd.underlying22 Tryd.underlying5 tx t8 (by omega) wa
  go_wp2_with fail
  refine (uall_any _ _ _ _ _ rb t8 (by omega)).mono ?_
  rintro e wc ⟨ag3, c3, m3, rfl, hm3, rx, hb4⟩
  rw [HA1.out] at hm3 rx
  replace hm3 : m3 = len0 := by rw [hm3, hlen.out]
  subst hm3
  have hB4 := Grow.trans hb1 (Grow.trans hbb hb4)
  clear hc1 v1 rb hbb hb4 hb1
  obtain ⟨cq, wd, hc2, rd, hbd⟩ := conv_bytes (P := Tryd.prog) (s := 9) (t := 22) Tryd.underlying9 Tryd.underlying22 Tryd.underlying5 tx t8 (by omega) wc
  have ht5 := Tabs.grow hbd (Tabs.grow hB4 ht)
  go_wp2_with fail
  refine (ufeed_any none 0 0 [] _ _ _ _ _ (Reads.nil _) rd (by simp [isBytes]) t8 (by omega) (by omega)).mono ?_
  rintro e we ⟨ag5, c5, m5, bg5, d5, k5, rfl, hm5, hk5, hown5, rp5, -, -, hb5⟩
  simp only [List.nil_append, HA2.out] at hm5 hk5 hown5
  replace hk5 : k5 = 0 := hk5
  subst hk5
  have rm := Reads.own hown5
  have rx5 := (rx.later hbd (Nat.le_refl _)).later hb5 (Nat.le_refl _)
  have hB5 := Grow.trans hB4 (Grow.trans hbd hb5)
  have v2 := conv_runes Tryd.underlying9 Tryd.underlying24 Tryd.underlying21 rx5
  rw [hTF.out] at v2
  clear hm5 hown5 rp5 hc2 rd hbd hb5 rx hB4
  go_wp2_with fail
  refine (same_any _ _ _ _ _ _ _ _ _ rx5 rm).mono ?_
  rintro e wl ⟨rfl, q, rfl⟩
  simp only [decide_true]
  have hB6 := Grow.trans hB5 (grow_drewN we q)
  clear hB5 rx5 rm v2
  go_wp2
  go_ret
  exact ⟨rfl, hB6⟩

set_option maxRecDepth 100000 in
theorem lifted (os : Os) (started : os.Started) (H : Type) (enc : TypeId × Value → H) :
    ReturnsInHanded {} Tryd.checked os 5 .any (fun w args => (Rows.utfTextSpec.pre enc Tryd.prog Tryd.f5 [] false w args ∧ laidMetH Tryd.prog tabLaid w) ∧ sizedMet enc Tryd.prog Tryd.f5 (OpenSpec.ofChange Rows.utfTextSpec) false w args) (Rows.utfTextSpec.post enc Tryd.prog Tryd.f5 false true false false) := by
  refine returnsInHanded_of_change_and (C := Tryd.checked) (X := fun w _ => laidMetH Tryd.prog tabLaid w) (fun _ _ _ hh h => h.of_heap hh) own started (by kernel_rfl) Tryd.func5
    (ChangeSpec.witness_shaped (enc := enc) (C := Tryd.checked) (os := os) (X := fun w _ => laidMetH Tryd.prog tabLaid w) false (World.laidAll Tryd.prog os tabLaid) #[.slice none 0 0] 8 (World.laidAll_os _ _ _)
      (World.shaped_of_ZipB (by kernel_rfl) (by kernel_rfl)) (by kernel_rfl) (by kernel_rfl) (by kernel_rfl)
      (by rw [MakeChecks.laidMetH_plain _ _ _ (by kernel_rfl)]; exact laidMet_laidAll _ (by kernel_rfl) (by kernel_rfl))) ?_
  intro W base args ds gs before hval0 hW hcnd hsz0 hL _
  rw [MakeChecks.laidMetH_plain _ _ _ (by kernel_rfl)] at hL
  have ht : Tabs W := tabs_of hL
  clear hL
  have hsz : (DataW.weightsEach Tryd.prog (Tryd.f5.params.toList ++ Rows.utfTextSpec.plain.varTypes Tryd.prog) (ds ++ gs)).all (· ≤ reachBytes) = true := hsz0
  clear hsz0
  have hval : ∀ (j : Nat) t v, Tryd.f5.params[j]? = some t → args[j]? = some v → Value.okWide Tryd.prog W .any base t v := hval0
  have hW' := hW
  obtain ⟨p, q, hA0, hV, rfl, hfz, hnd⟩ := hW
  have hA : DataW.TrodAll enc Tryd.prog W 0 (fun _ => true) true Tryd.f5.params.toList args.toList ds p := hA0
  rw [Tryd.params5] at hA hval hsz
  obtain ⟨v0, vs0, d0, ds0, p0, q0, hargs, rfl, rfl, h0, rr0⟩ := trodAll_cons hA
  obtain ⟨rfl, rfl, rfl⟩ := trodAll_nil rr0
  obtain rfl : args = #[v0] := by cases args; simp_all
  obtain ⟨rfl, rfl⟩ := trodVars_none hV
  obtain ⟨a0, len0, cap0, rfl⟩ := okWide_slice Tryd.underlying24 (hval 0 24 v0 rfl rfl)
  have k0 := h0
  have lt0 : ∀ x ∈ p0, x.block < W.heap.size := by obtain ⟨m, hm⟩ := k0; exact DataW.trod_lt m _ _ _ hm
  obtain ⟨z0, r0, f0, b0⟩ := slice_in Tryd.underlying24 Tryd.underlying21 (by kernel_rfl) (B := 4) (by kernel_rfl) hsz (j := 0) rfl rfl h0
  clear hA0 hval0
  refine (walk W a0 len0 cap0 z0 r0 f0 b0 ht).mono fun e W' ⟨he, bel⟩ => ?_
  subst he
  exact ⟨_, rfl, _, _, _, [], _, [], hW', trodAll_mk1 (shut_bool Tryd.underlying4 _), (trodAll_cons_mk (Below.trod laidOut (by kernel_rfl) (of_decide_eq_true (by kernel_rfl)) k0 bel lt0) trodAll_mk0), rfl, bel.frame _, fun h => by cases h⟩

theorem over : Rows.utfTextRow.holds Tryd.pinned (OpenSpec.ofChange Rows.utfTextSpec) :=
  OpenClaim.holds_of_wide 5 Tryd.f5 rfl rfl rfl rfl rfl rfl rfl ⟨rfl, rfl, rfl, rfl, rfl⟩ rfl rfl rfl rfl rfl (by kernel_rfl) Tryd.func5 (by kernel_rfl)
    (of_decide_eq_true (by kernel_rfl)) (by unfold Func.isWrapper; first | (rw [if_pos (by decide +kernel)]; kernel_rfl) | (rw [if_neg (by decide +kernel)]; exact ⟨rfl, rfl⟩))
    (fun os started H enc _ => lifted os started H enc)
end Go.Proofs.YtchafajebkfieaaDoor.utfText
namespace Go.Proofs.YtchafajebkfieaaDoor
theorem utfText_holds : Rows.UtfTextCardSaid :=
  Claim7.holds_tied_plain_at .later [] [.data, .pinned] true (true, "34594bd829618d443fc004d0488f0d7e5db30fb524e68a9fca37628f9cfa13e2") false utfText.over (fun _ h => by cases h) (by kernel_rfl) (fun _ h => by cases h) utfText_row_tie rfl ⟨rfl, rfl⟩ (by kernel_rfl) rfl
    (fun f fn hf hfn => by
      obtain rfl : f = 5 := Option.some.inj ((show Tryd.prog.funcNamed "mantelet/manteletlaw04.UtfText" = some 5 by kernel_rfl).symm.trans hf) |>.symm
      obtain rfl : fn = Tryd.f5 := (Option.some.inj (Tryd.func5.symm.trans hfn)).symm
      exact ⟨by kernel_rfl, fun j t ht => by
        rw [Tryd.params5] at ht
        have hm : t ∈ [24] := by simpa using Array.mem_of_getElem? ht
        have hall : ([24].all fun u => !Tryd.prog.wantsStandIn u) = true := by kernel_rfl
        exact (show Tryd.prog.wantsStandIn t = false by simpa using List.all_eq_true.1 hall t hm)⟩)
    (by kernel_rfl)
#print axioms utfText_holds
end Go.Proofs.YtchafajebkfieaaDoor
