/- For every input FoldTexts answers true, and leaves its arguments as they were. Conditions: none. -/
import Derived.Test.YtalfganfifkgjaaDoorRows
import Derived.Test.YtalfganfifkgjaaDoorCards
import Derived.Test.YtalfganfifkgjaaDoorTie
import Derived.Test.YtalfganfifkgjaaDoorUtfConv
import Derived.Test.YtalfganfifkgjaaDoorFoldCode
import Derived.Test.YtalfganfifkgjaaDoorShown05
import Derived.Test.YtalfganfifkgjaaDoorOwn2
import Derived.Test.YtalfganfifkgjaaDoorOpen
import Derived.ProofKit
import Derived.OpenShut
import Derived.ShutString
import Derived.ChangeOld
import Derived.SizedLaws
import Derived.Deep.RegionHeld
import Derived.Deep.QuietTactic
import Derived.BigQuiet
import Derived.Deep.Cut
import Derived.Deep.CutBlock
import Derived.Lay
import Derived.LaidOnce
import Derived.SevenTiedAt
namespace Go.Proofs.YtalfganfifkgjaaDoor.foldTexts
open Go.ChangeShapes Go.WideShapes Go.ChangeAt Go.RowKit
open Go.ChangeMaps (open_string shut_string)
set_option linter.unusedVariables false

theorem own : ownKnob Tryd.prog.godebug = none := by kernel_rfl
theorem laidOut : laidOutB Tryd.prog = true := by kernel_rfl

theorem enc_len' (r : Int) : (encU r).length ≤ 4 := by
  unfold encU
  rw [List.length_map]
  unfold encN
  split
  · simp
  · split
    · simp
    · split <;> simp
theorem text_len : ∀ l : List Int, (textU l).length ≤ 4 * l.length
  | [] => by simp [textU]
  | r :: l => by
    have := text_len l
    have := enc_len' r
    simp only [textU, List.length_append, List.length_cons]
    omega
theorem add_str {P : Program} {a b : List Int} (ha : a.length ≤ 100000) (hb : b.length ≤ 100000) (W : World) : (Op.stringOp .add (strOfNums a) (strOfNums b)).run P W = .ok (.string (strOfNums (a ++ b))) W := by
  have h := Go.run_string_add_sum (P := P) (w := W) (strOfNums a) (strOfNums b) (by rw [str_size, str_size]; omega)
  rw [str_app] at h
  exact h

set_option maxRecDepth 100000 in
set_option maxHeartbeats 4000000 in
theorem walk (w : World) (a0 : Option Addr) (len0 cap0 : Nat) (z0 : List Int) (r0 : Reads w a0 len0 cap0 (z0.map (.int .i32))) (f0 : ∀ z ∈ z0, (Lit.int .i32 z).wf = true) (b0 : len0 * 4 ≤ 140737488351232) (a1 : Option Addr) (len1 cap1 : Nat) (z1 : List Int) (r1 : Reads w a1 len1 cap1 (z1.map (.int .i32))) (f1 : ∀ z ∈ z1, (Lit.int .i32 z).wf = true) (b1 : len1 * 4 ≤ 140737488351232) (ht : Tabs w) :
    Calls Tryd.prog 6 #[.slice a0 len0 cap0, .slice a1 len1 cap1] w fun e w' => e = .returned (.bool true) ∧ Below w.heap.size w w' := by
  have hl0 : z0.length = len0 := by simpa using r0.length
  have hl1 : z1.length = len1 := by simpa using r1.length
  clear f0 f1
  go_enter Tryd.func6, Tryd.ntmps6
  go_wp2_with fail
  refine (shown_any _).mono ?_
  rintro e wa ⟨rfl, hb1⟩
  by_cases hbig : len0 ≤ 2000 ∧ len1 ≤ 2000
  case neg =>
    by_cases hb0 : len0 ≤ 2000
    · have g1 : (2001 : Int) ≤ len1 := by omega
      have g0 : (len0 : Int) ≤ 2000 := by omega
      clear hbig
      go_wp2
      go_ret
      exact ⟨rfl, hb1⟩
    · have g1 : (2001 : Int) ≤ len0 := by omega
      clear hbig
      go_wp2
      go_ret
      exact ⟨rfl, hb1⟩
  obtain ⟨hc0, hc1⟩ := hbig
  have g0 : (len0 : Int) ≤ 2000 := by omega
  have g1 : (len1 : Int) ≤ 2000 := by omega
  have ra0 := r0.later hb1 (Nat.le_refl _)
  have ra1 := r1.later hb1 (Nat.le_refl _)
  clear r0 r1
  have t8 := text_bytes z0
  have u8 := text_bytes z1
  have tl := text_len z0
  have ul := text_len z1
  have hN : Hid ((allU (textF (textU z0))).length = len0) := by show _ = _; rw [all_textF _ t8, List.length_map, (all_text z0).1, List.length_map, hl0]
  have hTw : Hid (textF (textF (textU z0)) = textF (textU z0)) := textF_twice _ t8
  have hAp : Hid (textF (textU z0 ++ textU z1) = textF (textU z0) ++ textF (textU z1)) := textF_app z0 z1
  have s8 : isBytes (textF (textU z0)) := text_bytes _
  have v8 : isBytes (textF (textU z1)) := text_bytes _
  have sl : (textF (textU z0)).length ≤ 8000 := by
    have h1 := text_len ((allU (textU z0)).map foldF)
    simp only [List.length_map, (all_text z0).1] at h1
    unfold textF
    simp only [(all_text z0).1]
    omega
  have vl : (textF (textU z1)).length ≤ 8000 := by
    have h1 := text_len ((allU (textU z1)).map foldF)
    simp only [List.length_map, (all_text z1).1] at h1
    unfold textF
    simp only [(all_text z1).1]
    omega
  have v1 : ∀ W, Below wa.heap.size wa W → _ := fun W hW => conv_runes Tryd.underlying9 Tryd.underlying29 Tryd.underlying21 (ra0.later hW (Nat.le_refl _))
  have v2 : ∀ W, Below wa.heap.size wa W → _ := fun W hW => conv_runes Tryd.underlying9 Tryd.underlying29 Tryd.underlying21 (ra1.later hW (Nat.le_refl _))
  have tl' : (textU z0).length ≤ 8000 := by omega
  have ul' : (textU z1).length ≤ 8000 := by omega
  clear ra0 ra1 hl0 hl1 tl ul
  generalize textU z0 = za at *
  generalize textU z1 = zb at *
  generalize hS0 : textF za = S at *
  generalize hT0 : textF zb = T at *
  have hS : Hid _ := hS0
  have hT : Hid _ := hT0
  clear hS0 hT0
  have hgS : (strOfNums za).size + (strOfNums zb).size ≤ 9223372036854775807 := by rw [str_size, str_size]; omega
  have hgT : (strOfNums S).size + (strOfNums T).size ≤ 9223372036854775807 := by rw [str_size, str_size]; omega
  have w1 := v1 _ (Below.refl _ _)
  have hta := Tabs.grow hb1 ht
  go_wp2_with fail
  refine (ftext_any za _ t8 (by omega)).mono ?_
  rintro e wb ⟨rfl, hb2⟩
  rw [hS.out]
  have w2 := v2 _ hb2
  clear w1
  go_wp2_with fail
  refine (ftext_any zb _ u8 (by omega)).mono ?_
  rintro e wc ⟨rfl, hb3⟩
  rw [hT.out]
  have hB3 := Grow.trans hb2 hb3
  clear hb2 hb3 w2
  go_wp2_with fail
  refine (ftext_any S _ s8 (by omega)).mono ?_
  rintro e wd ⟨rfl, hb4⟩
  rw [hTw.out]
  have hB4 := Grow.trans hB3 hb4
  have w3 := v1 _ hB4
  have w4 := v2 _ hB4
  have hgA := str_app za zb
  have hgB := str_app S T
  clear hB3 hb4 v1 v2
  go_wp2_with fail
  refine (ftext_any (za ++ zb) _ (fun z hz => (List.mem_append.1 hz).elim (t8 z) (u8 z)) (by rw [List.length_append]; omega)).mono ?_
  rintro e we ⟨rfl, hb5⟩
  rw [hAp.out]
  have hB5 := Grow.trans hb1 (Grow.trans hB4 hb5)
  obtain ⟨cp, wf, hc, rf, hb6⟩ := conv_to_runes (P := Tryd.prog) (s := 9) (t := 29) Tryd.underlying9 Tryd.underlying29 Tryd.underlying21 S s8 (by omega) we
  rw [hN.out] at hc
  have hB6 := Grow.trans hB5 hb6
  clear rf hb6 hB5 hb5 w3 w4 hB4 hb1 hgA hgS
  go_wp2
  go_ret
  exact ⟨rfl, hB6⟩

set_option maxRecDepth 100000 in
theorem lifted (os : Os) (started : os.Started) (H : Type) (enc : TypeId × Value → H) :
    ReturnsInHanded {} Tryd.checked os 6 .any (fun w args => (Rows.foldTextsSpec.pre enc Tryd.prog Tryd.f6 [] false w args ∧ laidMetH Tryd.prog tabLaid w) ∧ sizedMet enc Tryd.prog Tryd.f6 (OpenSpec.ofChange Rows.foldTextsSpec) false w args) (Rows.foldTextsSpec.post enc Tryd.prog Tryd.f6 false true false false) := by
  refine returnsInHanded_of_change_and (C := Tryd.checked) (X := fun w _ => laidMetH Tryd.prog tabLaid w) (fun _ _ _ hh h => h.of_heap hh) own started (by kernel_rfl) Tryd.func6
    (ChangeSpec.witness_shaped (enc := enc) (C := Tryd.checked) (os := os) (X := fun w _ => laidMetH Tryd.prog tabLaid w) false (World.laidAll Tryd.prog os tabLaid) #[.slice none 0 0, .slice none 0 0] 8 (World.laidAll_os _ _ _)
      (World.shaped_of_ZipB (by kernel_rfl) (by kernel_rfl)) (by kernel_rfl) (by kernel_rfl) (by kernel_rfl)
      (by rw [MakeChecks.laidMetH_plain _ _ _ (by kernel_rfl)]; exact laidMet_laidAll _ (by kernel_rfl) (by kernel_rfl))) ?_
  intro W base args ds gs before hval0 hW hcnd hsz0 hL _
  rw [MakeChecks.laidMetH_plain _ _ _ (by kernel_rfl)] at hL
  have ht : Tabs W := tabs_of hL
  clear hL
  have hsz : (DataW.weightsEach Tryd.prog (Tryd.f6.params.toList ++ Rows.foldTextsSpec.plain.varTypes Tryd.prog) (ds ++ gs)).all (· ≤ reachBytes) = true := hsz0
  clear hsz0
  have hval : ∀ (j : Nat) t v, Tryd.f6.params[j]? = some t → args[j]? = some v → Value.okWide Tryd.prog W .any base t v := hval0
  have hW' := hW
  obtain ⟨p, q, hA0, hV, rfl, hfz, hnd⟩ := hW
  have hA : DataW.TrodAll enc Tryd.prog W 0 (fun _ => true) true Tryd.f6.params.toList args.toList ds p := hA0
  rw [Tryd.params6] at hA hval hsz
  obtain ⟨v0, vs0, d0, ds0, p0, q0, hargs, rfl, rfl, h0, rr0⟩ := trodAll_cons hA
  obtain ⟨v1, vs1, d1, ds1, p1, q1, rfl, rfl, rfl, h1, rr1⟩ := trodAll_cons rr0
  obtain ⟨rfl, rfl, rfl⟩ := trodAll_nil rr1
  obtain rfl : args = #[v0, v1] := by cases args; simp_all
  obtain ⟨rfl, rfl⟩ := trodVars_none hV
  obtain ⟨a0, len0, cap0, rfl⟩ := okWide_slice Tryd.underlying29 (hval 0 29 v0 rfl rfl)
  have k0 := h0
  have lt0 : ∀ x ∈ p0, x.block < W.heap.size := by obtain ⟨m, hm⟩ := k0; exact DataW.trod_lt m _ _ _ hm
  obtain ⟨z0, r0, f0, b0⟩ := slice_in Tryd.underlying29 Tryd.underlying21 (by kernel_rfl) (B := 4) (by kernel_rfl) hsz (j := 0) rfl rfl h0
  obtain ⟨a1, len1, cap1, rfl⟩ := okWide_slice Tryd.underlying29 (hval 1 29 v1 rfl rfl)
  have k1 := h1
  have lt1 : ∀ x ∈ p1, x.block < W.heap.size := by obtain ⟨m, hm⟩ := k1; exact DataW.trod_lt m _ _ _ hm
  obtain ⟨z1, r1, f1, b1⟩ := slice_in Tryd.underlying29 Tryd.underlying21 (by kernel_rfl) (B := 4) (by kernel_rfl) hsz (j := 1) rfl rfl h1
  clear hA0 hval0
  refine (walk W a0 len0 cap0 z0 r0 f0 b0 a1 len1 cap1 z1 r1 f1 b1 ht).mono fun e W' ⟨he, bel⟩ => ?_
  subst he
  exact ⟨_, rfl, _, _, _, [], _, [], hW', trodAll_mk1 (shut_bool Tryd.underlying4 _), (trodAll_cons_mk (Below.trod laidOut (by kernel_rfl) (of_decide_eq_true (by kernel_rfl)) k0 bel lt0) (trodAll_cons_mk (Below.trod laidOut (by kernel_rfl) (of_decide_eq_true (by kernel_rfl)) k1 bel lt1) trodAll_mk0)), rfl, bel.frame _, fun h => by cases h⟩

theorem over : Rows.foldTextsRow.holds Tryd.pinned (OpenSpec.ofChange Rows.foldTextsSpec) :=
  OpenClaim.holds_of_wide 6 Tryd.f6 rfl rfl rfl rfl rfl rfl rfl ⟨rfl, rfl, rfl, rfl, rfl⟩ rfl rfl rfl rfl rfl (by kernel_rfl) Tryd.func6 (by kernel_rfl)
    (of_decide_eq_true (by kernel_rfl)) (by unfold Func.isWrapper; first | (rw [if_pos (by decide +kernel)]; kernel_rfl) | (rw [if_neg (by decide +kernel)]; exact ⟨rfl, rfl⟩))
    (fun os started H enc _ => lifted os started H enc)
end Go.Proofs.YtalfganfifkgjaaDoor.foldTexts
namespace Go.Proofs.YtalfganfifkgjaaDoor
theorem foldTexts_holds : Rows.FoldTextsCardSaid :=
  Claim7.holds_tied_plain_at .later [] [.data, .data] true (true, "431f81fcf1a65600043fa3d267c8528a0a4388a7b40072ea468da683d6194d4a") false foldTexts.over (fun _ h => by cases h) (by kernel_rfl) (fun _ h => by cases h) foldTexts_row_tie rfl ⟨rfl, rfl⟩ (by kernel_rfl) rfl
    (fun f fn hf hfn => by
      obtain rfl : f = 6 := Option.some.inj ((show Tryd.prog.funcNamed "mantelet/manteletlaw05.FoldTexts" = some 6 by kernel_rfl).symm.trans hf) |>.symm
      obtain rfl : fn = Tryd.f6 := (Option.some.inj (Tryd.func6.symm.trans hfn)).symm
      exact ⟨by kernel_rfl, fun j t ht => by
        rw [Tryd.params6] at ht
        have hm : t ∈ [29, 29] := by simpa using Array.mem_of_getElem? ht
        have hall : ([29, 29].all fun u => !Tryd.prog.wantsStandIn u) = true := by kernel_rfl
        exact (show Tryd.prog.wantsStandIn t = false by simpa using List.all_eq_true.1 hall t hm)⟩)
    (by kernel_rfl)
#print axioms foldTexts_holds
end Go.Proofs.YtalfganfifkgjaaDoor
