/- For every input FoldPlain answers true, and leaves its arguments as they were. Conditions: none. -/
import Derived.Test.YtalfganfifkgjaaDoorRows
import Derived.Test.YtalfganfifkgjaaDoorCards
import Derived.Test.YtalfganfifkgjaaDoorTie
import Derived.Test.YtalfganfifkgjaaDoorUtfConv
import Derived.Test.YtalfganfifkgjaaDoorFoldCode
import Derived.Test.YtalfganfifkgjaaDoorShown05
import Derived.Test.YtalfganfifkgjaaDoorOwn2
import Derived.Test.YtalfganfifkgjaaDoorOpen
import Derived.ProofKit
import Derived.OpenShut
import Derived.ShutString
import Derived.ChangeOld
import Derived.SizedLaws
import Derived.Deep.RegionHeld
import Derived.Deep.QuietTactic
import Derived.BigQuiet
import Derived.Deep.Cut
import Derived.Deep.CutBlock
import Derived.Lay
import Derived.LaidOnce
import Derived.SevenTiedAt
namespace Go.Proofs.YtalfganfifkgjaaDoor.foldPlain
open Go.ChangeShapes Go.WideShapes Go.ChangeAt Go.RowKit
open Go.ChangeMaps (open_string shut_string)
set_option linter.unusedVariables false

theorem own : ownKnob Tryd.prog.godebug = none := by kernel_rfl
theorem laidOut : laidOutB Tryd.prog = true := by kernel_rfl

theorem bytes_of {z : List Int} (f : ∀ x ∈ z, (Lit.int .u8 x).wf = true) : isBytes z := fun x hx => bounds_u8 (f x hx)
theorem map_next (g : Int → Int) (z : List Int) (j : Nat) (h : j < z.length) : (z.take (j + 1)).map g = (z.take j).map g ++ [g (z.getD j 0)] := by
  have e : z.take (j + 1) = z.take j ++ [z.getD j 0] := by rw [List.take_add_one, List.getD, List.getElem?_eq_getElem h]; rfl
  rw [e, List.map_append]; rfl

set_option maxRecDepth 100000 in
set_option maxHeartbeats 4000000 in
theorem walk (w : World) (a0 : Option Addr) (len0 cap0 : Nat) (z0 : List Int) (r0 : Reads w a0 len0 cap0 (z0.map (.int .u8))) (f0 : ∀ z ∈ z0, (Lit.int .u8 z).wf = true) (b0 : len0 * 1 ≤ 140737488351232) (ht : Tabs w) :
    Calls Tryd.prog 7 #[.slice a0 len0 cap0] w fun e w' => e = .returned (.bool true) ∧ Below w.heap.size w w' := by
  have h8 := bytes_of f0
  clear f0
  have hl0 : z0.length = len0 := by simpa using r0.length
  go_enter Tryd.func7, Tryd.ntmps7
  go_wp2_with fail
  refine (shown_any _).mono ?_
  rintro e wa ⟨rfl, hb1⟩
  by_cases hbig : len0 ≤ 2000
  case neg =>
    have g1 : (2001 : Int) ≤ len0 := by omega
    clear hbig
    go_wp2
    go_ret
    exact ⟨rfl, hb1⟩
  have g0 : (len0 : Int) ≤ 2000 := by omega
  have ra0 := r0.later hb1 (Nat.le_refl _)
  clear r0
  have mx : len0 + 20 ≤ maxLen := by unfold maxLen; omega
  go_wp2_with fail
  go_loopw [4, 5, 6] (fun v u i wr => ∃ (j : Nat) (ag : Option Addr) (c : Nat) (bg : Option Addr) (d : Nat), v = .slice ag j c ∧ u = .slice bg j d ∧ i = .int .i64 j ∧ j ≤ len0 ∧ wr.ownsRow wa.heap.size 5 1 (.slice ag j c) j (((z0.take j).map (· % 128)).map (.int .u8)) ∧ wr.ownsRow wa.heap.size 5 1 (.slice bg j d) j (((z0.take j).map (fun x => foldF (x % 128))).map (.int .u8)) ∧ Off (.slice ag j c) (.slice bg j d) ∧ Below wa.heap.size wa wr) (fun _ _ i _ => (len0 - intOf i).toNat)
  case atStart => exact ⟨0, none, 0, none, 0, rfl, rfl, rfl, by omega, World.ownsRow_nil _ _ _ _, World.ownsRow_nil _ _ _ _, Off.nil _, Below.refl _ _⟩
  case round =>
    obtain ⟨j, ag, c, bg, d, rfl, rfl, rfl, hj, hown, hown', hoff, hb⟩ := hrel
    have hsz := hb.size
    by_cases hjl : j = len0
    case neg =>
      have hjl' : (j : Int) < len0 := by omega
      obtain ⟨b1, o1, rfl, hbb, hcell⟩ := ra0.at (by omega)
      obtain ⟨x, hx, hx8⟩ := h8.get j
      have hcj : wr.cell? ⟨b1, o1 + j, none⟩ = some (.int .u8 (x : Int)) := by rw [hb.cell hbb, hcell j (by omega), hx]
      have hN : Hid ((z0.take (j + 1)).map (· % 128) = (z0.take j).map (· % 128) ++ [(x : Int) % 128]) := by show _ = _; rw [map_next (· % 128) z0 j (by omega), hx]
      have hM : Hid ((z0.take (j + 1)).map (fun x => foldF (x % 128)) = (z0.take j).map (fun x => foldF (x % 128)) ++ [foldF ((x : Int) % 128)]) := by show _ = _; rw [map_next (fun x => foldF (x % 128)) z0 j (by omega), hx]
      have hF : Hid (foldF ((x : Int) % 128) = if 65 ≤ (x : Int) % 128 ∧ (x : Int) % 128 ≤ 90 then (x : Int) % 128 + 32 else (x : Int) % 128) := fold_plain _ (by omega) (by omega)
      have hy0 : 0 ≤ (x : Int) % 128 := by omega
      have hy1 : (x : Int) % 128 ≤ 127 := by omega
      clear hx hcell hjl
      go_wp2_with (at_builtin; refine wpList_append_two rfl (.tmp 24) (.tmp 26) 31 rfl wa.heap.size 5 Tryd.infoByte rfl Tryd.underlying31 _ _ _ _ rfl (hown.alloc _) _ _ _ _ rfl (reads_one _ _ _) (ints_oneCell .u8 [(x : Int) % 128]) (by omega) (by omega) (by simp; omega) ?_)
      intro ag3 c3 w3 hown3 hg3 hb3 hw3
      have hoff3 : Off (.slice bg j d) (.slice ag3 (j + 1) c3) := off_append hown' hoff.symm hw3 (by simp)
      have hown3' := own_off (hown'.alloc _) hoff.symm hg3
      have hb3' : Below wa.heap.size wa w3 := (hb.alloc hsz _).trans hb3
      have hsz3 := hb3'.size
      clear hb3 hown hown' hg3 hw3 hoff hcj
      generalize hy : (x : Int) % 128 = y at *
      by_cases hA : 65 ≤ y ∧ y ≤ 90
      · have hA1 := hA.1
        have hA2 := hA.2
        have hF' : Hid (foldF y = y + 32) := by show _ = _; rw [hF.out, if_pos hA]
        have hw32 : IntKind.u8.wrap (y + 32) = y + 32 := by rw [IntKind.wrap_u8]; omega
        clear hA hF
        go_wp2_with (at_builtin; refine wpList_append_two rfl (.tmp 36) (.tmp 38) 31 rfl wa.heap.size 5 Tryd.infoByte rfl Tryd.underlying31 _ _ _ _ rfl (hown3'.alloc _) _ _ _ _ rfl (reads_one _ _ _) (ints_oneCell .u8 [y + 32]) (by omega) (by omega) (by simp; omega) ?_)
        intro ag4 c4 w4 hown4 hg4 hb4 hw4
        have hoff4 : Off (.slice ag3 (j + 1) c3) (.slice ag4 (j + 1) c4) := off_append hown3 hoff3.symm hw4 (by simp)
        have hown4' := own_off (hown3.alloc _) hoff3.symm hg4
        have hb4' : Below wa.heap.size wa w4 := (hb3'.alloc hsz3 _).trans hb4
        clear hb4 hown3 hown3' hg4 hw4
        go_wp2
        go_roundw
        case rel =>
          refine ⟨j + 1, ag3, c3, ag4, c4, rfl, rfl, by go_num, by omega, ?_, ?_, hoff4, hb4'⟩
          · rw [hN.out]
            simpa using hown4'
          · rw [hM.out, hF'.out]
            simpa using hown4
        case measure => simp [intOf]; omega
      · have hF' : Hid (foldF y = y) := by show _ = _; rw [hF.out, if_neg hA]
        have hA' : 91 ≤ y ∨ y ≤ 64 := by omega
        clear hA hF
        rcases hA' with hA' | hA'
        · have hA1 : 65 ≤ y := by omega
          have hA2 : decide (y ≤ 90) = false := by rw [decide_eq_false_iff_not]; omega
          go_wp2_with (at_builtin; refine wpList_append_two rfl (.tmp 36) (.tmp 38) 31 rfl wa.heap.size 5 Tryd.infoByte rfl Tryd.underlying31 _ _ _ _ rfl (hown3'.alloc _) _ _ _ _ rfl (reads_one _ _ _) (ints_oneCell .u8 [y]) (by omega) (by omega) (by simp; omega) ?_)
          intro ag4 c4 w4 hown4 hg4 hb4 hw4
          have hoff4 : Off (.slice ag3 (j + 1) c3) (.slice ag4 (j + 1) c4) := off_append hown3 hoff3.symm hw4 (by simp)
          have hown4' := own_off (hown3.alloc _) hoff3.symm hg4
          have hb4' : Below wa.heap.size wa w4 := (hb3'.alloc hsz3 _).trans hb4
          clear hb4 hown3 hown3' hg4 hw4
          go_wp2
          go_roundw
          case rel =>
            refine ⟨j + 1, ag3, c3, ag4, c4, rfl, rfl, by go_num, by omega, ?_, ?_, hoff4, hb4'⟩
            · rw [hN.out]
              simpa using hown4'
            · rw [hM.out, hF'.out]
              simpa using hown4
          case measure => simp [intOf]; omega
        · have hA1 : decide (65 ≤ y) = false := by rw [decide_eq_false_iff_not]; omega
          go_wp2_with (at_builtin; refine wpList_append_two rfl (.tmp 36) (.tmp 38) 31 rfl wa.heap.size 5 Tryd.infoByte rfl Tryd.underlying31 _ _ _ _ rfl (hown3'.alloc _) _ _ _ _ rfl (reads_one _ _ _) (ints_oneCell .u8 [y]) (by omega) (by omega) (by simp; omega) ?_)
          intro ag4 c4 w4 hown4 hg4 hb4 hw4
          have hoff4 : Off (.slice ag3 (j + 1) c3) (.slice ag4 (j + 1) c4) := off_append hown3 hoff3.symm hw4 (by simp)
          have hown4' := own_off (hown3.alloc _) hoff3.symm hg4
          have hb4' : Below wa.heap.size wa w4 := (hb3'.alloc hsz3 _).trans hb4
          clear hb4 hown3 hown3' hg4 hw4
          go_wp2
          go_roundw
          case rel =>
            refine ⟨j + 1, ag3, c3, ag4, c4, rfl, rfl, by go_num, by omega, ?_, ?_, hoff4, hb4'⟩
            · rw [hN.out]
              simpa using hown4'
            · rw [hM.out, hF'.out]
              simpa using hown4
          case measure => simp [intOf]; omega
    subst hjl
    rw [List.take_of_length_le (by omega)] at hown hown'
    have hPl : (z0.map (· % 128)).length = j := by simp; omega
    have hP8 : ∀ x ∈ z0.map (· % 128), 0 ≤ x ∧ x < 128 := fun x hx => by
      simp only [List.mem_map] at hx
      obtain ⟨y, _, rfl⟩ := hx
      omega
    have hT : Hid (textF (z0.map (· % 128)) = z0.map (fun x => foldF (x % 128))) := by
      show _ = _
      rw [textF_plain _ hP8, List.map_map]; rfl
    have pl8 : isBytes (z0.map (· % 128)) := fun x hx => by have := hP8 x hx; omega
    have hB := Grow.trans hb1 hb
    have rp := Reads.own hown
    have rq := Reads.own hown'
    clear hown hown' hoff hb hsz hb1 ra0 h8 b0
    have hc1 : ∀ W, Below wr.heap.size wr W → _ := fun W hW => conv_of Tryd.underlying31 Tryd.underlying5 Tryd.underlying9 (rp.later hW (Nat.le_refl _))
    have hc2 : ∀ W, Below wr.heap.size wr W → _ := fun W hW => conv_of Tryd.underlying31 Tryd.underlying5 Tryd.underlying9 (rq.later hW (Nat.le_refl _))
    have htr := Tabs.grow hB ht
    have hft := fun W (hW : Below wr.heap.size wr W) => ftext_any (z0.map (· % 128)) W pl8 (by omega) (Tabs.grow hW htr)
    simp only [hT.out] at hft
    generalize z0.map (· % 128) = pl at *
    generalize z0.map (fun x => foldF (x % 128)) = ql at *
    clear rp rq hT htr
    go_wp2_with fail
    first | go_region_held (fun W => Below wr.heap.size wr W) (first | exact Below.refl _ _ | exact Below.drew (Below.refl _ _) | assumption | exact Grow.trans (by assumption) (by assumption)) (first | (go_at_call 15; refine (hft _ (by first | exact Below.refl _ _ | exact Below.drew (Below.refl _ _) | assumption | exact Grow.trans (by assumption) (by assumption))).mono ?_; rintro e wb ⟨rfl, hbb⟩)) | fail
    go_wp2
    go_ret
    exact ⟨rfl, Grow.trans hB (by assumption)⟩

set_option maxRecDepth 100000 in
theorem lifted (os : Os) (started : os.Started) (H : Type) (enc : TypeId × Value → H) :
    ReturnsInHanded {} Tryd.checked os 7 .any (fun w args => (Rows.foldPlainSpec.pre enc Tryd.prog Tryd.f7 [] false w args ∧ laidMetH Tryd.prog tabLaid w) ∧ sizedMet enc Tryd.prog Tryd.f7 (OpenSpec.ofChange Rows.foldPlainSpec) false w args) (Rows.foldPlainSpec.post enc Tryd.prog Tryd.f7 false true false false) := by
  refine returnsInHanded_of_change_and (C := Tryd.checked) (X := fun w _ => laidMetH Tryd.prog tabLaid w) (fun _ _ _ hh h => h.of_heap hh) own started (by kernel_rfl) Tryd.func7
    (ChangeSpec.witness_shaped (enc := enc) (C := Tryd.checked) (os := os) (X := fun w _ => laidMetH Tryd.prog tabLaid w) false (World.laidAll Tryd.prog os tabLaid) #[.slice none 0 0] 8 (World.laidAll_os _ _ _)
      (World.shaped_of_ZipB (by kernel_rfl) (by kernel_rfl)) (by kernel_rfl) (by kernel_rfl) (by kernel_rfl)
      (by rw [MakeChecks.laidMetH_plain _ _ _ (by kernel_rfl)]; exact laidMet_laidAll _ (by kernel_rfl) (by kernel_rfl))) ?_
  intro W base args ds gs before hval0 hW hcnd hsz0 hL _
  rw [MakeChecks.laidMetH_plain _ _ _ (by kernel_rfl)] at hL
  have ht : Tabs W := tabs_of hL
  clear hL
  have hsz : (DataW.weightsEach Tryd.prog (Tryd.f7.params.toList ++ Rows.foldPlainSpec.plain.varTypes Tryd.prog) (ds ++ gs)).all (· ≤ reachBytes) = true := hsz0
  clear hsz0
  have hval : ∀ (j : Nat) t v, Tryd.f7.params[j]? = some t → args[j]? = some v → Value.okWide Tryd.prog W .any base t v := hval0
  have hW' := hW
  obtain ⟨p, q, hA0, hV, rfl, hfz, hnd⟩ := hW
  have hA : DataW.TrodAll enc Tryd.prog W 0 (fun _ => true) true Tryd.f7.params.toList args.toList ds p := hA0
  rw [Tryd.params7] at hA hval hsz
  obtain ⟨v0, vs0, d0, ds0, p0, q0, hargs, rfl, rfl, h0, rr0⟩ := trodAll_cons hA
  obtain ⟨rfl, rfl, rfl⟩ := trodAll_nil rr0
  obtain rfl : args = #[v0] := by cases args; simp_all
  obtain ⟨rfl, rfl⟩ := trodVars_none hV
  obtain ⟨a0, len0, cap0, rfl⟩ := okWide_slice Tryd.underlying31 (hval 0 31 v0 rfl rfl)
  have k0 := h0
  have lt0 : ∀ x ∈ p0, x.block < W.heap.size := by obtain ⟨m, hm⟩ := k0; exact DataW.trod_lt m _ _ _ hm
  obtain ⟨z0, r0, f0, b0⟩ := slice_in Tryd.underlying31 Tryd.underlying5 (by kernel_rfl) (B := 1) (by kernel_rfl) hsz (j := 0) rfl rfl h0
  clear hA0 hval0
  refine (walk W a0 len0 cap0 z0 r0 f0 b0 ht).mono fun e W' ⟨he, bel⟩ => ?_
  subst he
  exact ⟨_, rfl, _, _, _, [], _, [], hW', trodAll_mk1 (shut_bool Tryd.underlying4 _), (trodAll_cons_mk (Below.trod laidOut (by kernel_rfl) (of_decide_eq_true (by kernel_rfl)) k0 bel lt0) trodAll_mk0), rfl, bel.frame _, fun h => by cases h⟩

theorem over : Rows.foldPlainRow.holds Tryd.pinned (OpenSpec.ofChange Rows.foldPlainSpec) :=
  OpenClaim.holds_of_wide 7 Tryd.f7 rfl rfl rfl rfl rfl rfl rfl ⟨rfl, rfl, rfl, rfl, rfl⟩ rfl rfl rfl rfl rfl (by kernel_rfl) Tryd.func7 (by kernel_rfl)
    (of_decide_eq_true (by kernel_rfl)) (by unfold Func.isWrapper; first | (rw [if_pos (by decide +kernel)]; kernel_rfl) | (rw [if_neg (by decide +kernel)]; exact ⟨rfl, rfl⟩))
    (fun os started H enc _ => lifted os started H enc)
end Go.Proofs.YtalfganfifkgjaaDoor.foldPlain
namespace Go.Proofs.YtalfganfifkgjaaDoor
theorem foldPlain_holds : Rows.FoldPlainCardSaid :=
  Claim7.holds_tied_plain_at .later [] [.data, .data] true (true, "431f81fcf1a65600043fa3d267c8528a0a4388a7b40072ea468da683d6194d4a") false foldPlain.over (fun _ h => by cases h) (by kernel_rfl) (fun _ h => by cases h) foldPlain_row_tie rfl ⟨rfl, rfl⟩ (by kernel_rfl) rfl
    (fun f fn hf hfn => by
      obtain rfl : f = 7 := Option.some.inj ((show Tryd.prog.funcNamed "mantelet/manteletlaw05.FoldPlain" = some 7 by kernel_rfl).symm.trans hf) |>.symm
      obtain rfl : fn = Tryd.f7 := (Option.some.inj (Tryd.func7.symm.trans hfn)).symm
      exact ⟨by kernel_rfl, fun j t ht => by
        rw [Tryd.params7] at ht
        have hm : t ∈ [31] := by simpa using Array.mem_of_getElem? ht
        have hall : ([31].all fun u => !Tryd.prog.wantsStandIn u) = true := by kernel_rfl
        exact (show Tryd.prog.wantsStandIn t = false by simpa using List.all_eq_true.1 hall t hm)⟩)
    (by kernel_rfl)
#print axioms foldPlain_holds
end Go.Proofs.YtalfganfifkgjaaDoor
