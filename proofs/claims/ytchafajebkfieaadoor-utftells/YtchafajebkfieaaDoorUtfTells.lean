/- For every input UtfTells answers true, and leaves its arguments as they were. Conditions: none. -/
import Derived.Test.YtchafajebkfieaaDoorRows
import Derived.Test.YtchafajebkfieaaDoorCards
import Derived.Test.YtchafajebkfieaaDoorTie
import Derived.Test.YtchafajebkfieaaDoorUtfConv
import Derived.Test.YtchafajebkfieaaDoorUtfCode
import Derived.Test.YtchafajebkfieaaDoorRef04Feed
import Derived.Test.YtchafajebkfieaaDoorShown04
import Derived.Test.YtchafajebkfieaaDoorOpen
import Derived.ProofKit
import Derived.OpenShut
import Derived.ShutString
import Derived.ChangeOld
import Derived.SizedLaws
import Derived.Deep.RegionHeld
import Derived.Deep.QuietTactic
import Derived.BigQuiet
import Derived.Deep.Cut
import Derived.Deep.CutBlock
import Derived.Lay
import Derived.LaidOnce
import Derived.SevenTiedAt
namespace Go.Proofs.YtchafajebkfieaaDoor.utfTells
open Go.ChangeShapes Go.WideShapes Go.ChangeAt Go.RowKit
open Go.ChangeMaps (open_string shut_string)
set_option linter.unusedVariables false

theorem own : ownKnob Tryd.prog.godebug = none := by kernel_rfl
theorem laidOut : laidOutB Tryd.prog = true := by kernel_rfl

theorem bytes_of {z : List Int} (f : ∀ x ∈ z, (Lit.int .u8 x).wf = true) : isBytes z := fun x hx => bounds_u8 (f x hx)

set_option maxRecDepth 100000 in
set_option maxHeartbeats 4000000 in
theorem walk (w : World) (a0 : Option Addr) (len0 cap0 : Nat) (z0 : List Int) (r0 : Reads w a0 len0 cap0 (z0.map (.int .u8))) (f0 : ∀ z ∈ z0, (Lit.int .u8 z).wf = true) (b0 : len0 * 1 ≤ 140737488351232) (a1 : Option Addr) (len1 cap1 : Nat) (z1 : List Int) (r1 : Reads w a1 len1 cap1 (z1.map (.int .u8))) (f1 : ∀ z ∈ z1, (Lit.int .u8 z).wf = true) (b1 : len1 * 1 ≤ 140737488351232) (ht : Tabs w) :
    Calls Tryd.prog 3 #[.slice a0 len0 cap0, .slice a1 len1 cap1] w fun e w' => e = .returned (.bool true) ∧ Below w.heap.size w w' := by
  have p8 := bytes_of f0
  have h8 := bytes_of f1
  clear f0 f1
  go_enter Tryd.func3, Tryd.ntmps3
  go_wp2_with fail
  refine (shown_any _).mono ?_
  rintro e wa ⟨rfl, hb1⟩
  by_cases hbig : len0 ≤ 20000 ∧ len1 ≤ 20000
  case neg =>
    by_cases hb0 : len1 ≤ 20000
    · have g1 : (20001 : Int) ≤ len0 := by omega
      have g0 : (len1 : Int) ≤ 20000 := by omega
      clear hbig
      go_wp2
      go_ret
      exact ⟨rfl, hb1⟩
    · have g1 : (20001 : Int) ≤ len1 := by omega
      clear hbig
      go_wp2
      go_ret
      exact ⟨rfl, hb1⟩
  obtain ⟨hc0, hc1⟩ := hbig
  have g0 : (len0 : Int) ≤ 20000 := by omega
  have g1 : (len1 : Int) ≤ 20000 := by omega
  have ra0 := r0.later hb1 (Nat.le_refl _)
  have ra1 := r1.later hb1 (Nat.le_refl _)
  clear r0 r1
  go_wp2_with fail
  refine (ufeed_any _ _ _ _ _ _ _ _ _ ra0 ra1 p8 h8 (by omega) (by omega)).mono ?_
  rintro e wb ⟨ag1, c1, m1, bg1, d1, k1, rfl, hm1, hk1, hown1, rp, -, -, hb2⟩
  clear hm1 hk1
  have rl := Reads.own hown1
  have rb0 := ra0.later hb2 (Nat.le_refl _)
  have rb1 := ra1.later hb2 (Nat.le_refl _)
  have hB2 := Grow.trans hb1 hb2
  clear hown1 ra0 ra1 hb1 hb2
  go_wp2_with fail
  refine (rfeed_any _ _ _ _ _ _ _ _ _ rb0 rb1 p8 h8 (by omega) (by omega)).mono ?_
  rintro e wc ⟨ag2, c2, m2, bg2, d2, k2, rfl, hm2, hk2, hown2, rq, -, -, hb3⟩
  clear hm2 hk2
  have rm := Reads.own hown2
  have rc0 := rb0.later hb3 (Nat.le_refl _)
  have rc1 := rb1.later hb3 (Nat.le_refl _)
  have rl3 := rl.later hb3 (Nat.le_refl _)
  have rp3 := rp.later hb3 (Nat.le_refl _)
  have hB3 := Grow.trans hB2 hb3
  clear hown2 rb0 rb1 hb3 hB2 rl rp
  generalize feedU (z0 ++ z1) = fd at rl3 rp3 rm rq
  obtain ⟨fr, fp⟩ := fd
  go_wp2_with fail
  refine (uall_any _ _ _ _ _ rc1 h8 (by omega)).mono ?_
  rintro e wd ⟨ag3, c3, m3, rfl, hm3, rx, hb4⟩
  clear hm3
  have rd0 := rc0.later hb4 (Nat.le_refl _)
  have rd1 := rc1.later hb4 (Nat.le_refl _)
  have rl4 := rl3.later hb4 (Nat.le_refl _)
  have rp4 := rp3.later hb4 (Nat.le_refl _)
  have rm4 := rm.later hb4 (Nat.le_refl _)
  have rq4 := rq.later hb4 (Nat.le_refl _)
  have hB4 := Grow.trans hB3 hb4
  clear rc0 rc1 rl3 rp3 rm rq hb4 hB3
  go_wp2_with fail
  refine (rall_any _ _ _ _ _ rd1 h8 (by omega)).mono ?_
  rintro e we ⟨ag5, c5, m5, rfl, hm5, hown5, hb5⟩
  clear hm5
  have ry := Reads.own hown5
  have re0 := rd0.later hb5 (Nat.le_refl _)
  have rx5 := rx.later hb5 (Nat.le_refl _)
  have rl5 := rl4.later hb5 (Nat.le_refl _)
  have rp5 := rp4.later hb5 (Nat.le_refl _)
  have rm5 := rm4.later hb5 (Nat.le_refl _)
  have rq5 := rq4.later hb5 (Nat.le_refl _)
  have hB5 := Grow.trans hB4 hb5
  clear hown5 rd0 rd1 rx rl4 rp4 rm4 rq4 hb5 hB4
  go_wp2_with fail
  refine (same_any _ _ _ _ _ _ _ _ _ rx5 ry).mono ?_
  rintro e wf ⟨rfl, q, rfl⟩
  simp only [decide_true]
  have hgd := grow_drewN we q
  generalize we.drewN q = wf at hgd
  have re0' := re0.later hgd (Nat.le_refl _)
  have rl6 := rl5.later hgd (Nat.le_refl _)
  have rp6 := rp5.later hgd (Nat.le_refl _)
  have rm6 := rm5.later hgd (Nat.le_refl _)
  have rq6 := rq5.later hgd (Nat.le_refl _)
  have hB6 := Grow.trans hB5 hgd
  clear re0 rx5 ry rl5 rp5 rm5 rq5 hgd hB5
  go_wp2_with fail
  refine (upending_any _ _ _ _ _ re0' p8 (by omega)).mono ?_
  rintro e wg ⟨rfl, hb7⟩
  have rg0 := re0'.later hb7 (Nat.le_refl _)
  have rl7 := rl6.later hb7 (Nat.le_refl _)
  have rp7 := rp6.later hb7 (Nat.le_refl _)
  have rm7 := rm6.later hb7 (Nat.le_refl _)
  have rq7 := rq6.later hb7 (Nat.le_refl _)
  have hB7 := Grow.trans hB6 hb7
  clear re0' rl6 rp6 rm6 rq6 hb7 hB6
  go_wp2_with fail
  refine (rpending_any _ _ _ _ _ rg0 p8).mono ?_
  rintro e wh ⟨rfl, q, rfl⟩
  have hgd := grow_drewN wg q
  generalize wg.drewN q = wh at hgd
  have rh0 := rg0.later hgd (Nat.le_refl _)
  have rl8 := rl7.later hgd (Nat.le_refl _)
  have rp8 := rp7.later hgd (Nat.le_refl _)
  have rm8 := rm7.later hgd (Nat.le_refl _)
  have rq8 := rq7.later hgd (Nat.le_refl _)
  have hB8 := Grow.trans hB7 hgd
  clear rg0 rl7 rp7 rm7 rq7 hgd hB7
  generalize decide (pendU z0) = pd
  have hpd : (pd == pd) = true := by simp
  go_wp2_with fail
  refine (same_any _ _ _ _ _ _ _ _ _ rl8 rm8).mono ?_
  rintro e wi ⟨rfl, q, rfl⟩
  simp only [decide_true]
  have hgd := grow_drewN wh q
  generalize wh.drewN q = wi at hgd
  have ri0 := rh0.later hgd (Nat.le_refl _)
  have rp9 := rp8.later hgd (Nat.le_refl _)
  have rq9 := rq8.later hgd (Nat.le_refl _)
  have hB9 := Grow.trans hB8 hgd
  clear rh0 rl8 rm8 rp8 rq8 hgd hB8
  have v1 := conv_of Tryd.underlying22 Tryd.underlying5 Tryd.underlying9 rp9
  have v2 := conv_of Tryd.underlying22 Tryd.underlying5 Tryd.underlying9 rq9
  clear rp9 rq9
  go_wp2_with fail
  refine (uend_any _ _ _ _ _ ri0 p8 (by omega)).mono ?_
  rintro e wj ⟨ag9, c9, m9, rfl, hm9, rz, hb9⟩
  clear hm9 v1 v2
  have rj0 := ri0.later hb9 (Nat.le_refl _)
  have hB10 := Grow.trans hB9 hb9
  clear ri0 hb9 hB9
  go_wp2_with fail
  refine (rall_any _ _ _ _ _ rj0 p8 (by omega)).mono ?_
  rintro e wk ⟨ag10, c10, m10, rfl, hm10, hown10, hb10⟩
  clear hm10
  have rz10 := rz.later hb10 (Nat.le_refl _)
  have hB11 := Grow.trans hB10 hb10
  have ry := Reads.own hown10
  clear hown10 rj0 rz hb10 hB10
  go_wp2_with fail
  refine (same_any _ _ _ _ _ _ _ _ _ rz10 ry).mono ?_
  rintro e wl ⟨rfl, q, rfl⟩
  simp only [decide_true]
  have hB12 := Grow.trans hB11 (grow_drewN wk q)
  clear hB11 rz10 ry
  go_wp2
  go_ret
  exact ⟨rfl, hB12⟩

set_option maxRecDepth 100000 in
theorem lifted (os : Os) (started : os.Started) (H : Type) (enc : TypeId × Value → H) :
    ReturnsInHanded {} Tryd.checked os 3 .any (fun w args => (Rows.utfTellsSpec.pre enc Tryd.prog Tryd.f3 [] false w args ∧ laidMetH Tryd.prog tabLaid w) ∧ sizedMet enc Tryd.prog Tryd.f3 (OpenSpec.ofChange Rows.utfTellsSpec) false w args) (Rows.utfTellsSpec.post enc Tryd.prog Tryd.f3 false true false false) := by
  refine returnsInHanded_of_change_and (C := Tryd.checked) (X := fun w _ => laidMetH Tryd.prog tabLaid w) (fun _ _ _ hh h => h.of_heap hh) own started (by kernel_rfl) Tryd.func3
    (ChangeSpec.witness_shaped (enc := enc) (C := Tryd.checked) (os := os) (X := fun w _ => laidMetH Tryd.prog tabLaid w) false (World.laidAll Tryd.prog os tabLaid) #[.slice none 0 0, .slice none 0 0] 8 (World.laidAll_os _ _ _)
      (World.shaped_of_ZipB (by kernel_rfl) (by kernel_rfl)) (by kernel_rfl) (by kernel_rfl) (by kernel_rfl)
      (by rw [MakeChecks.laidMetH_plain _ _ _ (by kernel_rfl)]; exact laidMet_laidAll _ (by kernel_rfl) (by kernel_rfl))) ?_
  intro W base args ds gs before hval0 hW hcnd hsz0 hL _
  rw [MakeChecks.laidMetH_plain _ _ _ (by kernel_rfl)] at hL
  have ht : Tabs W := tabs_of hL
  clear hL
  have hsz : (DataW.weightsEach Tryd.prog (Tryd.f3.params.toList ++ Rows.utfTellsSpec.plain.varTypes Tryd.prog) (ds ++ gs)).all (· ≤ reachBytes) = true := hsz0
  clear hsz0
  have hval : ∀ (j : Nat) t v, Tryd.f3.params[j]? = some t → args[j]? = some v → Value.okWide Tryd.prog W .any base t v := hval0
  have hW' := hW
  obtain ⟨p, q, hA0, hV, rfl, hfz, hnd⟩ := hW
  have hA : DataW.TrodAll enc Tryd.prog W 0 (fun _ => true) true Tryd.f3.params.toList args.toList ds p := hA0
  rw [Tryd.params3] at hA hval hsz
  obtain ⟨v0, vs0, d0, ds0, p0, q0, hargs, rfl, rfl, h0, rr0⟩ := trodAll_cons hA
  obtain ⟨v1, vs1, d1, ds1, p1, q1, rfl, rfl, rfl, h1, rr1⟩ := trodAll_cons rr0
  obtain ⟨rfl, rfl, rfl⟩ := trodAll_nil rr1
  obtain rfl : args = #[v0, v1] := by cases args; simp_all
  obtain ⟨rfl, rfl⟩ := trodVars_none hV
  obtain ⟨a0, len0, cap0, rfl⟩ := okWide_slice Tryd.underlying22 (hval 0 22 v0 rfl rfl)
  have k0 := h0
  have lt0 : ∀ x ∈ p0, x.block < W.heap.size := by obtain ⟨m, hm⟩ := k0; exact DataW.trod_lt m _ _ _ hm
  obtain ⟨z0, r0, f0, b0⟩ := slice_in Tryd.underlying22 Tryd.underlying5 (by kernel_rfl) (B := 1) (by kernel_rfl) hsz (j := 0) rfl rfl h0
  obtain ⟨a1, len1, cap1, rfl⟩ := okWide_slice Tryd.underlying22 (hval 1 22 v1 rfl rfl)
  have k1 := h1
  have lt1 : ∀ x ∈ p1, x.block < W.heap.size := by obtain ⟨m, hm⟩ := k1; exact DataW.trod_lt m _ _ _ hm
  obtain ⟨z1, r1, f1, b1⟩ := slice_in Tryd.underlying22 Tryd.underlying5 (by kernel_rfl) (B := 1) (by kernel_rfl) hsz (j := 1) rfl rfl h1
  clear hA0 hval0
  refine (walk W a0 len0 cap0 z0 r0 f0 b0 a1 len1 cap1 z1 r1 f1 b1 ht).mono fun e W' ⟨he, bel⟩ => ?_
  subst he
  exact ⟨_, rfl, _, _, _, [], _, [], hW', trodAll_mk1 (shut_bool Tryd.underlying4 _), (trodAll_cons_mk (Below.trod laidOut (by kernel_rfl) (of_decide_eq_true (by kernel_rfl)) k0 bel lt0) (trodAll_cons_mk (Below.trod laidOut (by kernel_rfl) (of_decide_eq_true (by kernel_rfl)) k1 bel lt1) trodAll_mk0)), rfl, bel.frame _, fun h => by cases h⟩

theorem over : Rows.utfTellsRow.holds Tryd.pinned (OpenSpec.ofChange Rows.utfTellsSpec) :=
  OpenClaim.holds_of_wide 3 Tryd.f3 rfl rfl rfl rfl rfl rfl rfl ⟨rfl, rfl, rfl, rfl, rfl⟩ rfl rfl rfl rfl rfl (by kernel_rfl) Tryd.func3 (by kernel_rfl)
    (of_decide_eq_true (by kernel_rfl)) (by unfold Func.isWrapper; first | (rw [if_pos (by decide +kernel)]; kernel_rfl) | (rw [if_neg (by decide +kernel)]; exact ⟨rfl, rfl⟩))
    (fun os started H enc _ => lifted os started H enc)
end Go.Proofs.YtchafajebkfieaaDoor.utfTells
namespace Go.Proofs.YtchafajebkfieaaDoor
theorem utfTells_holds : Rows.UtfTellsCardSaid :=
  Claim7.holds_tied_plain_at .later [] [.data, .pinned] true (true, "34594bd829618d443fc004d0488f0d7e5db30fb524e68a9fca37628f9cfa13e2") false utfTells.over (fun _ h => by cases h) (by kernel_rfl) (fun _ h => by cases h) utfTells_row_tie rfl ⟨rfl, rfl⟩ (by kernel_rfl) rfl
    (fun f fn hf hfn => by
      obtain rfl : f = 3 := Option.some.inj ((show Tryd.prog.funcNamed "mantelet/manteletlaw04.UtfTells" = some 3 by kernel_rfl).symm.trans hf) |>.symm
      obtain rfl : fn = Tryd.f3 := (Option.some.inj (Tryd.func3.symm.trans hfn)).symm
      exact ⟨by kernel_rfl, fun j t ht => by
        rw [Tryd.params3] at ht
        have hm : t ∈ [22, 22] := by simpa using Array.mem_of_getElem? ht
        have hall : ([22, 22].all fun u => !Tryd.prog.wantsStandIn u) = true := by kernel_rfl
        exact (show Tryd.prog.wantsStandIn t = false by simpa using List.all_eq_true.1 hall t hm)⟩)
    (by kernel_rfl)
#print axioms utfTells_holds
end Go.Proofs.YtchafajebkfieaaDoor
