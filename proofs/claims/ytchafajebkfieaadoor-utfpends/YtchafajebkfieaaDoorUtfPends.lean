/- For every input UtfPends answers true, and leaves its arguments as they were. Conditions: none. -/
import Derived.Test.YtchafajebkfieaaDoorRows
import Derived.Test.YtchafajebkfieaaDoorCards
import Derived.Test.YtchafajebkfieaaDoorTie
import Derived.Test.YtchafajebkfieaaDoorUtfConv
import Derived.Test.YtchafajebkfieaaDoorUtfCode
import Derived.Test.YtchafajebkfieaaDoorShown04
import Derived.Test.YtchafajebkfieaaDoorOpen
import Derived.ProofKit
import Derived.OpenShut
import Derived.ShutString
import Derived.ChangeOld
import Derived.SizedLaws
import Derived.Deep.RegionHeld
import Derived.Deep.QuietTactic
import Derived.BigQuiet
import Derived.Deep.Cut
import Derived.Deep.CutBlock
import Derived.Lay
import Derived.LaidOnce
import Derived.SevenTiedAt
namespace Go.Proofs.YtchafajebkfieaaDoor.utfPends
open Go.ChangeShapes Go.WideShapes Go.ChangeAt Go.RowKit
open Go.ChangeMaps (open_string shut_string)
set_option linter.unusedVariables false

theorem own : ownKnob Tryd.prog.godebug = none := by kernel_rfl
theorem laidOut : laidOutB Tryd.prog = true := by kernel_rfl

theorem bytes_of {z : List Int} (f : ∀ x ∈ z, (Lit.int .u8 x).wf = true) : isBytes z := fun x hx => bounds_u8 (f x hx)

set_option maxRecDepth 100000 in
set_option maxHeartbeats 4000000 in
theorem walk (w : World) (a0 : Option Addr) (len0 cap0 : Nat) (z0 : List Int) (r0 : Reads w a0 len0 cap0 (z0.map (.int .u8))) (f0 : ∀ z ∈ z0, (Lit.int .u8 z).wf = true) (b0 : len0 * 1 ≤ 140737488351232) (ht : Tabs w) :
    Calls Tryd.prog 7 #[.slice a0 len0 cap0] w fun e w' => e = .returned (.bool true) ∧ Below w.heap.size w w' := by
  have h8 := bytes_of f0
  clear f0
  have hl0 : z0.length = len0 := by simpa using r0.length
  have hlc0 := r0.le
  go_enter Tryd.func7, Tryd.ntmps7
  go_wp2_with fail
  refine (shown_any _).mono ?_
  rintro e wa ⟨rfl, hb1⟩
  by_cases hbig : len0 ≤ 20000
  case neg =>
    have g1 : (20001 : Int) ≤ len0 := by omega
    clear hbig
    go_wp2
    go_ret
    exact ⟨rfl, hb1⟩
  have g0 : (len0 : Int) ≤ 20000 := by omega
  have ra := r0.later hb1 (Nat.le_refl _)
  clear r0
  go_wp2_with fail
  refine (upending_any _ _ _ _ _ ra h8 (by omega)).mono ?_
  rintro e wb ⟨rfl, hb2⟩
  have rb := ra.later hb2 (Nat.le_refl _)
  have hB2 := Grow.trans hb1 hb2
  clear ra hb1 hb2
  by_cases hp : pendU z0
  case neg =>
    simp only [hp, decide_false]
    by_cases h0 : len0 = 0
    · subst h0
      clear hp
      go_wp2
      go_ret
      exact ⟨rfl, hB2⟩
    have h0b : ((len0 : Int) == 0) = false := by simp; omega
    by_cases h3 : len0 ≤ 3
    case neg =>
      have h3' : (3 : Int) < len0 := by omega
      clear hp h0 h3
      go_wp2
      go_ret
      exact ⟨rfl, hB2⟩
    have h3' : (len0 : Int) ≤ 3 := by omega
    have hal := all_len (b := z0) (by intro h; rw [h] at hl0; simp at hl0; omega)
    clear hp h0 h3
    go_wp2_with fail
    refine (uend_any _ _ _ _ _ rb h8 (by omega)).mono ?_
    rintro e wc ⟨ag9, c9, m9, rfl, hm9, rz, hb9⟩
    have hm9' : (1 : Int) ≤ m9 := by omega
    have hB3 := Grow.trans hB2 hb9
    clear hm9 rz hb9 hB2 hal
    go_wp2
    go_ret
    exact ⟨rfl, hB3⟩
  have hAl : allU (z0 ++ [97]) = List.replicate len0 65533 ++ [97] := by
    rw [all_behind z0 [97] (by simp), all_pend hp, hl0]
  have HAl : Hid _ := hAl
  have hp1 : 1 ≤ len0 := by have := hp.1; omega
  have hp3 : len0 ≤ 3 := by have := hp.2.1; omega
  have hnp : Hid (decide (pendU (z0 ++ [97])) = false) := by show _ = _; rw [decide_eq_false_iff_not]; exact pend_letter hp 97 (by decide)
  have hin : Hid (2 ≤ len0 → decide (pendU (z0.take (len0 - 1))) = true) := by
    show _ → _
    intro h
    rw [decide_eq_true_eq]
    have := pend_init hp (by omega)
    rw [hl0] at this
    exact this
  simp only [hp, decide_true]
  clear hp hAl
  have mx : len0 + 20 ≤ maxLen := by unfold maxLen; omega
  have e8 : isBytes (z0 ++ [97]) := fun z hz => (List.mem_append.1 hz).elim (h8 z) (fun h => by simp at h; omega)
  go_wp2_with (at_builtin; refine wpList_append_reads rfl (.tmp 31) (.tmp 32) 22 rfl wb.heap.size 5 Tryd.infoByte rfl Tryd.underlying22 _ _ _ _ rfl (ownsRow_empty wb 5) _ _ _ _ rfl (rb.later ((Below.refl wb.heap.size wb).alloc (Nat.le_refl _) _) (Nat.le_refl _)) (ints_oneCell _ _) (by omega) (by omega) (by simp) ?_)
  intro ag2 c2 wc hown2 hb3
  have hb3' : Below wb.heap.size wb wc := Below.trans ((Below.refl wb.heap.size wb).alloc (Nat.le_refl _) _) hb3
  have hs3 := hb3'.size
  clear hb3
  try simp only [Nat.zero_add, List.nil_append] at hown2
  go_wp2_with (at_builtin; refine wpList_append_reads rfl (.tmp 33) (.tmp 34) 22 rfl wb.heap.size 5 Tryd.infoByte rfl Tryd.underlying22 _ _ _ _ rfl (hown2.alloc _) _ _ _ _ rfl (reads_one _ _ _) (ints_oneCell .u8 [97]) (by omega) (by omega) (by simp; omega) ?_)
  intro ag3 c3 wd hown3 hb4
  have hb4' : Below wb.heap.size wb wd := Below.trans (hb3'.alloc hs3 _) hb4
  have rd := rb.later hb4' (Nat.le_refl _)
  have hB4 := Grow.trans hB2 hb4'
  have ry : Reads wd ag3 (len0 + 1) c3 ((z0 ++ [97]).map (.int .u8)) := by have := Reads.own hown3; simpa using this
  clear hb4 hb4' hb3' hs3 hown2 hown3 rb hB2
  go_wp2_with fail
  refine (uall_any _ _ _ _ _ ry e8 (by omega)).mono ?_
  rintro e we ⟨ag5, c5, m5, rfl, hm5, rx, hb5⟩
  rw [HAl.out] at hm5 rx
  replace hm5 : m5 = len0 + 1 := by rw [hm5]; simp
  subst hm5
  have re := rd.later hb5 (Nat.le_refl _)
  have hB5 := Grow.trans hB4 hb5
  clear ry rd hb5 hB4
  obtain ⟨xb, xo, rfl, hxb, hxc⟩ := rx.at (by omega)
  have hcell : ∀ i, i < len0 → we.cell? ⟨xb, xo + i, none⟩ = some (.int .i32 65533) := fun i hi => by
    rw [hxc i (by omega), List.getD, List.getElem?_append_left (by simpa using hi)]
    simp [hi]
  have hlast : we.cell? ⟨xb, xo + len0, none⟩ = some (.int .i32 97) := by
    rw [hxc len0 (by omega), List.getD, List.getElem?_append_right (by simp)]
    simp
  clear hxc HAl rx
  go_wp2_with fail
  go_loop [5] (fun v => ∃ i : Nat, v = .int .i64 i ∧ i ≤ len0) (fun v => (len0 - intOf v).toNat)
  case atStart => exact ⟨0, rfl, by omega⟩
  case round =>
    obtain ⟨i, rfl, hi⟩ := hrel
    by_cases hil : i = len0
    case neg =>
      have hil' : (i : Int) < len0 := by omega
      have hil2 : (i : Int) < (len0 : Int) + 1 := by omega
      have hci := hcell i (by omega)
      clear hil
      go_wp2
      go_round
      case rel => exact ⟨i + 1, by go_num, by omega⟩
      case measure => simp [intOf]; omega
    subst hil
    have hii : (i : Int) < (i : Int) + 1 := by omega
    by_cases h1 : i = 1
    · subst h1
      go_wp2_with (at_builtin; refine wpList_append_wanted (by rfl) (.tmp 79) (.tmp 80) 22 rfl we.heap.size 5 Tryd.infoByte rfl Tryd.underlying22 _ _ _ _ rfl (ownsRow_empty we 5) _ _ _ _ rfl (re.later ((Below.refl we.heap.size we).alloc (Nat.le_refl _) _) (Nat.le_refl _)) (ints_oneCell _ _) (by omega) (by omega) (by simp) ?_)
      intro ag7 c7 wg hown7 _ hb7
      have hb7' : Below we.heap.size we wg := Below.trans ((Below.refl we.heap.size we).alloc (Nat.le_refl _) _) hb7
      have hs7 := hb7'.size
      clear hb7
      try simp only [Nat.zero_add, List.nil_append] at hown7
      go_wp2_with (at_builtin; refine wpList_append_wanted (by rfl) (.tmp 81) (.tmp 82) 22 rfl we.heap.size 5 Tryd.infoByte rfl Tryd.underlying22 _ _ _ _ rfl (hown7.alloc _) _ _ _ _ rfl (reads_one _ _ _) (ints_oneCell .u8 [97]) (by omega) (by omega) (by simp; omega) ?_)
      intro ag8 c8 wh hown8 _ hb8
      have hb8' : Below we.heap.size we wh := Below.trans (hb7'.alloc hs7 _) hb8
      have ry8 : Reads wh ag8 (1 + 1) c8 ((z0 ++ [97]).map (.int .u8)) := by have := Reads.own hown8; simpa using this
      have hB8 := Grow.trans hB5 hb8'
      clear hb8 hb8' hb7' hs7 hown7 hown8
      go_wp2_with fail
      refine (upending_any _ _ _ _ _ ry8 e8 (by omega)).mono ?_
      rintro e wj ⟨rfl, hb9⟩
      rw [hnp.out]
      have hB9 := Grow.trans hB8 hb9
      clear hB8 hb9 ry8
      go_wp2
      go_ret
      exact ⟨rfl, hB9⟩
    · have h1b : ((i : Int) == 1) = false := by simp; omega
      have h1' : (1 : Int) ≤ i := by omega
      have hin' := hin.out (by omega)
      obtain ⟨x1, hs1, hd1⟩ := Reads.to (P := Tryd.prog) Tryd.underlying22 (size_of Tryd.infoByte) (ao := a0) (len := i) (cap := cap0) hlc0 (i - 1) (by omega)
      have cst : ((i - 1 : Nat) : Int) = (i : Int) - 1 := by omega
      simp only [cst] at hs1
      have rx1 := hd1 we _ re
      rw [← List.map_take] at rx1
      have i8 : isBytes (z0.take (i - 1)) := fun z hz => h8 z (List.mem_of_mem_take hz)
      clear hd1 cst h1
      go_wp2_with fail
      refine (upending_any _ _ _ _ _ rx1 i8 (by omega)).mono ?_
      rintro e wf ⟨rfl, hb6⟩
      rw [hin']
      have rf := re.later hb6 (Nat.le_refl _)
      have hB6 := Grow.trans hB5 hb6
      clear hb6 hB5 re rx1 hin' hcell hlast
      go_wp2_with (at_builtin; refine wpList_append_wanted (by rfl) (.tmp 79) (.tmp 80) 22 rfl wf.heap.size 5 Tryd.infoByte rfl Tryd.underlying22 _ _ _ _ rfl (ownsRow_empty wf 5) _ _ _ _ rfl (rf.later ((Below.refl wf.heap.size wf).alloc (Nat.le_refl _) _) (Nat.le_refl _)) (ints_oneCell _ _) (by omega) (by omega) (by simp) ?_)
      intro ag7 c7 wg hown7 _ hb7
      have hb7' : Below wf.heap.size wf wg := Below.trans ((Below.refl wf.heap.size wf).alloc (Nat.le_refl _) _) hb7
      have hs7 := hb7'.size
      clear hb7
      try simp only [Nat.zero_add, List.nil_append] at hown7
      go_wp2_with (at_builtin; refine wpList_append_wanted (by rfl) (.tmp 81) (.tmp 82) 22 rfl wf.heap.size 5 Tryd.infoByte rfl Tryd.underlying22 _ _ _ _ rfl (hown7.alloc _) _ _ _ _ rfl (reads_one _ _ _) (ints_oneCell .u8 [97]) (by omega) (by omega) (by simp; omega) ?_)
      intro ag8 c8 wh hown8 _ hb8
      have hb8' : Below wf.heap.size wf wh := Below.trans (hb7'.alloc hs7 _) hb8
      have ry8 : Reads wh ag8 (i + 1) c8 ((z0 ++ [97]).map (.int .u8)) := by have := Reads.own hown8; simpa using this
      have hB8 := Grow.trans hB6 hb8'
      clear hb8 hb8' hb7' hs7 hown7 hown8
      go_wp2_with fail
      refine (upending_any _ _ _ _ _ ry8 e8 (by omega)).mono ?_
      rintro e wj ⟨rfl, hb9⟩
      rw [hnp.out]
      have hB9 := Grow.trans hB8 hb9
      clear hB8 hb9 ry8
      go_wp2
      go_ret
      exact ⟨rfl, hB9⟩

set_option maxRecDepth 100000 in
theorem lifted (os : Os) (started : os.Started) (H : Type) (enc : TypeId × Value → H) :
    ReturnsInHanded {} Tryd.checked os 7 .any (fun w args => (Rows.utfPendsSpec.pre enc Tryd.prog Tryd.f7 [] false w args ∧ laidMetH Tryd.prog tabLaid w) ∧ sizedMet enc Tryd.prog Tryd.f7 (OpenSpec.ofChange Rows.utfPendsSpec) false w args) (Rows.utfPendsSpec.post enc Tryd.prog Tryd.f7 false true false false) := by
  refine returnsInHanded_of_change_and (C := Tryd.checked) (X := fun w _ => laidMetH Tryd.prog tabLaid w) (fun _ _ _ hh h => h.of_heap hh) own started (by kernel_rfl) Tryd.func7
    (ChangeSpec.witness_shaped (enc := enc) (C := Tryd.checked) (os := os) (X := fun w _ => laidMetH Tryd.prog tabLaid w) false (World.laidAll Tryd.prog os tabLaid) #[.slice none 0 0] 8 (World.laidAll_os _ _ _)
      (World.shaped_of_ZipB (by kernel_rfl) (by kernel_rfl)) (by kernel_rfl) (by kernel_rfl) (by kernel_rfl)
      (by rw [MakeChecks.laidMetH_plain _ _ _ (by kernel_rfl)]; exact laidMet_laidAll _ (by kernel_rfl) (by kernel_rfl))) ?_
  intro W base args ds gs before hval0 hW hcnd hsz0 hL _
  rw [MakeChecks.laidMetH_plain _ _ _ (by kernel_rfl)] at hL
  have ht : Tabs W := tabs_of hL
  clear hL
  have hsz : (DataW.weightsEach Tryd.prog (Tryd.f7.params.toList ++ Rows.utfPendsSpec.plain.varTypes Tryd.prog) (ds ++ gs)).all (· ≤ reachBytes) = true := hsz0
  clear hsz0
  have hval : ∀ (j : Nat) t v, Tryd.f7.params[j]? = some t → args[j]? = some v → Value.okWide Tryd.prog W .any base t v := hval0
  have hW' := hW
  obtain ⟨p, q, hA0, hV, rfl, hfz, hnd⟩ := hW
  have hA : DataW.TrodAll enc Tryd.prog W 0 (fun _ => true) true Tryd.f7.params.toList args.toList ds p := hA0
  rw [Tryd.params7] at hA hval hsz
  obtain ⟨v0, vs0, d0, ds0, p0, q0, hargs, rfl, rfl, h0, rr0⟩ := trodAll_cons hA
  obtain ⟨rfl, rfl, rfl⟩ := trodAll_nil rr0
  obtain rfl : args = #[v0] := by cases args; simp_all
  obtain ⟨rfl, rfl⟩ := trodVars_none hV
  obtain ⟨a0, len0, cap0, rfl⟩ := okWide_slice Tryd.underlying22 (hval 0 22 v0 rfl rfl)
  have k0 := h0
  have lt0 : ∀ x ∈ p0, x.block < W.heap.size := by obtain ⟨m, hm⟩ := k0; exact DataW.trod_lt m _ _ _ hm
  obtain ⟨z0, r0, f0, b0⟩ := slice_in Tryd.underlying22 Tryd.underlying5 (by kernel_rfl) (B := 1) (by kernel_rfl) hsz (j := 0) rfl rfl h0
  clear hA0 hval0
  refine (walk W a0 len0 cap0 z0 r0 f0 b0 ht).mono fun e W' ⟨he, bel⟩ => ?_
  subst he
  exact ⟨_, rfl, _, _, _, [], _, [], hW', trodAll_mk1 (shut_bool Tryd.underlying4 _), (trodAll_cons_mk (Below.trod laidOut (by kernel_rfl) (of_decide_eq_true (by kernel_rfl)) k0 bel lt0) trodAll_mk0), rfl, bel.frame _, fun h => by cases h⟩

theorem over : Rows.utfPendsRow.holds Tryd.pinned (OpenSpec.ofChange Rows.utfPendsSpec) :=
  OpenClaim.holds_of_wide 7 Tryd.f7 rfl rfl rfl rfl rfl rfl rfl ⟨rfl, rfl, rfl, rfl, rfl⟩ rfl rfl rfl rfl rfl (by kernel_rfl) Tryd.func7 (by kernel_rfl)
    (of_decide_eq_true (by kernel_rfl)) (by unfold Func.isWrapper; first | (rw [if_pos (by decide +kernel)]; kernel_rfl) | (rw [if_neg (by decide +kernel)]; exact ⟨rfl, rfl⟩))
    (fun os started H enc _ => lifted os started H enc)
end Go.Proofs.YtchafajebkfieaaDoor.utfPends
namespace Go.Proofs.YtchafajebkfieaaDoor
theorem utfPends_holds : Rows.UtfPendsCardSaid :=
  Claim7.holds_tied_plain_at .later [] [.data, .pinned] true (true, "34594bd829618d443fc004d0488f0d7e5db30fb524e68a9fca37628f9cfa13e2") false utfPends.over (fun _ h => by cases h) (by kernel_rfl) (fun _ h => by cases h) utfPends_row_tie rfl ⟨rfl, rfl⟩ (by kernel_rfl) rfl
    (fun f fn hf hfn => by
      obtain rfl : f = 7 := Option.some.inj ((show Tryd.prog.funcNamed "mantelet/manteletlaw04.UtfPends" = some 7 by kernel_rfl).symm.trans hf) |>.symm
      obtain rfl : fn = Tryd.f7 := (Option.some.inj (Tryd.func7.symm.trans hfn)).symm
      exact ⟨by kernel_rfl, fun j t ht => by
        rw [Tryd.params7] at ht
        have hm : t ∈ [22] := by simpa using Array.mem_of_getElem? ht
        have hall : ([22].all fun u => !Tryd.prog.wantsStandIn u) = true := by kernel_rfl
        exact (show Tryd.prog.wantsStandIn t = false by simpa using List.all_eq_true.1 hall t hm)⟩)
    (by kernel_rfl)
#print axioms utfPends_holds
end Go.Proofs.YtchafajebkfieaaDoor
