/- For every input UtfLetters answers true, and leaves its arguments as they were. Conditions: none. -/
import Derived.Test.YtchafajebkfieaaDoorRows
import Derived.Test.YtchafajebkfieaaDoorCards
import Derived.Test.YtchafajebkfieaaDoorTie
import Derived.Test.YtchafajebkfieaaDoorUtfConv
import Derived.Test.YtchafajebkfieaaDoorUtfCode
import Derived.Test.YtchafajebkfieaaDoorShown04
import Derived.Test.YtchafajebkfieaaDoorOpen
import Derived.ProofKit
import Derived.OpenShut
import Derived.ShutString
import Derived.ChangeOld
import Derived.SizedLaws
import Derived.Deep.RegionHeld
import Derived.Deep.QuietTactic
import Derived.BigQuiet
import Derived.Deep.Cut
import Derived.Deep.CutBlock
import Derived.Lay
import Derived.LaidOnce
import Derived.SevenTiedAt
namespace Go.Proofs.YtchafajebkfieaaDoor.utfLetters
open Go.ChangeShapes Go.WideShapes Go.ChangeAt Go.RowKit
open Go.ChangeMaps (open_string shut_string)
set_option linter.unusedVariables false

theorem own : ownKnob Tryd.prog.godebug = none := by kernel_rfl
theorem laidOut : laidOutB Tryd.prog = true := by kernel_rfl

theorem bytes_of {z : List Int} (f : ∀ x ∈ z, (Lit.int .u8 x).wf = true) : isBytes z := fun x hx => bounds_u8 (f x hx)
theorem map_next (z : List Int) (j : Nat) (h : j < z.length) : (z.take (j + 1)).map (· % 128) = (z.take j).map (· % 128) ++ [z.getD j 0 % 128] := by
  have e : z.take (j + 1) = z.take j ++ [z.getD j 0] := by rw [List.take_add_one, List.getD, List.getElem?_eq_getElem h]; rfl
  rw [e, List.map_append]; rfl

set_option maxRecDepth 100000 in
set_option maxHeartbeats 4000000 in
theorem walk (w : World) (a0 : Option Addr) (len0 cap0 : Nat) (z0 : List Int) (r0 : Reads w a0 len0 cap0 (z0.map (.int .u8))) (f0 : ∀ z ∈ z0, (Lit.int .u8 z).wf = true) (b0 : len0 * 1 ≤ 140737488351232) (a1 : Option Addr) (len1 cap1 : Nat) (z1 : List Int) (r1 : Reads w a1 len1 cap1 (z1.map (.int .u8))) (f1 : ∀ z ∈ z1, (Lit.int .u8 z).wf = true) (b1 : len1 * 1 ≤ 140737488351232) (ht : Tabs w) :
    Calls Tryd.prog 8 #[.slice a0 len0 cap0, .slice a1 len1 cap1] w fun e w' => e = .returned (.bool true) ∧ Below w.heap.size w w' := by
  have h8 := bytes_of f0
  have c8 := bytes_of f1
  clear f0 f1
  have hl0 : z0.length = len0 := by simpa using r0.length
  have hl1 : z1.length = len1 := by simpa using r1.length
  go_enter Tryd.func8, Tryd.ntmps8
  go_wp2_with fail
  refine (shown_any _).mono ?_
  rintro e wa ⟨rfl, hb1⟩
  by_cases hbig : len0 ≤ 2000 ∧ len1 ≤ 2000
  case neg =>
    by_cases hb0 : len0 ≤ 2000
    · have g1 : (2001 : Int) ≤ len1 := by omega
      have g0 : (len0 : Int) ≤ 2000 := by omega
      clear hbig
      go_wp2
      go_ret
      exact ⟨rfl, hb1⟩
    · have g1 : (2001 : Int) ≤ len0 := by omega
      clear hbig
      go_wp2
      go_ret
      exact ⟨rfl, hb1⟩
  obtain ⟨hc0, hc1⟩ := hbig
  have g0 : (len0 : Int) ≤ 2000 := by omega
  have g1 : (len1 : Int) ≤ 2000 := by omega
  have ra0 := r0.later hb1 (Nat.le_refl _)
  have ra1 := r1.later hb1 (Nat.le_refl _)
  clear r0 r1
  have mx : len0 + len1 + 20 ≤ maxLen := by unfold maxLen; omega
  go_wp2_with fail
  go_loopw [6, 7] (fun v i wr => ∃ (j : Nat) (ag : Option Addr) (c : Nat), v = .slice ag j c ∧ i = .int .i64 j ∧ j ≤ len1 ∧ wr.ownsRow wa.heap.size 5 1 (.slice ag j c) j (((z1.take j).map (· % 128)).map (.int .u8)) ∧ Below wa.heap.size wa wr) (fun _ i _ => (len1 - intOf i).toNat)
  case atStart => exact ⟨0, none, 0, rfl, rfl, by omega, World.ownsRow_nil _ _ _ _, Below.refl _ _⟩
  case round =>
    obtain ⟨j, ag, c, rfl, rfl, hj, hown, hb⟩ := hrel
    have hsz := hb.size
    by_cases hjl : j = len1
    case neg =>
      have hjl' : (j : Int) < len1 := by omega
      obtain ⟨b1, o1, rfl, hbb, hcell⟩ := ra1.at (by omega)
      obtain ⟨x, hx, hx8⟩ := c8.get j
      have hcj : wr.cell? ⟨b1, o1 + j, none⟩ = some (.int .u8 (x : Int)) := by rw [hb.cell hbb, hcell j (by omega), hx]
      have hN : Hid ((z1.take (j + 1)).map (· % 128) = (z1.take j).map (· % 128) ++ [(x : Int) % 128]) := by show _ = _; rw [map_next z1 j (by omega), hx]
      clear hx hcell hjl
      go_wp2_with (at_builtin; refine wpList_append_reads rfl (.tmp 28) (.tmp 34) 22 rfl wa.heap.size 5 Tryd.infoByte rfl Tryd.underlying22 _ _ _ _ rfl (hown.alloc _) _ _ _ _ rfl (reads_one _ _ _) (ints_oneCell .u8 [(x : Int) % 128]) (by omega) (by omega) (by simp; omega) ?_)
      intro ag3 c3 w3 hown3 hb3
      have hb3' : Below wa.heap.size wa w3 := (hb.alloc hsz _).trans hb3
      clear hb3 hown
      go_wp2
      go_roundw
      case rel =>
        refine ⟨j + 1, ag3, c3, rfl, by go_num, by omega, ?_, hb3'⟩
        rw [hN.out]
        simpa using hown3
      case measure => simp [intOf]; omega
    subst hjl
    rw [List.take_of_length_le (by omega)] at hown
    have hPl : (z1.map (· % 128)).length = j := by simp; omega
    have hP8 : ∀ x ∈ z1.map (· % 128), 0 ≤ x ∧ x < 128 := fun x hx => by
      simp only [List.mem_map] at hx
      obtain ⟨y, _, rfl⟩ := hx
      omega
    have ra0' := ra0.later hb (Nat.le_refl _)
    have hBr := Grow.trans hb1 hb
    have rpl := Reads.own hown
    clear hown ra0 ra1 hb hsz hb1 c8
    generalize z1.map (· % 128) = pl at hPl hP8 rpl
    have pl8 : isBytes pl := fun x hx => by have := hP8 x hx; omega
    have hAl : Hid (allU (z0 ++ pl) = allU z0 ++ pl) := all_behind z0 pl hP8
    have hFd : Hid (feedU pl = (pl, [])) := (all_plain pl hP8).2
    have hal := all_le z0
    go_wp2_with (at_builtin; refine wpList_append_reads rfl (.tmp 36) (.tmp 37) 22 rfl wr.heap.size 5 Tryd.infoByte rfl Tryd.underlying22 _ _ _ _ rfl (ownsRow_empty wr 5) _ _ _ _ rfl (ra0'.later ((Below.refl wr.heap.size wr).alloc (Nat.le_refl _) _) (Nat.le_refl _)) (ints_oneCell _ _) (by omega) (by omega) (by simp) ?_)
    intro ag2 c2 wc hown2 hb3
    have hb3' : Below wr.heap.size wr wc := Below.trans ((Below.refl wr.heap.size wr).alloc (Nat.le_refl _) _) hb3
    have rpl3 := rpl.later hb3' (Nat.le_refl _)
    have hs3 := hb3'.size
    clear hb3
    try simp only [Nat.zero_add, List.nil_append] at hown2
    go_wp2_with (at_builtin; refine wpList_append_reads rfl (.tmp 38) (.tmp 39) 22 rfl wr.heap.size 5 Tryd.infoByte rfl Tryd.underlying22 _ _ _ _ rfl hown2 _ _ _ _ rfl rpl3 (ints_oneCell _ _) (by omega) (by omega) hs3 ?_)
    intro ag3 c3 wd hown3 hb4
    have hb4' : Below wr.heap.size wr wd := Below.trans hb3' hb4
    have rpl4 := rpl.later hb4' (Nat.le_refl _)
    have rd0 := ra0'.later hb4' (Nat.le_refl _)
    have hB4 := Grow.trans hBr hb4'
    simp only [← List.map_append] at hown3
    have ry := Reads.own hown3
    have e8 : isBytes (z0 ++ pl) := fun z hz => (List.mem_append.1 hz).elim (h8 z) (pl8 z)
    clear hb4 hb3' hs3 hown2 hown3 rpl3 rpl ra0' hb4' hBr
    go_wp2_with fail
    refine (uall_any _ _ _ _ _ ry e8 (by omega)).mono ?_
    rintro e we ⟨ag5, c5, m5, rfl, hm5, rx, hb5⟩
    rw [hAl.out] at hm5 rx
    rw [List.length_append, hPl] at hm5
    generalize hL0 : (allU z0).length = L0 at hm5 hal
    have HL0 : Hid _ := hL0
    have Hm5 : Hid (m5 = L0 + j) := hm5
    have rpl5 := rpl4.later hb5 (Nat.le_refl _)
    have re0 := rd0.later hb5 (Nat.le_refl _)
    have hB5 := Grow.trans hB4 hb5
    have hm5' : (j : Int) ≤ m5 := by omega
    have hm5b : (m5 : Int) ≤ 10000 := by omega
    clear hm5 hL0 ry rd0 rpl4 hb5 hB4 hAl
    go_wp2_with fail
    refine (ufeed_any none 0 0 [] _ _ _ _ _ (Reads.nil _) rpl5 (by simp [isBytes]) pl8 (by omega) (by omega)).mono ?_
    rintro e wf ⟨ag6, c6, m6, bg6, d6, k6, rfl, hm6, hk6, hown6, rp6, -, -, hb6⟩
    simp only [List.nil_append, hFd.out] at hm6 hk6 hown6
    replace hm6 : m6 = j := by rw [hm6, hPl]
    replace hk6 : k6 = 0 := hk6
    subst hm6 hk6
    have rm := Reads.own hown6
    have rx6 := rx.later hb6 (Nat.le_refl _)
    have rpl6 := rpl5.later hb6 (Nat.le_refl _)
    have rf0 := re0.later hb6 (Nat.le_refl _)
    have hB6 := Grow.trans hB5 hb6
    clear hown6 rp6 rx rpl5 re0 hb6 hB5 hFd
    go_wp2_with fail
    go_loopw [11] (fun v wq => ∃ i : Nat, v = .int .i64 i ∧ i ≤ m6 ∧ ∃ q, wq = wf.drewN q) (fun v _ => (m6 - intOf v).toNat)
    case atStart => exact ⟨0, rfl, by omega, 0, rfl⟩
    case round =>
      obtain ⟨i, rfl, hi, q, hw⟩ := hrel
      have Hw : Hid _ := hw
      clear hw
      by_cases him : i = m6
      case neg =>
        have him' : (i : Int) < m6 := by omega
        have himN : i < m6 := by omega
        obtain ⟨xb, xo, rfl, hxb, hxc⟩ := rx6.at (by omega)
        obtain ⟨pb, po, rfl, hpb, hpc⟩ := rpl6.at (by omega)
        obtain ⟨mb, mo, rfl, hmb, hmc⟩ := rm.at (by omega)
        obtain ⟨y, hy, hy8⟩ := pl8.get i
        obtain ⟨T, hT⟩ : ∃ T, T = L0 + i := ⟨_, rfl⟩
        have hTm : T < m5 := by have := Hm5.out; omega
        have hTi : (T : Int) < m5 := by omega
        have k1 : wr.cell? ⟨xb, xo + T, none⟩ = some (.int .i32 (y : Int)) := by
          rw [Hw.out]
          show wf.cell? _ = _
          rw [hxc T hTm, hT, List.getD, List.getElem?_append_right (by have := HL0.out; omega)]
          have e : L0 + i - (allU z0).length = i := by have := HL0.out; omega
          rw [e, ← List.getD, hy]
        have k2 : wr.cell? ⟨pb, po + i, none⟩ = some (.int .u8 (y : Int)) := by rw [Hw.out]; show wf.cell? _ = _; rw [hpc i himN, hy]
        have k3 : wr.cell? ⟨mb, mo + i, none⟩ = some (.int .i32 (y : Int)) := by rw [Hw.out]; show wf.cell? _ = _; rw [hmc i himN, hy]
        have s1 : IntKind.i64.wrap ((m5 : Int) - m6) = (L0 : Int) := by rw [IntKind.wrap_i64]; have := Hm5.out; omega
        have s2 : IntKind.i64.wrap ((L0 : Int) + i) = (T : Int) := by rw [IntKind.wrap_i64]; omega
        have s3 : (m5 : Int) - m6 = (L0 : Int) := by have := Hm5.out; omega
        have s4 : (L0 : Int) + i = (T : Int) := by omega
        have HT : Hid _ := hT
        clear hy hxc hpc hmc him hT
        go_wp2_with fail
        go_quiet (fail)
        go_wp2
        go_roundw
        case rel => exact ⟨i + 1, by go_num, by omega, q + nq, by rw [Hw.out, World.drewN_drewN]⟩
        case measure => simp [intOf]; omega
      subst him
      have hgw : Below wf.heap.size wf wr := by rw [Hw.out]; exact grow_drewN wf q
      have rg0 := rf0.later hgw (Nat.le_refl _)
      have hB7 := Grow.trans hB6 hgw
      clear hgw rf0 hB6 rx6 rpl6 rm
      by_cases h0 : i = 0
      · subst h0
        go_wp2
        go_ret
        exact ⟨rfl, hB7⟩
      have h0b : ((i : Int) == 0) = false := by simp; omega
      clear h0
      go_wp2_with fail
      refine (uall_any _ _ _ _ _ rg0 h8 (by omega)).mono ?_
      rintro e wg ⟨ag8, c8', m8, rfl, hm8, rz, hb8⟩
      rw [HL0.out] at hm8
      subst hm8
      have hB8 := Grow.trans hB7 hb8
      have heq : (m5 : Int) = (m8 : Int) + i := by have := Hm5.out; omega
      have heqb : ((m5 : Int) == (m8 : Int) + i) = true := by rw [heq]; simp
      have hwr : IntKind.i64.wrap ((m8 : Int) + i) = (m8 : Int) + i := by rw [IntKind.wrap_i64]; omega
      clear rz hb8 hB7 heq
      go_wp2
      go_ret
      exact ⟨rfl, hB8⟩

set_option maxRecDepth 100000 in
theorem lifted (os : Os) (started : os.Started) (H : Type) (enc : TypeId × Value → H) :
    ReturnsInHanded {} Tryd.checked os 8 .any (fun w args => (Rows.utfLettersSpec.pre enc Tryd.prog Tryd.f8 [] false w args ∧ laidMetH Tryd.prog tabLaid w) ∧ sizedMet enc Tryd.prog Tryd.f8 (OpenSpec.ofChange Rows.utfLettersSpec) false w args) (Rows.utfLettersSpec.post enc Tryd.prog Tryd.f8 false true false false) := by
  refine returnsInHanded_of_change_and (C := Tryd.checked) (X := fun w _ => laidMetH Tryd.prog tabLaid w) (fun _ _ _ hh h => h.of_heap hh) own started (by kernel_rfl) Tryd.func8
    (ChangeSpec.witness_shaped (enc := enc) (C := Tryd.checked) (os := os) (X := fun w _ => laidMetH Tryd.prog tabLaid w) false (World.laidAll Tryd.prog os tabLaid) #[.slice none 0 0, .slice none 0 0] 8 (World.laidAll_os _ _ _)
      (World.shaped_of_ZipB (by kernel_rfl) (by kernel_rfl)) (by kernel_rfl) (by kernel_rfl) (by kernel_rfl)
      (by rw [MakeChecks.laidMetH_plain _ _ _ (by kernel_rfl)]; exact laidMet_laidAll _ (by kernel_rfl) (by kernel_rfl))) ?_
  intro W base args ds gs before hval0 hW hcnd hsz0 hL _
  rw [MakeChecks.laidMetH_plain _ _ _ (by kernel_rfl)] at hL
  have ht : Tabs W := tabs_of hL
  clear hL
  have hsz : (DataW.weightsEach Tryd.prog (Tryd.f8.params.toList ++ Rows.utfLettersSpec.plain.varTypes Tryd.prog) (ds ++ gs)).all (· ≤ reachBytes) = true := hsz0
  clear hsz0
  have hval : ∀ (j : Nat) t v, Tryd.f8.params[j]? = some t → args[j]? = some v → Value.okWide Tryd.prog W .any base t v := hval0
  have hW' := hW
  obtain ⟨p, q, hA0, hV, rfl, hfz, hnd⟩ := hW
  have hA : DataW.TrodAll enc Tryd.prog W 0 (fun _ => true) true Tryd.f8.params.toList args.toList ds p := hA0
  rw [Tryd.params8] at hA hval hsz
  obtain ⟨v0, vs0, d0, ds0, p0, q0, hargs, rfl, rfl, h0, rr0⟩ := trodAll_cons hA
  obtain ⟨v1, vs1, d1, ds1, p1, q1, rfl, rfl, rfl, h1, rr1⟩ := trodAll_cons rr0
  obtain ⟨rfl, rfl, rfl⟩ := trodAll_nil rr1
  obtain rfl : args = #[v0, v1] := by cases args; simp_all
  obtain ⟨rfl, rfl⟩ := trodVars_none hV
  obtain ⟨a0, len0, cap0, rfl⟩ := okWide_slice Tryd.underlying22 (hval 0 22 v0 rfl rfl)
  have k0 := h0
  have lt0 : ∀ x ∈ p0, x.block < W.heap.size := by obtain ⟨m, hm⟩ := k0; exact DataW.trod_lt m _ _ _ hm
  obtain ⟨z0, r0, f0, b0⟩ := slice_in Tryd.underlying22 Tryd.underlying5 (by kernel_rfl) (B := 1) (by kernel_rfl) hsz (j := 0) rfl rfl h0
  obtain ⟨a1, len1, cap1, rfl⟩ := okWide_slice Tryd.underlying22 (hval 1 22 v1 rfl rfl)
  have k1 := h1
  have lt1 : ∀ x ∈ p1, x.block < W.heap.size := by obtain ⟨m, hm⟩ := k1; exact DataW.trod_lt m _ _ _ hm
  obtain ⟨z1, r1, f1, b1⟩ := slice_in Tryd.underlying22 Tryd.underlying5 (by kernel_rfl) (B := 1) (by kernel_rfl) hsz (j := 1) rfl rfl h1
  clear hA0 hval0
  refine (walk W a0 len0 cap0 z0 r0 f0 b0 a1 len1 cap1 z1 r1 f1 b1 ht).mono fun e W' ⟨he, bel⟩ => ?_
  subst he
  exact ⟨_, rfl, _, _, _, [], _, [], hW', trodAll_mk1 (shut_bool Tryd.underlying4 _), (trodAll_cons_mk (Below.trod laidOut (by kernel_rfl) (of_decide_eq_true (by kernel_rfl)) k0 bel lt0) (trodAll_cons_mk (Below.trod laidOut (by kernel_rfl) (of_decide_eq_true (by kernel_rfl)) k1 bel lt1) trodAll_mk0)), rfl, bel.frame _, fun h => by cases h⟩

theorem over : Rows.utfLettersRow.holds Tryd.pinned (OpenSpec.ofChange Rows.utfLettersSpec) :=
  OpenClaim.holds_of_wide 8 Tryd.f8 rfl rfl rfl rfl rfl rfl rfl ⟨rfl, rfl, rfl, rfl, rfl⟩ rfl rfl rfl rfl rfl (by kernel_rfl) Tryd.func8 (by kernel_rfl)
    (of_decide_eq_true (by kernel_rfl)) (by unfold Func.isWrapper; first | (rw [if_pos (by decide +kernel)]; kernel_rfl) | (rw [if_neg (by decide +kernel)]; exact ⟨rfl, rfl⟩))
    (fun os started H enc _ => lifted os started H enc)
end Go.Proofs.YtchafajebkfieaaDoor.utfLetters
namespace Go.Proofs.YtchafajebkfieaaDoor
theorem utfLetters_holds : Rows.UtfLettersCardSaid :=
  Claim7.holds_tied_plain_at .later [] [.data, .pinned] true (true, "34594bd829618d443fc004d0488f0d7e5db30fb524e68a9fca37628f9cfa13e2") false utfLetters.over (fun _ h => by cases h) (by kernel_rfl) (fun _ h => by cases h) utfLetters_row_tie rfl ⟨rfl, rfl⟩ (by kernel_rfl) rfl
    (fun f fn hf hfn => by
      obtain rfl : f = 8 := Option.some.inj ((show Tryd.prog.funcNamed "mantelet/manteletlaw04.UtfLetters" = some 8 by kernel_rfl).symm.trans hf) |>.symm
      obtain rfl : fn = Tryd.f8 := (Option.some.inj (Tryd.func8.symm.trans hfn)).symm
      exact ⟨by kernel_rfl, fun j t ht => by
        rw [Tryd.params8] at ht
        have hm : t ∈ [22, 22] := by simpa using Array.mem_of_getElem? ht
        have hall : ([22, 22].all fun u => !Tryd.prog.wantsStandIn u) = true := by kernel_rfl
        exact (show Tryd.prog.wantsStandIn t = false by simpa using List.all_eq_true.1 hall t hm)⟩)
    (by kernel_rfl)
#print axioms utfLetters_holds
end Go.Proofs.YtchafajebkfieaaDoor
