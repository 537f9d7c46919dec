/- For every input LoserTwice answers true, and leaves its arguments as they were. Conditions: none. -/
import Derived.Test.YtgnhnhachhfafaaRows
import Derived.Test.YtgnhnhachhfafaaLoserMem
import Derived.Test.YtgnhnhachhfafaaShown11
import Derived.Test.YtgnhnhachhfafaaEnAll
import Derived.ProofKit
import Derived.OpenShut
import Derived.ShutString
import Derived.ChangeOld
import Derived.SizedLaws
import Derived.Deep.RegionHeld
import Derived.Deep.RegionHeld3
import Derived.Deep.QuietTactic
import Derived.BigQuiet
import Derived.Deep.Cut
import Derived.Deep.CutBlock
namespace Go.Proofs.Ytgnhnhachhfafaa.loserTwice
open Go.ChangeShapes Go.WideShapes Go.ChangeAt Go.RowKit
open Go.ChangeMaps (open_string shut_string)
set_option linter.unusedVariables false

theorem own : ownKnob Try.prog.godebug = none := by kernel_rfl
theorem laidOut : laidOutB Try.prog = true := by kernel_rfl


set_option maxRecDepth 100000 in
set_option maxHeartbeats 4000000 in
theorem walk (w : World) (a0 : Option Addr) (len0 cap0 : Nat) (vv0 : List Value) (z0 : List (List En)) (r0 : Reads w a0 len0 cap0 vv0) (q0 : ListVals w.heap.size w vv0 z0) (f0 : ∀ l ∈ z0, ∀ z ∈ l, z.1.length ≤ 140737488351232 ∧ z.2 ≤ 18446744073709551615) (b0 : len0 * 24 ≤ 140737488351232) (a1 : Int) (w1 : (Lit.int .u8 a1).wf = true) :
    Calls Try.prog 6 #[.slice a0 len0 cap0, .int .u8 a1] w fun e w' => e = .returned (.bool true) ∧ Below w.heap.size w w' := by
  obtain ⟨c, rfl, hc⟩ := u8_nat w1
  have hlx : z0.length = len0 := by rw [← q0.length]; exact r0.length
  go_enter Try.func6, Try.ntmps6
  go_wp2_with fail
  refine (shown_any w).mono ?_
  rintro e wa ⟨rfl, hB1⟩
  have r1 := r0.later hB1 (Nat.le_refl _)
  have q1 := q0.later hB1 (Nat.le_refl _)
  have pf := few_any r1 q1 f0
  by_cases hfw : fewL z0 = true
  case neg =>
    have hfw' : fewL z0 = false := by simpa using hfw
    rw [hfw'] at pf
    clear hfw hfw' r1 q1 hlx
    go_wp2_with fail
    refine pf.mono ?_
    rintro e wb ⟨rfl, rfl⟩
    go_wp2
    go_ret
    exact ⟨rfl, hB1⟩
  rw [hfw] at pf
  obtain ⟨g1, g2⟩ := fewL_iff.1 hfw
  have htot := few_tot fun l hl => (g2 l hl).1
  have Htot : Hid (totL z0 ≤ 1200) := by show _ ≤ _; omega
  have Hg1 : Hid (z0.length ≤ 20) := g1
  clear hfw g2 htot g1
  by_cases hl0 : len0 = 0
  · subst hl0
    clear r1 q1 hlx
    go_wp2_with fail
    refine pf.mono ?_
    rintro e wb ⟨rfl, rfl⟩
    go_wp2
    go_ret
    exact ⟨rfl, hB1⟩
  have hl0i : ¬ (len0 : Int) = 0 := by omega
  have hl0b : ((len0 : Int) == 0) = false := by rw [beq_eq_false_iff_ne]; exact hl0i
  obtain ⟨kk, hkk⟩ : ∃ kk, kk = c % len0 := ⟨_, rfl⟩
  have hkl : kk < len0 := by rw [hkk]; exact Nat.mod_lt _ (by omega)
  have hrem : (c : Int) % (len0 : Int) = kk := by rw [hkk]; push_cast; rfl
  have hrem2 : Int.tmod (c : Int) (len0 : Int) = kk := by rw [Int.tmod_eq_emod_of_nonneg (by omega)]; exact hrem
  have Hlx : Hid _ := hlx
  clear hkk hlx
  obtain ⟨x1, hs1, hd1⟩ := Reads.to (P := Try.prog) Try.underlying22 Try.sizeEs (ao := a0) (len := len0) (cap := cap0) r0.le kk (by omega)
  obtain ⟨x2, hs2, hd2⟩ := Reads.from (P := Try.prog) Try.underlying22 Try.sizeEs (ao := a0) (len := len0) (cap := cap0) kk (by omega)
  have hkk1 : kk ≤ len0 := by omega
  have hkc : len0 ≤ cap0 := r0.le
  go_wp2_with fail
  refine pf.mono ?_
  rintro e wb ⟨rfl, rfl⟩
  have pm := merge_any r1 q1 f0 (by have := Htot.out; unfold totL at this; omega)
  unfold DecOut at pm
  clear pf
  go_wp2_with fail
  refine pm.mono ?_
  rintro e wc ⟨ag, cg, m, rfl, hm, ho, hG⟩
  obtain ⟨⟨y, d⟩, hy⟩ : ∃ q, q = mergeL z0 := ⟨_, rfl⟩
  rw [← hy] at hm ho ⊢
  simp only at hm ho ⊢
  subst hm
  have HY : Hid _ := hy
  clear hy
  have hlt : (z0.take kk).length ≤ 256 := by have := Hg1.out; rw [List.length_take]; omega
  have hld : (z0.drop kk).length ≤ 256 := by have := Hg1.out; rw [List.length_drop]; omega
  have hl256 : z0.length ≤ 256 := by have := Hg1.out; omega
  have htt := (tot_cut z0 kk).1
  have htd := (tot_cut z0 kk).2
  have h12 := Htot.out
  have pa := merge_any (hd1 _ _ (r1.later hG (Nat.le_refl _))) ((q1.take kk).later hG (Nat.le_refl _)) (fun l hl => f0 l (List.mem_of_mem_take hl)) (by have := htt; unfold totL at this h12; omega)
  unfold DecOut at pa
  have Hr1 : Hid _ := r1
  have Hq1 : Hid _ := q1
  have hB2 := hB1.trans (hG.mono hB1.size)
  clear pm r1 q1
  go_wp2_with fail
  refine pa.mono ?_
  rintro e wd ⟨aa, ca, ma, rfl, hma, hoa, hGa⟩
  obtain ⟨⟨ya, da⟩, hya⟩ : ∃ q, q = mergeL (z0.take kk) := ⟨_, rfl⟩
  rw [← hya] at hma hoa ⊢
  simp only at hma hoa ⊢
  subst hma
  have HYA : Hid _ := hya
  clear hya
  have hG3 := Grow.trans hG hGa
  have pb := merge_any (hd2 _ _ (Hr1.out.later hG3 (Nat.le_refl _))) ((Hq1.out.drop kk).later hG3 (Nat.le_refl _)) (fun l hl => f0 l (List.mem_of_mem_drop hl)) (by have := htd; unfold totL at this h12; omega)
  unfold DecOut at pb
  have hB3 := hB2.trans (hGa.mono hB2.size)
  have ho1 := own2_later ho hGa (Nat.le_refl _)
  clear pa ho hG hG3
  go_wp2_with fail
  refine pb.mono ?_
  rintro e we ⟨ab, cb, mb, rfl, hmb, hob, hGb⟩
  obtain ⟨⟨yb, db⟩, hyb⟩ : ∃ q, q = mergeL (z0.drop kk) := ⟨_, rfl⟩
  rw [← hyb] at hmb hob ⊢
  simp only at hmb hob ⊢
  subst hmb
  have HYB : Hid _ := hyb
  clear hyb
  have hB4 := hB3.trans (hGb.mono hB3.size)
  have ho2 := own2_later ho1 hGb (Nat.le_refl _)
  have hoa2 := own2_later hoa hGb (Nat.le_refl _)
  clear pb ho1 hoa hGb hGa Hr1 Hq1 hd1 hd2 hs1 hs2
  by_cases hd : d = 0
  case neg =>
    have he : y = [] := by have := merge_err hl256 (by rw [← HY.out]; exact hd); rw [← HY.out] at this; exact this
    subst he
    have hdi : ¬ (d : Int) = 0 := by omega
    have hdb : ((d : Int) == 0) = false := by rw [beq_eq_false_iff_ne]; exact hdi
    clear ho2 hoa2 hob hd htt htd h12 hlt hld hl256
    go_wp2
    go_ret
    exact ⟨rfl, hB4⟩
  subst hd
  have hd : (mergeL z0).2 = 0 := by rw [← HY.out]
  obtain ⟨t1, t2, t3, t4⟩ := merge_twice (c := kk) (by have := Hg1.out; omega) hd
  obtain ⟨_, _, _, y4, y5⟩ := merge_ok hl256 hd
  obtain ⟨_, _, _, a4, a5⟩ := merge_ok hlt t1
  obtain ⟨_, _, _, b4, b5⟩ := merge_ok hld t2
  rw [← HY.out] at t3 t4 y4 y5
  rw [← HYA.out] at t1 t3 a4 a5
  rw [← HYB.out] at t2 t3 b4 b5
  simp only at t1 t2 t3 t4 y4 y5 a4 a5 b4 b5
  subst t1 t2
  have hyl : y.length ≤ 1200 := by omega
  have hal : ya.length ≤ 1200 := by omega
  have hbl : yb.length ≤ 1200 := by omega
  have T3 : Hid _ := t3
  have T4 : Hid _ := t4
  have Y4 : Hid _ := y4
  have A4 : Hid _ := a4
  have B4 : Hid _ := b4
  clear hd t3 t4 y4 a4 b4 y5 a5 b5 htt htd h12 hlt hld hl256
  -- both
  obtain ⟨l1, l2, l3⟩ := lit_lists (((vals_own hoa2).append (vals_nil _ _)).append (vals_own (own2_mono hob (Nat.zero_le _)))) (by simp)
  have pc : Calls Try.prog 11 #[.slice (some ⟨we.heap.size, 0, none⟩) 3 3] (we.alloc (.cells #[.slice aa ya.length ca, .slice none 0 0, .slice ab yb.length cb] 25)) _ :=
    merge_any l1 l2 (fun l hl => by
      simp at hl
      rcases hl with rfl | rfl | rfl
      · exact may_small A4.out
      · intro z hz; simp at hz
      · exact may_small B4.out) (by simp; omega)
  obtain ⟨w5, hw5⟩ : ∃ w5, w5 = we.alloc (.cells #[.slice aa ya.length ca, .slice none 0 0, .slice ab yb.length cb] 25) := ⟨_, rfl⟩
  have l3' : Grow we w5 := by rw [hw5]; exact l3
  rw [← hw5] at pc
  have HW5 : Hid _ := hw5
  have ho3 := own2_later ho2 l3' (Nat.le_refl _)
  have hB5 := hB4.trans (l3'.mono hB4.size)
  have e3 : mergeL ([ya] ++ [[]] ++ [yb]) = (y, 0) := T3.out
  rw [e3] at pc
  unfold DecOut at pc
  clear hw5 l1 l2 l3 l3' ho2 hoa2 hob e3
  go_wp2_with fail
  rw [← HW5.out]
  refine pc.mono ?_
  rintro e wf ⟨ac, cc, mc, rfl, hmc, hoc, hGc⟩
  have hmc' : mc = y.length := hmc
  subst hmc'
  have ho4 := own2_later ho3 hGc (Nat.le_refl _)
  have hB6 := hB5.trans (hGc.mono hB5.size)
  clear pc ho3 hGc HW5 hmc
  -- one
  obtain ⟨l1, l2, l3⟩ := lit_lists ((vals_nil _ _).append (vals_own ho4)) (by simp)
  have pd : Calls Try.prog 11 #[.slice (some ⟨wf.heap.size, 0, none⟩) 2 2] (wf.alloc (.cells #[.slice none 0 0, .slice ag y.length cg] 25)) _ :=
    merge_any l1 l2 (fun l hl => by
      simp at hl
      rcases hl with rfl | rfl
      · intro z hz; simp at hz
      · exact may_small Y4.out) (by simp; omega)
  obtain ⟨w7, hw7⟩ : ∃ w7, w7 = wf.alloc (.cells #[.slice none 0 0, .slice ag y.length cg] 25) := ⟨_, rfl⟩
  have l3' : Grow wf w7 := by rw [hw7]; exact l3
  rw [← hw7] at pd
  have HW7 : Hid _ := hw7
  have ho5 := own2_later ho4 l3' (Nat.le_refl _)
  have hoc2 := own2_later hoc l3' (Nat.le_refl _)
  have hB7 := hB6.trans (l3'.mono hB6.size)
  have e4 : mergeL ([[]] ++ [y]) = (y, 0) := T4.out
  rw [e4] at pd
  unfold DecOut at pd
  clear hw7 l1 l2 l3 l3' ho4 hoc e4
  go_wp2_with fail
  rw [← HW7.out]
  refine pd.mono ?_
  rintro e wg ⟨ad, cd, md, rfl, hmd, hod, hGd⟩
  have hmd' : md = y.length := hmd
  subst hmd'
  have ho6 := own2_later ho5 hGd (Nat.le_refl _)
  have hoc3 := own2_later hoc2 hGd (Nat.le_refl _)
  have hB8 := hB7.trans (hGd.mono hB7.size)
  have hdec : decide (y = y) = true := decide_eq_true rfl
  have s1 := rsame_any (x := y) (y := y) (own2_mono hoc3 (Nat.zero_le _)) (own2_mono ho6 (Nat.zero_le _))
  have s2 : ∀ mm, Calls Try.prog 13 #[.slice ad y.length cd, .slice ag y.length cg] (wg.drewN mm) fun e w' => e = .returned (.bool (decide (y = y))) ∧ ∃ m, w' = (wg.drewN mm).drewN m := fun mm => rsame_any (x := y) (y := y) (own2_later (own2_mono hod (Nat.zero_le _)) (below_drewN (Below.refl _ _) mm) (Nat.le_refl _)) (own2_later (own2_mono ho6 (Nat.zero_le _)) (below_drewN (Below.refl _ _) mm) (Nat.le_refl _))
  have s3 : ∀ mm, Calls Try.prog 16 #[.slice ag y.length cg] (wg.drewN mm) fun e w' => e = .returned (.int .i64 (mayE y : Nat)) ∧ Below (wg.drewN mm).heap.size (wg.drewN mm) w' := fun mm => may_any (ReadsE.own (own2_later ho6 (below_drewN (Below.refl _ _) mm) (Nat.le_refl _))) (fun e he => (may_small Y4.out e he).2) (fun e he => by have := (may_small Y4.out e he).1; omega)
  have hbd : ∀ mm, Below w.heap.size w (wg.drewN mm) := fun mm => below_drewN hB8 mm
  rw [Y4.out] at s3
  rw [hdec] at s1 s2
  clear pd ho5 hoc2 hod ho6 hoc3 hGd HW7 hmd hdec hB8
  go_wp2_with fail
  refine s1.mono ?_
  rintro e wh ⟨rfl, mm, rfl⟩
  go_wp2_with fail
  refine (s2 mm).mono ?_
  rintro e wi ⟨rfl, mn, rfl⟩
  rw [World.drewN_drewN]
  go_wp2_with fail
  refine (s3 _).mono ?_
  rintro e wj ⟨rfl, hGj⟩
  have hBz := (hbd (mm + mn)).trans (hGj.mono (hbd (mm + mn)).size)
  clear s1 s2 s3 hbd hGj
  go_wp2
  go_ret
  exact ⟨rfl, hBz⟩

set_option maxRecDepth 100000 in
theorem lifted (os : Os) (started : os.Started) (H : Type) (enc : TypeId × Value → H) :
    ReturnsInHanded {} Try.checked os 6 .any (Rows.loserTwiceSpec.pre6 enc Try.prog Try.f6 Rows.loserTwiceRow.domain false) (Rows.loserTwiceSpec.post enc Try.prog Try.f6 false true false false) := by
  refine returnsInHanded_of_change_sized (C := Try.checked) own started (by kernel_rfl) Try.func6
    (ChangeSpec.witness6 (enc := enc) (C := Try.checked) false ⟨#[], #[.slice none 0 0, .int .u8 0], []⟩ 8 (by kernel_rfl) (by kernel_rfl) (by kernel_rfl) (by kernel_rfl)) ?_
  intro W base args ds gs before hval0 hW hcnd hsz0 _
  have hsz : (DataW.weightsEach Try.prog (Try.f6.params.toList ++ Rows.loserTwiceSpec.plain.varTypes Try.prog) (ds ++ gs)).all (· ≤ reachBytes) = true := hsz0
  clear hsz0
  have hval : ∀ (j : Nat) t v, Try.f6.params[j]? = some t → args[j]? = some v → Value.okWide Try.prog W .any base t v := hval0
  have hW' := hW
  obtain ⟨p, q, hA0, hV, rfl, hfz, hnd⟩ := hW
  have hA : DataW.TrodAll enc Try.prog W 0 (fun _ => true) true Try.f6.params.toList args.toList ds p := hA0
  rw [Try.params6] at hA hval hsz
  obtain ⟨v0, vs0, d0, ds0, p0, q0, hargs, rfl, rfl, h0, rr0⟩ := trodAll_cons hA
  obtain ⟨v1, vs1, d1, ds1, p1, q1, rfl, rfl, rfl, h1, rr1⟩ := trodAll_cons rr0
  obtain ⟨rfl, rfl, rfl⟩ := trodAll_nil rr1
  obtain rfl : args = #[v0, v1] := by cases args; simp_all
  obtain ⟨rfl, rfl⟩ := trodVars_none hV
  obtain ⟨a0, len0, cap0, rfl⟩ := okWide_slice Try.underlying22 (hval 0 22 v0 rfl rfl)
  have k0 := h0
  have lt0 : ∀ x ∈ p0, x.block < W.heap.size := by obtain ⟨m, hm⟩ := k0; exact DataW.trod_lt m _ _ _ hm
  obtain ⟨vv0, z0, r0, qq0, f0, b0⟩ := lists_in Try.underlying22 (by kernel_rfl) Try.underlying25 Try.underlying44 (by kernel_rfl) rfl rfl (by kernel_rfl) (by kernel_rfl) Try.underlying9 Try.underlying41 (B := 24) (by kernel_rfl) hsz (j := 0) rfl rfl h0
  obtain ⟨a1, rfl, rfl, rfl, w1⟩ := open_int Try.underlying5 (hval 1 5 v1 rfl rfl) h1
  clear hA0 hval0
  refine (walk W a0 len0 cap0 vv0 z0 r0 qq0 f0 b0 a1 w1).mono fun e W' ⟨he, bel⟩ => ?_
  subst he
  exact ⟨_, rfl, _, _, _, [], _, [], hW', trodAll_mk1 (shut_bool Try.underlying4 _), (trodAll_cons_mk (Below.trod laidOut (by kernel_rfl) (of_decide_eq_true (by kernel_rfl)) k0 bel lt0) (trodAll_cons_mk (shut_int Try.underlying5 w1) trodAll_mk0)), rfl, bel.frame _, fun h => by cases h⟩

theorem over : Rows.loserTwiceRow.holds Try.pinned (OpenSpec.ofChange Rows.loserTwiceSpec) :=
  OpenClaim.holds_of_wide 6 Try.f6 rfl rfl rfl rfl rfl rfl rfl ⟨rfl, rfl, rfl, rfl, rfl⟩ rfl rfl rfl rfl rfl (by kernel_rfl) Try.func6 (by kernel_rfl)
    (of_decide_eq_true (by kernel_rfl)) (by unfold Func.isWrapper; first | (rw [if_pos (by decide +kernel)]; kernel_rfl) | (rw [if_neg (by decide +kernel)]; exact ⟨rfl, rfl⟩))
    (fun os started H enc _ => lifted os started H enc)
end Go.Proofs.Ytgnhnhachhfafaa.loserTwice
namespace Go.Proofs.Ytgnhnhachhfafaa
theorem loserTwice_holds : Rows.LoserTwiceSaid := loserTwice.over
#print axioms loserTwice_holds
end Go.Proofs.Ytgnhnhachhfafaa
