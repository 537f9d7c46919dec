/- For every input FrameBack answers true, and leaves its arguments as they were. Conditions: none. -/
import Derived.Test.YtgdjlokbllpbpaaRows
import Derived.Test.YtgdjlokbllpbpaaFrameScan
import Derived.Test.YtgdjlokbllpbpaaShown03
import Derived.Test.YtgdjlokbllpbpaaFrameMore
import Derived.Test.YtgdjlokbllpbpaaOpen
import Derived.ProofKit
import Derived.OpenShut
import Derived.ShutString
import Derived.ChangeOld
import Derived.SizedLaws
import Derived.Deep.RegionHeld
import Derived.Deep.QuietTactic
import Derived.BigQuiet
import Derived.Deep.Cut
namespace Go.Proofs.Ytgdjlokbllpbpaa.frameBack
open Go.ChangeShapes Go.WideShapes Go.ChangeAt Go.RowKit
open Go.ChangeMaps (open_string shut_string)
set_option linter.unusedVariables false

theorem own : ownKnob Try.prog.godebug = none := by kernel_rfl
theorem laidOut : laidOutB Try.prog = true := by kernel_rfl

theorem bytes_of {z : List Int} (f : ∀ x ∈ z, (Lit.int .u8 x).wf = true) : isBytes z := fun x hx => bounds_u8 (f x hx)

set_option maxRecDepth 100000 in
set_option maxHeartbeats 4000000 in
theorem walk (w : World) (a0 : Option Addr) (len0 cap0 : Nat) (z0 : List Int) (r0 : Reads w a0 len0 cap0 (z0.map (.int .u8))) (f0 : ∀ z ∈ z0, (Lit.int .u8 z).wf = true) (b0 : len0 * 1 ≤ 140737488351232) (a1 : Option Addr) (len1 cap1 : Nat) (z1 : List Int) (r1 : Reads w a1 len1 cap1 (z1.map (.int .u8))) (f1 : ∀ z ∈ z1, (Lit.int .u8 z).wf = true) (b1 : len1 * 1 ≤ 140737488351232) :
    Calls Try.prog 4 #[.slice a0 len0 cap0, .slice a1 len1 cap1] w fun e w' => e = .returned (.bool true) ∧ Below w.heap.size w w' := by
  have p8 := bytes_of f0
  have h8 := bytes_of f1
  clear f0 f1
  have hl0 : z0.length = len0 := by simpa using r0.length
  have hl1 : z1.length = len1 := by simpa using r1.length
  have hlc1 := r1.le
  go_enter Try.func4, Try.ntmps4
  go_wp2_with fail
  refine (shown_any _).mono ?_
  rintro e wa ⟨rfl, hb1⟩
  by_cases hbig : len0 ≤ 20000 ∧ len1 ≤ 20000
  case neg =>
    by_cases hb0 : len1 ≤ 20000
    · have g1 : (20001 : Int) ≤ len0 := by omega
      have g0 : (len1 : Int) ≤ 20000 := by omega
      clear hbig
      go_wp2
      go_ret
      exact ⟨rfl, hb1⟩
    · have g1 : (20001 : Int) ≤ len1 := by omega
      clear hbig
      go_wp2
      go_ret
      exact ⟨rfl, hb1⟩
  obtain ⟨hc0, hc1⟩ := hbig
  have g0 : (len0 : Int) ≤ 20000 := by omega
  have g1 : (len1 : Int) ≤ 20000 := by omega
  have ra0 := r0.later hb1 (Nat.le_refl _)
  have ra1 := r1.later hb1 (Nat.le_refl _)
  clear r0 r1
  go_wp2_with fail
  refine (fput_ok none 0 0 [] _ _ _ _ _ (Reads.nil _) ra0 p8 (by omega) (by omega)).mono ?_
  rintro e wb ⟨ag1, c1, m1, hm1, rfl, hown1, hb2⟩
  have rx := Reads.own hown1
  clear hown1
  have rb0 := ra0.later hb2 (Nat.le_refl _)
  have rb1 := ra1.later hb2 (Nat.le_refl _)
  have hB2 := Grow.trans hb1 hb2
  clear ra0 ra1 hb1 hb2
  have HL : Hid ((recL z0).length = m1) := by show _ = _; omega
  have hmL : m1 ≤ 21000 := by rw [hm1, rec_len, hl0]; have := encode_len len0; omega
  have mx : m1 + len1 + 20 ≤ maxLen := by unfold maxLen; omega
  clear hm1
  simp only [List.nil_append] at rx
  go_wp2_with (at_builtin; refine wpList_append_reads rfl (.tmp 32) (.tmp 33) 22 rfl wb.heap.size 5 Try.info5 rfl Try.underlying22 _ _ _ _ rfl (ownsRow_empty wb 5) _ _ _ _ rfl (rx.later ((Below.refl wb.heap.size wb).alloc (Nat.le_refl _) _) (Nat.le_refl _)) (ints_oneCell _ _) (by omega) (by omega) (by simp) ?_)
  intro ag2 c2 wc hown2 hb3
  have hb3' : Below wb.heap.size wb wc := Below.trans ((Below.refl wb.heap.size wb).alloc (Nat.le_refl _) _) hb3
  have rc0 := rb0.later hb3' (Nat.le_refl _)
  have rc1 := rb1.later hb3' (Nat.le_refl _)
  have hB3 := Grow.trans hB2 hb3'
  clear hb3 rx
  have hsc := hb3'.size
  try simp only [Nat.zero_add, List.nil_append] at hown2
  go_wp2_with (at_builtin; refine wpList_append_reads rfl (.tmp 34) (.tmp 35) 22 rfl wb.heap.size 5 Try.info5 rfl Try.underlying22 _ _ _ _ rfl hown2 _ _ _ _ rfl rc1 (ints_oneCell _ _) (by omega) (by omega) hsc ?_)
  intro ag3 c3 wd hown3 hb4
  have hb4' : Below wb.heap.size wb wd := Below.trans hb3' hb4
  have rd0 := rb0.later hb4' (Nat.le_refl _)
  have rd1 := rb1.later hb4' (Nat.le_refl _)
  have hB4 := Grow.trans hB2 hb4'
  clear hb4 hb3' hsc hB3 hB2 hown2 hb4' rc0 rc1 rb0 rb1
  simp only [← List.map_append] at hown3
  have ry := Reads.own hown3
  clear hown3
  have e8 : isBytes (recL z0 ++ z1) := (rec_bytes p8 (by omega)).app h8
  go_wp2_with fail
  refine (fget_any _ _ _ _ _ ry e8 (by omega)).mono ?_
  rintro e we ⟨ag5, c5, rfl, hown5, hb5⟩
  rw [get_rec z0 z1 (by omega)] at hown5 ⊢
  unfold getRV
  simp only [HL.out, hl0] at hown5 ⊢
  have rp := Reads.own hown5
  clear hown5
  have re0 := rd0.later hb5 (Nat.le_refl _)
  have re1 := rd1.later hb5 (Nat.le_refl _)
  have hB5 := Grow.trans hB4 hb5
  clear rd0 rd1 ry hb5 hB4 e8
  go_wp2_with fail
  refine (fget_any _ _ _ _ _ re1 h8 (by omega)).mono ?_
  rintro e wf ⟨ag6, c6, rfl, hown6, hb6⟩
  have rp6 := rp.later hb6 (Nat.le_refl _)
  have rf0 := re0.later hb6 (Nat.le_refl _)
  have rf1 := re1.later hb6 (Nat.le_refl _)
  have hB6 := Grow.trans hB5 hb6
  clear rp re0 re1 hB5 hb6
  have q8 : isBytes (getR z1).1 := get_bytes h8
  have hq0 : (getR z1).2.2 ≠ 0 → (getR z1).1 = [] ∧ (getR z1).2.1 = 0 := getR_err z1
  have hge := get_errs z1
  rcases hgr : getR z1 with ⟨q, m, g⟩
  have Hgr : Hid _ := hgr
  rw [hgr] at hown6 q8 hq0 hge
  clear hgr
  have rq := Reads.own hown6
  clear hown6
  unfold getRV
  have v1 := conv_of Try.underlying22 Try.underlying5 Try.underlying9 rp6
  have v2 := conv_of Try.underlying22 Try.underlying5 Try.underlying9 rf0
  clear rp6 rf0
  by_cases hg : g = 0
  · subst hg
    clear hge
    obtain ⟨y1, y2, y3, y4, -⟩ := get_rec_ok h8 Hgr.out
    clear hq0
    have hm : (m : Int) ≤ len1 := by omega
    obtain ⟨x1, hs1, hd1⟩ := Reads.to (P := Try.prog) Try.underlying22 (size_of Try.info5) (ao := a1) (len := len1) (cap := cap1) hlc1 m (by omega)
    have Hy2 : Hid _ := y2
    have ql : q.length ≤ 1048576 := y3
    clear y2 y4 y3
    go_wp2_with fail
    refine (fput_ok none 0 0 [] _ _ _ _ _ (Reads.nil _) rq q8 (by omega) ql).mono ?_
    rintro e wg ⟨ag7, c7, m7, hm7, rfl, hown7, hb7⟩
    clear hm7 v1 v2
    have hB7 := Grow.trans hB6 hb7
    have q1 : ∀ W, Below wg.heap.size wg W → (convert 22 9 (.slice ag7 m7 c7)).run Try.prog W = .ok (.string (strOfNums (recL q))) W := fun W hW =>
      conv_of Try.underlying22 Try.underlying5 Try.underlying9 ((Reads.own hown7).later hW (Nat.le_refl _))
    have q2 : ∀ W, Below wg.heap.size wg W → (convert 22 9 (.slice x1 m cap1)).run Try.prog W = .ok (.string (strOfNums (recL q))) W := fun W hW => by
      rw [← Hy2.out]
      exact conv_of Try.underlying22 Try.underlying5 Try.underlying9 (by rw [List.map_take]; exact hd1 W _ ((rf1.later hb7 (Nat.le_refl _)).later hW (Nat.le_refl _)))
    clear hown7 hd1 hB6
    go_wp2_with fail
    go_region_held (fun W => Below wg.heap.size wg W) (first | exact Below.refl _ _ | exact Below.drew (Below.refl _ _) | assumption | exact Below.drew (by assumption)) (fail)
    go_wp2
    go_ret
    exact ⟨rfl, Grow.trans hB7 (by assumption)⟩
  · obtain ⟨rfl, rfl⟩ := hq0 hg
    clear hq0
    have hg3 : g = 2 ∨ g = 3 ∨ g = 4 := by simp only at hge; omega
    clear hg hge Hgr
    rcases hg3 with rfl | rfl | rfl
    all_goals
      go_wp2_with fail
      refine (fput_ok none 0 0 [] _ _ _ _ _ (Reads.nil _) rq q8 (by omega) (by simp)).mono ?_
      rintro e wg ⟨ag7, c7, m7, hm7, rfl, hown7, hb7⟩
      clear hm7 v1 v2
      have hB7 := Grow.trans hB6 hb7
      clear hown7 hB6
      go_wp2_with fail
      go_quiet (fail)
      go_wp2
      go_ret
      exact ⟨rfl, below_drewN hB7 _⟩

set_option maxRecDepth 100000 in
theorem lifted (os : Os) (started : os.Started) (H : Type) (enc : TypeId × Value → H) :
    ReturnsInHanded {} Try.checked os 4 .any (Rows.frameBackSpec.pre6 enc Try.prog Try.f4 Rows.frameBackRow.domain false) (Rows.frameBackSpec.post enc Try.prog Try.f4 false true false false) := by
  refine returnsInHanded_of_change_sized (C := Try.checked) own started (by kernel_rfl) Try.func4
    (ChangeSpec.witness6 (enc := enc) (C := Try.checked) false ⟨#[], #[.slice none 0 0, .slice none 0 0], []⟩ 8 (by kernel_rfl) (by kernel_rfl) (by kernel_rfl) (by kernel_rfl)) ?_
  intro W base args ds gs before hval0 hW hcnd hsz0 _
  have hsz : (DataW.weightsEach Try.prog (Try.f4.params.toList ++ Rows.frameBackSpec.plain.varTypes Try.prog) (ds ++ gs)).all (· ≤ reachBytes) = true := hsz0
  clear hsz0
  have hval : ∀ (j : Nat) t v, Try.f4.params[j]? = some t → args[j]? = some v → Value.okWide Try.prog W .any base t v := hval0
  have hW' := hW
  obtain ⟨p, q, hA0, hV, rfl, hfz, hnd⟩ := hW
  have hA : DataW.TrodAll enc Try.prog W 0 (fun _ => true) true Try.f4.params.toList args.toList ds p := hA0
  rw [Try.params4] at hA hval hsz
  obtain ⟨v0, vs0, d0, ds0, p0, q0, hargs, rfl, rfl, h0, rr0⟩ := trodAll_cons hA
  obtain ⟨v1, vs1, d1, ds1, p1, q1, rfl, rfl, rfl, h1, rr1⟩ := trodAll_cons rr0
  obtain ⟨rfl, rfl, rfl⟩ := trodAll_nil rr1
  obtain rfl : args = #[v0, v1] := by cases args; simp_all
  obtain ⟨rfl, rfl⟩ := trodVars_none hV
  obtain ⟨a0, len0, cap0, rfl⟩ := okWide_slice Try.underlying22 (hval 0 22 v0 rfl rfl)
  have k0 := h0
  have lt0 : ∀ x ∈ p0, x.block < W.heap.size := by obtain ⟨m, hm⟩ := k0; exact DataW.trod_lt m _ _ _ hm
  obtain ⟨z0, r0, f0, b0⟩ := slice_in Try.underlying22 Try.underlying5 (by kernel_rfl) (B := 1) (by kernel_rfl) hsz (j := 0) rfl rfl h0
  obtain ⟨a1, len1, cap1, rfl⟩ := okWide_slice Try.underlying22 (hval 1 22 v1 rfl rfl)
  have k1 := h1
  have lt1 : ∀ x ∈ p1, x.block < W.heap.size := by obtain ⟨m, hm⟩ := k1; exact DataW.trod_lt m _ _ _ hm
  obtain ⟨z1, r1, f1, b1⟩ := slice_in Try.underlying22 Try.underlying5 (by kernel_rfl) (B := 1) (by kernel_rfl) hsz (j := 1) rfl rfl h1
  clear hA0 hval0
  refine (walk W a0 len0 cap0 z0 r0 f0 b0 a1 len1 cap1 z1 r1 f1 b1).mono fun e W' ⟨he, bel⟩ => ?_
  subst he
  exact ⟨_, rfl, _, _, _, [], _, [], hW', trodAll_mk1 (shut_bool Try.underlying4 _), (trodAll_cons_mk (Below.trod laidOut (by kernel_rfl) (of_decide_eq_true (by kernel_rfl)) k0 bel lt0) (trodAll_cons_mk (Below.trod laidOut (by kernel_rfl) (of_decide_eq_true (by kernel_rfl)) k1 bel lt1) trodAll_mk0)), rfl, bel.frame _, fun h => by cases h⟩

theorem over : Rows.frameBackRow.holds Try.pinned (OpenSpec.ofChange Rows.frameBackSpec) :=
  OpenClaim.holds_of_wide 4 Try.f4 rfl rfl rfl rfl rfl rfl rfl ⟨rfl, rfl, rfl, rfl, rfl⟩ rfl rfl rfl rfl rfl (by kernel_rfl) Try.func4 (by kernel_rfl)
    (of_decide_eq_true (by kernel_rfl)) (by unfold Func.isWrapper; first | (rw [if_pos (by decide +kernel)]; kernel_rfl) | (rw [if_neg (by decide +kernel)]; exact ⟨rfl, rfl⟩))
    (fun os started H enc _ => lifted os started H enc)
end Go.Proofs.Ytgdjlokbllpbpaa.frameBack
namespace Go.Proofs.Ytgdjlokbllpbpaa
theorem frameBack_holds : Rows.FrameBackSaid := frameBack.over
#print axioms frameBack_holds
end Go.Proofs.Ytgdjlokbllpbpaa
