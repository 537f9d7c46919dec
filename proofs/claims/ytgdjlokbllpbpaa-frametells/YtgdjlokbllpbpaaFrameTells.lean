/- For every input FrameTells answers true, and leaves its arguments as they were. Conditions: none. -/
import Derived.Test.YtgdjlokbllpbpaaRows
import Derived.Test.YtgdjlokbllpbpaaRef03
import Derived.Test.YtgdjlokbllpbpaaShown03
import Derived.Test.YtgdjlokbllpbpaaFrameMore
import Derived.Test.YtgdjlokbllpbpaaOpen
import Derived.ProofKit
import Derived.OpenShut
import Derived.ShutString
import Derived.ChangeOld
import Derived.SizedLaws
import Derived.Deep.RegionHeld
import Derived.Deep.QuietTactic
import Derived.BigQuiet
import Derived.Deep.Cut
namespace Go.Proofs.Ytgdjlokbllpbpaa.frameTells
open Go.ChangeShapes Go.WideShapes Go.ChangeAt Go.RowKit
open Go.ChangeMaps (open_string shut_string)
set_option linter.unusedVariables false

theorem own : ownKnob Try.prog.godebug = none := by kernel_rfl
theorem laidOut : laidOutB Try.prog = true := by kernel_rfl

theorem bytes_of {z : List Int} (f : ∀ x ∈ z, (Lit.int .u8 x).wf = true) : isBytes z := fun x hx => bounds_u8 (f x hx)

set_option maxRecDepth 100000 in
set_option maxHeartbeats 4000000 in
theorem walk (w : World) (a0 : Option Addr) (len0 cap0 : Nat) (z0 : List Int) (r0 : Reads w a0 len0 cap0 (z0.map (.int .u8))) (f0 : ∀ z ∈ z0, (Lit.int .u8 z).wf = true) (b0 : len0 * 1 ≤ 140737488351232) (a1 : Option Addr) (len1 cap1 : Nat) (z1 : List Int) (r1 : Reads w a1 len1 cap1 (z1.map (.int .u8))) (f1 : ∀ z ∈ z1, (Lit.int .u8 z).wf = true) (b1 : len1 * 1 ≤ 140737488351232) :
    Calls Try.prog 3 #[.slice a0 len0 cap0, .slice a1 len1 cap1] w fun e w' => e = .returned (.bool true) ∧ Below w.heap.size w w' := by
  have h8 := bytes_of f0
  have p8 := bytes_of f1
  clear f0 f1
  have hl0 : z0.length = len0 := by simpa using r0.length
  go_enter Try.func3, Try.ntmps3
  go_wp2_with fail
  refine (shown_any _).mono ?_
  rintro e wa ⟨rfl, hb1⟩
  by_cases hbig : len0 ≤ 20000 ∧ len1 ≤ 20000
  case neg =>
    by_cases hb0 : len0 ≤ 20000
    · have g1 : (20001 : Int) ≤ len1 := by omega
      have g0 : (len0 : Int) ≤ 20000 := by omega
      clear hbig
      go_wp2
      go_ret
      exact ⟨rfl, hb1⟩
    · have g1 : (20001 : Int) ≤ len0 := by omega
      clear hbig
      go_wp2
      go_ret
      exact ⟨rfl, hb1⟩
  obtain ⟨hc0, hc1⟩ := hbig
  have g0 : (len0 : Int) ≤ 20000 := by omega
  have g1 : (len1 : Int) ≤ 20000 := by omega
  have ra0 := r0.later hb1 (Nat.le_refl _)
  have ra1 := r1.later hb1 (Nat.le_refl _)
  clear r0 r1
  go_wp2_with fail
  refine (fput_ok _ _ _ _ _ _ _ _ _ ra0 ra1 p8 (by omega) (by omega)).mono ?_
  rintro e wb ⟨ag1, c1, m1, hm1, rfl, hown1, hb2⟩
  clear hm1
  have rx := Reads.own hown1
  clear hown1
  have rb0 := ra0.later hb2 (Nat.le_refl _)
  have rb1 := ra1.later hb2 (Nat.le_refl _)
  have hB2 := Grow.trans hb1 hb2
  clear ra0 ra1 hb1 hb2
  go_wp2_with fail
  refine (rfput_ok _ _ _ _ _ _ _ _ _ rb0 rb1 p8 (by omega) (by omega)).mono ?_
  rintro e wc ⟨ag2, c2, m2, hm2, rfl, hown2, hb3⟩
  clear hm2
  have ry := Reads.own hown2
  clear hown2
  have rc0 := rb0.later hb3 (Nat.le_refl _)
  have rx3 := rx.later hb3 (Nat.le_refl _)
  have hB3 := Grow.trans hB2 hb3
  have e8 : isBytes (z0 ++ recL z1) := h8.app (rec_bytes p8 (by have := rb1.length; simp at this; omega))
  clear rb0 rb1 hb3 rx hB2
  go_wp2_with fail
  refine (fget_any _ _ _ _ _ rc0 h8 (by omega)).mono ?_
  rintro e wd ⟨ag3, c3, rfl, hown3, hb4⟩
  have rp := Reads.own hown3
  clear hown3
  have rd0 := rc0.later hb4 (Nat.le_refl _)
  have rx4 := rx3.later hb4 (Nat.le_refl _)
  have ry4 := ry.later hb4 (Nat.le_refl _)
  have hB4 := Grow.trans hB3 hb4
  clear rc0 rx3 ry hb4 hB3
  unfold getRV
  go_wp2_with fail
  refine (rfget_any _ _ _ _ _ rd0 h8 (by omega)).mono ?_
  rintro e we ⟨ag4, c4, rfl, hown4, hb5⟩
  have rq := Reads.own hown4
  clear hown4
  have re0 := rd0.later hb5 (Nat.le_refl _)
  have rx5 := rx4.later hb5 (Nat.le_refl _)
  have ry5 := ry4.later hb5 (Nat.le_refl _)
  have rp5 := rp.later hb5 (Nat.le_refl _)
  have hB5 := Grow.trans hB4 hb5
  clear rd0 rx4 ry4 rp hb5 hB4
  unfold getRV
  have p3 : isBytes (getR z0).1 := get_bytes h8
  rcases hgr : getR z0 with ⟨p, k, f⟩
  rw [hgr] at rq rp5 p3
  clear hgr
  go_wp2_with fail
  refine (fscan_any _ _ _ _ _ re0 h8 (by omega)).mono ?_
  rintro e wf ⟨ag6, c6, m6, rfl, rl, hb6⟩
  have rf0 := re0.later hb6 (Nat.le_refl _)
  have rx6 := rx5.later hb6 (Nat.le_refl _)
  have ry6 := ry5.later hb6 (Nat.le_refl _)
  have rp6 := rp5.later hb6 (Nat.le_refl _)
  have rq6 := rq.later hb6 (Nat.le_refl _)
  have hB6 := Grow.trans hB5 hb6
  clear re0 rx5 ry5 rp5 rq hb6 hB5
  go_wp2_with fail
  refine (rfscan_any _ _ _ _ _ rf0 h8 (by omega)).mono ?_
  rintro e wg ⟨ag7, c7, m7, rfl, rk, hb7⟩
  have rx7 := rx6.later hb7 (Nat.le_refl _)
  have ry7 := ry6.later hb7 (Nat.le_refl _)
  have rp7 := rp6.later hb7 (Nat.le_refl _)
  have rq7 := rq6.later hb7 (Nat.le_refl _)
  have rl7 := rl.later hb7 (Nat.le_refl _)
  have hB7 := Grow.trans hB6 hb7
  clear rf0 rx6 ry6 rp6 rq6 rl hb7 hB6
  have s8 := scan_bytes h8
  have sl := (scan_len z0).1
  rcases hsc : scanR z0 with ⟨ls, t⟩
  rw [hsc] at rl7 rk s8 sl
  clear hsc
  have v1 := conv_of Try.underlying22 Try.underlying5 Try.underlying9 rx7
  have v2 := conv_of Try.underlying22 Try.underlying5 Try.underlying9 ry7
  have v3 := conv_of Try.underlying22 Try.underlying5 Try.underlying9 rp7
  have v4 := conv_of Try.underlying22 Try.underlying5 Try.underlying9 rq7
  clear rx7 ry7 rp7 rq7
  have hll := rl7.length
  have hlk := rk.length
  simp only at hll hlk sl
  go_wp2_with fail
  refine (lists_any _ _ _ _ _ _ _ _ _ rl7 rk s8 s8 (by omega) (by omega)).mono ?_
  rintro e wh ⟨rfl, hb8⟩
  have hB8 := Grow.trans hB7 hb8
  clear hb8 hB7 v1 v2 v3 v4
  simp only [decide_true]
  go_wp2
  go_ret
  exact ⟨rfl, hB8⟩

set_option maxRecDepth 100000 in
theorem lifted (os : Os) (started : os.Started) (H : Type) (enc : TypeId × Value → H) :
    ReturnsInHanded {} Try.checked os 3 .any (Rows.frameTellsSpec.pre6 enc Try.prog Try.f3 Rows.frameTellsRow.domain false) (Rows.frameTellsSpec.post enc Try.prog Try.f3 false true false false) := by
  refine returnsInHanded_of_change_sized (C := Try.checked) own started (by kernel_rfl) Try.func3
    (ChangeSpec.witness6 (enc := enc) (C := Try.checked) false ⟨#[], #[.slice none 0 0, .slice none 0 0], []⟩ 8 (by kernel_rfl) (by kernel_rfl) (by kernel_rfl) (by kernel_rfl)) ?_
  intro W base args ds gs before hval0 hW hcnd hsz0 _
  have hsz : (DataW.weightsEach Try.prog (Try.f3.params.toList ++ Rows.frameTellsSpec.plain.varTypes Try.prog) (ds ++ gs)).all (· ≤ reachBytes) = true := hsz0
  clear hsz0
  have hval : ∀ (j : Nat) t v, Try.f3.params[j]? = some t → args[j]? = some v → Value.okWide Try.prog W .any base t v := hval0
  have hW' := hW
  obtain ⟨p, q, hA0, hV, rfl, hfz, hnd⟩ := hW
  have hA : DataW.TrodAll enc Try.prog W 0 (fun _ => true) true Try.f3.params.toList args.toList ds p := hA0
  rw [Try.params3] at hA hval hsz
  obtain ⟨v0, vs0, d0, ds0, p0, q0, hargs, rfl, rfl, h0, rr0⟩ := trodAll_cons hA
  obtain ⟨v1, vs1, d1, ds1, p1, q1, rfl, rfl, rfl, h1, rr1⟩ := trodAll_cons rr0
  obtain ⟨rfl, rfl, rfl⟩ := trodAll_nil rr1
  obtain rfl : args = #[v0, v1] := by cases args; simp_all
  obtain ⟨rfl, rfl⟩ := trodVars_none hV
  obtain ⟨a0, len0, cap0, rfl⟩ := okWide_slice Try.underlying22 (hval 0 22 v0 rfl rfl)
  have k0 := h0
  have lt0 : ∀ x ∈ p0, x.block < W.heap.size := by obtain ⟨m, hm⟩ := k0; exact DataW.trod_lt m _ _ _ hm
  obtain ⟨z0, r0, f0, b0⟩ := slice_in Try.underlying22 Try.underlying5 (by kernel_rfl) (B := 1) (by kernel_rfl) hsz (j := 0) rfl rfl h0
  obtain ⟨a1, len1, cap1, rfl⟩ := okWide_slice Try.underlying22 (hval 1 22 v1 rfl rfl)
  have k1 := h1
  have lt1 : ∀ x ∈ p1, x.block < W.heap.size := by obtain ⟨m, hm⟩ := k1; exact DataW.trod_lt m _ _ _ hm
  obtain ⟨z1, r1, f1, b1⟩ := slice_in Try.underlying22 Try.underlying5 (by kernel_rfl) (B := 1) (by kernel_rfl) hsz (j := 1) rfl rfl h1
  clear hA0 hval0
  refine (walk W a0 len0 cap0 z0 r0 f0 b0 a1 len1 cap1 z1 r1 f1 b1).mono fun e W' ⟨he, bel⟩ => ?_
  subst he
  exact ⟨_, rfl, _, _, _, [], _, [], hW', trodAll_mk1 (shut_bool Try.underlying4 _), (trodAll_cons_mk (Below.trod laidOut (by kernel_rfl) (of_decide_eq_true (by kernel_rfl)) k0 bel lt0) (trodAll_cons_mk (Below.trod laidOut (by kernel_rfl) (of_decide_eq_true (by kernel_rfl)) k1 bel lt1) trodAll_mk0)), rfl, bel.frame _, fun h => by cases h⟩

theorem over : Rows.frameTellsRow.holds Try.pinned (OpenSpec.ofChange Rows.frameTellsSpec) :=
  OpenClaim.holds_of_wide 3 Try.f3 rfl rfl rfl rfl rfl rfl rfl ⟨rfl, rfl, rfl, rfl, rfl⟩ rfl rfl rfl rfl rfl (by kernel_rfl) Try.func3 (by kernel_rfl)
    (of_decide_eq_true (by kernel_rfl)) (by unfold Func.isWrapper; first | (rw [if_pos (by decide +kernel)]; kernel_rfl) | (rw [if_neg (by decide +kernel)]; exact ⟨rfl, rfl⟩))
    (fun os started H enc _ => lifted os started H enc)
end Go.Proofs.Ytgdjlokbllpbpaa.frameTells
namespace Go.Proofs.Ytgdjlokbllpbpaa
theorem frameTells_holds : Rows.FrameTellsSaid := frameTells.over
#print axioms frameTells_holds
end Go.Proofs.Ytgdjlokbllpbpaa
