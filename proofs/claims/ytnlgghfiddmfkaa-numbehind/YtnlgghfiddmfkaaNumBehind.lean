/- For every input NumBehind answers true, and leaves its arguments as they were. Conditions: none. -/
import Derived.Test.YtnlgghfiddmfkaaRows
import Derived.Test.YtnlgghfiddmfkaaShown
import Derived.Test.YtnlgghfiddmfkaaOpen
import Derived.Test.YtnlgghfiddmfkaaCuts
import Derived.ProofKit
import Derived.OpenShut
import Derived.ShutString
import Derived.ChangeOld
import Derived.SizedLaws
import Derived.Deep.RegionHeld3
namespace Go.Proofs.Ytnlgghfiddmfkaa.numBehind
open Go.ChangeShapes Go.WideShapes Go.ChangeAt Go.RowKit
open Go.ChangeMaps (open_string shut_string)
set_option linter.unusedVariables false

theorem own : ownKnob Try.prog.godebug = none := by kernel_rfl
theorem laidOut : laidOutB Try.prog = true := by kernel_rfl

theorem bytes_of {z : List Int} (f : ∀ x ∈ z, (Lit.int .u8 x).wf = true) : isBytes z := fun x hx => bounds_u8 (f x hx)
theorem enc_bytes (f n : Nat) : n < lim f → isBytes (enc f n) := by
  induction f generalizing n with
  | zero => intro h z hz; simp [enc] at hz; simp [lim] at h; omega
  | succ f ih =>
    intro h z hz
    unfold enc at hz
    split at hz
    · simp at hz; omega
    · simp only [List.mem_cons] at hz
      rcases hz with rfl | hz
      · omega
      · exact ih (n / 128) (by simp only [lim] at h; omega) z hz

set_option maxRecDepth 100000 in
set_option maxHeartbeats 4000000 in
theorem walk (w : World) (a0 : Option Addr) (len0 cap0 : Nat) (z0 : List Int) (r0 : Reads w a0 len0 cap0 (z0.map (.int .u8))) (f0 : ∀ z ∈ z0, (Lit.int .u8 z).wf = true) (b0 : len0 * 1 ≤ 140737488351232) (a1 : Int) (w1 : (Lit.int .u64 a1).wf = true) :
    Calls Try.prog 9 #[.slice a0 len0 cap0, .int .u64 a1] w fun e w' => e = .returned (.bool true) ∧ Below w.heap.size w w' := by
  have g1 := bounds_u64 w1
  obtain ⟨n, rfl⟩ := Int.eq_ofNat_of_zero_le g1.1
  obtain ⟨m, hm, hm2⟩ : ∃ m : Nat, IntKind.u64.wrap ((n : Int) + 1) = (m : Int) ∧ m < 18446744073709551616 :=
    ⟨((n : Int) + 1).toNat % 18446744073709551616, by rw [IntKind.wrap_u64]; omega, by omega⟩
  go_enter Try.func9, Try.ntmps9
  go_wp2_with fail
  refine (shown_any _).mono ?_
  rintro e u1 ⟨rfl, hb1⟩
  have r1 := r0.later hb1 (Nat.le_refl _)
  have hc1 := conv_of Try.underlying22 Try.underlying5 Try.underlying9 r1
  go_wp2_with fail
  refine (put_any a0 len0 cap0 z0 n _ r1 (by omega) (by omega)).mono ?_
  rintro e u2 ⟨g2, c2, k2, hk2, rfl, hown2, hb2⟩
  have Hk2 : Hid _ := hk2
  have lk2 : len0 < k2 := by have := encode_len n; omega
  clear hk2
  have hb2' := Grow.trans hb1 hb2
  have r2 := r0.later hb2' (Nat.le_refl _)
  go_wp2_with fail
  refine (put_any a0 len0 cap0 z0 m _ r2 (by omega) (by omega)).mono ?_
  rintro e u3 ⟨g3, c3, k3, hk3, rfl, hown3, hb3⟩
  have Hk3 : Hid _ := hk3
  have lk3 : len0 < k3 := by have := encode_len m; omega
  clear hk3
  have hb3' := Grow.trans hb2' hb3
  have rp := (Reads.owned hown2).later hb3 (Nat.le_refl _)
  have rq := Reads.owned hown3
  have hl0 : z0.length = len0 := by simpa using r0.length
  obtain ⟨x1, hs1, hr1⟩ := Reads.to (P := Try.prog) (t := 22) Try.underlying22 (size_of Try.info5) (ao := some ⟨g2, 0, none⟩) (len := k2) (cap := c2) rp.le len0 (by omega)
  obtain ⟨x2, hs2, hr2⟩ := Reads.from (P := Try.prog) (t := 22) Try.underlying22 (size_of Try.info5) (ao := some ⟨g2, 0, none⟩) (len := k2) (cap := c2) len0 (by omega)
  obtain ⟨x3, hs3, hr3⟩ := Reads.from (P := Try.prog) (t := 22) Try.underlying22 (size_of Try.info5) (ao := some ⟨g3, 0, none⟩) (len := k3) (cap := c3) len0 (by omega)
  have q0 : ∀ W, Below u3.heap.size u3 W → (convert 22 9 (.slice a0 len0 cap0)).run Try.prog W = .ok (.string (strOfNums z0)) W := fun W hW => conv_of Try.underlying22 Try.underlying5 Try.underlying9 (r0.later (Grow.trans hb3' hW) (Nat.le_refl _))
  have q1 : ∀ W, Below u3.heap.size u3 W → (convert 22 9 (.slice x1 len0 c2)).run Try.prog W = .ok (.string (strOfNums z0)) W := fun W hW => by
    have := conv_of Try.underlying22 Try.underlying5 Try.underlying9 (zs := (z0 ++ encode n).take len0) (by rw [List.map_take]; exact hr1 W _ (rp.later hW (Nat.le_refl _)))
    rw [List.take_left' hl0] at this
    exact this
  have q2 : ∀ W, Below u3.heap.size u3 W → (convert 22 9 (.slice x2 (k2 - len0) (c2 - len0))).run Try.prog W = .ok (.string (strOfNums (encode n))) W := fun W hW => by
    have := conv_of Try.underlying22 Try.underlying5 Try.underlying9 (zs := (z0 ++ encode n).drop len0) (by rw [List.map_drop]; exact hr2 W _ (rp.later hW (Nat.le_refl _)))
    rw [List.drop_left' hl0] at this
    exact this
  have q3 : ∀ W, Below u3.heap.size u3 W → (convert 22 9 (.slice x3 (k3 - len0) (c3 - len0))).run Try.prog W = .ok (.string (strOfNums (encode m))) W := fun W hW => by
    have := conv_of Try.underlying22 Try.underlying5 Try.underlying9 (zs := (z0 ++ encode m).drop len0) (by rw [List.map_drop]; exact hr3 W _ (rq.later hW (Nat.le_refl _)))
    rw [List.drop_left' hl0] at this
    exact this
  clear hr1 hr2 hr3 rp rq r2 r1 hc1 hown2 hown3
  go_wp2_with fail
  go_region_held (fun W => Below u3.heap.size u3 W) (first | exact Below.refl _ _ | exact Below.drew (Below.refl _ _) | assumption | exact Grow.trans (by assumption) (by assumption)) (first | (go_at_call 15; refine (put_any none 0 0 [] _ _ (Reads.nil _) (by decide) (by omega)).mono ?_; rintro e w' ⟨g, c, k, hk, rfl, hown, hb⟩; have Hk : Hid _ := hk; clear hk; have hcv := conv_of Try.underlying22 Try.underlying5 Try.underlying9 (Reads.owned hown); simp only [List.nil_append] at hcv))
  go_wp2
  go_ret
  exact ⟨rfl, Grow.trans hb3' (by assumption)⟩

set_option maxRecDepth 100000 in
theorem lifted (os : Os) (started : os.Started) (H : Type) (enc : TypeId × Value → H) :
    ReturnsInHanded {} Try.checked os 9 .any (Rows.numBehindSpec.pre6 enc Try.prog Try.f9 Rows.numBehindRow.domain false) (Rows.numBehindSpec.post enc Try.prog Try.f9 false true false false) := by
  refine returnsInHanded_of_change_sized (C := Try.checked) own started (by kernel_rfl) Try.func9
    (ChangeSpec.witness6 (enc := enc) (C := Try.checked) false ⟨#[], #[.slice none 0 0, .int .u64 0], []⟩ 8 (by kernel_rfl) (by kernel_rfl) (by kernel_rfl) (by kernel_rfl)) ?_
  intro W base args ds gs before hval0 hW hcnd hsz0 _
  have hsz : (DataW.weightsEach Try.prog (Try.f9.params.toList ++ Rows.numBehindSpec.plain.varTypes Try.prog) (ds ++ gs)).all (· ≤ reachBytes) = true := hsz0
  clear hsz0
  have hval : ∀ (j : Nat) t v, Try.f9.params[j]? = some t → args[j]? = some v → Value.okWide Try.prog W .any base t v := hval0
  have hW' := hW
  obtain ⟨p, q, hA0, hV, rfl, hfz, hnd⟩ := hW
  have hA : DataW.TrodAll enc Try.prog W 0 (fun _ => true) true Try.f9.params.toList args.toList ds p := hA0
  rw [Try.params9] at hA hval hsz
  obtain ⟨v0, vs0, d0, ds0, p0, q0, hargs, rfl, rfl, h0, rr0⟩ := trodAll_cons hA
  obtain ⟨v1, vs1, d1, ds1, p1, q1, rfl, rfl, rfl, h1, rr1⟩ := trodAll_cons rr0
  obtain ⟨rfl, rfl, rfl⟩ := trodAll_nil rr1
  obtain rfl : args = #[v0, v1] := by cases args; simp_all
  obtain ⟨rfl, rfl⟩ := trodVars_none hV
  obtain ⟨a0, len0, cap0, rfl⟩ := okWide_slice Try.underlying22 (hval 0 22 v0 rfl rfl)
  have k0 := h0
  have lt0 : ∀ x ∈ p0, x.block < W.heap.size := by obtain ⟨m, hm⟩ := k0; exact DataW.trod_lt m _ _ _ hm
  obtain ⟨z0, r0, f0, b0⟩ := slice_in Try.underlying22 Try.underlying5 (by kernel_rfl) (B := 1) (by kernel_rfl) hsz (j := 0) rfl rfl h0
  obtain ⟨a1, rfl, rfl, rfl, w1⟩ := open_int Try.underlying23 (hval 1 23 v1 rfl rfl) h1
  clear hA0 hval0
  refine (walk W a0 len0 cap0 z0 r0 f0 b0 a1 w1).mono fun e W' ⟨he, bel⟩ => ?_
  subst he
  exact ⟨_, rfl, _, _, _, [], _, [], hW', trodAll_mk1 (shut_bool Try.underlying4 _), (trodAll_cons_mk (Below.trod laidOut (by kernel_rfl) (of_decide_eq_true (by kernel_rfl)) k0 bel lt0) (trodAll_cons_mk (shut_int Try.underlying23 w1) trodAll_mk0)), rfl, bel.frame _, fun h => by cases h⟩

theorem over : Rows.numBehindRow.holds Try.pinned (OpenSpec.ofChange Rows.numBehindSpec) :=
  OpenClaim.holds_of_wide 9 Try.f9 rfl rfl rfl rfl rfl rfl rfl ⟨rfl, rfl, rfl, rfl, rfl⟩ rfl rfl rfl rfl rfl (by kernel_rfl) Try.func9 (by kernel_rfl)
    (of_decide_eq_true (by kernel_rfl)) (by unfold Func.isWrapper; first | (rw [if_pos (by decide +kernel)]; kernel_rfl) | (rw [if_neg (by decide +kernel)]; exact ⟨rfl, rfl⟩))
    (fun os started H enc _ => lifted os started H enc)
end Go.Proofs.Ytnlgghfiddmfkaa.numBehind
namespace Go.Proofs.Ytnlgghfiddmfkaa
theorem numBehind_holds : Rows.NumBehindSaid := numBehind.over
#print axioms numBehind_holds
end Go.Proofs.Ytnlgghfiddmfkaa
