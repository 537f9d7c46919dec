/- For every input CrcJoins answers true, and leaves its arguments as they were. Conditions: none. -/
import Derived.Test.YtffkdelnpnokjaaRows
import Derived.Test.YtffkdelnpnokjaaCrcIs
import Derived.Test.YtffkdelnpnokjaaShown02
import Derived.Test.YtffkdelnpnokjaaOpen
import Derived.ProofKit
import Derived.OpenShut
import Derived.ShutString
import Derived.ChangeOld
import Derived.SizedLaws
import Derived.Deep.RegionHeld
import Derived.Deep.QuietTactic
import Derived.BigQuiet
namespace Go.Proofs.Ytffkdelnpnokjaa.crcJoins
open Go.ChangeShapes Go.WideShapes Go.ChangeAt Go.RowKit
open Go.ChangeMaps (open_string shut_string)
set_option linter.unusedVariables false

theorem own : ownKnob Try.prog.godebug = none := by kernel_rfl
theorem laidOut : laidOutB Try.prog = true := by kernel_rfl

theorem Try.info5 : (Try.prog.info? 5).map (fun i => (i.zero, i.size, i.bytes)) = some (some (.int .u8 0), 1, 1) := by kernel_rfl
theorem bytes_of {z : List Int} (f : ∀ x ∈ z, (Lit.int .u8 x).wf = true) : isBytes z := fun x hx => bounds_u8 (f x hx)

set_option maxRecDepth 100000 in
set_option maxHeartbeats 4000000 in
theorem walk (w : World) (a0 : Option Addr) (len0 cap0 : Nat) (z0 : List Int) (r0 : Reads w a0 len0 cap0 (z0.map (.int .u8))) (f0 : ∀ z ∈ z0, (Lit.int .u8 z).wf = true) (b0 : len0 * 1 ≤ 140737488351232) (a1 : Int) (w1 : (Lit.int .u16 a1).wf = true) :
    Calls Try.prog 4 #[.slice a0 len0 cap0, .int .u16 a1] w fun e w' => e = .returned (.bool true) ∧ Below w.heap.size w w' := by
  have g1 := bounds_u16 w1
  obtain ⟨m, rfl⟩ := Int.eq_ofNat_of_zero_le g1.1
  have h8 := bytes_of f0
  go_enter Try.func4, Try.ntmps4
  go_wp2_with fail
  refine (shown_any _).mono ?_
  rintro e wa ⟨rfl, hb1⟩
  have r1 := r0.later hb1 (Nat.le_refl _)
  have hle : (len0 : Int) ≤ 140737488351232 := by omega
  by_cases hl : (20000 : Int) < (len0 : Int)
  · go_wp2
    go_ret
    exact ⟨rfl, hb1⟩
  · obtain ⟨k, hk, hkl⟩ : ∃ k : Nat, (m : Int) % ((len0 : Int) + 1) = (k : Int) ∧ k ≤ len0 := ⟨m % (len0 + 1), by simp, by have := Nat.mod_lt m (show 0 < len0 + 1 by omega); omega⟩
    have hkl2 : (k : Int) ≤ (len0 : Int) := by omega
    have HK : Hid _ := hk
    clear hk
    go_wp2_with fail
    rw [HK.out]
    clear HK
    obtain ⟨x1, hs1, hr1⟩ := Reads.to (P := Try.prog) (t := 22) Try.underlying22 (size_of Try.info5) (ao := a0) (len := len0) (cap := cap0) r1.le k hkl
    obtain ⟨x2, hs2, hr2⟩ := Reads.from (P := Try.prog) (t := 22) Try.underlying22 (size_of Try.info5) (ao := a0) (len := len0) (cap := cap0) k hkl
    have h8a := h8.take k
    have hlA : ofL (z0.take k) < 4294967296 := more_lt _ _
    have hlB : ofL z0 < 4294967296 := more_lt _ _
    have c1 : OfIs wa (.slice x1 k cap0) (ofL (z0.take k)) := ofIs (by rw [List.map_take]; exact hr1 _ _ r1) h8a
    have c2 : MoreIs wa (ofL (z0.take k) : Nat) (.slice x2 (len0 - k) (cap0 - k)) (ofL z0) := by
      have := moreIs (w0 := wa) (ao := x2) (len := len0 - k) (cap := cap0 - k) (zs := z0.drop k) hlA (by rw [List.map_drop]; exact hr2 _ _ r1) (h8.drop k)
      rw [of_parts h8a, List.take_append_drop] at this
      exact this
    have c3 : OfIs wa (.slice a0 len0 cap0) (ofL z0) := ofIs r1 h8
    have c4 : MoreIs wa (ofL z0 : Nat) (.slice none 0 0) (ofL z0) := by
      have := moreIs (w0 := wa) (zs := []) hlB (Reads.nil _) (fun z hz => by simp at hz)
      rw [more_nil hlB] at this
      exact this
    clear hr1 hr2 h8a hlA hlB
    generalize ofL (z0.take k) = A at c1 c2
    generalize ofL z0 = B at c2 c3 c4
    clear r0 f0 r1 h8
    first | go_region_held (fun W => Below wa.heap.size wa W) (first | exact Below.refl _ _ | exact Below.drew (Below.refl _ _) | assumption | exact Grow.trans (by assumption) (by assumption)) (first | (go_at_call 9; refine (OfIs.out (w0 := wa) (by assumption) _ (by first | assumption | exact Below.refl _ _ | exact Below.drew (Below.refl _ _))).mono ?_; rintro e w' ⟨rfl, hb⟩) | (go_at_call 11; refine (MoreIs.out (w0 := wa) (by assumption) _ (by first | assumption | exact Below.refl _ _ | exact Below.drew (Below.refl _ _))).mono ?_; rintro e w' ⟨rfl, hb⟩)) | fail
    all_goals
      go_wp2
      go_ret
      exact ⟨rfl, Grow.trans hb1 (by assumption)⟩

set_option maxRecDepth 100000 in
theorem lifted (os : Os) (started : os.Started) (H : Type) (enc : TypeId × Value → H) :
    ReturnsInHanded {} Try.checked os 4 .any (Rows.crcJoinsSpec.pre6 enc Try.prog Try.f4 Rows.crcJoinsRow.domain false) (Rows.crcJoinsSpec.post enc Try.prog Try.f4 false true false false) := by
  refine returnsInHanded_of_change_sized (C := Try.checked) own started (by kernel_rfl) Try.func4
    (ChangeSpec.witness6 (enc := enc) (C := Try.checked) false ⟨#[], #[.slice none 0 0, .int .u16 0], []⟩ 8 (by kernel_rfl) (by kernel_rfl) (by kernel_rfl) (by kernel_rfl)) ?_
  intro W base args ds gs before hval0 hW hcnd hsz0 _
  have hsz : (DataW.weightsEach Try.prog (Try.f4.params.toList ++ Rows.crcJoinsSpec.plain.varTypes Try.prog) (ds ++ gs)).all (· ≤ reachBytes) = true := hsz0
  clear hsz0
  have hval : ∀ (j : Nat) t v, Try.f4.params[j]? = some t → args[j]? = some v → Value.okWide Try.prog W .any base t v := hval0
  have hW' := hW
  obtain ⟨p, q, hA0, hV, rfl, hfz, hnd⟩ := hW
  have hA : DataW.TrodAll enc Try.prog W 0 (fun _ => true) true Try.f4.params.toList args.toList ds p := hA0
  rw [Try.params4] at hA hval hsz
  obtain ⟨v0, vs0, d0, ds0, p0, q0, hargs, rfl, rfl, h0, rr0⟩ := trodAll_cons hA
  obtain ⟨v1, vs1, d1, ds1, p1, q1, rfl, rfl, rfl, h1, rr1⟩ := trodAll_cons rr0
  obtain ⟨rfl, rfl, rfl⟩ := trodAll_nil rr1
  obtain rfl : args = #[v0, v1] := by cases args; simp_all
  obtain ⟨rfl, rfl⟩ := trodVars_none hV
  obtain ⟨a0, len0, cap0, rfl⟩ := okWide_slice Try.underlying22 (hval 0 22 v0 rfl rfl)
  have k0 := h0
  have lt0 : ∀ x ∈ p0, x.block < W.heap.size := by obtain ⟨m, hm⟩ := k0; exact DataW.trod_lt m _ _ _ hm
  obtain ⟨z0, r0, f0, b0⟩ := slice_in Try.underlying22 Try.underlying5 (by kernel_rfl) (B := 1) (by kernel_rfl) hsz (j := 0) rfl rfl h0
  obtain ⟨a1, rfl, rfl, rfl, w1⟩ := open_int Try.underlying28 (hval 1 28 v1 rfl rfl) h1
  clear hA0 hval0
  refine (walk W a0 len0 cap0 z0 r0 f0 b0 a1 w1).mono fun e W' ⟨he, bel⟩ => ?_
  subst he
  exact ⟨_, rfl, _, _, _, [], _, [], hW', trodAll_mk1 (shut_bool Try.underlying4 _), (trodAll_cons_mk (Below.trod laidOut (by kernel_rfl) (of_decide_eq_true (by kernel_rfl)) k0 bel lt0) (trodAll_cons_mk (shut_int Try.underlying28 w1) trodAll_mk0)), rfl, bel.frame _, fun h => by cases h⟩

theorem over : Rows.crcJoinsRow.holds Try.pinned (OpenSpec.ofChange Rows.crcJoinsSpec) :=
  OpenClaim.holds_of_wide 4 Try.f4 rfl rfl rfl rfl rfl rfl rfl ⟨rfl, rfl, rfl, rfl, rfl⟩ rfl rfl rfl rfl rfl (by kernel_rfl) Try.func4 (by kernel_rfl)
    (of_decide_eq_true (by kernel_rfl)) (by unfold Func.isWrapper; first | (rw [if_pos (by decide +kernel)]; kernel_rfl) | (rw [if_neg (by decide +kernel)]; exact ⟨rfl, rfl⟩))
    (fun os started H enc _ => lifted os started H enc)
end Go.Proofs.Ytffkdelnpnokjaa.crcJoins
namespace Go.Proofs.Ytffkdelnpnokjaa
theorem crcJoins_holds : Rows.CrcJoinsSaid := crcJoins.over
#print axioms crcJoins_holds
end Go.Proofs.Ytffkdelnpnokjaa
