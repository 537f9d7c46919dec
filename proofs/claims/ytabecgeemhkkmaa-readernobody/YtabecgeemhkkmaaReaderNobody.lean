/- For every input ReaderNobody answers true, and leaves its arguments as they were. Conditions: none. -/
import Derived.Test.YtabecgeemhkkmaaRows
import Derived.Test.YtabecgeemhkkmaaShown10
import Derived.Test.YtabecgeemhkkmaaOpen09
import Derived.ProofKit
import Derived.OpenShut
import Derived.ShutString
import Derived.ChangeOld
import Derived.SizedLaws
import Derived.Deep.RegionHeld
import Derived.Deep.RegionHeld3
import Derived.Deep.QuietTactic
import Derived.BigQuiet
import Derived.Deep.Cut
import Derived.Deep.CutBlock
namespace Go.Proofs.Ytabecgeemhkkmaa.readerNobody
open Go.ChangeShapes Go.WideShapes Go.ChangeAt Go.RowKit
open Go.ChangeMaps (open_string shut_string)
set_option linter.unusedVariables false

theorem own : ownKnob Try.prog.godebug = none := by kernel_rfl
theorem laidOut : laidOutB Try.prog = true := by kernel_rfl


set_option maxRecDepth 100000 in
set_option maxHeartbeats 4000000 in
theorem walk (w : World) (a0 : Option Addr) (len0 cap0 : Nat) (z0 : List Int) (r0 : Reads w a0 len0 cap0 (z0.map (.int .u8))) (f0 : ∀ z ∈ z0, (Lit.int .u8 z).wf = true) (b0 : len0 * 1 ≤ 140737488351232) :
    Calls Try.prog 11 #[.slice a0 len0 cap0] w fun e w' => e = .returned (.bool true) ∧ Below w.heap.size w w' := by
  have h8 : isBytes z0 := fun z hz => bounds_u8 (f0 z hz)
  clear f0 b0
  go_enter Try.func11, Try.ntmps11
  go_wp2_with fail
  refine (shown10_any w).mono ?_
  rintro e w1 ⟨rfl, hB1⟩
  by_cases hlb : len0 ≤ 20000
  case neg =>
    have hli : (20000 : Int) < len0 := by omega
    clear hlb
    go_wp2
    go_ret
    exact ⟨rfl, hB1⟩
  have hli : ¬ (20000 : Int) < len0 := by omega
  have hx1 := r0.later hB1 (Nat.le_refl _)
  have p1 := peek_nil w1
  unfold peekV at p1
  go_wp2_with fail
  refine p1.mono ?_
  rintro e w2 ⟨rfl, hG2⟩
  have hx2 := hx1.later hG2 (Nat.le_refl _)
  have hB2 := hB1.trans (hG2.mono hB1.size)
  obtain ⟨W2, hW2⟩ : ∃ W2, W2 = w2.alloc (.cells #[strV [], .int .u64 0] 44) := ⟨_, rfl⟩
  have hG2' : Grow w2 W2 := by rw [hW2]; exact (Below.refl _ _).alloc (Nat.le_refl _) _
  have hx3 := hx2.later hG2' (Nat.le_refl _)
  have hB3 := hB2.trans (hG2'.mono hB2.size)
  have p2 := next_nil W2
  unfold peekV at p2
  have HW2 : Hid _ := hW2
  clear p1 hG2 hB2 hx2 hG2' hx1 hW2 hB1
  go_wp2_with fail
  rw [← HW2.out]
  refine p2.mono ?_
  rintro e w4 ⟨rfl, hG4⟩
  obtain ⟨W4, hW4⟩ : ∃ W4, W4 = w4.alloc (.cells #[strV [], .int .u64 0] 44) := ⟨_, rfl⟩
  have hG4' : Grow w4 W4 := by rw [hW4]; exact (Below.refl _ _).alloc (Nat.le_refl _) _
  have hx4 := (hx3.later hG4 (Nat.le_refl _)).later hG4' (Nat.le_refl _)
  have hB4' := hB3.trans (hG4.mono hB3.size)
  have hB4 := hB4'.trans (hG4'.mono hB4'.size)
  have p3 := open_any hx4 h8 (by omega)
  obtain ⟨L, d, hD⟩ : ∃ L d, decL z0 = (L, d) := ⟨_, _, rfl⟩
  rw [hD] at p3
  have HW4 : Hid _ := hW4
  clear p2 hG4 hx3 hB3 hG4' hB4' HW2 hW4
  go_wp2_with fail
  rw [← HW4.out]
  refine p3.mono ?_
  rintro e w5 ⟨hG5, r, rfl, hr⟩
  have hx5 := hx4.later hG5 (Nat.le_refl _)
  have hB5 := hB4.trans (hG5.mono hB4.size)
  have p4 := decode_any hx5 h8 (by omega)
  unfold DecOut at p4
  rw [hD] at p4
  clear p3 hG5 hx4 hB4 HW4 hD
  go_wp2_with fail
  refine p4.mono ?_
  rintro e w6 ⟨g6, c6, m6, rfl, _, _, hG6⟩
  have hB6 := hB5.trans (hG6.mono hB5.size)
  have pl := left_nil w6
  clear p4 hG6 hB5 hx5
  rcases hr with ⟨hd, rfl⟩ | ⟨hd, rb, rfl, _, _⟩
  · have hdi : ¬ (d : Int) = 0 := by omega
    have hdb : ((d : Int) != 0) = true := by rw [bne_iff_ne]; exact hdi
    clear hd
    go_wp2_with (go_at_call 30; refine pl.mono ?_; rintro e w' ⟨rfl, rfl⟩)
    go_ret
    exact ⟨rfl, hB6⟩
  · try simp only at hd
    subst hd
    go_wp2_with (go_at_call 30; refine pl.mono ?_; rintro e w' ⟨rfl, rfl⟩)
    go_ret
    exact ⟨rfl, hB6⟩

set_option maxRecDepth 100000 in
theorem lifted (os : Os) (started : os.Started) (H : Type) (enc : TypeId × Value → H) :
    ReturnsInHanded {} Try.checked os 11 .any (Rows.readerNobodySpec.pre6 enc Try.prog Try.f11 Rows.readerNobodyRow.domain false) (Rows.readerNobodySpec.post enc Try.prog Try.f11 false true false false) := by
  refine returnsInHanded_of_change_sized (C := Try.checked) own started (by kernel_rfl) Try.func11
    (ChangeSpec.witness6 (enc := enc) (C := Try.checked) false ⟨#[], #[.slice none 0 0], []⟩ 8 (by kernel_rfl) (by kernel_rfl) (by kernel_rfl) (by kernel_rfl)) ?_
  intro W base args ds gs before hval0 hW hcnd hsz0 _
  have hsz : (DataW.weightsEach Try.prog (Try.f11.params.toList ++ Rows.readerNobodySpec.plain.varTypes Try.prog) (ds ++ gs)).all (· ≤ reachBytes) = true := hsz0
  clear hsz0
  have hval : ∀ (j : Nat) t v, Try.f11.params[j]? = some t → args[j]? = some v → Value.okWide Try.prog W .any base t v := hval0
  have hW' := hW
  obtain ⟨p, q, hA0, hV, rfl, hfz, hnd⟩ := hW
  have hA : DataW.TrodAll enc Try.prog W 0 (fun _ => true) true Try.f11.params.toList args.toList ds p := hA0
  rw [Try.params11] at hA hval hsz
  obtain ⟨v0, vs0, d0, ds0, p0, q0, hargs, rfl, rfl, h0, rr0⟩ := trodAll_cons hA
  obtain ⟨rfl, rfl, rfl⟩ := trodAll_nil rr0
  obtain rfl : args = #[v0] := by cases args; simp_all
  obtain ⟨rfl, rfl⟩ := trodVars_none hV
  obtain ⟨a0, len0, cap0, rfl⟩ := okWide_slice Try.underlying23 (hval 0 23 v0 rfl rfl)
  have k0 := h0
  have lt0 : ∀ x ∈ p0, x.block < W.heap.size := by obtain ⟨m, hm⟩ := k0; exact DataW.trod_lt m _ _ _ hm
  obtain ⟨z0, r0, f0, b0⟩ := slice_in Try.underlying23 Try.underlying5 (by kernel_rfl) (B := 1) (by kernel_rfl) hsz (j := 0) rfl rfl h0
  clear hA0 hval0
  refine (walk W a0 len0 cap0 z0 r0 f0 b0).mono fun e W' ⟨he, bel⟩ => ?_
  subst he
  exact ⟨_, rfl, _, _, _, [], _, [], hW', trodAll_mk1 (shut_bool Try.underlying4 _), (trodAll_cons_mk (Below.trod laidOut (by kernel_rfl) (of_decide_eq_true (by kernel_rfl)) k0 bel lt0) trodAll_mk0), rfl, bel.frame _, fun h => by cases h⟩

theorem over : Rows.readerNobodyRow.holds Try.pinned (OpenSpec.ofChange Rows.readerNobodySpec) :=
  OpenClaim.holds_of_wide 11 Try.f11 rfl rfl rfl rfl rfl rfl rfl ⟨rfl, rfl, rfl, rfl, rfl⟩ rfl rfl rfl rfl rfl (by kernel_rfl) Try.func11 (by kernel_rfl)
    (of_decide_eq_true (by kernel_rfl)) (by unfold Func.isWrapper; first | (rw [if_pos (by decide +kernel)]; kernel_rfl) | (rw [if_neg (by decide +kernel)]; exact ⟨rfl, rfl⟩))
    (fun os started H enc _ => lifted os started H enc)
end Go.Proofs.Ytabecgeemhkkmaa.readerNobody
namespace Go.Proofs.Ytabecgeemhkkmaa
theorem readerNobody_holds : Rows.ReaderNobodySaid := readerNobody.over
#print axioms readerNobody_holds
end Go.Proofs.Ytabecgeemhkkmaa
