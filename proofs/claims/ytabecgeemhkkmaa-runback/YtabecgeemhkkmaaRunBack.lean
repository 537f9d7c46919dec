/- For every input RunBack answers true, and leaves its arguments as they were. Conditions: none. -/
import Derived.Test.YtabecgeemhkkmaaRows
import Derived.Test.YtabecgeemhkkmaaRunLaw
import Derived.Test.YtabecgeemhkkmaaOpen09
import Derived.ProofKit
import Derived.OpenShut
import Derived.ShutString
import Derived.ChangeOld
import Derived.SizedLaws
import Derived.Deep.RegionHeld
import Derived.Deep.RegionHeld3
import Derived.Deep.QuietTactic
import Derived.BigQuiet
import Derived.Deep.Cut
import Derived.Deep.CutBlock
namespace Go.Proofs.Ytabecgeemhkkmaa.runBack
open Go.ChangeShapes Go.WideShapes Go.ChangeAt Go.RowKit
open Go.ChangeMaps (open_string shut_string)
set_option linter.unusedVariables false

theorem own : ownKnob Try.prog.godebug = none := by kernel_rfl
theorem laidOut : laidOutB Try.prog = true := by kernel_rfl

theorem dec_nil : decL [] = ([], 2) := by decide +kernel

set_option maxRecDepth 100000 in
set_option maxHeartbeats 4000000 in
theorem walk (w : World) (a0 : Option Addr) (len0 cap0 : Nat) (z0 : List En) (r0 : ReadsE w a0 len0 cap0 (cellsE z0)) (f0 : ∀ z ∈ z0, z.1.length ≤ 140737488351232 ∧ z.2 ≤ 18446744073709551615) (b0 : len0 * 24 ≤ 140737488351232) (a1 : Int) (w1 : (Lit.int .u8 a1).wf = true) (a2 : Option Addr) (len2 cap2 : Nat) (z2 : List Int) (r2 : Reads w a2 len2 cap2 (z2.map (.int .u8))) (f2 : ∀ z ∈ z2, (Lit.int .u8 z).wf = true) (b2 : len2 * 1 ≤ 140737488351232) :
    Calls Try.prog 4 #[.slice a0 len0 cap0, .int .u8 a1, .slice a2 len2 cap2] w fun e w' => e = .returned (.bool true) ∧ Below w.heap.size w w' := by
  have hw : ∀ e ∈ z0, e.1.length ≤ 140737488355328 := fun e he => by have := (f0 e he).1; omega
  have hb : ∀ e ∈ z0, e.2 ≤ 18446744073709551615 := fun e he => (f0 e he).2
  have h8 : isBytes z2 := fun z hz => bounds_u8 (f2 z hz)
  have hl : len0 ≤ 1000000000000000 := by omega
  obtain ⟨x1, rfl, hx1⟩ := u8_nat w1
  obtain ⟨n, hn, n1, n2⟩ : ∃ n : Nat, 1 + (x1 : Int) % 255 = (n : Nat) ∧ 1 ≤ n ∧ n ≤ 255 := ⟨1 + x1 % 255, by omega, by omega, by omega⟩
  obtain ⟨L, d, hD, hLd⟩ : ∃ L d, decL z2 = (L, d) ∧ ((d = 0 ∧ mayE L = 0) ∨ (d = 2 ∧ L = [])) := by
    rcases dec_cases z2 with ⟨l, s, h1, h2, h3, h4, h5⟩ | h5
    · exact ⟨l, 0, h5, .inl ⟨rfl, h3⟩⟩
    · exact ⟨[], 2, h5, .inr ⟨rfl, rfl⟩⟩
  clear w1 b0 f0 f2 b2
  go_enter Try.func4, Try.ntmps4
  go_wp2_with fail
  refine (shown_any w).mono ?_
  rintro e w1 ⟨rfl, hB1⟩
  have hr1 := r0.later hB1 (Nat.le_refl _)
  have hy1 := r2.later hB1 (Nat.le_refl _)
  have pf := few_any hr1 hw hl
  have hz := hr1.count
  go_wp2_with fail
  refine pf.mono ?_
  rintro e w2 ⟨rfl, rfl⟩
  clear pf
  cases hfe : fewE z0 with
  | false =>
    go_wp2
    go_ret
    exact ⟨rfl, hB1⟩
  | true =>
    obtain ⟨hf1, hf2⟩ := few_iff.1 hfe
    clear hfe hf2
    by_cases hlb : len2 ≤ 20000
    case neg =>
      have hli : (20000 : Int) < len2 := by omega
      clear hlb
      go_wp2
      go_ret
      exact ⟨rfl, hB1⟩
    have hli : ¬ (20000 : Int) < len2 := by omega
    obtain ⟨X, c, R, f, hX, hcf, hXb, hXl, hXd⟩ : ∃ X c R f, encR z0 n = (X, c) ∧ ((mayE z0 = 0 ∧ c = 0 ∧ R = z0 ∧ f = 0) ∨ (mayE z0 ≠ 0 ∧ c = mayE z0 ∧ R = [] ∧ f = 2)) ∧ isBytes X ∧ X.length ≤ 61900 ∧ decL X = (R, f) := by
      by_cases hm : mayE z0 = 0
      · obtain ⟨e1, e2, e3, e4⟩ := law_run hf1 hm n1 n2
        exact ⟨_, _, _, _, e1, .inl ⟨hm, rfl, rfl, rfl⟩, e3, e2, e4⟩
      · refine ⟨[], mayE z0, [], 2, ?_, .inr ⟨hm, rfl, rfl, rfl⟩, fun z hz => by simp at hz, by simp, dec_nil⟩
        unfold encR
        rw [if_pos ⟨n1, n2⟩, if_neg hm]
    have p1 := encode_any hr1 hb hw (by omega) (n : Nat) n (.inl rfl) (by omega)
    rw [hX] at p1
    unfold EncOut at p1
    clear hX
    go_wp2_with fail
    refine p1.mono ?_
    rintro e w3 ⟨g3, c3, m3, rfl, hm3, ho3, hG3⟩
    have hB3 := hB1.trans (hG3.mono hB1.size)
    have hr3 := hr1.later hG3 (Nat.le_refl _)
    have hy3 := hy1.later hG3 (Nat.le_refl _)
    have hm3' : m3 ≤ 100000 := by rw [hm3]; show X.length ≤ _; omega
    have p2 := decode_any (Reads.own ho3) hXb hm3'
    try simp only at p2
    rw [hXd] at p2
    unfold DecOut at p2
    clear p1 hm3 hG3 hB1 hr1 hy1 ho3 hXb hXl hXd
    go_wp2_with fail
    refine p2.mono ?_
    rintro e w4 ⟨g4, c4, m4, rfl, hm4, ho4, hG4⟩
    have hB4 := hB3.trans (hG4.mono hB3.size)
    have hr4 := hr3.later hG4 (Nat.le_refl _)
    have hy4 := hy3.later hG4 (Nat.le_refl _)
    have re4 := ReadsE.own ho4
    have p3 := decode_any hy4 h8 (by omega)
    unfold DecOut at p3
    rw [hD] at p3
    have Hm4 : Hid _ := hm4
    clear p2 hm4 hG4 hB3 hr3 hy3 ho4 hD
    go_wp2_with fail
    refine p3.mono ?_
    rintro e w5 ⟨g5, c5, m5, rfl, hm5, ho5, hG5⟩
    have hB5 := hB4.trans (hG5.mono hB4.size)
    have hr5 := hr4.later hG5 (Nat.le_refl _)
    have re45 := re4.later hG5 (Nat.le_refl _)
    have re5 := ReadsE.own ho5
    have Hm5 : Hid (m5 = L.length) := hm5
    clear p3 hm5 hG5 hB4 hr4 hy4 ho5 re4
    have pm : ∀ W, Below w5.heap.size w5 W → Calls Try.prog 19 #[.slice a0 len0 cap0] W fun e w' => e = .returned (.int .i64 (mayE z0 : Nat)) ∧ Below W.heap.size W w' := fun W hW => may_any (hr5.later hW (Nat.le_refl _)) hb hw
    have pq : mayE L = 0 → Calls Try.prog 19 #[.slice g5 m5 c5] w5 fun e w' => e = .returned (.int .i64 0) ∧ Below w5.heap.size w5 w' := fun h0 => by
      have := may_any re5 (fun e he => by have := one_ok.1 (may_all h0 e he); omega) (fun e he => by have := one_ok.1 (may_all h0 e he); omega)
      rw [h0] at this
      exact this
    have ps : R = z0 → ∀ W, Below w5.heap.size w5 W → Calls Try.prog 21 #[.slice a0 len0 cap0, .slice g4 m4 c4] W fun e w' => e = .returned (.bool true) ∧ ∃ m, w' = W.drewN m := fun h0 W hW => by
      have := rsameE_any (hr5.later hW (Nat.le_refl _)) (re45.later hW (Nat.le_refl _))
      rw [decide_eq_true (show (z0 : List En) = R from h0.symm)] at this
      exact this
    have HB5 : Hid _ := hB5
    clear hr5 re45 hB5
    rcases hLd with ⟨rfl, hmL⟩ | ⟨rfl, rfl⟩
    · go_wp2_with fail
      refine (pq hmL).mono ?_
      rintro e w6 ⟨rfl, hG6⟩
      clear hmL
      rcases hcf with ⟨hm, rfl, rfl, rfl⟩ | ⟨hm, rfl, rfl, rfl⟩
      · have pm7 := pm w6 hG6
        rw [hm] at pm7
        have ps' := ps rfl
        clear pm ps pq hm
        go_wp2_with fail
        refine pm7.mono ?_
        rintro e w7 ⟨rfl, hG7⟩
        have hG7' : Below w5.heap.size w5 w7 := hG6.trans (hG7.mono hG6.size)
        have hB7 := HB5.out.trans (hG7'.mono HB5.out.size)
        have p8 := ps' _ hG7'
        clear pm7 ps' hG7
        go_wp2_with (go_at_call 21; refine p8.mono ?_; rintro e w' ⟨rfl, mm, rfl⟩)
        go_ret
        exact ⟨rfl, below_drewN hB7 _⟩
      · have hmi : ¬ ((mayE z0 : Nat) : Int) = 0 := by omega
        clear ps pq hm
        generalize mayE z0 = mz at *
        go_wp2_with fail
        refine (pm w6 hG6).mono ?_
        rintro e w7 ⟨rfl, hG7⟩
        have hG7' : Below w5.heap.size w5 w7 := hG6.trans (hG7.mono hG6.size)
        have p8 := pm _ hG7'
        clear pm hG7
        go_wp2_with fail
        refine p8.mono ?_
        rintro e w8 ⟨rfl, hG8⟩
        have hB8 := HB5.out.trans ((hG7'.trans (hG8.mono hG7'.size)).mono HB5.out.size)
        clear p8 hG8
        go_wp2
        go_ret
        exact ⟨rfl, hB8⟩
    · have hm50 : m5 = 0 := Hm5.out
      subst hm50
      have hG6 : Below w5.heap.size w5 w5 := Below.refl _ _
      rcases hcf with ⟨hm, rfl, rfl, rfl⟩ | ⟨hm, rfl, rfl, rfl⟩
      · have pm7 := pm w5 hG6
        rw [hm] at pm7
        have ps' := ps rfl
        clear pm ps pq hm
        go_wp2_with fail
        refine pm7.mono ?_
        rintro e w7 ⟨rfl, hG7⟩
        have hG7' : Below w5.heap.size w5 w7 := hG6.trans (hG7.mono hG6.size)
        have hB7 := HB5.out.trans (hG7'.mono HB5.out.size)
        have p8 := ps' _ hG7'
        clear pm7 ps' hG7
        go_wp2_with (go_at_call 21; refine p8.mono ?_; rintro e w' ⟨rfl, mm, rfl⟩)
        go_ret
        exact ⟨rfl, below_drewN hB7 _⟩
      · have hmi : ¬ ((mayE z0 : Nat) : Int) = 0 := by omega
        clear ps pq hm
        generalize mayE z0 = mz at *
        go_wp2_with fail
        refine (pm w5 hG6).mono ?_
        rintro e w7 ⟨rfl, hG7⟩
        have hG7' : Below w5.heap.size w5 w7 := hG6.trans (hG7.mono hG6.size)
        have p8 := pm _ hG7'
        clear pm hG7
        go_wp2_with fail
        refine p8.mono ?_
        rintro e w8 ⟨rfl, hG8⟩
        have hB8 := HB5.out.trans ((hG7'.trans (hG8.mono hG7'.size)).mono HB5.out.size)
        clear p8 hG8
        go_wp2
        go_ret
        exact ⟨rfl, hB8⟩

set_option maxRecDepth 100000 in
theorem lifted (os : Os) (started : os.Started) (H : Type) (enc : TypeId × Value → H) :
    ReturnsInHanded {} Try.checked os 4 .any (Rows.runBackSpec.pre6 enc Try.prog Try.f4 Rows.runBackRow.domain false) (Rows.runBackSpec.post enc Try.prog Try.f4 false true false false) := by
  refine returnsInHanded_of_change_sized (C := Try.checked) own started (by kernel_rfl) Try.func4
    (ChangeSpec.witness6 (enc := enc) (C := Try.checked) false ⟨#[], #[.slice none 0 0, .int .u8 0, .slice none 0 0], []⟩ 8 (by kernel_rfl) (by kernel_rfl) (by kernel_rfl) (by kernel_rfl)) ?_
  intro W base args ds gs before hval0 hW hcnd hsz0 _
  have hsz : (DataW.weightsEach Try.prog (Try.f4.params.toList ++ Rows.runBackSpec.plain.varTypes Try.prog) (ds ++ gs)).all (· ≤ reachBytes) = true := hsz0
  clear hsz0
  have hval : ∀ (j : Nat) t v, Try.f4.params[j]? = some t → args[j]? = some v → Value.okWide Try.prog W .any base t v := hval0
  have hW' := hW
  obtain ⟨p, q, hA0, hV, rfl, hfz, hnd⟩ := hW
  have hA : DataW.TrodAll enc Try.prog W 0 (fun _ => true) true Try.f4.params.toList args.toList ds p := hA0
  rw [Try.params4] at hA hval hsz
  obtain ⟨v0, vs0, d0, ds0, p0, q0, hargs, rfl, rfl, h0, rr0⟩ := trodAll_cons hA
  obtain ⟨v1, vs1, d1, ds1, p1, q1, rfl, rfl, rfl, h1, rr1⟩ := trodAll_cons rr0
  obtain ⟨v2, vs2, d2, ds2, p2, q2, rfl, rfl, rfl, h2, rr2⟩ := trodAll_cons rr1
  obtain ⟨rfl, rfl, rfl⟩ := trodAll_nil rr2
  obtain rfl : args = #[v0, v1, v2] := by cases args; simp_all
  obtain ⟨rfl, rfl⟩ := trodVars_none hV
  obtain ⟨a0, len0, cap0, rfl⟩ := okWide_slice Try.underlying22 (hval 0 22 v0 rfl rfl)
  have k0 := h0
  have lt0 : ∀ x ∈ p0, x.block < W.heap.size := by obtain ⟨m, hm⟩ := k0; exact DataW.trod_lt m _ _ _ hm
  obtain ⟨z0, r0, f0, b0⟩ := entries_in Try.underlying22 Try.underlying44 (by kernel_rfl) rfl rfl (by kernel_rfl) (by kernel_rfl) Try.underlying9 Try.underlying42 (B := 24) (by kernel_rfl) hsz (j := 0) rfl rfl h0
  obtain ⟨a1, rfl, rfl, rfl, w1⟩ := open_int Try.underlying5 (hval 1 5 v1 rfl rfl) h1
  obtain ⟨a2, len2, cap2, rfl⟩ := okWide_slice Try.underlying23 (hval 2 23 v2 rfl rfl)
  have k2 := h2
  have lt2 : ∀ x ∈ p2, x.block < W.heap.size := by obtain ⟨m, hm⟩ := k2; exact DataW.trod_lt m _ _ _ hm
  obtain ⟨z2, r2, f2, b2⟩ := slice_in Try.underlying23 Try.underlying5 (by kernel_rfl) (B := 1) (by kernel_rfl) hsz (j := 2) rfl rfl h2
  clear hA0 hval0
  refine (walk W a0 len0 cap0 z0 r0 f0 b0 a1 w1 a2 len2 cap2 z2 r2 f2 b2).mono fun e W' ⟨he, bel⟩ => ?_
  subst he
  exact ⟨_, rfl, _, _, _, [], _, [], hW', trodAll_mk1 (shut_bool Try.underlying4 _), (trodAll_cons_mk (Below.trod laidOut (by kernel_rfl) (of_decide_eq_true (by kernel_rfl)) k0 bel lt0) (trodAll_cons_mk (shut_int Try.underlying5 w1) (trodAll_cons_mk (Below.trod laidOut (by kernel_rfl) (of_decide_eq_true (by kernel_rfl)) k2 bel lt2) trodAll_mk0))), rfl, bel.frame _, fun h => by cases h⟩

theorem over : Rows.runBackRow.holds Try.pinned (OpenSpec.ofChange Rows.runBackSpec) :=
  OpenClaim.holds_of_wide 4 Try.f4 rfl rfl rfl rfl rfl rfl rfl ⟨rfl, rfl, rfl, rfl, rfl⟩ rfl rfl rfl rfl rfl (by kernel_rfl) Try.func4 (by kernel_rfl)
    (of_decide_eq_true (by kernel_rfl)) (by unfold Func.isWrapper; first | (rw [if_pos (by decide +kernel)]; kernel_rfl) | (rw [if_neg (by decide +kernel)]; exact ⟨rfl, rfl⟩))
    (fun os started H enc _ => lifted os started H enc)
end Go.Proofs.Ytabecgeemhkkmaa.runBack
namespace Go.Proofs.Ytabecgeemhkkmaa
theorem runBack_holds : Rows.RunBackSaid := runBack.over
#print axioms runBack_holds
end Go.Proofs.Ytabecgeemhkkmaa
