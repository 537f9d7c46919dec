/- For every input RunTells answers true, and leaves its arguments as they were. Conditions: none. -/
import Derived.Test.YtabecgeemhkkmaaRows
import Derived.Test.YtabecgeemhkkmaaRunLaw
import Derived.Test.YtabecgeemhkkmaaRef09Dec
import Derived.Test.YtabecgeemhkkmaaOpen09
import Derived.ProofKit
import Derived.OpenShut
import Derived.ShutString
import Derived.ChangeOld
import Derived.SizedLaws
import Derived.Deep.RegionHeld
import Derived.Deep.RegionHeld3
import Derived.Deep.QuietTactic
import Derived.BigQuiet
import Derived.Deep.Cut
import Derived.Deep.CutBlock
namespace Go.Proofs.Ytabecgeemhkkmaa.runTells
open Go.ChangeShapes Go.WideShapes Go.ChangeAt Go.RowKit
open Go.ChangeMaps (open_string shut_string)
set_option linter.unusedVariables false

theorem own : ownKnob Try.prog.godebug = none := by kernel_rfl
theorem laidOut : laidOutB Try.prog = true := by kernel_rfl

theorem enc_bytes {es : List En} {s : Nat} (hf : es.length ≤ 200) : isBytes (encR es s).1 := by
  unfold encR
  split
  · rename_i h
    split
    · rename_i hm
      exact (law_run hf hm h.1 h.2).2.2.1
    · exact fun z hz => by simp at hz
  · exact fun z hz => by simp at hz

set_option maxRecDepth 100000 in
set_option maxHeartbeats 4000000 in
theorem walk (w : World) (a0 : Option Addr) (len0 cap0 : Nat) (z0 : List En) (r0 : ReadsE w a0 len0 cap0 (cellsE z0)) (f0 : ∀ z ∈ z0, z.1.length ≤ 140737488351232 ∧ z.2 ≤ 18446744073709551615) (b0 : len0 * 24 ≤ 140737488351232) (a1 : Int) (w1 : (Lit.int .i64 a1).wf = true) (a2 : Option Addr) (len2 cap2 : Nat) (z2 : List Int) (r2 : Reads w a2 len2 cap2 (z2.map (.int .u8))) (f2 : ∀ z ∈ z2, (Lit.int .u8 z).wf = true) (b2 : len2 * 1 ≤ 140737488351232) :
    Calls Try.prog 3 #[.slice a0 len0 cap0, .int .i64 a1, .slice a2 len2 cap2] w fun e w' => e = .returned (.bool true) ∧ Below w.heap.size w w' := by
  have hw : ∀ e ∈ z0, e.1.length ≤ 140737488355328 := fun e he => by have := (f0 e he).1; omega
  have hb : ∀ e ∈ z0, e.2 ≤ 18446744073709551615 := fun e he => (f0 e he).2
  have h8 : isBytes z2 := fun z hz => bounds_u8 (f2 z hz)
  have hl : len0 ≤ 1000000000000000 := by omega
  have ha := bounds_i64 w1
  obtain ⟨s, hs⟩ : ∃ s : Nat, a1 = s ∨ (a1 < 0 ∧ s = 0) := ⟨a1.toNat, by omega⟩
  have hs9 : a1 ≤ 9223372036854775807 := by omega
  clear w1 b0 f0 f2 ha b2
  go_enter Try.func3, Try.ntmps3
  go_wp2_with fail
  refine (shown_any w).mono ?_
  rintro e w1 ⟨rfl, hB1⟩
  have hr1 := r0.later hB1 (Nat.le_refl _)
  have hx1 := r2.later hB1 (Nat.le_refl _)
  have pf := few_any hr1 hw hl
  have hz := hr1.count
  go_wp2_with fail
  refine pf.mono ?_
  rintro e w2 ⟨rfl, rfl⟩
  clear pf
  cases hfe : fewE z0 with
  | false =>
    go_wp2
    go_ret
    exact ⟨rfl, hB1⟩
  | true =>
    obtain ⟨hf1, hf2⟩ := few_iff.1 hfe
    clear hfe hf2
    by_cases hlb : len2 ≤ 20000
    case neg =>
      have hli : (20000 : Int) < len2 := by omega
      clear hlb
      go_wp2
      go_ret
      exact ⟨rfl, hB1⟩
    have hli : ¬ (20000 : Int) < len2 := by omega
    have p1 := encode_any hr1 hb hw (by omega) a1 s hs hs9
    unfold EncOut at p1
    have by1 := enc_bytes (s := s) hf1
    rcases hE : encR z0 s with ⟨X, c⟩
    rw [hE] at p1 by1
    have HE : Hid _ := hE
    clear hE
    go_wp2_with fail
    refine p1.mono ?_
    rintro e w3 ⟨g3, c3, m3, rfl, hm3, ho3, hG3⟩
    have hB3 := hB1.trans (hG3.mono hB1.size)
    have hr3 := hr1.later hG3 (Nat.le_refl _)
    have hx3 := hx1.later hG3 (Nat.le_refl _)
    have rd3 := Reads.own ho3
    have p2 := rencode_any hr3 hb hw (by omega) a1 s hs hs9
    unfold EncOut at p2
    rw [HE.out] at p2
    clear p1 hm3 hG3 hB1 hr1 hx1 ho3
    go_wp2_with fail
    refine p2.mono ?_
    rintro e w4 ⟨g4, c4, m4, rfl, hm4, ho4, hG4⟩
    have hB4 := hB3.trans (hG4.mono hB3.size)
    have hr4 := hr3.later hG4 (Nat.le_refl _)
    have hx4 := hx3.later hG4 (Nat.le_refl _)
    have rd34 := rd3.later hG4 (Nat.le_refl _)
    have rd4 := Reads.own ho4
    have p3 := decode_any hx4 h8 (by omega)
    unfold DecOut at p3
    rcases hD : decL z2 with ⟨L, d⟩
    rw [hD] at p3
    have HD : Hid _ := hD
    clear p2 hm4 hG4 hB3 hr3 hx3 ho4 rd3 hD
    go_wp2_with fail
    refine p3.mono ?_
    rintro e w5 ⟨g5, c5, m5, rfl, hm5, ho5, hG5⟩
    have hB5 := hB4.trans (hG5.mono hB4.size)
    have hr5 := hr4.later hG5 (Nat.le_refl _)
    have hx5 := hx4.later hG5 (Nat.le_refl _)
    have rd35 := rd34.later hG5 (Nat.le_refl _)
    have rd45 := rd4.later hG5 (Nat.le_refl _)
    have re5 := ReadsE.own ho5
    have p4 := rdecode_any hx5 h8 (by omega)
    unfold DecOut at p4
    rw [HD.out] at p4
    clear p3 hm5 hG5 hB4 hr4 hx4 ho5 rd34 rd4
    go_wp2_with fail
    refine p4.mono ?_
    rintro e w6 ⟨g6, c6, m6, rfl, hm6, ho6, hG6⟩
    have hB6 := hB5.trans (hG6.mono hB5.size)
    have hr6 := hr5.later hG6 (Nat.le_refl _)
    have re56 := re5.later hG6 (Nat.le_refl _)
    have re6 := ReadsE.own ho6
    have q1 := conv_of Try.underlying23 Try.underlying5 Try.underlying9 (rd35.later hG6 (Nat.le_refl _))
    have q2 := conv_of Try.underlying23 Try.underlying5 Try.underlying9 (rd45.later hG6 (Nat.le_refl _))
    have pm1 := may_any hr6 hb hw
    clear p4 hm6 hG6 hB5 hr5 hx5 ho6 rd35 rd45 re5
    have pm2 : ∀ W, Below w6.heap.size w6 W → Calls Try.prog 20 #[.slice a0 len0 cap0] W fun e w' => e = .returned (.int .i64 (mayE z0 : Nat)) ∧ ∃ m, w' = W.drewN m := fun W hW => rmay_any (hr6.later hW (Nat.le_refl _)) hb hw
    have ps : ∀ W, Below w6.heap.size w6 W → Calls Try.prog 21 #[.slice g5 m5 c5, .slice g6 m6 c6] W fun e w' => e = .returned (.bool true) ∧ ∃ m, w' = W.drewN m := fun W hW => by
      have := rsameE_any (re56.later hW (Nat.le_refl _)) (re6.later hW (Nat.le_refl _))
      rw [decide_eq_true (show (L : List En) = L from rfl)] at this
      exact this
    have HB6 : Hid _ := hB6
    generalize mayE z0 = mz at pm1 pm2
    clear hr6 re56 re6 by1 hB6
    go_wp2_with fail
    refine pm1.mono ?_
    rintro e w7 ⟨rfl, hG7⟩
    have p7 := pm2 _ hG7
    clear pm1 pm2
    go_wp2_with fail
    refine p7.mono ?_
    rintro e w8 ⟨rfl, m8, hw8⟩
    have hG8 : Below w6.heap.size w6 w8 := by rw [hw8]; exact below_drewN hG7 _
    have p8 := ps _ hG8
    clear p7 ps hw8 hG7
    go_wp2_with fail
    refine p8.mono ?_
    rintro e w9 ⟨rfl, m9, hw9⟩
    have hG9 : Below w6.heap.size w6 w9 := by rw [hw9]; exact below_drewN hG8 _
    have hB9 := HB6.out.trans (hG9.mono HB6.out.size)
    clear p8 hw9 hG8 hG9
    go_wp2
    go_ret
    exact ⟨rfl, hB9⟩

set_option maxRecDepth 100000 in
theorem lifted (os : Os) (started : os.Started) (H : Type) (enc : TypeId × Value → H) :
    ReturnsInHanded {} Try.checked os 3 .any (Rows.runTellsSpec.pre6 enc Try.prog Try.f3 Rows.runTellsRow.domain false) (Rows.runTellsSpec.post enc Try.prog Try.f3 false true false false) := by
  refine returnsInHanded_of_change_sized (C := Try.checked) own started (by kernel_rfl) Try.func3
    (ChangeSpec.witness6 (enc := enc) (C := Try.checked) false ⟨#[], #[.slice none 0 0, .int .i64 0, .slice none 0 0], []⟩ 8 (by kernel_rfl) (by kernel_rfl) (by kernel_rfl) (by kernel_rfl)) ?_
  intro W base args ds gs before hval0 hW hcnd hsz0 _
  have hsz : (DataW.weightsEach Try.prog (Try.f3.params.toList ++ Rows.runTellsSpec.plain.varTypes Try.prog) (ds ++ gs)).all (· ≤ reachBytes) = true := hsz0
  clear hsz0
  have hval : ∀ (j : Nat) t v, Try.f3.params[j]? = some t → args[j]? = some v → Value.okWide Try.prog W .any base t v := hval0
  have hW' := hW
  obtain ⟨p, q, hA0, hV, rfl, hfz, hnd⟩ := hW
  have hA : DataW.TrodAll enc Try.prog W 0 (fun _ => true) true Try.f3.params.toList args.toList ds p := hA0
  rw [Try.params3] at hA hval hsz
  obtain ⟨v0, vs0, d0, ds0, p0, q0, hargs, rfl, rfl, h0, rr0⟩ := trodAll_cons hA
  obtain ⟨v1, vs1, d1, ds1, p1, q1, rfl, rfl, rfl, h1, rr1⟩ := trodAll_cons rr0
  obtain ⟨v2, vs2, d2, ds2, p2, q2, rfl, rfl, rfl, h2, rr2⟩ := trodAll_cons rr1
  obtain ⟨rfl, rfl, rfl⟩ := trodAll_nil rr2
  obtain rfl : args = #[v0, v1, v2] := by cases args; simp_all
  obtain ⟨rfl, rfl⟩ := trodVars_none hV
  obtain ⟨a0, len0, cap0, rfl⟩ := okWide_slice Try.underlying22 (hval 0 22 v0 rfl rfl)
  have k0 := h0
  have lt0 : ∀ x ∈ p0, x.block < W.heap.size := by obtain ⟨m, hm⟩ := k0; exact DataW.trod_lt m _ _ _ hm
  obtain ⟨z0, r0, f0, b0⟩ := entries_in Try.underlying22 Try.underlying44 (by kernel_rfl) rfl rfl (by kernel_rfl) (by kernel_rfl) Try.underlying9 Try.underlying42 (B := 24) (by kernel_rfl) hsz (j := 0) rfl rfl h0
  obtain ⟨a1, rfl, rfl, rfl, w1⟩ := open_int Try.underlying3 (hval 1 3 v1 rfl rfl) h1
  obtain ⟨a2, len2, cap2, rfl⟩ := okWide_slice Try.underlying23 (hval 2 23 v2 rfl rfl)
  have k2 := h2
  have lt2 : ∀ x ∈ p2, x.block < W.heap.size := by obtain ⟨m, hm⟩ := k2; exact DataW.trod_lt m _ _ _ hm
  obtain ⟨z2, r2, f2, b2⟩ := slice_in Try.underlying23 Try.underlying5 (by kernel_rfl) (B := 1) (by kernel_rfl) hsz (j := 2) rfl rfl h2
  clear hA0 hval0
  refine (walk W a0 len0 cap0 z0 r0 f0 b0 a1 w1 a2 len2 cap2 z2 r2 f2 b2).mono fun e W' ⟨he, bel⟩ => ?_
  subst he
  exact ⟨_, rfl, _, _, _, [], _, [], hW', trodAll_mk1 (shut_bool Try.underlying4 _), (trodAll_cons_mk (Below.trod laidOut (by kernel_rfl) (of_decide_eq_true (by kernel_rfl)) k0 bel lt0) (trodAll_cons_mk (shut_int Try.underlying3 w1) (trodAll_cons_mk (Below.trod laidOut (by kernel_rfl) (of_decide_eq_true (by kernel_rfl)) k2 bel lt2) trodAll_mk0))), rfl, bel.frame _, fun h => by cases h⟩

theorem over : Rows.runTellsRow.holds Try.pinned (OpenSpec.ofChange Rows.runTellsSpec) :=
  OpenClaim.holds_of_wide 3 Try.f3 rfl rfl rfl rfl rfl rfl rfl ⟨rfl, rfl, rfl, rfl, rfl⟩ rfl rfl rfl rfl rfl (by kernel_rfl) Try.func3 (by kernel_rfl)
    (of_decide_eq_true (by kernel_rfl)) (by unfold Func.isWrapper; first | (rw [if_pos (by decide +kernel)]; kernel_rfl) | (rw [if_neg (by decide +kernel)]; exact ⟨rfl, rfl⟩))
    (fun os started H enc _ => lifted os started H enc)
end Go.Proofs.Ytabecgeemhkkmaa.runTells
namespace Go.Proofs.Ytabecgeemhkkmaa
theorem runTells_holds : Rows.RunTellsSaid := runTells.over
#print axioms runTells_holds
end Go.Proofs.Ytabecgeemhkkmaa
