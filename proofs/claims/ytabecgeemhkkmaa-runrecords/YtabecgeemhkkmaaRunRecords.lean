/- For every input RunRecords answers true, and leaves its arguments as they were. Conditions: none. -/
import Derived.Test.YtabecgeemhkkmaaRows
import Derived.Test.YtabecgeemhkkmaaRunLaw
import Derived.Test.YtabecgeemhkkmaaRef09Dec
import Derived.Test.YtabecgeemhkkmaaOpen09
import Derived.ProofKit
import Derived.OpenShut
import Derived.ShutString
import Derived.ChangeOld
import Derived.SizedLaws
import Derived.Deep.RegionHeld
import Derived.Deep.RegionHeld3
import Derived.Deep.QuietTactic
import Derived.BigQuiet
import Derived.Deep.Cut
import Derived.Deep.CutBlock
namespace Go.Proofs.Ytabecgeemhkkmaa.runRecords
open Go.ChangeShapes Go.WideShapes Go.ChangeAt Go.RowKit
open Go.ChangeMaps (open_string shut_string)
set_option linter.unusedVariables false

theorem own : ownKnob Try.prog.godebug = none := by kernel_rfl
theorem laidOut : laidOutB Try.prog = true := by kernel_rfl

theorem chunks_count : ∀ (f s : Nat) (l : List En), 1 ≤ s → l.length ≤ f → (chunksF f s l).length = (l.length + s - 1) / s
  | 0, s, l, hs, hl => by
    have h0 : l = [] := List.length_eq_zero_iff.1 (by omega)
    subst h0
    simp only [chunksF, List.length_nil, Nat.zero_add]
    exact (Nat.div_eq_of_lt (by omega)).symm
  | f + 1, s, l, hs, hl => by
    unfold chunksF
    by_cases h : l = []
    · subst h
      simp only [if_true, List.length_nil, Nat.zero_add]
      exact (Nat.div_eq_of_lt (by omega)).symm
    · rw [if_neg h, List.length_cons, chunks_count f s (l.drop s) hs (by rw [List.length_drop]; omega), List.length_drop]
      have hp : 1 ≤ l.length := List.length_pos_iff.2 h
      by_cases hle : l.length ≤ s
      · rw [show l.length - s = 0 by omega, Nat.zero_add, Nat.div_eq_of_lt (show s - 1 < s by omega)]
        rw [show l.length + s - 1 = (l.length - 1) + s by omega, Nat.add_div_right _ (by omega), Nat.div_eq_of_lt (by omega)]
      · rw [show l.length + s - 1 = (l.length - s + s - 1) + s by omega, Nat.add_div_right _ (by omega)]
theorem enc_first (n : Nat) (h : n < 18446744073709551616) : ∃ c r, encode n = c :: r ∧ c % 128 = (n : Int) % 128 := by
  unfold encode
  by_cases h1 : n < 128
  · rw [enc_stop 9 n h1]; exact ⟨_, _, rfl, rfl⟩
  · rw [enc, if_neg h1]; exact ⟨_, _, rfl, by omega⟩

set_option maxRecDepth 100000 in
set_option maxHeartbeats 4000000 in
theorem walk (w : World) (a0 : Option Addr) (len0 cap0 : Nat) (z0 : List En) (r0 : ReadsE w a0 len0 cap0 (cellsE z0)) (f0 : ∀ z ∈ z0, z.1.length ≤ 140737488351232 ∧ z.2 ≤ 18446744073709551615) (b0 : len0 * 24 ≤ 140737488351232) (a1 : Int) (w1 : (Lit.int .u8 a1).wf = true) :
    Calls Try.prog 8 #[.slice a0 len0 cap0, .int .u8 a1] w fun e w' => e = .returned (.bool true) ∧ Below w.heap.size w w' := by
  have hw : ∀ e ∈ z0, e.1.length ≤ 140737488355328 := fun e he => by have := (f0 e he).1; omega
  have hb : ∀ e ∈ z0, e.2 ≤ 18446744073709551615 := fun e he => (f0 e he).2
  have hl : len0 ≤ 1000000000000000 := by omega
  obtain ⟨x1, rfl, hx1⟩ := u8_nat w1
  obtain ⟨n, hn, n1, n2⟩ : ∃ n : Nat, 1 + (x1 : Int) % 255 = (n : Nat) ∧ 1 ≤ n ∧ n ≤ 255 := ⟨1 + x1 % 255, by omega, by omega, by omega⟩
  clear w1 b0 f0
  go_enter Try.func8, Try.ntmps8
  go_wp2_with fail
  refine (shown_any w).mono ?_
  rintro e w1 ⟨rfl, hB1⟩
  have hr1 := r0.later hB1 (Nat.le_refl _)
  have pf := few_any hr1 hw hl
  have hz := hr1.count
  go_wp2_with fail
  refine pf.mono ?_
  rintro e w2 ⟨rfl, rfl⟩
  clear pf
  cases hfe : fewE z0 with
  | false =>
    go_wp2
    go_ret
    exact ⟨rfl, hB1⟩
  | true =>
    obtain ⟨hf1, hf2⟩ := few_iff.1 hfe
    have pm := may_any hr1 hb hw
    clear hfe hf2
    go_wp2_with fail
    refine pm.mono ?_
    rintro e w3 ⟨rfl, hG3⟩
    have hB3 := hB1.trans (hG3.mono hB1.size)
    have hr3 := hr1.later hG3 (Nat.le_refl _)
    clear pm hG3 hB1 hr1
    by_cases hm : mayE z0 = 0
    case neg =>
      have hmi : ¬ ((mayE z0 : Nat) : Int) = 0 := by omega
      generalize mayE z0 = mz at *
      clear hm
      go_wp2
      go_ret
      exact ⟨rfl, hB3⟩
    obtain ⟨en1, ln1, by1, dn1⟩ := law_run hf1 hm n1 n2
    have p1 := encode_any hr3 hb hw (by omega) (n : Nat) n (.inl rfl) (by omega)
    rw [en1] at p1
    unfold EncOut at p1
    have hsc : scanR (runL z0 n) = (runRows z0 n, (runL z0 n).length) := by
      have := scan_recs (runRows z0 n) [] (run_rows (run_ok ⟨n1, n2, hm⟩ (by omega))) get_nil
      simpa [runL] using this
    rw [hm]
    -- the rows: first, last, how many
    have hcount : (runRows z0 n).length = (len0 + n - 1) / n + 2 := by
      have := chunks_count z0.length n z0 n1 (Nat.le_refl _)
      unfold runRows chunksE
      rw [List.length_cons, List.length_append, List.length_map, this, hz]
      simp
    have hfirst : (runRows z0 n).getD 0 [] = encode n := rfl
    have hlast : (runRows z0 n).getD ((runRows z0 n).length - 1) [] = encode 0 ++ encode z0.length := by
      unfold runRows
      simp [List.getD]
    obtain ⟨c1, r1, he1, hc1⟩ := enc_first n (by omega)
    have hl1 := encode_len z0.length
    have hb1 : isBytes (encode n) := encode_bytes n (by omega)
    clear hm en1 dn1
    go_wp2_with fail
    refine p1.mono ?_
    rintro e w4 ⟨g4, c4, k4, rfl, hk4, ho4, hG4⟩
    have hB4 := hB3.trans (hG4.mono hB3.size)
    have hkX : k4 = (runL z0 n).length := hk4
    have p2 := rfscan_any g4 k4 c4 (runL z0 n) w4 (Reads.own ho4) by1 (by omega)
    rw [hsc, ← hkX] at p2
    have HkX : Hid _ := hkX
    clear p1 hG4 hB3 hr3 hk4 hkX hsc
    go_wp2_with fail
    refine p2.mono ?_
    rintro e w5 ⟨ar, cr, mr, rfl, hrr, hG5⟩
    have hB5 := hB4.trans (hG5.mono hB4.size)
    have hmr := hrr.length
    rw [hcount] at hmr hlast
    obtain ⟨Q, hQ⟩ : ∃ Q, Q = (len0 + n - 1) / n := ⟨_, rfl⟩
    rw [← hQ] at hmr hlast
    have HQ : Hid _ := hQ
    have eQ : ((len0 : Int) + n - 1) / n = (Q : Nat) := by
      rw [show ((len0 : Int) + n - 1) = ((len0 + n - 1 : Nat) : Int) by omega, hQ, Int.natCast_ediv]
    have hQl : Q ≤ 500 := by
      rw [hQ]
      exact Nat.le_trans (Nat.div_le_self _ _) (by omega)
    obtain ⟨br, off, rfl, hbl, hcr⟩ := hrr.at (by omega)
    obtain ⟨a0', l0', c0', cc0, hr0'⟩ := hcr 0 (by omega)
    obtain ⟨a9, l9, c9, cc9, hr9⟩ := hcr (Q + 1) (by omega)
    rw [hfirst] at hr0'
    rw [show Q + 2 - 1 = Q + 1 by omega] at hlast
    rw [hlast] at hr9
    rw [he1] at hr0' hb1
    have hl0' : l0' = r1.length + 1 := by have := hr0'.length; simp at this; omega
    have hl9 : l9 = 1 + (encode z0.length).length := by have := hr9.length; rw [encode_zero] at this; simp at this; omega
    obtain ⟨b0, o0, rfl, _, hcc0⟩ := hr0'.at (by omega)
    rw [encode_zero] at hr9
    obtain ⟨b9, o9, rfl, _, hcc9⟩ := Reads.at (zs := [0] ++ encode z0.length) hr9 (by omega)
    have d0 := hcc0 0 (by omega)
    have d9 := hcc9 0 (by omega)
    simp only [List.getD_cons_zero, List.cons_append, List.nil_append, Nat.add_zero] at d0 d9 cc0
    have hc1b := hb1 c1 (by simp)
    subst hmr
    have e1 : ((Q + 2 : Nat) : Int) - 1 = ((Q + 1 : Nat) : Int) := by omega
    have hl01 : 1 ≤ l0' := by omega
    have hl91 : 2 ≤ l9 := by omega
    have hi0 : (1 : Int) ≤ l0' := by omega
    have hi00 : (0 : Int) < l0' := by omega
    have hi9 : (2 : Int) ≤ l9 := by omega
    have hi90 : (0 : Int) < l9 := by omega
    clear hrr hcr hr0' hr9 hcc0 hcc9 hl9 hl0' hl1 he1 hlast hfirst hcount hQ ho4 p2 by1 ln1 hb1 hG5 hB4
    go_wp2
    go_ret
    exact ⟨rfl, hB5⟩

set_option maxRecDepth 100000 in
theorem lifted (os : Os) (started : os.Started) (H : Type) (enc : TypeId × Value → H) :
    ReturnsInHanded {} Try.checked os 8 .any (Rows.runRecordsSpec.pre6 enc Try.prog Try.f8 Rows.runRecordsRow.domain false) (Rows.runRecordsSpec.post enc Try.prog Try.f8 false true false false) := by
  refine returnsInHanded_of_change_sized (C := Try.checked) own started (by kernel_rfl) Try.func8
    (ChangeSpec.witness6 (enc := enc) (C := Try.checked) false ⟨#[], #[.slice none 0 0, .int .u8 0], []⟩ 8 (by kernel_rfl) (by kernel_rfl) (by kernel_rfl) (by kernel_rfl)) ?_
  intro W base args ds gs before hval0 hW hcnd hsz0 _
  have hsz : (DataW.weightsEach Try.prog (Try.f8.params.toList ++ Rows.runRecordsSpec.plain.varTypes Try.prog) (ds ++ gs)).all (· ≤ reachBytes) = true := hsz0
  clear hsz0
  have hval : ∀ (j : Nat) t v, Try.f8.params[j]? = some t → args[j]? = some v → Value.okWide Try.prog W .any base t v := hval0
  have hW' := hW
  obtain ⟨p, q, hA0, hV, rfl, hfz, hnd⟩ := hW
  have hA : DataW.TrodAll enc Try.prog W 0 (fun _ => true) true Try.f8.params.toList args.toList ds p := hA0
  rw [Try.params8] at hA hval hsz
  obtain ⟨v0, vs0, d0, ds0, p0, q0, hargs, rfl, rfl, h0, rr0⟩ := trodAll_cons hA
  obtain ⟨v1, vs1, d1, ds1, p1, q1, rfl, rfl, rfl, h1, rr1⟩ := trodAll_cons rr0
  obtain ⟨rfl, rfl, rfl⟩ := trodAll_nil rr1
  obtain rfl : args = #[v0, v1] := by cases args; simp_all
  obtain ⟨rfl, rfl⟩ := trodVars_none hV
  obtain ⟨a0, len0, cap0, rfl⟩ := okWide_slice Try.underlying22 (hval 0 22 v0 rfl rfl)
  have k0 := h0
  have lt0 : ∀ x ∈ p0, x.block < W.heap.size := by obtain ⟨m, hm⟩ := k0; exact DataW.trod_lt m _ _ _ hm
  obtain ⟨z0, r0, f0, b0⟩ := entries_in Try.underlying22 Try.underlying44 (by kernel_rfl) rfl rfl (by kernel_rfl) (by kernel_rfl) Try.underlying9 Try.underlying42 (B := 24) (by kernel_rfl) hsz (j := 0) rfl rfl h0
  obtain ⟨a1, rfl, rfl, rfl, w1⟩ := open_int Try.underlying5 (hval 1 5 v1 rfl rfl) h1
  clear hA0 hval0
  refine (walk W a0 len0 cap0 z0 r0 f0 b0 a1 w1).mono fun e W' ⟨he, bel⟩ => ?_
  subst he
  exact ⟨_, rfl, _, _, _, [], _, [], hW', trodAll_mk1 (shut_bool Try.underlying4 _), (trodAll_cons_mk (Below.trod laidOut (by kernel_rfl) (of_decide_eq_true (by kernel_rfl)) k0 bel lt0) (trodAll_cons_mk (shut_int Try.underlying5 w1) trodAll_mk0)), rfl, bel.frame _, fun h => by cases h⟩

theorem over : Rows.runRecordsRow.holds Try.pinned (OpenSpec.ofChange Rows.runRecordsSpec) :=
  OpenClaim.holds_of_wide 8 Try.f8 rfl rfl rfl rfl rfl rfl rfl ⟨rfl, rfl, rfl, rfl, rfl⟩ rfl rfl rfl rfl rfl (by kernel_rfl) Try.func8 (by kernel_rfl)
    (of_decide_eq_true (by kernel_rfl)) (by unfold Func.isWrapper; first | (rw [if_pos (by decide +kernel)]; kernel_rfl) | (rw [if_neg (by decide +kernel)]; exact ⟨rfl, rfl⟩))
    (fun os started H enc _ => lifted os started H enc)
end Go.Proofs.Ytabecgeemhkkmaa.runRecords
namespace Go.Proofs.Ytabecgeemhkkmaa
theorem runRecords_holds : Rows.RunRecordsSaid := runRecords.over
#print axioms runRecords_holds
end Go.Proofs.Ytabecgeemhkkmaa
