/- For every input RunOnes answers true, and leaves its arguments as they were. Conditions: none. -/
import Derived.Test.YtabecgeemhkkmaaRows
import Derived.Test.YtabecgeemhkkmaaRunLaw
import Derived.Test.YtabecgeemhkkmaaOpen09
import Derived.ProofKit
import Derived.OpenShut
import Derived.ShutString
import Derived.ChangeOld
import Derived.SizedLaws
import Derived.Deep.RegionHeld
import Derived.Deep.RegionHeld3
import Derived.Deep.QuietTactic
import Derived.BigQuiet
import Derived.Deep.Cut
import Derived.Deep.CutBlock
namespace Go.Proofs.Ytabecgeemhkkmaa.runOnes
open Go.ChangeShapes Go.WideShapes Go.ChangeAt Go.RowKit
open Go.ChangeMaps (open_string shut_string)
set_option linter.unusedVariables false

theorem own : ownKnob Try.prog.godebug = none := by kernel_rfl
theorem laidOut : laidOutB Try.prog = true := by kernel_rfl

/-- A slice of the call's own that is not empty: where it lies. -/
theorem own_form {w : World} {base e n c : Nat} {ao : Option Addr} {xs : List Value} (h : w.ownsRow base e 1 (.slice ao n c) n xs) (hn : 0 < n) : ∃ g, ao = some ⟨g, 0, none⟩ ∧ base ≤ g ∧ g < w.heap.size := by
  rcases h.2 with ⟨hv, h0⟩ | ⟨g, cap, cur, hv, hb, hg, _⟩
  · omega
  · simp only [Value.slice.injEq] at hv
    obtain ⟨rfl, _, rfl⟩ := hv
    have := h.lt g rfl
    exact ⟨g, rfl, this.1, this.2⟩
theorem own_cell {w : World} {base e n c g : Nat} {zs : List Int} (h : w.ownsRow base e 1 (.slice (some ⟨g, 0, none⟩) n c) n (zs.map (.int .u8))) (k : Nat) (hk : k < n) : w.cell? ⟨g, k, none⟩ = some (.int .u8 (zs.getD k 0)) := by
  have hl := h.1
  rw [h.cellAt k (by omega)]
  have : k < zs.length := by simp at hl; omega
  simp [List.getD, this]

set_option maxRecDepth 100000 in
set_option maxHeartbeats 4000000 in
theorem walk (w : World) (a0 : Option Addr) (len0 cap0 : Nat) (z0 : List En) (r0 : ReadsE w a0 len0 cap0 (cellsE z0)) (f0 : ∀ z ∈ z0, z.1.length ≤ 140737488351232 ∧ z.2 ≤ 18446744073709551615) (b0 : len0 * 24 ≤ 140737488351232) (a1 : Int) (w1 : (Lit.int .u8 a1).wf = true) (a2 : Int) (w2 : (Lit.int .u16 a2).wf = true) (a3 : Int) (w3 : (Lit.int .u8 a3).wf = true) :
    Calls Try.prog 5 #[.slice a0 len0 cap0, .int .u8 a1, .int .u16 a2, .int .u8 a3] w fun e w' => e = .returned (.bool true) ∧ Below w.heap.size w w' := by
  have hw : ∀ e ∈ z0, e.1.length ≤ 140737488355328 := fun e he => by have := (f0 e he).1; omega
  have hb : ∀ e ∈ z0, e.2 ≤ 18446744073709551615 := fun e he => (f0 e he).2
  have hl : len0 ≤ 1000000000000000 := by omega
  obtain ⟨x1, rfl, hx1⟩ := u8_nat w1
  obtain ⟨n, hn, n1, n2⟩ : ∃ n : Nat, 1 + (x1 : Int) % 255 = (n : Nat) ∧ 1 ≤ n ∧ n ≤ 255 := ⟨1 + x1 % 255, by omega, by omega, by omega⟩
  have g1 := bounds_u16 w2
  obtain ⟨m, rfl⟩ := Int.eq_ofNat_of_zero_le g1.1
  obtain ⟨y, rfl, hy9⟩ := u8_nat w3
  clear w1 b0 f0 w2 w3
  go_enter Try.func5, Try.ntmps5
  go_wp2_with fail
  refine (shown_any w).mono ?_
  rintro e w1 ⟨rfl, hB1⟩
  have hr1 := r0.later hB1 (Nat.le_refl _)
  have pf := few_any hr1 hw hl
  have hz := hr1.count
  go_wp2_with fail
  refine pf.mono ?_
  rintro e w2 ⟨rfl, rfl⟩
  clear pf
  cases hfe : fewE z0 with
  | false =>
    go_wp2
    go_ret
    exact ⟨rfl, hB1⟩
  | true =>
    obtain ⟨hf1, hf2⟩ := few_iff.1 hfe
    have pm := may_any hr1 hb hw
    clear hfe hf2
    go_wp2_with fail
    refine pm.mono ?_
    rintro e w3 ⟨rfl, hG3⟩
    have hB3 := hB1.trans (hG3.mono hB1.size)
    have hr3 := hr1.later hG3 (Nat.le_refl _)
    clear pm hG3 hB1 hr1
    by_cases hm : mayE z0 = 0
    case neg =>
      have hmi : ¬ ((mayE z0 : Nat) : Int) = 0 := by omega
      generalize mayE z0 = mz at *
      clear hm
      go_wp2
      go_ret
      exact ⟨rfl, hB3⟩
    obtain ⟨en1, ln1, by1, dn1⟩ := law_run hf1 hm n1 n2
    have p1 := encode_any hr3 hb hw (by omega) (n : Nat) n (.inl rfl) (by omega)
    rw [en1] at p1
    unfold EncOut at p1
    have hpos : 0 < (runL z0 n).length := by
      unfold runL runRows
      rw [recs, List.length_append]
      have := rec_pos (encode n)
      omega
    have o1 : ∀ k, k < (runL z0 n).length → decL ((runL z0 n).take k) = ([], 2) := fun k hk => ones_cut ⟨n1, n2, hm⟩ (by omega) hk
    have o2 : ∀ c, decL (runL z0 n ++ [c]) = ([], 2) := fun c => ones_more ⟨n1, n2, hm⟩ (by omega)
    have o3 : ∀ k v, k < (runL z0 n).length → v ≠ (runL z0 n).getD k 0 → decL ((runL z0 n).set k v) = ([], 2) := fun k v hk hv => ones_turned ⟨n1, n2, hm⟩ (by omega) hk hv
    rw [hm]
    generalize runL z0 n = X at *
    clear hm en1 dn1
    go_wp2_with fail
    refine p1.mono ?_
    rintro e w4 ⟨g4, c4, L, rfl, hL, ho4, hG4⟩
    have hLX : L = X.length := hL
    have rd4 : Reads w4 g4 L c4 (X.map (.int .u8)) := Reads.own ho4
    have hB4 := hB3.trans (hG4.mono hB3.size)
    rw [← hLX] at hpos ln1 o1 o3
    have HLX : Hid _ := hLX
    have hlc := rd4.le
    clear p1 hG4 hB3 hr3 hL ho4 hLX
    have hLi : ¬ (L : Int) = 0 := by omega
    have hLb : ((L : Int) == 0) = false := by simp; omega
    obtain ⟨k, hk, hkl⟩ : ∃ k : Nat, (m : Int) % (L : Int) = (k : Int) ∧ k < L := ⟨m % L, by simp, Nat.mod_lt m hpos⟩
    have hkl2 : (k : Int) < (L : Int) := by omega
    have HK : Hid _ := hk
    have hL9 : (L : Int) ≤ 61900 := by omega
    clear hk
    go_wp2_with (at_builtin; go_loud (refine wpList_append_reads rfl _ _ 23 rfl w4.heap.size 5 Try.infoByte rfl Try.underlying23 _ _ _ _ rfl (ownsRow_empty w4 5) _ _ _ _ rfl (rd4.later ((Below.refl w4.heap.size w4).alloc (Nat.le_refl _) _) (Nat.le_refl _)) (ints_oneCell _ _) (by unfold maxLen; omega) (by omega) (by simp) ?_))
    intro ag ca wb hown hb2
    rw [HK.out]
    try simp only [Nat.zero_add, List.nil_append] at hown
    have hb2' : Below w4.heap.size w4 wb := Below.trans ((Below.refl w4.heap.size w4).alloc (Nat.le_refl _) _) hb2
    clear hb2 HK
    obtain ⟨ga, rfl, hga, hga2⟩ := own_form hown hpos
    obtain ⟨x, hx0, hx8⟩ := by1.get k
    have hc1 := own_cell hown k hkl
    rw [hx0] at hc1
    have hfz := hown.frozenAt k
    have hor := u8_or_nat y 1 (by omega) (by decide)
    have hyl : y ||| 1 < 256 := Nat.or_lt_two_pow (n := 8) (by omega) (by decide)
    have hxo := u8_xor_nat x (y ||| 1) (by omega) hyl
    have hxl : x ^^^ (y ||| 1) < 256 := Nat.xor_lt_two_pow (n := 8) (by omega) hyl
    have hne := turn_ne x y
    have o3k := o3 k ((x ^^^ (y ||| 1) : Nat) : Int) hkl (by rw [hx0]; omega)
    generalize x ^^^ (y ||| 1) = x' at hxo hxl hne o3k
    generalize y ||| 1 = y' at hor hxo hyl
    have hor' : bits BinOp.or IntKind.u8 (y : Int) 1 = (y' : Int) := hor
    have hst := (hown.stored k (.int .u8 (x' : Int))).1
    rw [← List.map_set] at hst
    have hb3 : Below w4.heap.size w4 (wb.setCell ⟨ga, k, none⟩ (.int .u8 (x' : Int))) := hb2'.setCell hga _
    obtain ⟨wc, hwc⟩ : ∃ wc, wc = wb.setCell ⟨ga, k, none⟩ (.int .u8 (x' : Int)) := ⟨_, rfl⟩
    rw [← hwc] at hst hb3
    have Hwc : Hid _ := hwc
    have rdc := rd4.later hb3 (Nat.le_refl _)
    have hBc := hB4.trans (hb3.mono hB4.size)
    have hC8 := by1.set (k := k) (y := (x' : Int)) (by omega)
    obtain ⟨x4, hs4, hd4⟩ := Reads.to (P := Try.prog) Try.underlying23 (size_of Try.infoByte) (ao := g4) (len := L) (cap := c4) hlc k (by omega)
    have rp := hd4 _ _ rdc
    rw [← List.map_take] at rp
    have p2 := decode_any rp (fun z hz => by1 z (List.mem_of_mem_take hz)) (by omega)
    rw [o1 k hkl] at p2
    unfold DecOut at p2
    have Ho3 : Hid _ := o3k
    clear hwc hor hx0 hne o3 o1 o3k hd4 rp hB4 rd4 hown
    go_wp2_with fail
    rw [← Hwc.out]
    refine p2.mono ?_
    rintro e wd ⟨g5, c5, m5, rfl, _, _, hGd⟩
    have hBd := hBc.trans (hGd.mono hBc.size)
    have rdd := rdc.later hGd (Nat.le_refl _)
    have hstd := own_later hst hGd (Nat.le_refl _)
    clear p2 hGd hBc rdc hst hc1 hfz hor' hxo Hwc hs4 hb3 hb2'
    go_wp2_with (at_builtin; go_loud (refine wpList_append_reads rfl (.tmp 72) (.tmp 73) 23 rfl wd.heap.size 5 Try.infoByte rfl Try.underlying23 _ _ _ _ rfl (ownsRow_empty wd 5) _ _ _ _ rfl (rdd.later ((Below.refl wd.heap.size wd).alloc (Nat.le_refl _) _) (Nat.le_refl _)) (ints_oneCell _ _) (by unfold maxLen; omega) (by omega) (by simp) ?_))
    intro ag2 cb we hown2 hb4
    try simp only [Nat.zero_add, List.nil_append] at hown2
    have hb4' : Below wd.heap.size wd we := Below.trans ((Below.refl wd.heap.size wd).alloc (Nat.le_refl _) _) hb4
    have hse := hb4'.size
    have hstd' : Below wd.heap.size wd (we.alloc (.cells #[.int .u8 (y : Nat)] 5)) := hb4'.alloc hse _
    clear hb4
    try rw [show 0 + L = L by omega]
    go_wp2_with (at_builtin; go_loud (refine wpList_append_reads rfl (.tmp 74) (.tmp 76) 23 rfl wd.heap.size 5 Try.infoByte rfl Try.underlying23 _ _ _ _ rfl (hown2.alloc _) _ _ _ _ rfl (reads_one _ _ _) (by intro u hu; simp at hu; subst hu; rfl) (by unfold maxLen; omega) (by omega) (by simp; omega) ?_))
    intro ag3 cc wf hown3 hb5
    have hb5' : Below wd.heap.size wd wf := hstd'.trans hb5
    have hBf := hBd.trans (hb5'.mono hBd.size)
    have e3 : X.map (.int .u8) ++ [Value.int .u8 (y : Nat)] = (X ++ [((y : Nat) : Int)]).map (.int .u8) := by simp
    rw [e3] at hown3
    have p3 := decode_any (Reads.own hown3) (fun z hz => by
      rcases List.mem_append.1 hz with hz | hz
      · exact by1 z hz
      · simp at hz; omega) (by omega)
    rw [o2] at p3
    unfold DecOut at p3
    have hstf := own_later hstd hb5' (Nat.le_refl _)
    clear hown2 hstd' hb5 hown3 hBd rdd hstd hb4' e3 o2
    go_wp2_with fail
    refine p3.mono ?_
    rintro e wg ⟨g6, c6, m6, rfl, _, _, hGg⟩
    have hBg := hBf.trans (hGg.mono hBf.size)
    have p4 := decode_any ((Reads.own hstf).later hGg (Nat.le_refl _)) hC8 (by omega)
    rw [Ho3.out] at p4
    unfold DecOut at p4
    clear p3 hGg hBf hstf hb5'
    go_wp2_with fail
    refine p4.mono ?_
    rintro e wh ⟨g7, c7, m7, rfl, _, _, hGh⟩
    have hBh := hBg.trans (hGh.mono hBg.size)
    clear p4 hGh hBg
    go_wp2
    go_ret
    exact ⟨rfl, hBh⟩

set_option maxRecDepth 100000 in
theorem lifted (os : Os) (started : os.Started) (H : Type) (enc : TypeId × Value → H) :
    ReturnsInHanded {} Try.checked os 5 .any (Rows.runOnesSpec.pre6 enc Try.prog Try.f5 Rows.runOnesRow.domain false) (Rows.runOnesSpec.post enc Try.prog Try.f5 false true false false) := by
  refine returnsInHanded_of_change_sized (C := Try.checked) own started (by kernel_rfl) Try.func5
    (ChangeSpec.witness6 (enc := enc) (C := Try.checked) false ⟨#[], #[.slice none 0 0, .int .u8 0, .int .u16 0, .int .u8 0], []⟩ 8 (by kernel_rfl) (by kernel_rfl) (by kernel_rfl) (by kernel_rfl)) ?_
  intro W base args ds gs before hval0 hW hcnd hsz0 _
  have hsz : (DataW.weightsEach Try.prog (Try.f5.params.toList ++ Rows.runOnesSpec.plain.varTypes Try.prog) (ds ++ gs)).all (· ≤ reachBytes) = true := hsz0
  clear hsz0
  have hval : ∀ (j : Nat) t v, Try.f5.params[j]? = some t → args[j]? = some v → Value.okWide Try.prog W .any base t v := hval0
  have hW' := hW
  obtain ⟨p, q, hA0, hV, rfl, hfz, hnd⟩ := hW
  have hA : DataW.TrodAll enc Try.prog W 0 (fun _ => true) true Try.f5.params.toList args.toList ds p := hA0
  rw [Try.params5] at hA hval hsz
  obtain ⟨v0, vs0, d0, ds0, p0, q0, hargs, rfl, rfl, h0, rr0⟩ := trodAll_cons hA
  obtain ⟨v1, vs1, d1, ds1, p1, q1, rfl, rfl, rfl, h1, rr1⟩ := trodAll_cons rr0
  obtain ⟨v2, vs2, d2, ds2, p2, q2, rfl, rfl, rfl, h2, rr2⟩ := trodAll_cons rr1
  obtain ⟨v3, vs3, d3, ds3, p3, q3, rfl, rfl, rfl, h3, rr3⟩ := trodAll_cons rr2
  obtain ⟨rfl, rfl, rfl⟩ := trodAll_nil rr3
  obtain rfl : args = #[v0, v1, v2, v3] := by cases args; simp_all
  obtain ⟨rfl, rfl⟩ := trodVars_none hV
  obtain ⟨a0, len0, cap0, rfl⟩ := okWide_slice Try.underlying22 (hval 0 22 v0 rfl rfl)
  have k0 := h0
  have lt0 : ∀ x ∈ p0, x.block < W.heap.size := by obtain ⟨m, hm⟩ := k0; exact DataW.trod_lt m _ _ _ hm
  obtain ⟨z0, r0, f0, b0⟩ := entries_in Try.underlying22 Try.underlying44 (by kernel_rfl) rfl rfl (by kernel_rfl) (by kernel_rfl) Try.underlying9 Try.underlying42 (B := 24) (by kernel_rfl) hsz (j := 0) rfl rfl h0
  obtain ⟨a1, rfl, rfl, rfl, w1⟩ := open_int Try.underlying5 (hval 1 5 v1 rfl rfl) h1
  obtain ⟨a2, rfl, rfl, rfl, w2⟩ := open_int Try.underlying40 (hval 2 40 v2 rfl rfl) h2
  obtain ⟨a3, rfl, rfl, rfl, w3⟩ := open_int Try.underlying5 (hval 3 5 v3 rfl rfl) h3
  clear hA0 hval0
  refine (walk W a0 len0 cap0 z0 r0 f0 b0 a1 w1 a2 w2 a3 w3).mono fun e W' ⟨he, bel⟩ => ?_
  subst he
  exact ⟨_, rfl, _, _, _, [], _, [], hW', trodAll_mk1 (shut_bool Try.underlying4 _), (trodAll_cons_mk (Below.trod laidOut (by kernel_rfl) (of_decide_eq_true (by kernel_rfl)) k0 bel lt0) (trodAll_cons_mk (shut_int Try.underlying5 w1) (trodAll_cons_mk (shut_int Try.underlying40 w2) (trodAll_cons_mk (shut_int Try.underlying5 w3) trodAll_mk0)))), rfl, bel.frame _, fun h => by cases h⟩

theorem over : Rows.runOnesRow.holds Try.pinned (OpenSpec.ofChange Rows.runOnesSpec) :=
  OpenClaim.holds_of_wide 5 Try.f5 rfl rfl rfl rfl rfl rfl rfl ⟨rfl, rfl, rfl, rfl, rfl⟩ rfl rfl rfl rfl rfl (by kernel_rfl) Try.func5 (by kernel_rfl)
    (of_decide_eq_true (by kernel_rfl)) (by unfold Func.isWrapper; first | (rw [if_pos (by decide +kernel)]; kernel_rfl) | (rw [if_neg (by decide +kernel)]; exact ⟨rfl, rfl⟩))
    (fun os started H enc _ => lifted os started H enc)
end Go.Proofs.Ytabecgeemhkkmaa.runOnes
namespace Go.Proofs.Ytabecgeemhkkmaa
theorem runOnes_holds : Rows.RunOnesSaid := runOnes.over
#print axioms runOnes_holds
end Go.Proofs.Ytabecgeemhkkmaa
