/- For every input LoserOrder answers true, and leaves its arguments as they were. Conditions: none. -/
import Derived.Test.YtgnhnhachhfafaaRows
import Derived.Test.YtgnhnhachhfafaaLoserMem
import Derived.Test.YtgnhnhachhfafaaShown11
import Derived.Test.YtgnhnhachhfafaaEnAll
import Derived.ProofKit
import Derived.OpenShut
import Derived.ShutString
import Derived.ChangeOld
import Derived.SizedLaws
import Derived.Deep.RegionHeld
import Derived.Deep.RegionHeld3
import Derived.Deep.QuietTactic
import Derived.BigQuiet
import Derived.Deep.Cut
import Derived.Deep.CutBlock
namespace Go.Proofs.Ytgnhnhachhfafaa.loserOrder
open Go.ChangeShapes Go.WideShapes Go.ChangeAt Go.RowKit
open Go.ChangeMaps (open_string shut_string)
set_option linter.unusedVariables false

theorem own : ownKnob Try.prog.godebug = none := by kernel_rfl
theorem laidOut : laidOutB Try.prog = true := by kernel_rfl


set_option maxRecDepth 100000 in
set_option maxHeartbeats 4000000 in
theorem walk (w : World) (a0 : Option Addr) (len0 cap0 : Nat) (vv0 : List Value) (z0 : List (List En)) (r0 : Reads w a0 len0 cap0 vv0) (q0 : ListVals w.heap.size w vv0 z0) (f0 : ∀ l ∈ z0, ∀ z ∈ l, z.1.length ≤ 140737488351232 ∧ z.2 ≤ 18446744073709551615) (b0 : len0 * 24 ≤ 140737488351232) (a1 : Int) (w1 : (Lit.int .u8 a1).wf = true) :
    Calls Try.prog 5 #[.slice a0 len0 cap0, .int .u8 a1] w fun e w' => e = .returned (.bool true) ∧ Below w.heap.size w w' := by
  obtain ⟨c, rfl, hc⟩ := u8_nat w1
  have hlx : z0.length = len0 := by rw [← q0.length]; exact r0.length
  go_enter Try.func5, Try.ntmps5
  go_wp2_with fail
  refine (shown_any w).mono ?_
  rintro e wa ⟨rfl, hB1⟩
  have r1 := r0.later hB1 (Nat.le_refl _)
  have q1 := q0.later hB1 (Nat.le_refl _)
  have pf := few_any r1 q1 f0
  by_cases hfw : fewL z0 = true
  case neg =>
    have hfw' : fewL z0 = false := by simpa using hfw
    rw [hfw'] at pf
    clear hfw hfw' r1 q1 hlx
    go_wp2_with fail
    refine pf.mono ?_
    rintro e wb ⟨rfl, rfl⟩
    go_wp2
    go_ret
    exact ⟨rfl, hB1⟩
  rw [hfw] at pf
  obtain ⟨g1, g2⟩ := fewL_iff.1 hfw
  have htot := few_tot fun l hl => (g2 l hl).1
  have Htot : Hid (totL z0 ≤ 1200) := by show _ ≤ _; omega
  have Hg1 : Hid (z0.length ≤ 20) := g1
  clear hfw g2 htot g1
  by_cases hl0 : len0 = 0
  · subst hl0
    clear r1 q1 hlx
    go_wp2_with fail
    refine pf.mono ?_
    rintro e wb ⟨rfl, rfl⟩
    go_wp2
    go_ret
    exact ⟨rfl, hB1⟩
  have hl0i : ¬ (len0 : Int) = 0 := by omega
  have hl0b : ((len0 : Int) == 0) = false := by rw [beq_eq_false_iff_ne]; exact hl0i
  have Hlx : Hid _ := hlx
  have hl20 : len0 ≤ 20 := by have := Hg1.out; omega
  clear hlx
  go_wp2_with fail
  refine pf.mono ?_
  rintro e wb ⟨rfl, rfl⟩
  clear pf
  go_wp2_with fail
  go_loopw [6] (fun i wr => ∃ j : Nat, i = .int .i64 j ∧ j ≤ len0 ∧ Hid (∀ x ∈ z0.take j, mayE x = 0) ∧ Below w.heap.size w wr) (fun i _ => (len0 - intOf i).toNat)
  case atStart => exact ⟨0, rfl, Nat.zero_le _, (show ∀ x ∈ z0.take 0, mayE x = 0 from fun x hx => by simp at hx), hB1⟩
  case round =>
    obtain ⟨j, rfl, hj, hA, hB⟩ := hrel
    clear hB1 r1 q1
    have hsz := hB.size
    by_cases hjl : j < len0
    · have hji : (j : Int) < len0 := by omega
      obtain ⟨l, ai, ci, hl, hvl, hr, _⟩ := q0.at (i := j) (by rw [Hlx.out]; exact hjl)
      obtain ⟨b, off, rfl, hbl, hcc⟩ := r0.atV (by omega)
      have hc1 : ∀ W, Below w.heap.size w W → W.cell? ⟨b, off + j, none⟩ = some (.slice ai l.length ci) := fun W hW => (hW.cell (p := ⟨b, off + j, none⟩) hbl).trans (hcc j _ hvl)
      have c1 := hc1 _ hB
      have hfl := f0 l (List.mem_of_getElem? hl)
      have pmW : ∀ W, Below w.heap.size w W → Calls Try.prog 16 #[.slice ai l.length ci] W fun e w' => e = .returned (.int .i64 (mayE l : Nat)) ∧ Below W.heap.size W w' := fun W hW =>
        may_any (es := l) (hr.later hW (Nat.le_refl _)) (fun e he => (hfl e he).2) (fun e he => by have := (hfl e he).1; omega)
      have pm := pmW _ hB
      have Hl : Hid _ := hl
      have HB : Hid _ := hB
      clear hcc hvl hl hfl hB
      by_cases hm0 : mayE l = 0
      · rw [hm0] at pm
        have hA2 : Hid (∀ x ∈ z0.take (j + 1), mayE x = 0) := by
          show ∀ x ∈ _, _
          intro x hx
          rw [List.take_add_one, Hl.out] at hx
          rcases List.mem_append.1 hx with hx | hx
          · exact hA.out x hx
          · simp at hx; subst hx; exact hm0
        clear hA hm0 pmW hc1 hr
        go_wp2_with fail
        refine pm.mono ?_
        rintro e wd ⟨rfl, hb1⟩
        have HB2 : Hid _ := HB.out.trans (hb1.mono hsz)
        clear pm c1 hb1
        go_wp2
        go_roundw
        case rel => exact ⟨j + 1, by go_num, by omega, hA2, HB2.out⟩
        case measure => simp [intOf]; omega
      · have hE : Hid (mergeL z0 = ([], mayE l)) := by
          show _ = _
          have hb := bad_at hA.out Hl.out hm0
          unfold mergeL
          rw [if_neg (by have := Hlx.out; omega), hb, if_neg hm0]
        have hmi : ¬ (mayE l : Int) = 0 := by omega
        have hmb : ((mayE l : Int) == 0) = false := by rw [beq_eq_false_iff_ne]; exact hmi
        clear hA hm0
        generalize mayE l = d at *
        go_wp2_with fail
        refine pm.mono ?_
        rintro e wd ⟨rfl, hb1⟩
        have HB2 : Hid _ := HB.out.trans (hb1.mono hsz)
        have pg := merge_any (r0.later HB2.out (Nat.le_refl _)) (q0.later HB2.out (Nat.le_refl _)) f0 (by have := Htot.out; unfold totL at this; omega)
        unfold DecOut at pg
        rw [hE.out] at pg
        clear pm c1 hb1
        go_wp2_with fail
        refine pg.mono ?_
        rintro e we ⟨ag, cg, m, rfl, hm, ho, hG⟩
        have hm0 : m = 0 := hm
        subst hm0
        have HB3 : Hid _ := HB2.out.trans (hG.mono HB2.out.size)
        have c2 := hc1 _ HB3.out
        have pm2 := pmW _ HB3.out
        have hs3 := HB3.out.size
        clear pg hm ho hG pmW hc1 hr
        go_wp2_with fail
        refine pm2.mono ?_
        rintro e wf ⟨rfl, hb2⟩
        have HB4 : Hid _ := HB3.out.trans (hb2.mono hs3)
        clear pm2 c2 hb2
        go_wp2
        go_ret
        exact ⟨rfl, HB4.out⟩
    · have hje : j = len0 := by omega
      have hni : ¬ (j : Int) < len0 := by omega
      have hbad : Hid (badL z0 = 0) := all_bad (by have := hA.out; rw [hje, List.take_of_length_le (by rw [Hlx.out]; exact Nat.le_refl _)] at this; exact this)
      obtain ⟨kk, hkk⟩ : ∃ kk, kk = c % len0 := ⟨_, rfl⟩
      have hkl : kk < len0 := by rw [hkk]; exact Nat.mod_lt _ (by omega)
      have hrem : (c : Int) % (len0 : Int) = kk := by rw [hkk]; push_cast; rfl
      clear hA hje hjl hj hkk
      go_wp2_with fail
      have hvl : vv0.length = len0 := r0.length
      have Hvl : Hid _ := hvl
      have hkv : Hid (kk < vv0.length) := by show _ < _; omega
      have hone : Hid (∀ u ∈ vv0, u.oneCell' = true) := q0.oneCell
      obtain ⟨b, off, ha0, hbl, hcc⟩ := r0.atV (by omega)
      subst ha0
      have HB : Hid _ := hB
      clear hvl hB hrem
      go_loopw [10, 11] (fun v i wr => ∃ (r : Nat) (ag : Option Addr) (cc n : Nat), v = .slice ag n cc ∧ i = .int .i64 ((r : Int) - 1) ∧ r ≤ len0 ∧ Hid (n = len0 - r) ∧ Hid (wr.ownsRow w.heap.size 25 1 (.slice ag n cc) n ((rotL vv0 kk).take n)) ∧ Hid (Below w.heap.size w wr)) (fun _ i _ => (intOf i + 1).toNat)
      case atStart => exact ⟨len0, none, 0, 0, rfl, rfl, Nat.le_refl _, (show 0 = len0 - len0 by omega), World.ownsRow_nil _ _ _ _, HB⟩
      case round =>
        obtain ⟨r, ag, cc, n, rfl, rfl, hr, hn, hrow, hB⟩ := hrel
        clear HB
        have hsz := hB.out.size
        by_cases hr0 : r = 0
        · subst hr0
          have hnl : n = len0 := by have := hn.out; omega
          subst hnl
          have hrw : Hid (wr.ownsRow w.heap.size 25 1 (.slice ag n cc) n (rotL vv0 kk)) := by
            have := hrow.out
            rw [List.take_of_length_le (by rw [rot_len, Hvl.out]; exact Nat.le_refl _)] at this
            exact this
          have h256 : Hid (z0.length ≤ 256) := by show _ ≤ _; have := Hg1.out; omega
          have pm := merge_any (r0.later hB.out (Nat.le_refl _)) (q0.later hB.out (Nat.le_refl _)) f0 (by have := Htot.out; unfold totL at this; omega)
          unfold DecOut at pm
          clear hrow hcc hn hr
          go_wp2_with fail
          refine pm.mono ?_
          rintro e wd ⟨ag1, c1, m1, rfl, hm, ho, hG⟩
          obtain ⟨⟨y, d⟩, hy⟩ : ∃ q, q = mergeL z0 := ⟨_, rfl⟩
          rw [← hy] at hm ho ⊢
          simp only at hm ho ⊢
          subst hm
          have hp : mergeL (rotL z0 kk) = (y, d) := by rw [hy]; exact merge_perm (rot_perm z0 kk) h256.out hbad.out
          have hB2 := hB.out.trans (hG.mono hsz)
          have pb := merge_any ((Reads.own hrw.out).later hG (Nat.le_refl _)) ((q0.rot kk).later hB2 (Nat.le_refl _)) (fun l hl => f0 l ((rot_perm z0 kk).mem_iff.1 hl)) (by have := Htot.out; have h2 := (rot_perm z0 kk).flatten.length_eq; unfold totL at this; omega)
          unfold DecOut at pb
          rw [hp] at pb
          simp only at pb
          clear pm hy hp
          go_wp2_with fail
          refine pb.mono ?_
          rintro e we ⟨ag2, c2, m2, rfl, hm2, ho2, hG2⟩
          subst hm2
          have hB3 := hB2.trans (hG2.mono hB2.size)
          have ps := rsame_any (x := y) (y := y) (own2_later (own2_mono ho (Nat.zero_le _)) hG2 (Nat.le_refl _)) (own2_mono ho2 (Nat.zero_le _))
          have hdec : decide (y = y) = true := decide_eq_true rfl
          rw [hdec] at ps
          clear pb ho ho2 hG hG2 hB2 hdec hrw
          go_wp2_with (go_at_call 13; refine ps.mono ?_; rintro e w' ⟨rfl, mm, rfl⟩)
          go_ret
          exact ⟨rfl, below_drewN hB3 _⟩
        · obtain ⟨r', rfl⟩ : ∃ r', r = r' + 1 := ⟨r - 1, by omega⟩
          obtain ⟨ix, hix⟩ : ∃ ix, ix = (r' + kk) % len0 := ⟨_, rfl⟩
          have hixl : ix < len0 := by rw [hix]; exact Nat.mod_lt _ (by omega)
          have hrem : ((r' : Int) + kk) % (len0 : Int) = ix := by rw [hix]; (push_cast <;> rfl)
          obtain ⟨v, hv⟩ : ∃ v, vv0[ix]? = some v := ⟨_, List.getElem?_eq_getElem (by rw [Hvl.out]; exact hixl)⟩
          have c1 : wr.cell? ⟨b, off + ix, none⟩ = some v := (hB.out.cell (p := ⟨b, off + ix, none⟩) hbl).trans (hcc ix v hv)
          have hv1 : v.oneCell' = true := hone.out v (List.mem_of_getElem? hv)
          have hone1 : ∀ u ∈ [v], u.oneCell' = true := fun u hu => by simp at hu; subst hu; exact hv1
          have hnr : n + r' + 1 = len0 := by have := hn.out; omega
          have hnx : Hid ((rotL vv0 kk).take (n + 1) = (rotL vv0 kk).take n ++ [v]) := by
            show _ = _
            rw [List.take_add_one, rot_at hkv.out (by rw [Hvl.out]; omega), Hvl.out, show len0 - 1 - n = r' by omega, ← hix, hv]; rfl
          have hm1 : n + 1 ≤ maxLen := by unfold maxLen; omega
          have hm2 : (n + 1) * 24 ≤ 140737488355328 := by omega
          have hi1 : (ix : Int) < len0 := by omega
          have hi0 : (0 : Int) ≤ ix := by omega
          obtain ⟨ai, li, ci, hvs⟩ : ∃ ai li ci, v = .slice ai li ci := by
            obtain ⟨l, ai, ci, _, h2, _⟩ := q0.at (i := ix) (by rw [Hlx.out]; exact hixl)
            rw [hv] at h2
            exact ⟨_, _, _, Option.some.inj h2⟩
          subst hvs
          have hrw := hrow.out
          clear hrow hcc hv hv1 hix
          go_wp2_with (at_builtin; refine wpList_append_reads rfl _ _ 22 rfl w.heap.size 25 Try.infoEs rfl Try.underlying22 _ _ _ _ rfl (hrw.alloc _) _ _ _ _ rfl (reads_one _ _ _) hone1 hm1 hm2 (Nat.le_trans hsz (by simp)) ?_; intro ag2 c2 w2 hr2 hb2)
          have hBz : Hid (Below w.heap.size w w2) := (hB.out.alloc hsz (.cells #[.slice ai li ci] 25)).trans hb2
          have hR2 : Hid (w2.ownsRow w.heap.size 25 1 (.slice ag2 (n + 1) c2) (n + 1) ((rotL vv0 kk).take (n + 1))) := by rw [hnx.out]; exact hr2
          clear hr2 hb2 hrw
          go_roundw
          case rel => exact ⟨r', ag2, c2, n + 1, rfl, by go_num, by omega, (show n + 1 = len0 - r' by omega), hR2, hBz⟩
          case measure => simp [intOf]

set_option maxRecDepth 100000 in
theorem lifted (os : Os) (started : os.Started) (H : Type) (enc : TypeId × Value → H) :
    ReturnsInHanded {} Try.checked os 5 .any (Rows.loserOrderSpec.pre6 enc Try.prog Try.f5 Rows.loserOrderRow.domain false) (Rows.loserOrderSpec.post enc Try.prog Try.f5 false true false false) := by
  refine returnsInHanded_of_change_sized (C := Try.checked) own started (by kernel_rfl) Try.func5
    (ChangeSpec.witness6 (enc := enc) (C := Try.checked) false ⟨#[], #[.slice none 0 0, .int .u8 0], []⟩ 8 (by kernel_rfl) (by kernel_rfl) (by kernel_rfl) (by kernel_rfl)) ?_
  intro W base args ds gs before hval0 hW hcnd hsz0 _
  have hsz : (DataW.weightsEach Try.prog (Try.f5.params.toList ++ Rows.loserOrderSpec.plain.varTypes Try.prog) (ds ++ gs)).all (· ≤ reachBytes) = true := hsz0
  clear hsz0
  have hval : ∀ (j : Nat) t v, Try.f5.params[j]? = some t → args[j]? = some v → Value.okWide Try.prog W .any base t v := hval0
  have hW' := hW
  obtain ⟨p, q, hA0, hV, rfl, hfz, hnd⟩ := hW
  have hA : DataW.TrodAll enc Try.prog W 0 (fun _ => true) true Try.f5.params.toList args.toList ds p := hA0
  rw [Try.params5] at hA hval hsz
  obtain ⟨v0, vs0, d0, ds0, p0, q0, hargs, rfl, rfl, h0, rr0⟩ := trodAll_cons hA
  obtain ⟨v1, vs1, d1, ds1, p1, q1, rfl, rfl, rfl, h1, rr1⟩ := trodAll_cons rr0
  obtain ⟨rfl, rfl, rfl⟩ := trodAll_nil rr1
  obtain rfl : args = #[v0, v1] := by cases args; simp_all
  obtain ⟨rfl, rfl⟩ := trodVars_none hV
  obtain ⟨a0, len0, cap0, rfl⟩ := okWide_slice Try.underlying22 (hval 0 22 v0 rfl rfl)
  have k0 := h0
  have lt0 : ∀ x ∈ p0, x.block < W.heap.size := by obtain ⟨m, hm⟩ := k0; exact DataW.trod_lt m _ _ _ hm
  obtain ⟨vv0, z0, r0, qq0, f0, b0⟩ := lists_in Try.underlying22 (by kernel_rfl) Try.underlying25 Try.underlying44 (by kernel_rfl) rfl rfl (by kernel_rfl) (by kernel_rfl) Try.underlying9 Try.underlying41 (B := 24) (by kernel_rfl) hsz (j := 0) rfl rfl h0
  obtain ⟨a1, rfl, rfl, rfl, w1⟩ := open_int Try.underlying5 (hval 1 5 v1 rfl rfl) h1
  clear hA0 hval0
  refine (walk W a0 len0 cap0 vv0 z0 r0 qq0 f0 b0 a1 w1).mono fun e W' ⟨he, bel⟩ => ?_
  subst he
  exact ⟨_, rfl, _, _, _, [], _, [], hW', trodAll_mk1 (shut_bool Try.underlying4 _), (trodAll_cons_mk (Below.trod laidOut (by kernel_rfl) (of_decide_eq_true (by kernel_rfl)) k0 bel lt0) (trodAll_cons_mk (shut_int Try.underlying5 w1) trodAll_mk0)), rfl, bel.frame _, fun h => by cases h⟩

theorem over : Rows.loserOrderRow.holds Try.pinned (OpenSpec.ofChange Rows.loserOrderSpec) :=
  OpenClaim.holds_of_wide 5 Try.f5 rfl rfl rfl rfl rfl rfl rfl ⟨rfl, rfl, rfl, rfl, rfl⟩ rfl rfl rfl rfl rfl (by kernel_rfl) Try.func5 (by kernel_rfl)
    (of_decide_eq_true (by kernel_rfl)) (by unfold Func.isWrapper; first | (rw [if_pos (by decide +kernel)]; kernel_rfl) | (rw [if_neg (by decide +kernel)]; exact ⟨rfl, rfl⟩))
    (fun os started H enc _ => lifted os started H enc)
end Go.Proofs.Ytgnhnhachhfafaa.loserOrder
namespace Go.Proofs.Ytgnhnhachhfafaa
theorem loserOrder_holds : Rows.LoserOrderSaid := loserOrder.over
#print axioms loserOrder_holds
end Go.Proofs.Ytgnhnhachhfafaa
