/- For every input LoserSums answers true, and leaves its arguments as they were. Conditions: none. -/
import Derived.Test.YtgnhnhachhfafaaRows
import Derived.Test.YtgnhnhachhfafaaLoserMem
import Derived.Test.YtgnhnhachhfafaaRef08Reads
import Derived.Test.YtgnhnhachhfafaaShown11
import Derived.Test.YtgnhnhachhfafaaEnAll
import Derived.ProofKit
import Derived.OpenShut
import Derived.ShutString
import Derived.ChangeOld
import Derived.SizedLaws
import Derived.Deep.RegionHeld
import Derived.Deep.RegionHeld3
import Derived.Deep.QuietTactic
import Derived.BigQuiet
import Derived.Deep.Cut
import Derived.Deep.CutBlock
namespace Go.Proofs.Ytgnhnhachhfafaa.loserSums
open Go.ChangeShapes Go.WideShapes Go.ChangeAt Go.RowKit
open Go.ChangeMaps (open_string shut_string)
set_option linter.unusedVariables false

theorem own : ownKnob Try.prog.godebug = none := by kernel_rfl
theorem laidOut : laidOutB Try.prog = true := by kernel_rfl

theorem sumK_take {ls : List (List En)} {k : Nat} {l : List En} (h : ls[k]? = some l) (x : Wd) : sumK (ls.take (k + 1)) x = sumK (ls.take k) x + getE l x := by
  rw [List.take_add_one, h, sumK_app]; simp [sumK]
theorem sumK_part (ls : List (List En)) (k : Nat) (x : Wd) : sumK (ls.take k) x ≤ sumK ls x := by
  have : sumK ls x = sumK (ls.take k) x + sumK (ls.drop k) x := by rw [← sumK_app, List.take_append_drop]
  omega
theorem sumK_mem {ls : List (List En)} {l : List En} (h : l ∈ ls) (x : Wd) : getE l x ≤ sumK ls x := by
  obtain ⟨i, hi⟩ := List.getElem?_of_mem h
  have h1 := sumK_take hi x
  have h2 := sumK_part ls (i + 1) x
  omega

set_option maxRecDepth 100000 in
set_option maxHeartbeats 4000000 in
theorem walk (w : World) (a0 : Option Addr) (len0 cap0 : Nat) (vv0 : List Value) (z0 : List (List En)) (r0 : Reads w a0 len0 cap0 vv0) (q0 : ListVals w.heap.size w vv0 z0) (f0 : ∀ l ∈ z0, ∀ z ∈ l, z.1.length ≤ 140737488351232 ∧ z.2 ≤ 18446744073709551615) (b0 : len0 * 24 ≤ 140737488351232) :
    Calls Try.prog 7 #[.slice a0 len0 cap0] w fun e w' => e = .returned (.bool true) ∧ Below w.heap.size w w' := by
  have hlx : z0.length = len0 := by rw [← q0.length]; exact r0.length
  go_enter Try.func7, Try.ntmps7
  go_wp2_with fail
  refine (shown_any w).mono ?_
  rintro e wa ⟨rfl, hB1⟩
  have r1 := r0.later hB1 (Nat.le_refl _)
  have q1 := q0.later hB1 (Nat.le_refl _)
  have pf := few_any r1 q1 f0
  by_cases hfw : fewL z0 = true
  case neg =>
    have hfw' : fewL z0 = false := by simpa using hfw
    rw [hfw'] at pf
    clear hfw hfw' r1 q1 hlx
    go_wp2_with fail
    refine pf.mono ?_
    rintro e wb ⟨rfl, rfl⟩
    go_wp2
    go_ret
    exact ⟨rfl, hB1⟩
  rw [hfw] at pf
  obtain ⟨g1, g2⟩ := fewL_iff.1 hfw
  have htot := few_tot fun l hl => (g2 l hl).1
  have Htot : Hid (totL z0 ≤ 1200) := by show _ ≤ _; omega
  have Hg1 : Hid (z0.length ≤ 20) := g1
  have Hlx : Hid _ := hlx
  have hl20 : len0 ≤ 20 := by omega
  clear hfw g2 htot g1 hlx
  go_wp2_with fail
  refine pf.mono ?_
  rintro e wb ⟨rfl, rfl⟩
  have pm := merge_any r1 q1 f0 (by have := Htot.out; unfold totL at this; omega)
  unfold DecOut at pm
  clear pf
  go_wp2_with fail
  refine pm.mono ?_
  rintro e wc ⟨ag, cg, m, rfl, hm, ho, hG⟩
  obtain ⟨⟨y, d⟩, hy⟩ : ∃ q, q = mergeL z0 := ⟨_, rfl⟩
  rw [← hy] at hm ho ⊢
  simp only at hm ho ⊢
  subst hm
  have hBc := hB1.trans (hG.mono hB1.size)
  by_cases hd : d = 0
  case neg =>
    have hdi : ¬ (d : Int) = 0 := by omega
    have hdb : ((d : Int) == 0) = false := by rw [beq_eq_false_iff_ne]; exact hdi
    clear ho hd hG r1 q1 pm hy
    go_wp2
    go_ret
    exact ⟨rfl, hBc⟩
  subst hd
  have hd : (mergeL z0).2 = 0 := by rw [← hy]
  obtain ⟨y1, y2, y3, y4, y5⟩ := merge_ok (by have := Hg1.out; omega) hd
  rw [← hy] at y2 y3 y4 y5
  simp only at y2 y3 y4 y5
  have hry := ReadsE.own ho
  have hrb := r0.later hBc (Nat.le_refl _)
  have hqb := q0.later hBc (Nat.le_refl _)
  have hyl : y.length ≤ 1200 := by have := Htot.out; omega
  have Y1 : Hid _ := y1
  have Y2 : Hid _ := y2
  have Y3 : Hid _ := y3
  have Y4 : Hid _ := y4
  clear pm r1 q1 r0 q0 hd hy y1 y2 y3 y4 y5 ho hG hB1
  go_wp2_with fail
  go_loopw [6] (fun i wr => ∃ j : Nat, i = .int .i64 j ∧ j ≤ y.length ∧ Hid (Below wc.heap.size wc wr)) (fun i _ => (y.length - intOf i).toNat)
  case atStart => exact ⟨0, rfl, Nat.zero_le _, Below.refl _ _⟩
  case round =>
    obtain ⟨j, rfl, hj, hBr⟩ := hrel
    by_cases hjl : j < y.length
    · have hji : (j : Int) < y.length := by omega
      have hj0 : (0 : Int) ≤ j := by omega
      obtain ⟨b2, o2, rfl, hbl2, hc2⟩ := hry.at (by omega)
      obtain ⟨⟨ek, en⟩, he⟩ : ∃ e, y[j]? = some e := ⟨_, List.getElem?_eq_getElem hjl⟩
      have hek := may_small Y4.out _ (List.mem_of_getElem? he)
      simp only at hek
      have hgy : Hid (sumK z0 ek = en) := by show _ = _; rw [← Y3.out, get_mem (rise_keys Y2.out.rise) (List.mem_of_getElem? he)]
      have hen := (Y2.out.pos _ (List.mem_of_getElem? he)).2
      simp only at hen
      have e1 : ∀ W, Below wc.heap.size wc W → W.cell? ⟨b2, o2 + j * 2, none⟩ = some (strV ek) := fun W hW => (hW.cell (p := ⟨b2, o2 + j * 2, none⟩) hbl2).trans (hc2 j _ he).1
      have e2 : ∀ W, Below wc.heap.size wc W → W.cell? ⟨b2, o2 + j * 2 + 1, none⟩ = some (.int .u64 (en : Nat)) := fun W hW => (hW.cell (p := ⟨b2, o2 + j * 2 + 1, none⟩) hbl2).trans (hc2 j _ he).2
      clear hc2 he
      go_wp2_with fail
      go_loopw [7, 8] (fun v i wr => ∃ (t s : Nat), v = .int .u64 (s : Nat) ∧ i = .int .i64 t ∧ t ≤ len0 ∧ Hid (s = sumK (z0.take t) ek) ∧ Hid (Below wc.heap.size wc wr)) (fun _ i _ => (len0 - intOf i).toNat)
      case atStart => exact ⟨0, 0, rfl, rfl, Nat.zero_le _, (show 0 = sumK (z0.take 0) ek by simp [sumK]), hBr⟩
      case round =>
        obtain ⟨t, s, rfl, rfl, ht, hs, hBr⟩ := hrel
        have hcE2 := e2 _ hBr.out
        by_cases htl : t < len0
        · have hti : (t : Int) < len0 := by omega
          have ht0 : (0 : Int) ≤ t := by omega
          obtain ⟨l, ai, ci, hl, hvl, hr, _⟩ := hqb.at (i := t) (by rw [Hlx.out]; exact htl)
          obtain ⟨b, off, rfl, hbl, hcc⟩ := hrb.atV (by omega)
          have hge : getQ l ek = getE l ek := getQ_eq (may_rise (bad_all Y1.out l (List.mem_of_getElem? hl))) ek
          have hsn : Hid (s + getE l ek = sumK (z0.take (t + 1)) ek) := by show _ = _; rw [sumK_take hl, hs.out]
          have hsm : s + getE l ek ≤ 4611686018427387904 := by have h1 := hsn.out; have h2 := sumK_part z0 (t + 1) ek; have h3 := hgy.out; omega
          have pg : ∀ mm, Calls Try.prog 17 #[.slice ai l.length ci, strV ek] (wr.drewN mm) fun e w' => e = .returned (.int .u64 (getQ l ek : Nat)) ∧ w' = wr.drewN mm := fun mm => rgetR_any (hr.later (below_drewN hBr.out mm) (Nat.le_refl _)) ek
          rw [hge] at pg
          have c1 : wr.cell? ⟨b, off + t, none⟩ = some (.slice ai l.length ci) := (hBr.out.cell (p := ⟨b, off + t, none⟩) hbl).trans (hcc t _ hvl)
          have c2 := e1 _ hBr.out
          generalize getE l ek = g at *
          have x1 : IntKind.u64.wrap ((s : Int) + g) = ((s + g : Nat) : Int) := by simp [IntKind.wrap, IntKind.bits, IntKind.signed]; omega
          have hBn : ∀ mm, Hid (Below wc.heap.size wc (wr.drewN mm)) := fun mm => below_drewN hBr.out mm
          clear hcc hvl hl hge hr hs
          go_wp2_with fail
          go_quiet (exact Calls.quiet_of_same (pg _))
          go_wp2
          go_roundw
          case rel => exact ⟨t + 1, s + g, by first | rfl | (push_cast; rfl), by go_num, by omega, hsn, hBn _⟩
          case measure => simp [intOf]; omega
        · have hte : t = len0 := by omega
          have hni : ¬ (t : Int) < len0 := by omega
          have hse : s = en := by have := hs.out; rw [hte, List.take_of_length_le (by rw [Hlx.out]; exact Nat.le_refl _), hgy.out] at this; exact this
          subst hse
          clear hte hs hgy
          go_wp2
          go_roundw
          case rel => exact ⟨j + 1, by go_num, by omega, hBr⟩
          case measure => simp [intOf]; omega
    · have hni : ¬ (j : Int) < y.length := by omega
      clear hjl hj
      go_wp2_with fail
      go_loopw [9] (fun i wr => ∃ t : Nat, i = .int .i64 t ∧ t ≤ len0 ∧ Hid (Below wc.heap.size wc wr)) (fun i _ => (len0 - intOf i).toNat)
      case atStart => exact ⟨0, rfl, Nat.zero_le _, hBr⟩
      case round =>
        obtain ⟨t, rfl, ht, hBr⟩ := hrel
        by_cases htl : t < len0
        · have hti : (t : Int) < len0 := by omega
          obtain ⟨l, ai, ci, hl, hvl, hr, _⟩ := hqb.at (i := t) (by rw [Hlx.out]; exact htl)
          obtain ⟨b, off, rfl, hbl, hcc⟩ := hrb.atV (by omega)
          have hc1 : ∀ W, Below wc.heap.size wc W → W.cell? ⟨b, off + t, none⟩ = some (.slice ai l.length ci) := fun W hW => (hW.cell (p := ⟨b, off + t, none⟩) hbl).trans (hcc t _ hvl)
          have Hl : Hid (l ∈ z0) := List.mem_of_getElem? hl
          have hlm : l.length ≤ 9223372036854775807 := by have := Nat.le_trans hr.le hr.most; unfold maxLen at this; omega
          clear hcc hvl hl
          go_wp2_with fail
          go_loopw [10] (fun i wr => ∃ k : Nat, i = .int .i64 k ∧ k ≤ l.length ∧ Hid (Below wc.heap.size wc wr)) (fun i _ => (l.length - intOf i).toNat)
          case atStart => exact ⟨0, rfl, Nat.zero_le _, hBr⟩
          case round =>
            obtain ⟨k, rfl, hk, hBr⟩ := hrel
            have c1 := hc1 _ hBr.out
            by_cases hkl : k < l.length
            · have hki : (k : Int) < l.length := by omega
              obtain ⟨b3, o3, rfl, hbl3, hc3⟩ := hr.at (by omega)
              obtain ⟨⟨ek, en⟩, he⟩ : ∃ e, l[k]? = some e := ⟨_, List.getElem?_eq_getElem hkl⟩
              have c3 : wr.cell? ⟨b3, o3 + k * 2, none⟩ = some (strV ek) := (hBr.out.cell (p := ⟨b3, o3 + k * 2, none⟩) hbl3).trans (hc3 k _ he).1
              have hml := bad_all Y1.out l Hl.out
              have hge : getQ y ek = getE y ek := getQ_eq Y2.out.rise ek
              have hgp : 1 ≤ getE y ek := by
                rw [Y3.out]
                have h1 := sumK_mem Hl.out ek
                have h2 := get_mem (rise_keys (may_rise hml)) (List.mem_of_getElem? he)
                have h3 := (may_pos hml _ (List.mem_of_getElem? he)).1
                simp only at h2 h3
                omega
              have pg := rgetR_any (hry.later hBr.out (Nat.le_refl _)) ek
              rw [hge] at pg
              generalize getE y ek = g at *
              have hgi : ¬ (g : Int) = 0 := by omega
              have hgb : ((g : Int) == 0) = false := by rw [beq_eq_false_iff_ne]; exact hgi
              clear hc3 he hge hml
              go_wp2_with fail
              refine pg.mono ?_
              rintro e wx ⟨rfl, rfl⟩
              clear pg
              go_wp2
              go_roundw
              case rel => exact ⟨k + 1, by go_num, by omega, hBr⟩
              case measure => simp [intOf]; omega
            · have hni2 : ¬ (k : Int) < l.length := by omega
              go_wp2
              go_roundw
              case rel => exact ⟨t + 1, by go_num, by omega, hBr⟩
              case measure => simp [intOf]; omega
        · have hni2 : ¬ (t : Int) < len0 := by omega
          have hBz := hBc.trans (hBr.out.mono hBc.size)
          go_wp2
          go_ret
          exact ⟨rfl, hBz⟩

set_option maxRecDepth 100000 in
theorem lifted (os : Os) (started : os.Started) (H : Type) (enc : TypeId × Value → H) :
    ReturnsInHanded {} Try.checked os 7 .any (Rows.loserSumsSpec.pre6 enc Try.prog Try.f7 Rows.loserSumsRow.domain false) (Rows.loserSumsSpec.post enc Try.prog Try.f7 false true false false) := by
  refine returnsInHanded_of_change_sized (C := Try.checked) own started (by kernel_rfl) Try.func7
    (ChangeSpec.witness6 (enc := enc) (C := Try.checked) false ⟨#[], #[.slice none 0 0], []⟩ 8 (by kernel_rfl) (by kernel_rfl) (by kernel_rfl) (by kernel_rfl)) ?_
  intro W base args ds gs before hval0 hW hcnd hsz0 _
  have hsz : (DataW.weightsEach Try.prog (Try.f7.params.toList ++ Rows.loserSumsSpec.plain.varTypes Try.prog) (ds ++ gs)).all (· ≤ reachBytes) = true := hsz0
  clear hsz0
  have hval : ∀ (j : Nat) t v, Try.f7.params[j]? = some t → args[j]? = some v → Value.okWide Try.prog W .any base t v := hval0
  have hW' := hW
  obtain ⟨p, q, hA0, hV, rfl, hfz, hnd⟩ := hW
  have hA : DataW.TrodAll enc Try.prog W 0 (fun _ => true) true Try.f7.params.toList args.toList ds p := hA0
  rw [Try.params7] at hA hval hsz
  obtain ⟨v0, vs0, d0, ds0, p0, q0, hargs, rfl, rfl, h0, rr0⟩ := trodAll_cons hA
  obtain ⟨rfl, rfl, rfl⟩ := trodAll_nil rr0
  obtain rfl : args = #[v0] := by cases args; simp_all
  obtain ⟨rfl, rfl⟩ := trodVars_none hV
  obtain ⟨a0, len0, cap0, rfl⟩ := okWide_slice Try.underlying22 (hval 0 22 v0 rfl rfl)
  have k0 := h0
  have lt0 : ∀ x ∈ p0, x.block < W.heap.size := by obtain ⟨m, hm⟩ := k0; exact DataW.trod_lt m _ _ _ hm
  obtain ⟨vv0, z0, r0, qq0, f0, b0⟩ := lists_in Try.underlying22 (by kernel_rfl) Try.underlying25 Try.underlying44 (by kernel_rfl) rfl rfl (by kernel_rfl) (by kernel_rfl) Try.underlying9 Try.underlying41 (B := 24) (by kernel_rfl) hsz (j := 0) rfl rfl h0
  clear hA0 hval0
  refine (walk W a0 len0 cap0 vv0 z0 r0 qq0 f0 b0).mono fun e W' ⟨he, bel⟩ => ?_
  subst he
  exact ⟨_, rfl, _, _, _, [], _, [], hW', trodAll_mk1 (shut_bool Try.underlying4 _), (trodAll_cons_mk (Below.trod laidOut (by kernel_rfl) (of_decide_eq_true (by kernel_rfl)) k0 bel lt0) trodAll_mk0), rfl, bel.frame _, fun h => by cases h⟩

theorem over : Rows.loserSumsRow.holds Try.pinned (OpenSpec.ofChange Rows.loserSumsSpec) :=
  OpenClaim.holds_of_wide 7 Try.f7 rfl rfl rfl rfl rfl rfl rfl ⟨rfl, rfl, rfl, rfl, rfl⟩ rfl rfl rfl rfl rfl (by kernel_rfl) Try.func7 (by kernel_rfl)
    (of_decide_eq_true (by kernel_rfl)) (by unfold Func.isWrapper; first | (rw [if_pos (by decide +kernel)]; kernel_rfl) | (rw [if_neg (by decide +kernel)]; exact ⟨rfl, rfl⟩))
    (fun os started H enc _ => lifted os started H enc)
end Go.Proofs.Ytgnhnhachhfafaa.loserSums
namespace Go.Proofs.Ytgnhnhachhfafaa
theorem loserSums_holds : Rows.LoserSumsSaid := loserSums.over
#print axioms loserSums_holds
end Go.Proofs.Ytgnhnhachhfafaa
