/- For every input LoserCopies answers true, and leaves its arguments as they were. Conditions: none. -/
import Derived.Test.YtgnhnhachhfafaaRows
import Derived.Test.YtgnhnhachhfafaaLoserMem
import Derived.Test.YtgnhnhachhfafaaShown11
import Derived.Test.YtgnhnhachhfafaaEnAll
import Derived.ProofKit
import Derived.OpenShut
import Derived.ShutString
import Derived.ChangeOld
import Derived.SizedLaws
import Derived.Deep.RegionHeld
import Derived.Deep.RegionHeld3
import Derived.Deep.QuietTactic
import Derived.BigQuiet
import Derived.Deep.Cut
import Derived.Deep.CutBlock
namespace Go.Proofs.Ytgnhnhachhfafaa.loserCopies
open Go.ChangeShapes Go.WideShapes Go.ChangeAt Go.RowKit
open Go.ChangeMaps (open_string shut_string)
set_option linter.unusedVariables false

theorem own : ownKnob Try.prog.godebug = none := by kernel_rfl
theorem laidOut : laidOutB Try.prog = true := by kernel_rfl

def fitsB (l : List En) (n : Nat) : Bool := l.all fun x => decide (n * x.2 ≤ 4611686018427387904)
theorem nat_div (m n : Nat) : ((m : Int) / (n : Int)) = ((m / n : Nat) : Int) := rfl
theorem fits_iff {l : List En} {n : Nat} : fitsB l n = true ↔ ∀ e ∈ l, n * e.2 ≤ 4611686018427387904 := by simp [fitsB]
theorem fits_next {l : List En} {n j : Nat} {e : En} (he : l[j]? = some e) : fitsB (l.take (j + 1)) n = (fitsB (l.take j) n && decide (n * e.2 ≤ 4611686018427387904)) := by
  rw [List.take_add_one, he]; simp [fitsB]
theorem times_at {l : List En} {n j : Nat} {e : En} (he : l[j]? = some e) : (timesE l n)[j]? = some (e.1, n * e.2) := by simp [timesE, he]

set_option maxRecDepth 100000 in
set_option maxHeartbeats 4000000 in
theorem walk (w : World) (a0 : Option Addr) (len0 cap0 : Nat) (z0 : List En) (r0 : ReadsE w a0 len0 cap0 (cellsE z0)) (f0 : ∀ z ∈ z0, z.1.length ≤ 140737488351232 ∧ z.2 ≤ 18446744073709551615) (b0 : len0 * 24 ≤ 140737488351232) (a1 : Int) (w1 : (Lit.int .u8 a1).wf = true) :
    Calls Try.prog 8 #[.slice a0 len0 cap0, .int .u8 a1] w fun e w' => e = .returned (.bool true) ∧ Below w.heap.size w w' := by
  obtain ⟨c, rfl, hc⟩ := u8_nat w1
  have hlx := r0.count
  go_enter Try.func8, Try.ntmps8
  go_wp2_with fail
  refine (shown_any w).mono ?_
  rintro e wa ⟨rfl, hB1⟩
  have r1 := r0.later hB1 (Nat.le_refl _)
  have Hlx : Hid _ := hlx
  clear hlx
  by_cases h60 : len0 ≤ 60
  case neg =>
    have h60i : (60 : Int) < len0 := by omega
    clear r1
    go_wp2
    go_ret
    exact ⟨rfl, hB1⟩
  have h60i : ¬ (60 : Int) < len0 := by omega
  have h60d : decide ((60 : Int) < len0) = false := decide_eq_false h60i
  have h60n : decide (60 < len0) = false := decide_eq_false (by omega)
  have pm := may_any (es := z0) r1 (fun e he => (f0 e he).2) (fun e he => by have := (f0 e he).1; omega)
  by_cases hm : mayE z0 = 0
  case neg =>
    have hmi : ¬ (mayE z0 : Int) = 0 := by omega
    have hmb : ((mayE z0 : Int) == 0) = false := by rw [beq_eq_false_iff_ne]; exact hmi
    have hmn : ((mayE z0 : Int) != 0) = true := by simp [bne, hmb]
    generalize mayE z0 = mz at *
    clear r1 hm
    go_wp2_with fail
    refine pm.mono ?_
    rintro e wb ⟨rfl, hGb⟩
    have hBz := hB1.trans (hGb.mono hB1.size)
    go_wp2
    go_ret
    exact ⟨rfl, hBz⟩
  rw [hm] at pm
  have Hm : Hid _ := hm
  obtain ⟨n, hn⟩ : ∃ n, n = c % 20 := ⟨_, rfl⟩
  have hn20 : n < 20 := by rw [hn]; exact Nat.mod_lt _ (by decide)
  have hrem : (c : Int) % 20 = n := by rw [hn]; (push_cast <;> rfl)
  clear hm hn
  go_wp2_with fail
  refine pm.mono ?_
  rintro e wb ⟨rfl, hGb⟩
  have hB2 := hB1.trans (hGb.mono hB1.size)
  clear pm hB1 hGb r1
  go_wp2_with fail
  have HB2 : Hid _ := hB2
  have hfl : Hid (∀ e ∈ z0, 1 ≤ e.1.length ∧ e.1.length ≤ 255 ∧ 1 ≤ e.2 ∧ e.2 ≤ 4611686018427387904) := (may_iff.1 Hm.out).1
  have hrd : ∀ W, Below w.heap.size w W → ReadsE W a0 len0 cap0 (cellsE z0) := fun W hW => r0.later hW (Nat.le_refl _)
  have hlt : Hid (∀ a, a0 = some a → 0 < len0 → a.block < w.heap.size) := fun a ha hp => by
    obtain ⟨b, off, hao, hlt, _⟩ := r0.at hp
    rw [ha] at hao; cases hao; exact hlt
  clear hB2 r0 hrem hc
  go_loopw [7, 8] (fun v i wr => ∃ (j : Nat) (ag : Option Addr) (cc : Nat), v = .slice ag j cc ∧ i = .int .i64 (j : Nat) ∧ j ≤ n ∧ Hid (wr.ownsRow w.heap.size 25 1 (.slice ag j cc) j (List.replicate j (.slice a0 len0 cap0))) ∧ Hid (Below w.heap.size w wr)) (fun _ i _ => (n - intOf i).toNat)
  case atStart => exact ⟨0, none, 0, rfl, rfl, Nat.zero_le _, World.ownsRow_nil _ _ _ _, HB2⟩
  case round =>
    obtain ⟨j, ag, cc, rfl, rfl, hj, hrow, hB⟩ := hrel
    clear HB2
    have hsz := hB.out.size
    by_cases hjn : j < n
    · have hji : (j : Int) < n := by omega
      have hone1 : ∀ u ∈ [Value.slice a0 len0 cap0], u.oneCell' = true := fun u hu => by simp at hu; subst hu; rfl
      have hm1 : j + 1 ≤ maxLen := by unfold maxLen; omega
      have hm2 : (j + 1) * 24 ≤ 140737488355328 := by omega
      have hrw := hrow.out
      clear hrow
      go_wp2_with (at_builtin; refine wpList_append_reads rfl _ _ 22 rfl w.heap.size 25 Try.infoEs rfl Try.underlying22 _ _ _ _ rfl (hrw.alloc _) _ _ _ _ rfl (reads_one _ _ _) hone1 hm1 hm2 (Nat.le_trans hsz (by simp)) ?_; intro ag2 c2 w2 hr2 hb2)
      have hBz : Hid (Below w.heap.size w w2) := (hB.out.alloc hsz (.cells #[.slice a0 len0 cap0] 25)).trans hb2
      have hR2 : Hid (w2.ownsRow w.heap.size 25 1 (.slice ag2 (j + 1) c2) (j + 1) (List.replicate (j + 1) (.slice a0 len0 cap0))) := by rw [List.replicate_succ']; exact hr2
      clear hr2 hb2 hrw
      go_roundw
      case rel => exact ⟨j + 1, ag2, c2, rfl, by go_num, by omega, hR2, hBz⟩
      case measure => simp [intOf]; omega
    · have hje : j = n := by omega
      subst hje
      have hni : ¬ (j : Int) < j := by omega
      have hvr : ListVals w.heap.size wr (List.replicate j (.slice a0 len0 cap0)) (List.replicate j z0) := ListVals.rep Hlx.out.symm (hrd _ hB.out) hlt.out j
      have pm := merge_any (Reads.own hrow.out) hvr (fun l hl => by rw [List.eq_of_mem_replicate hl]; exact f0) (by have := Hlx.out; rw [List.length_flatten, List.map_replicate, List.sum_replicate_nat, this]; have := Nat.mul_le_mul (Nat.le_of_lt hn20) h60; omega)
      unfold DecOut at pm
      clear hvr hrow hj hjn
      go_wp2_with fail
      refine pm.mono ?_
      rintro e wd ⟨ag1, c1, m1, rfl, hm, ho, hG⟩
      obtain ⟨⟨y, d⟩, hy⟩ : ∃ q, q = mergeL (List.replicate j z0) := ⟨_, rfl⟩
      rw [← hy] at hm ho ⊢
      simp only at hm ho ⊢
      subst hm
      have hB3 : Hid (Below w.heap.size w wd) := hB.out.trans (hG.mono hsz)
      have HY : Hid _ := hy
      have Ho : Hid _ := ReadsE.own ho
      clear pm hy ho hG hB hsz
      go_wp2_with fail
      go_loopw [11, 12] (fun v i wr => ∃ (t : Nat) (f : Bool), v = .bool f ∧ i = .int .i64 (t : Nat) ∧ t ≤ len0 ∧ Hid (f = fitsB (z0.take t) j) ∧ Hid (Below wd.heap.size wd wr)) (fun _ i _ => (len0 - intOf i).toNat)
      case atStart => exact ⟨0, true, rfl, rfl, Nat.zero_le _, (show true = fitsB (z0.take 0) j by simp [fitsB]), Below.refl _ _⟩
      case round =>
        obtain ⟨t, f, rfl, rfl, ht, hf, hBr⟩ := hrel
        by_cases htl : t < len0
        · have hti : (t : Int) < len0 := by omega
          have ht0 : (0 : Int) ≤ t := by omega
          obtain ⟨b, off, ha, _, hcc⟩ := (hrd wr (hB3.out.trans (hBr.out.mono hB3.out.size))).at (by omega)
          obtain ⟨⟨ek, en⟩, he⟩ : ∃ e, z0[t]? = some e := ⟨_, List.getElem?_eq_getElem (by rw [Hlx.out]; exact htl)⟩
          have hen := (hfl.out _ (List.mem_of_getElem? he)).2.2
          simp only at hen
          have c2 := (hcc t _ he).2
          simp only at c2
          have hnx := fits_next (n := j) he
          simp only at hnx
          rw [← hf.out] at hnx
          have Hnx : Hid _ := hnx
          have hBn : ∀ mm, Hid (Below wd.heap.size wd (wr.drewN mm)) := fun mm => below_drewN hBr.out mm
          subst ha
          clear hcc he hf hnx
          cases f with
          | false =>
            go_wp2_with fail
            go_quiet (fail)
            go_wp2
            go_roundw
            case rel => exact ⟨t + 1, false, rfl, by go_num, by omega, (show false = _ by rw [Hnx.out]; rfl), hBn _⟩
            case measure => simp [intOf]; omega
          | true =>
            by_cases hj0 : j = 0
            · subst hj0
              go_wp2_with fail
              go_quiet (fail)
              go_wp2
              go_roundw
              case rel => exact ⟨t + 1, true, rfl, by go_num, by omega, (show true = _ by rw [Hnx.out]; simp), hBn _⟩
              case measure => simp [intOf]; omega
            · have hjb : ((j : Int) == 0) = false := by rw [beq_eq_false_iff_ne]; omega
              have hjz : ¬ (j : Int) = 0 := by omega
              have hjd : decide ((j : Int) = 0) = false := by simp; omega
              have hqd : (4611686018427387904 : Int) / (j : Int) = ((4611686018427387904 / j : Nat) : Int) := nat_div 4611686018427387904 j
              have hdv : decide (j * en ≤ 4611686018427387904) = decide (en ≤ 4611686018427387904 / j) := by
                rw [decide_eq_decide, Nat.le_div_iff_mul_le (by omega), Nat.mul_comm]
              have hqm : 4611686018427387904 / j ≤ 4611686018427387904 := Nat.div_le_self _ _
              have Hdv : Hid _ := hdv
              clear hdv
              generalize 4611686018427387904 / j = q at *
              go_wp2_with fail
              go_quiet (fail)
              go_wp2
              go_roundw
              case rel => exact ⟨t + 1, decide (en ≤ q), rfl, by go_num, by omega, (show decide (en ≤ q) = _ by rw [Hnx.out, Hdv.out]; rfl), hBn _⟩
              case measure => simp [intOf]; omega
        · have hte : t = len0 := by omega
          have hni2 : ¬ (t : Int) < len0 := by omega
          have hff : f = fitsB z0 j := by have := hf.out; rw [hte, List.take_of_length_le (by rw [Hlx.out]; exact Nat.le_refl _)] at this; exact this
          have hBz : Hid (Below w.heap.size w wr) := hB3.out.trans (hBr.out.mono hB3.out.size)
          clear hf ht htl hte
          cases f with
          | false =>
            have hE : (y, d) = ([], 5) := by
              rw [HY.out]
              have hn : ¬ ∀ e ∈ z0, j * e.2 ≤ 4611686018427387904 := fun hh => by rw [← fits_iff, ← hff] at hh; cases hh
              have : ∃ e ∈ z0, 4611686018427387904 < j * e.2 := Classical.byContradiction fun hh => hn fun e he => Nat.le_of_not_lt fun hlt => hh ⟨e, he, hlt⟩
              obtain ⟨e, he, hlt⟩ := this
              exact copies_over Hm.out (by omega) he hlt
            simp only [Prod.mk.injEq] at hE
            obtain ⟨rfl, rfl⟩ := hE
            clear hff
            go_wp2
            go_ret
            exact ⟨rfl, hBz.out⟩
          | true =>
            by_cases hj0 : j = 0
            · subst hj0
              have hE : (y, d) = ([], 0) := by rw [HY.out]; rfl
              simp only [Prod.mk.injEq] at hE
              obtain ⟨rfl, rfl⟩ := hE
              clear hff
              go_wp2
              go_ret
              exact ⟨rfl, hBz.out⟩
            have hfit := fits_iff.1 hff.symm
            have hE : (y, d) = (timesE z0 j, 0) := by rw [HY.out]; exact copies_ok Hm.out (by omega) (by omega) hfit
            simp only [Prod.mk.injEq] at hE
            obtain ⟨hye, rfl⟩ := hE
            have hyl : y.length = len0 := by rw [hye]; simp [timesE]; exact Hlx.out
            have Hye : Hid _ := hye
            have Hfit : Hid _ := hfit
            have Ho2 : Hid (ReadsE wd ag1 len0 c1 (cellsE y)) := by have := Ho.out; rw [hyl] at this; exact this
            rw [hyl]
            have hjb : ((j : Int) == 0) = false := by rw [beq_eq_false_iff_ne]; omega
            have hjz : ¬ (j : Int) = 0 := by omega
            clear hff hfit hye Ho HY hyl
            go_wp2_with fail
            go_loopw [13] (fun i wr => ∃ (t : Nat), i = .int .i64 (t : Nat) ∧ t ≤ len0 ∧ Hid (Below wd.heap.size wd wr)) (fun i _ => (len0 - intOf i).toNat)
            case atStart => exact ⟨0, rfl, Nat.zero_le _, hBr⟩
            case round =>
              obtain ⟨t, rfl, ht, hBr⟩ := hrel
              clear hBz hni2
              have hBz : Hid (Below w.heap.size w wr) := hB3.out.trans (hBr.out.mono hB3.out.size)
              by_cases htl : t < len0
              · have hti : (t : Int) < len0 := by omega
                have ht0 : (0 : Int) ≤ t := by omega
                obtain ⟨b, off, ha, _, hcc⟩ := (hrd wr hBz.out).at (by omega)
                obtain ⟨b2, off2, ha2, _, hcc2⟩ := (Ho2.out.later hBr.out (Nat.le_refl _)).at (by omega)
                obtain ⟨⟨ek, en⟩, he⟩ : ∃ e, z0[t]? = some e := ⟨_, List.getElem?_eq_getElem (by rw [Hlx.out]; exact htl)⟩
                have hen := (hfl.out _ (List.mem_of_getElem? he))
                have hft := Hfit.out _ (List.mem_of_getElem? he)
                simp only at hen hft
                have hye : y[t]? = some (ek, j * en) := by rw [Hye.out]; exact times_at he
                have d1 := (hcc t _ he).1
                have d2 := (hcc t _ he).2
                have d3 := (hcc2 t _ hye).1
                have d4 := (hcc2 t _ hye).2
                simp only at d1 d2 d3 d4
                have hkk : (ek == ek) = true := by simp
                have hmul : (j : Int) * en = ((j * en : Nat) : Int) := by push_cast; rfl
                have x1 : IntKind.u64.wrap ((j : Int) * en) = ((j * en : Nat) : Int) := by rw [hmul]; simp only [IntKind.wrap, IntKind.bits, IntKind.signed]; simp; omega
                have hBn : ∀ mm, Hid (Below wd.heap.size wd (wr.drewN mm)) := fun mm => below_drewN hBr.out mm
                subst ha ha2
                clear hcc hcc2 he hye hen
                generalize j * en = p at *
                go_wp2_with fail
                go_quiet (fail)
                go_wp2
                go_roundw
                case rel => exact ⟨t + 1, by go_num, by omega, hBn _⟩
                case measure => simp [intOf]; omega
              · have hni3 : ¬ (t : Int) < len0 := by omega
                go_wp2
                go_ret
                exact ⟨rfl, hBz.out⟩

set_option maxRecDepth 100000 in
theorem lifted (os : Os) (started : os.Started) (H : Type) (enc : TypeId × Value → H) :
    ReturnsInHanded {} Try.checked os 8 .any (Rows.loserCopiesSpec.pre6 enc Try.prog Try.f8 Rows.loserCopiesRow.domain false) (Rows.loserCopiesSpec.post enc Try.prog Try.f8 false true false false) := by
  refine returnsInHanded_of_change_sized (C := Try.checked) own started (by kernel_rfl) Try.func8
    (ChangeSpec.witness6 (enc := enc) (C := Try.checked) false ⟨#[], #[.slice none 0 0, .int .u8 0], []⟩ 8 (by kernel_rfl) (by kernel_rfl) (by kernel_rfl) (by kernel_rfl)) ?_
  intro W base args ds gs before hval0 hW hcnd hsz0 _
  have hsz : (DataW.weightsEach Try.prog (Try.f8.params.toList ++ Rows.loserCopiesSpec.plain.varTypes Try.prog) (ds ++ gs)).all (· ≤ reachBytes) = true := hsz0
  clear hsz0
  have hval : ∀ (j : Nat) t v, Try.f8.params[j]? = some t → args[j]? = some v → Value.okWide Try.prog W .any base t v := hval0
  have hW' := hW
  obtain ⟨p, q, hA0, hV, rfl, hfz, hnd⟩ := hW
  have hA : DataW.TrodAll enc Try.prog W 0 (fun _ => true) true Try.f8.params.toList args.toList ds p := hA0
  rw [Try.params8] at hA hval hsz
  obtain ⟨v0, vs0, d0, ds0, p0, q0, hargs, rfl, rfl, h0, rr0⟩ := trodAll_cons hA
  obtain ⟨v1, vs1, d1, ds1, p1, q1, rfl, rfl, rfl, h1, rr1⟩ := trodAll_cons rr0
  obtain ⟨rfl, rfl, rfl⟩ := trodAll_nil rr1
  obtain rfl : args = #[v0, v1] := by cases args; simp_all
  obtain ⟨rfl, rfl⟩ := trodVars_none hV
  obtain ⟨a0, len0, cap0, rfl⟩ := okWide_slice Try.underlying25 (hval 0 25 v0 rfl rfl)
  have k0 := h0
  have lt0 : ∀ x ∈ p0, x.block < W.heap.size := by obtain ⟨m, hm⟩ := k0; exact DataW.trod_lt m _ _ _ hm
  obtain ⟨z0, r0, f0, b0⟩ := entries_in Try.underlying25 Try.underlying44 (by kernel_rfl) rfl rfl (by kernel_rfl) (by kernel_rfl) Try.underlying9 Try.underlying41 (B := 24) (by kernel_rfl) hsz (j := 0) rfl rfl h0
  obtain ⟨a1, rfl, rfl, rfl, w1⟩ := open_int Try.underlying5 (hval 1 5 v1 rfl rfl) h1
  clear hA0 hval0
  refine (walk W a0 len0 cap0 z0 r0 f0 b0 a1 w1).mono fun e W' ⟨he, bel⟩ => ?_
  subst he
  exact ⟨_, rfl, _, _, _, [], _, [], hW', trodAll_mk1 (shut_bool Try.underlying4 _), (trodAll_cons_mk (Below.trod laidOut (by kernel_rfl) (of_decide_eq_true (by kernel_rfl)) k0 bel lt0) (trodAll_cons_mk (shut_int Try.underlying5 w1) trodAll_mk0)), rfl, bel.frame _, fun h => by cases h⟩

theorem over : Rows.loserCopiesRow.holds Try.pinned (OpenSpec.ofChange Rows.loserCopiesSpec) :=
  OpenClaim.holds_of_wide 8 Try.f8 rfl rfl rfl rfl rfl rfl rfl ⟨rfl, rfl, rfl, rfl, rfl⟩ rfl rfl rfl rfl rfl (by kernel_rfl) Try.func8 (by kernel_rfl)
    (of_decide_eq_true (by kernel_rfl)) (by unfold Func.isWrapper; first | (rw [if_pos (by decide +kernel)]; kernel_rfl) | (rw [if_neg (by decide +kernel)]; exact ⟨rfl, rfl⟩))
    (fun os started H enc _ => lifted os started H enc)
end Go.Proofs.Ytgnhnhachhfafaa.loserCopies
namespace Go.Proofs.Ytgnhnhachhfafaa
theorem loserCopies_holds : Rows.LoserCopiesSaid := loserCopies.over
#print axioms loserCopies_holds
end Go.Proofs.Ytgnhnhachhfafaa
