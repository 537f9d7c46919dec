/- For every input TableAgain answers true, and leaves its arguments as they were. Conditions: none. -/
import Derived.Test.YthnpeeiiekmkcaaRows
import Derived.Test.YthnpeeiiekmkcaaTabLaw
import Derived.Test.YthnpeeiiekmkcaaTabCount
import Derived.Test.YthnpeeiiekmkcaaOpen
import Derived.ProofKit
import Derived.OpenShut
import Derived.ShutString
import Derived.ChangeOld
import Derived.SizedLaws
import Derived.Deep.RegionHeld
import Derived.Deep.RegionHeld3
import Derived.Deep.QuietTactic
import Derived.BigQuiet
import Derived.Deep.Cut
import Derived.Deep.CutBlock
namespace Go.Proofs.Ythnpeeiiekmkcaa.tableAgain
open Go.ChangeShapes Go.WideShapes Go.ChangeAt Go.RowKit
open Go.ChangeMaps (open_string shut_string)
set_option linter.unusedVariables false

theorem own : ownKnob Try.prog.godebug = none := by kernel_rfl
theorem laidOut : laidOutB Try.prog = true := by kernel_rfl


set_option maxRecDepth 100000 in
set_option maxHeartbeats 4000000 in
theorem walk (w : World) (a0 : Option Addr) (len0 cap0 : Nat) (z0 : List Wd) (r0 : Reads w a0 len0 cap0 (z0.map strV)) (f0 : ∀ z ∈ z0, z.length ≤ 140737488351232) (b0 : len0 * 16 ≤ 140737488351232) :
    Calls Try.prog 8 #[.slice a0 len0 cap0] w fun e w' => e = .returned (.bool true) ∧ Below w.heap.size w w' := by
  have hlb : len0 ≤ 140737488351232 := by omega
  have hll : z0.length = len0 := by simpa using r0.length
  clear b0
  obtain ⟨n, hmin⟩ : ∃ n : Nat, min (len0 : Int) 200 = n := ⟨min len0 200, by omega⟩
  have hni : n ≤ 200 := by omega
  have hnz : n ≤ z0.length := by omega
  have hnl : n ≤ len0 := by omega
  go_enter Try.func8, Try.ntmps8
  go_wp2_with fail
  refine (shown_any w).mono ?_
  rintro e wa ⟨rfl, ba⟩
  have s0 : Calls Try.prog 10 #[.int .i64 200] wa _ := tabnew_any 200 wa (by decide) (by decide)
  go_wp2_with fail
  refine s0.mono ?_
  rintro e wb ⟨rfl, hA, b1⟩
  have bb := Below.trans ba (b1.mono ba.size)
  generalize hBA : wa.heap.size = B at hA ⊢
  generalize hba : B + 1 = b at hA ⊢
  have hw1 : w.heap.size ≤ B := by have := ba.size; omega
  clear s0 ba b1 hBA hba
  go_wp2_with fail
  go_loopw [7] (fun i wr => ∃ (j : Nat) (v : Value) (es : List En), i = .int .i64 j ∧ j ≤ n ∧ TabAt B wr b B v 200 es ∧ Hid (CountsE es (z0.take j) 3 ∧ es.length ≤ j) ∧ Below w.heap.size w wr) (fun i _ => (n - intOf i).toNat)
  case atStart => exact ⟨0, _, [], rfl, by omega, hA, ⟨counts_nil 3, Nat.le_refl _⟩, bb⟩
  case round =>
    obtain ⟨j, v, es, rfl, hj, hT, hC, hBw⟩ := hrel
    clear hA bb
    by_cases hjn : j < n
    · have hji : (j : Int) < n := by omega
      obtain ⟨b1, o1, rfl, hb1, hc1⟩ := (r0.later hBw (Nat.le_refl _)).atW (by omega)
      obtain ⟨k, hk⟩ : ∃ k, z0[j]? = some k := ⟨_, List.getElem?_eq_getElem (by omega)⟩
      have cw1 := hc1 j k hk
      have fl := f0 k (List.mem_of_getElem? hk)
      have sa := tabadd_any hT k 3 (by omega) (by decide)
      obtain ⟨_, p2, _⟩ := add_next hT.tab (by decide : 1 ≤ 3) (by omega) (by rw [List.length_take]; omega : (z0.take j).length = j) hC.out (by omega) k
      rw [← take_next hk] at p2
      have P2 : Hid _ := p2
      clear p2 hC
      go_wp2_with fail
      refine sa.mono ?_
      rintro e wd ⟨rfl, v2, hT2, ht2⟩
      have hBd := Below.trans hBw (ht2.below hT hw1)
      generalize (addE 200 es k 3).1 = es2 at hT2 P2
      generalize (addE 200 es k 3).2 = cc
      clear sa hT ht2 hBw hc1 cw1
      go_wp2
      go_roundw
      case rel => exact ⟨j + 1, v2, es2, by go_num, by omega, hT2, P2, hBd⟩
      case measure => simp [intOf]; omega
    · have hjn' : j = n := by omega
      subst hjn'
      clear hj hjn
      have sd := tabdrain_any hT
      go_wp2_with fail
      refine sd.mono ?_
      rintro e wd ⟨rfl, d, hp, hd, hrow, hT2, ht2⟩
      have hBd := Below.trans hBw (ht2.below hT hw1)
      rw [← hp.length_eq] at hrow
      have hdl : d.length ≤ 200 := by rw [hp.length_eq]; exact hT.tab.most
      have hkd : Hid (KeysE d) := perm_keys hp hT.tab.keys
      have hcd : Hid (∀ e ∈ d, e.1 ≠ [] ∧ 1 ≤ e.2 ∧ e.2 ≤ 600 ∧ e.2 % 3 = 0 ∧ e.1.length ≤ 140737488355328) := by
        show ∀ e ∈ d, _
        intro e he
        have he' := hp.mem_iff.1 he
        have h1 := get_mem hT.tab.keys he'
        have h2 := hC.out.1 e.1
        rw [if_neg (hT.tab.words e he')] at h2
        have h3 := count_le (z0.take j) e.1
        rw [List.length_take] at h3
        have h4 := (hT.tab.pos e he').1
        exact ⟨hT.tab.words e he', h4, by omega, by omega, hT.long e he'⟩
      obtain ⟨ao, cap, rfl⟩ := own2_slice hrow
      clear sd hT ht2 hBw hC hp hd
      go_wp2_with fail
      go_loopw [9] (fun i wr => ∃ (m : Nat) (v : Value) (es : List En), i = .int .i64 m ∧ m ≤ d.length ∧ TabAt B wr b B v 200 es ∧ Hid (es = d.reverse.take m) ∧ wr.ownsRow B 44 2 (.slice ao d.length cap) d.length (cellsE d) ∧ OffT (.slice ao d.length cap) v ∧ Below w.heap.size w wr) (fun i _ => (d.length - intOf i).toNat)
      case atStart => exact ⟨0, _, [], rfl, by omega, hT2, rfl, hrow, (OffT.nil _).symm, hBd⟩
      case round =>
        obtain ⟨m, v, es, rfl, hm, hT, hE, hR, hO, hBw⟩ := hrel
        clear hT2 hrow hBd
        by_cases hmd : m < d.length
        · obtain ⟨x, hx⟩ : ∃ x, x = d.length - 1 - m := ⟨_, rfl⟩
          have hxl : x < d.length := by omega
          obtain ⟨⟨ek, en⟩, he⟩ : ∃ e, d[x]? = some e := ⟨_, List.getElem?_eq_getElem hxl⟩
          obtain ⟨g, cap', hv, q1, q2, q3, hc, q4⟩ := own2_at hR (by omega)
          obtain ⟨rfl, rfl⟩ := slice_inj hv
          obtain ⟨h1, h2, h3, h4, h5⟩ := hcd.out _ (List.mem_of_getElem? he)
          simp only at h1 h2 h3 h4 h5
          have hes : es.length = m := by rw [hE.out, List.length_take, List.length_reverse]; omega
          have hadd : addE 200 es ek en = (es ++ [(ek, en)], 0) := add_new h1 h2 (by omega) (by rw [hE.out]; exact rev_new hkd.out hmd (by rw [← hx]; exact he)) (by omega)
          have hE2 : Hid (es ++ [(ek, en)] = d.reverse.take (m + 1)) := by show _ = _; rw [rev_at hmd (by rw [← hx]; exact he), ← hE.out]
          have hTd := hT.later ((Below.refl _ _).drew) (Nat.le_refl _)
          have hRd : wr.drew.ownsRow B 44 2 (.slice (some ⟨g, 0, none⟩) d.length cap) d.length (cellsE d) := hR
          have sa := tabadd_any hTd ek en h5 (by omega)
          rw [hadd] at sa
          have hxi : (d.length : Int) - 1 - m = x := by omega
          have hwr1 : IntKind.i64.wrap ((d.length : Int) - 1) = (d.length : Int) - 1 := by simp [IntKind.wrap, IntKind.bits, IntKind.signed]; omega
          have hwr2 : IntKind.i64.wrap ((d.length : Int) - 1 - m) = x := by simp [IntKind.wrap, IntKind.bits, IntKind.signed]; omega
          have hwr3 : IntKind.i64.wrap (x : Int) = x := by simp [IntKind.wrap, IntKind.bits, IntKind.signed]; omega
          have hx1 : (x : Int) < d.length := by omega
          have hx0 : (0 : Int) ≤ x := by omega
          have hmi : (m : Int) < d.length := by omega
          have hcell : ∀ W : World, W.ownsRow B 44 2 (.slice (some ⟨g, 0, none⟩) d.length cap) d.length (cellsE d) → W.cell? ⟨g, x * 2, none⟩ = some (strV ek) ∧ W.cell? ⟨g, x * 2 + 1, none⟩ = some (.int .u64 (en : Nat)) := fun W hW => by
            obtain ⟨g', cap'', hv', _, _, _, hc', _⟩ := own2_at hW (by omega)
            obtain ⟨e1, rfl⟩ := slice_inj hv'
            cases e1
            exact hc' x _ he
          have hc1 : ∀ W : World, W.ownsRow B 44 2 (.slice (some ⟨g, 0, none⟩) d.length cap) d.length (cellsE d) → W.cell? ⟨g, x * 2, none⟩ = some (strV ek) := fun W hW => (hcell W hW).1
          have hc2 : ∀ W : World, W.ownsRow B 44 2 (.slice (some ⟨g, 0, none⟩) d.length cap) d.length (cellsE d) → W.cell? ⟨g, x * 2 + 1, none⟩ = some (.int .u64 (en : Nat)) := fun W hW => (hcell W hW).2
          have c1 := hc1 _ hR
          have c2 := hc2 _ hR
          have Hx : Hid _ := hx
          clear hc hcell hv q1 q2 q3 q4 hx hadd he hes
          go_wp2_with fail
          go_region_held (fun W => W.ownsRow B 44 2 (.slice (some ⟨g, 0, none⟩) d.length cap) d.length (cellsE d)) (first | exact hR | assumption) (first | (go_at_call 13; refine sa.mono ?_; rintro e wd ⟨rfl, v2, hT2, ht2⟩; have hR2 := own2_turned hRd hTd ht2 hO))
          have hO2 := off_turned hRd ht2 hO
          have hB2 := Below.trans hBw.drew (ht2.below hTd hw1)
          clear sa hTd hRd ht2 hc1 hc2 c1 c2 hT hR hO hBw
          go_wp2
          go_roundw
          case rel => exact ⟨m + 1, v2, es ++ [(ek, en)], by go_num, by omega, hT2, hE2, hR2, hO2, hB2⟩
          case measure => simp [intOf]; omega
        · have hme : m = d.length := by omega
          have hes : Hid (es = d.reverse) := by show _ = _; rw [hE.out, hme, List.take_of_length_le (by simp)]
          have hesl : es.length = d.length := by rw [hes.out, List.length_reverse]
          have hlt : ¬ (m : Int) < d.length := by omega
          have sl := tablen_any hT
          rw [hesl] at sl
          have hC3 : Hid (∀ i e, d[i]? = some e → getE es e.1 = e.2 + if i < 0 then 1 else 0) := by
            show ∀ i e, _
            intro i e he
            have hk : KeysE es := hT.tab.keys
            rw [get_mem hk (e := e) (by rw [hes.out]; exact List.mem_reverse.2 (List.mem_of_getElem? he))]
            simp
          clear hE hes hmd
          go_wp2_with fail
          refine sl.mono ?_
          rintro e wx ⟨rfl, rfl⟩
          clear sl
          go_wp2_with fail
          go_loopw [11] (fun i wr => ∃ (m : Nat) (v : Value) (es : List En), i = .int .i64 m ∧ m ≤ d.length ∧ TabAt B wr b B v 200 es ∧ es.length = d.length ∧ Hid (∀ i e, d[i]? = some e → getE es e.1 = e.2 + if i < m then 1 else 0) ∧ wr.ownsRow B 44 2 (.slice ao d.length cap) d.length (cellsE d) ∧ OffT (.slice ao d.length cap) v ∧ Below w.heap.size w wr) (fun i _ => (d.length - intOf i).toNat)
          case atStart => exact ⟨0, v, es, rfl, by omega, hT, hesl, hC3, hR, hO, hBw⟩
          case round =>
            clear hT hR hO hBw hC3 hesl
            obtain ⟨m3, v3, es3, rfl, hm3, hT, hEl, hE, hR, hO, hBw⟩ := hrel
            by_cases hmd : m3 < d.length
            · have hmi : (m3 : Int) < d.length := by omega
              have hmi0 : (0 : Int) ≤ m3 := by omega
              obtain ⟨⟨ek, en⟩, he⟩ : ∃ e, d[m3]? = some e := ⟨_, List.getElem?_eq_getElem hmd⟩
              obtain ⟨h1, h2, h3, h4, h5⟩ := hcd.out _ (List.mem_of_getElem? he)
              simp only at h1 h2 h3 h4 h5
              obtain ⟨g, cap', hv, q1, q2, q3, hc, q4⟩ := own2_at hR (by omega)
              obtain ⟨rfl, rfl⟩ := slice_inj hv
              have c1 := (hc m3 _ he).1
              simp only at c1
              have hge : getE es3 ek = en := by have := hE.out m3 _ he; simpa using this
              have hadd : addE 200 es3 ek 1 = (setE es3 ek (en + 1), 0) := add_old h1 (Nat.le_refl 1) hge h2 (by omega)
              have hin : ∃ e ∈ es3, e.1 = ek := ⟨_, get_pos (k := ek) (by omega), rfl⟩
              have hE2 : Hid (∀ i e, d[i]? = some e → getE (setE es3 ek (en + 1)) e.1 = e.2 + if i < m3 + 1 then 1 else 0) := by
                show ∀ i e, _
                intro i e hi
                rw [get_set es3 ek e.1 _ hin]
                by_cases hq : ek = e.1
                · have him : m3 = i := keys_at hkd.out he hi hq
                  subst him
                  rw [he] at hi
                  cases hi
                  rw [if_pos rfl, if_pos (by omega)]
                · rw [if_neg hq, hE.out i e hi]
                  have him : i ≠ m3 := fun h => by
                    subst h
                    rw [he] at hi
                    cases hi
                    exact hq rfl
                  by_cases hlt' : i < m3
                  · rw [if_pos hlt', if_pos (by omega)]
                  · rw [if_neg hlt', if_neg (by omega)]
              have sa := tabadd_any hT ek 1 h5 (by decide)
              rw [hadd] at sa
              clear hc hv q1 q2 q3 q4 hadd hge
              go_wp2_with fail
              refine sa.mono ?_
              rintro e wd3 ⟨rfl, v4, hT4, ht4⟩
              have hR4 := own2_turned hR hT ht4 hO
              have hO4 := off_turned hR ht4 hO
              have hB4 := Below.trans hBw (ht4.below hT hw1)
              have hG : ∀ W, Below wd3.heap.size wd3 W → Calls Try.prog 15 #[.pointer (some ⟨b, 0, none⟩), strV ek] W fun e w' => e = .returned (.int .u64 ((en + 1 : Nat) : Int)) ∧ w' = W := fun W hW => by
                have := tabget_any (hT4.later hW (Nat.le_refl _)) ek h5
                rwa [get_set es3 ek ek _ hin, if_pos rfl] at this
              have hcell : ∀ W, Below wd3.heap.size wd3 W → W.cell? ⟨g, m3 * 2, none⟩ = some (strV ek) ∧ W.cell? ⟨g, m3 * 2 + 1, none⟩ = some (.int .u64 (en : Nat)) := fun W hW => by
                obtain ⟨g', cap'', hv', _, _, _, hc', _⟩ := own2_at (own2_later hR4 hW (Nat.le_refl _)) (by omega)
                obtain ⟨e1, rfl⟩ := slice_inj hv'
                cases e1
                exact hc' m3 _ he
              have hc1 : ∀ W, Below wd3.heap.size wd3 W → W.cell? ⟨g, m3 * 2, none⟩ = some (strV ek) := fun W hW => (hcell W hW).1
              have hc2 : ∀ W, Below wd3.heap.size wd3 W → W.cell? ⟨g, m3 * 2 + 1, none⟩ = some (.int .u64 (en : Nat)) := fun W hW => (hcell W hW).2
              have k1 := hc1 _ (Below.refl _ _)
              have k2 := hc2 _ (Below.refl _ _)
              have hwr : IntKind.u64.wrap ((en : Int) + 1) = (en : Int) + 1 := by simp [IntKind.wrap, IntKind.bits, IntKind.signed]; omega
              have hrem : ((en : Int)).tmod 3 = 0 := by
                rw [show ((en : Int)).tmod 3 = ((en % 3 : Nat) : Int) from rfl, h4]; rfl
              clear sa hT hR hO hBw ht4 c1 hcell hE
              go_wp2_with fail
              go_region_held (fun W => Below wd3.heap.size wd3 W) (first | exact Below.refl _ _ | exact Below.drew (Below.refl _ _) | assumption | exact Grow.trans (by assumption) (by assumption)) (first | (go_at_call 15; refine (hG _ (by first | exact Below.refl _ _ | exact Below.drew (Below.refl _ _) | assumption | exact Grow.trans (by assumption) (by assumption))).mono ?_; rintro e w' ⟨rfl, rfl⟩))
              have hD0 : Below wd3.heap.size wd3 wd3.drew := (Below.refl _ _).drew
              have hT5 := hT4.later hD0 (Nat.le_refl _)
              have hR5 := own2_later hR4 hD0 (Nat.le_refl _)
              have hB5 := hB4.drew
              have hEl2 : (setE es3 ek (en + 1)).length = d.length := by rw [set_length]; exact hEl
              clear hG hc1 hc2 k1 k2 hT4 hR4 hB4 hD0 hEl
              go_wp2
              go_roundw
              case rel => exact ⟨m3 + 1, v4, setE es3 ek (en + 1), by go_num, by omega, hT5, hEl2, hE2, hR5, hO4, hB5⟩
              case measure => simp [intOf]; omega
            · have hlt3 : ¬ (m3 : Int) < d.length := by omega
              obtain ⟨ao3, cap3, hv3⟩ := own2_slice hT.row
              rw [hEl] at hv3
              subst hv3
              have sd := tabdrain_any hT
              clear hmd hE hEl hR
              go_wp2_with fail
              refine sd.mono ?_
              rintro e we ⟨rfl, d2, hp2, hd2, hrow2, hT4, ht4⟩
              have hBe := Below.trans hBw (ht4.below hT hw1)
              clear sd hT hT4 ht4 hrow2
              go_wp2
              go_ret
              exact ⟨rfl, hBe⟩

set_option maxRecDepth 100000 in
theorem lifted (os : Os) (started : os.Started) (H : Type) (enc : TypeId × Value → H) :
    ReturnsInHanded {} Try.checked os 8 .any (Rows.tableAgainSpec.pre6 enc Try.prog Try.f8 Rows.tableAgainRow.domain false) (Rows.tableAgainSpec.post enc Try.prog Try.f8 false true false false) := by
  refine returnsInHanded_of_change_sized (C := Try.checked) own started (by kernel_rfl) Try.func8
    (ChangeSpec.witness6 (enc := enc) (C := Try.checked) false ⟨#[], #[.slice none 0 0], []⟩ 8 (by kernel_rfl) (by kernel_rfl) (by kernel_rfl) (by kernel_rfl)) ?_
  intro W base args ds gs before hval0 hW hcnd hsz0 _
  have hsz : (DataW.weightsEach Try.prog (Try.f8.params.toList ++ Rows.tableAgainSpec.plain.varTypes Try.prog) (ds ++ gs)).all (· ≤ reachBytes) = true := hsz0
  clear hsz0
  have hval : ∀ (j : Nat) t v, Try.f8.params[j]? = some t → args[j]? = some v → Value.okWide Try.prog W .any base t v := hval0
  have hW' := hW
  obtain ⟨p, q, hA0, hV, rfl, hfz, hnd⟩ := hW
  have hA : DataW.TrodAll enc Try.prog W 0 (fun _ => true) true Try.f8.params.toList args.toList ds p := hA0
  rw [Try.params8] at hA hval hsz
  obtain ⟨v0, vs0, d0, ds0, p0, q0, hargs, rfl, rfl, h0, rr0⟩ := trodAll_cons hA
  obtain ⟨rfl, rfl, rfl⟩ := trodAll_nil rr0
  obtain rfl : args = #[v0] := by cases args; simp_all
  obtain ⟨rfl, rfl⟩ := trodVars_none hV
  obtain ⟨a0, len0, cap0, rfl⟩ := okWide_slice Try.underlying41 (hval 0 41 v0 rfl rfl)
  have k0 := h0
  have lt0 : ∀ x ∈ p0, x.block < W.heap.size := by obtain ⟨m, hm⟩ := k0; exact DataW.trod_lt m _ _ _ hm
  obtain ⟨z0, r0, f0, b0⟩ := strs_in Try.underlying41 Try.underlying9 (by kernel_rfl) (B := 16) (by kernel_rfl) hsz (j := 0) rfl rfl h0
  clear hA0 hval0
  refine (walk W a0 len0 cap0 z0 r0 f0 b0).mono fun e W' ⟨he, bel⟩ => ?_
  subst he
  exact ⟨_, rfl, _, _, _, [], _, [], hW', trodAll_mk1 (shut_bool Try.underlying4 _), (trodAll_cons_mk (Below.trod laidOut (by kernel_rfl) (of_decide_eq_true (by kernel_rfl)) k0 bel lt0) trodAll_mk0), rfl, bel.frame _, fun h => by cases h⟩

theorem over : Rows.tableAgainRow.holds Try.pinned (OpenSpec.ofChange Rows.tableAgainSpec) :=
  OpenClaim.holds_of_wide 8 Try.f8 rfl rfl rfl rfl rfl rfl rfl ⟨rfl, rfl, rfl, rfl, rfl⟩ rfl rfl rfl rfl rfl (by kernel_rfl) Try.func8 (by kernel_rfl)
    (of_decide_eq_true (by kernel_rfl)) (by unfold Func.isWrapper; first | (rw [if_pos (by decide +kernel)]; kernel_rfl) | (rw [if_neg (by decide +kernel)]; exact ⟨rfl, rfl⟩))
    (fun os started H enc _ => lifted os started H enc)
end Go.Proofs.Ythnpeeiiekmkcaa.tableAgain
namespace Go.Proofs.Ythnpeeiiekmkcaa
theorem tableAgain_holds : Rows.TableAgainSaid := tableAgain.over
#print axioms tableAgain_holds
end Go.Proofs.Ythnpeeiiekmkcaa
