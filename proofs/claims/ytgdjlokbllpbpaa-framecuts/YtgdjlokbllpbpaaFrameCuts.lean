/- For every input FrameCuts answers true, and leaves its arguments as they were. Conditions: none. -/
import Derived.Test.YtgdjlokbllpbpaaRows
import Derived.Test.YtgdjlokbllpbpaaRows03
import Derived.Test.YtgdjlokbllpbpaaRef03
import Derived.Test.YtgdjlokbllpbpaaShown03
import Derived.Test.YtgdjlokbllpbpaaFrameMore
import Derived.Test.YtgdjlokbllpbpaaOpen
import Derived.ProofKit
import Derived.OpenShut
import Derived.ShutString
import Derived.ChangeOld
import Derived.SizedLaws
import Derived.Deep.RegionHeld
import Derived.Deep.QuietTactic
import Derived.BigQuiet
import Derived.Deep.Cut
namespace Go.Proofs.Ytgdjlokbllpbpaa.frameCuts
open Go.ChangeShapes Go.WideShapes Go.ChangeAt Go.RowKit
open Go.ChangeMaps (open_string shut_string)
set_option linter.unusedVariables false

theorem own : ownKnob Try.prog.godebug = none := by kernel_rfl
theorem laidOut : laidOutB Try.prog = true := by kernel_rfl

theorem whole_is (ls : List (List Int)) (n k many : Nat) (hok : okRows (ls.take n)) (hn : n ≤ ls.length) (hk : k ≤ recAt ls n) (h1 : many ≤ n) (h2 : recAt ls many ≤ k) (h3 : ∀ j, many < j → j ≤ n → k < recAt ls j) :
    scanR ((recs (ls.take n)).take k) = (ls.take many, recAt ls many) := by
  have hlen : (ls.take n).length = n := by simp; omega
  obtain ⟨i1, i2, i3, i4⟩ := scan_cut_recs (ls.take n) k hok hk
  rw [hlen] at i2 i4
  have e : ∀ i, i ≤ n → (recs ((ls.take n).take i)).length = recAt ls i := fun i hi => by rw [List.take_take, Nat.min_eq_left hi]; rfl
  rw [e _ i2] at i1 i3
  have hw : whole (ls.take n) k = many := by
    rcases Nat.lt_trichotomy (whole (ls.take n) k) many with h | h | h
    · have := i4 (by omega)
      rw [e _ (by omega)] at this
      have := recAt_mono ls (whole (ls.take n) k + 1) many h
      omega
    · exact h
    · have := h3 (many + 1) (by omega) (by omega)
      have := recAt_mono ls (many + 1) (whole (ls.take n) k) h
      omega
  rw [i1, hw, List.take_take, Nat.min_eq_left h1]

set_option maxRecDepth 100000 in
set_option maxHeartbeats 4000000 in
theorem walk (w : World) (a0 : Option Addr) (len0 cap0 : Nat) (z0 : List (List Int)) (r0 : ReadsRows w a0 len0 cap0 z0) (f0 : ∀ l ∈ z0, isBytes l) (b0 : len0 * 24 ≤ 140737488351232) (a1 : Int) (w1 : (Lit.int .u16 a1).wf = true) :
    Calls Try.prog 5 #[.slice a0 len0 cap0, .int .u16 a1] w fun e w' => e = .returned (.bool true) ∧ Below w.heap.size w w' := by
  have g1 := bounds_u16 w1
  obtain ⟨cut, rfl⟩ := Int.eq_ofNat_of_zero_le g1.1
  have g1' : (cut : Int) ≤ 65535 := g1.2
  clear g1 w1
  have hl0 := r0.length
  have hlc0 := r0.le
  go_enter Try.func5, Try.ntmps5
  go_wp2_with fail
  refine (shown_any _).mono ?_
  rintro e wa ⟨rfl, hb1⟩
  have ra := r0.later hb1 (Nat.le_refl _)
  clear r0
  go_wp2_with fail
  go_loop [6] (fun i => ∃ j : Nat, i = .int .i64 j ∧ j ≤ len0 ∧ j ≤ 20 ∧ Hid (∀ i, i < j → i < z0.length → (z0.getD i []).length ≤ 1000)) (fun i => (20 - intOf i).toNat)
  case atStart => exact ⟨0, rfl, by omega, by omega, by show ∀ i, _; intro i hi; omega⟩
  case round =>
    obtain ⟨j, rfl, hj, hj2, hall⟩ := hrel
    by_cases hd : j < len0 ∧ j < 20
    · obtain ⟨hd1, hd2⟩ := hd
      have hd1' : (j : Int) < len0 := by omega
      have hd2' : (j : Int) < 20 := by omega
      obtain ⟨b1, o1, rfl, hbb, hat1⟩ := ra.at (by omega)
      obtain ⟨x1, l1, c1, hc1, rd1⟩ := hat1 j hd1
      have hl1 : (z0.getD j []).length = l1 := by simpa using rd1.length
      clear hat1 rd1
      by_cases h1000 : l1 ≤ 1000
      · have h1' : (l1 : Int) ≤ 1000 := by omega
        have hall' : Hid (∀ i, i < j + 1 → i < z0.length → (z0.getD i []).length ≤ 1000) := by
          show ∀ i, _
          intro i hi hi2
          by_cases hij : i = j
          · rw [hij, hl1]; exact h1000
          · exact hall.out i (by omega) hi2
        clear hall hl1
        go_wp2
        go_round
        case rel => exact ⟨j + 1, by go_num, by omega, by omega, hall'⟩
        case measure => simp [intOf]; omega
      · have h1' : (1001 : Int) ≤ l1 := by omega
        have h2' := hall
        clear hl1 hall
        go_wp2
        go_ret
        exact ⟨rfl, hb1⟩
    · have hmost : Hid (∀ i, i < 20 → i < z0.length → (z0.getD i []).length ≤ 1000) := by
        show ∀ i, _
        intro i hi hi2
        exact hall.out i (by omega) hi2
      clear hall
      have hb0 : len0 ≤ 140737488351232 := by omega
      have hcase : j = len0 ∨ (j = 20 ∧ (20 : Int) < len0) := by omega
      have hl1 := hl0
      clear hd hj hj2
      have hn20 : Hid (min len0 20 ≤ z0.length) := by show _ ≤ _; omega
      rcases hcase with hjj | ⟨hjj, hjlt⟩
      all_goals
        subst hjj
        go_wp2_with fail
        refine (rows_any _ _ _ _ _ ra f0 hmost.out hb0).mono ?_
        rintro e wb ⟨ab, cb, ae, ce, m, n, rfl, hn, hm, rdb, rde, hb2⟩
        have rb := ra.later hb2 (Nat.le_refl _)
        have hB2 := Grow.trans hb1 hb2
        clear hb2 ra
        rw [← hn] at hn20
        have hn' : n ≤ 20 := by omega
        have hok : Hid (okRows (z0.take n)) := by
          show ∀ p ∈ z0.take n, _
          intro p hp
          obtain ⟨i, hi, rfl⟩ := List.mem_iff_getElem.1 hp
          have hi' : i < n := by have := hi; simp at this; omega
          refine ⟨f0 _ (List.mem_of_mem_take hp), ?_⟩
          have := hmost.out i (by omega) (by have := hn20.out; omega)
          rw [List.getD, List.getElem?_eq_getElem (by have := hn20.out; omega)] at this
          rw [List.getElem_take]
          exact Nat.le_trans this (by decide)
        have hm21 : m ≤ 21000 := by
          have := recAt_most z0 n (fun i hi => hmost.out i (by omega)) hn20.out
          rw [hm]; omega
        have Hm : Hid _ := hm
        have Hn : Hid _ := hn
        clear hm hn
        have hmod : Hid (cut % (m + 1) ≤ m) := by show _ ≤ _; have := Nat.mod_lt cut (show m + 1 > 0 by omega); omega
        have hK : Int.tmod (cut : Int) ((m : Int) + 1) = ((cut % (m + 1) : Nat) : Int) := by rw [Int.tmod_eq_emod_of_nonneg (by omega)]; simp
        generalize cut % (m + 1) = k at hmod hK
        have hkm : k ≤ m := hmod.out
        clear hmod
        go_wp2_with fail
        go_loop [10, 11, 12] (fun vm va vi => ∃ many i : Nat, vm = .int .i64 many ∧ va = .int .i64 (recAt z0 many : Nat) ∧ vi = .int .i64 i ∧ i ≤ n ∧ many ≤ i ∧ Hid (recAt z0 many ≤ k) ∧ Hid (∀ j, many < j → j ≤ i → k < recAt z0 j)) (fun _ _ vi => (n - intOf vi).toNat)
        case atStart => exact ⟨0, 0, rfl, by rw [recAt_zero]; rfl, rfl, by omega, by omega, by show _ ≤ _; rw [recAt_zero]; omega, by show ∀ j, _; intro j h1 h2; omega⟩
        case round =>
          obtain ⟨many, i, rfl, rfl, rfl, hi, hmi, hle, hgt⟩ := hrel
          by_cases hin : i = n
          · have hS : Hid (scanR ((recs (z0.take n)).take k) = (z0.take many, recAt z0 many)) := whole_is z0 n k many hok.out hn20.out (by rw [← Hm.out]; exact hkm) (by omega) hle.out (by rw [← hin]; exact hgt.out)
            subst hin
            obtain ⟨x1, hs1, hd1⟩ := Reads.to (P := Try.prog) Try.underlying22 (size_of Try.info5) (ao := ab) (len := m) (cap := cb) rdb.le k hkm
            have rdx := hd1 wb _ rdb
            rw [← List.map_take] at rdx
            have x8 : isBytes ((recs (z0.take i)).take k) := fun z hz => recs_bytes _ hok.out z (List.mem_of_mem_take hz)
            clear hd1 rdb rde hgt hle
            go_wp2_with fail
            refine (fscan_any _ _ _ _ _ rdx x8 (by omega)).mono ?_
            rintro e wc ⟨ag3, c3, m3, rfl, rl, hb3⟩
            rw [hS.out] at rl ⊢
            have rc := rb.later hb3 (Nat.le_refl _)
            have hB3 := Grow.trans hB2 hb3
            clear hb3 hB2 rb rdx x8 hS
            have hmany : many ≤ z0.length := by have := hn20.out; omega
            obtain ⟨vs, rv, rvs⟩ := rc.vals
            obtain ⟨x2, hs2, hd2⟩ := Reads.to (P := Try.prog) Try.underlying33 (size_of Try.infoRow) (ao := a0) (len := _) (cap := cap0) rc.le many (by have := rc.length; omega)
            have rk : ReadsRows wc x2 many cap0 (z0.take many) := ReadsRows.of (hd2 wc vs rv) (rvs.take many)
            have hrl := rl.length
            simp only [List.length_take] at hrl
            have hm3 : m3 ≤ 20 := by omega
            have k8 : ∀ l ∈ z0.take many, isBytes l := fun l hl => f0 l (List.mem_of_mem_take hl)
            clear hd2 rv rvs rc hrl
            go_wp2_with fail
            refine (lists_any _ _ _ _ _ _ _ _ _ rl rk k8 k8 (by omega) (by omega)).mono ?_
            rintro e wd ⟨rfl, hb4⟩
            have hB4 := Grow.trans hB3 hb4
            clear hb4 hB3 rl rk
            simp only [decide_true]
            go_wp2
            go_ret
            exact ⟨rfl, hB4⟩
          · have hin' : (i : Int) < n := by omega
            obtain ⟨eb, eo, rfl, heb, hcell⟩ := rde.at (by omega)
            have hc := hcell i (by omega)
            rw [endsL_at z0 n i (by omega)] at hc
            clear hcell
            have HR : Hid (∀ R, recAt z0 (i + 1) = R → R ≤ k → (∀ j, i + 1 < j → j ≤ i + 1 → k < recAt z0 j)) := by show ∀ R, _; intro R _ _ j h1 h2; omega
            by_cases hk2 : recAt z0 (i + 1) ≤ k
            · have hle' : Hid (recAt z0 (i + 1) ≤ k) := hk2
              have hk2' : ((recAt z0 (i + 1) : Nat) : Int) ≤ (k : Int) := by omega
              have hgt' : Hid (∀ j, i + 1 < j → j ≤ i + 1 → k < recAt z0 j) := HR.out _ rfl hk2
              clear HR hgt hle hk2
              go_wp2
              go_round
              case rel => exact ⟨i + 1, i + 1, by go_num, rfl, by go_num, by omega, by omega, hle', hgt'⟩
              case measure => simp [intOf]; omega
            · have hk2' : (k : Int) < ((recAt z0 (i + 1) : Nat) : Int) := by omega
              have hgt' : Hid (∀ j, many < j → j ≤ i + 1 → k < recAt z0 j) := by
                show ∀ j, _
                intro j h1 h2
                by_cases hj : j = i + 1
                · rw [hj]; omega
                · exact hgt.out j h1 (by omega)
              clear HR hgt hk2
              go_wp2
              go_round
              case rel => exact ⟨many, i + 1, rfl, rfl, by go_num, by omega, by omega, hle, hgt'⟩
              case measure => simp [intOf]; omega

set_option maxRecDepth 100000 in
theorem lifted (os : Os) (started : os.Started) (H : Type) (enc : TypeId × Value → H) :
    ReturnsInHanded {} Try.checked os 5 .any (Rows.frameCutsSpec.pre6 enc Try.prog Try.f5 Rows.frameCutsRow.domain false) (Rows.frameCutsSpec.post enc Try.prog Try.f5 false true false false) := by
  refine returnsInHanded_of_change_sized (C := Try.checked) own started (by kernel_rfl) Try.func5
    (ChangeSpec.witness6 (enc := enc) (C := Try.checked) false ⟨#[], #[.slice none 0 0, .int .u16 0], []⟩ 8 (by kernel_rfl) (by kernel_rfl) (by kernel_rfl) (by kernel_rfl)) ?_
  intro W base args ds gs before hval0 hW hcnd hsz0 _
  have hsz : (DataW.weightsEach Try.prog (Try.f5.params.toList ++ Rows.frameCutsSpec.plain.varTypes Try.prog) (ds ++ gs)).all (· ≤ reachBytes) = true := hsz0
  clear hsz0
  have hval : ∀ (j : Nat) t v, Try.f5.params[j]? = some t → args[j]? = some v → Value.okWide Try.prog W .any base t v := hval0
  have hW' := hW
  obtain ⟨p, q, hA0, hV, rfl, hfz, hnd⟩ := hW
  have hA : DataW.TrodAll enc Try.prog W 0 (fun _ => true) true Try.f5.params.toList args.toList ds p := hA0
  rw [Try.params5] at hA hval hsz
  obtain ⟨v0, vs0, d0, ds0, p0, q0, hargs, rfl, rfl, h0, rr0⟩ := trodAll_cons hA
  obtain ⟨v1, vs1, d1, ds1, p1, q1, rfl, rfl, rfl, h1, rr1⟩ := trodAll_cons rr0
  obtain ⟨rfl, rfl, rfl⟩ := trodAll_nil rr1
  obtain rfl : args = #[v0, v1] := by cases args; simp_all
  obtain ⟨rfl, rfl⟩ := trodVars_none hV
  obtain ⟨a0, len0, cap0, rfl⟩ := okWide_slice Try.underlying33 (hval 0 33 v0 rfl rfl)
  have k0 := h0
  have lt0 : ∀ x ∈ p0, x.block < W.heap.size := by obtain ⟨m, hm⟩ := k0; exact DataW.trod_lt m _ _ _ hm
  obtain ⟨z0, r0, f0, b0⟩ := rows_in Try.underlying33 Try.underlying22 Try.underlying5 (by kernel_rfl) (by kernel_rfl) (B := 24) (by kernel_rfl) hsz (j := 0) rfl rfl h0
  obtain ⟨a1, rfl, rfl, rfl, w1⟩ := open_int Try.underlying38 (hval 1 38 v1 rfl rfl) h1
  clear hA0 hval0
  refine (walk W a0 len0 cap0 z0 r0 f0 b0 a1 w1).mono fun e W' ⟨he, bel⟩ => ?_
  subst he
  exact ⟨_, rfl, _, _, _, [], _, [], hW', trodAll_mk1 (shut_bool Try.underlying4 _), (trodAll_cons_mk (Below.trod laidOut (by kernel_rfl) (of_decide_eq_true (by kernel_rfl)) k0 bel lt0) (trodAll_cons_mk (shut_int Try.underlying38 w1) trodAll_mk0)), rfl, bel.frame _, fun h => by cases h⟩

theorem over : Rows.frameCutsRow.holds Try.pinned (OpenSpec.ofChange Rows.frameCutsSpec) :=
  OpenClaim.holds_of_wide 5 Try.f5 rfl rfl rfl rfl rfl rfl rfl ⟨rfl, rfl, rfl, rfl, rfl⟩ rfl rfl rfl rfl rfl (by kernel_rfl) Try.func5 (by kernel_rfl)
    (of_decide_eq_true (by kernel_rfl)) (by unfold Func.isWrapper; first | (rw [if_pos (by decide +kernel)]; kernel_rfl) | (rw [if_neg (by decide +kernel)]; exact ⟨rfl, rfl⟩))
    (fun os started H enc _ => lifted os started H enc)
end Go.Proofs.Ytgdjlokbllpbpaa.frameCuts
namespace Go.Proofs.Ytgdjlokbllpbpaa
theorem frameCuts_holds : Rows.FrameCutsSaid := frameCuts.over
#print axioms frameCuts_holds
end Go.Proofs.Ytgdjlokbllpbpaa
