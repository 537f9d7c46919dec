/- For every input CrcLinear answers true, and leaves its arguments as they were. Conditions: none. -/
import Derived.Test.YtffkdelnpnokjaaRows
import Derived.Test.YtffkdelnpnokjaaCrcTurn
import Derived.Test.YtffkdelnpnokjaaStepOwn
import Derived.Test.YtffkdelnpnokjaaCrcIs
import Derived.Test.YtffkdelnpnokjaaShown02
import Derived.Test.YtffkdelnpnokjaaOpen
import Derived.ProofKit
import Derived.OpenShut
import Derived.ShutString
import Derived.ChangeOld
import Derived.SizedLaws
import Derived.Deep.RegionHeld
import Derived.Deep.QuietTactic
import Derived.BigQuiet
import Derived.Deep.Cut
namespace Go.Proofs.Ytffkdelnpnokjaa.crcLinear
open Go.ChangeShapes Go.WideShapes Go.ChangeAt Go.RowKit
open Go.ChangeMaps (open_string shut_string)
set_option linter.unusedVariables false

theorem own : ownKnob Try.prog.godebug = none := by kernel_rfl
theorem laidOut : laidOutB Try.prog = true := by kernel_rfl

theorem bytes_of {z : List Int} (f : ∀ x ∈ z, (Lit.int .u8 x).wf = true) : isBytes z := fun x hx => bounds_u8 (f x hx)
theorem Try.info5 : (Try.prog.info? 5).map (fun i => (i.zero, i.size, i.bytes)) = some (some (.int .u8 0), 1, 1) := by kernel_rfl

set_option maxRecDepth 100000 in
set_option maxHeartbeats 4000000 in
theorem walk (w : World) (a0 : Option Addr) (len0 cap0 : Nat) (z0 : List Int) (r0 : Reads w a0 len0 cap0 (z0.map (.int .u8))) (f0 : ∀ z ∈ z0, (Lit.int .u8 z).wf = true) (b0 : len0 * 1 ≤ 140737488351232) (a1 : Option Addr) (len1 cap1 : Nat) (z1 : List Int) (r1 : Reads w a1 len1 cap1 (z1.map (.int .u8))) (f1 : ∀ z ∈ z1, (Lit.int .u8 z).wf = true) (b1 : len1 * 1 ≤ 140737488351232) (a2 : Option Addr) (len2 cap2 : Nat) (z2 : List Int) (r2 : Reads w a2 len2 cap2 (z2.map (.int .u8))) (f2 : ∀ z ∈ z2, (Lit.int .u8 z).wf = true) (b2 : len2 * 1 ≤ 140737488351232) :
    Calls Try.prog 6 #[.slice a0 len0 cap0, .slice a1 len1 cap1, .slice a2 len2 cap2] w fun e w' => e = .returned (.bool true) ∧ Below w.heap.size w w' := by
  have h80 := bytes_of f0
  have h81 := bytes_of f1
  have h82 := bytes_of f2
  have hl0 : z0.length = len0 := by simpa using r0.length
  have hl1 : z1.length = len1 := by simpa using r1.length
  have hl2 : z2.length = len2 := by simpa using r2.length
  go_enter Try.func6, Try.ntmps6
  go_wp2_with fail
  refine (shown_any _).mono ?_
  rintro e wa ⟨rfl, hb1⟩
  have q0 := r0.later hb1 (Nat.le_refl _)
  have q1 := r1.later hb1 (Nat.le_refl _)
  have q2 := r2.later hb1 (Nat.le_refl _)
  have hle0 : (len0 : Int) ≤ 140737488351232 := by omega
  have hle1 : (len1 : Int) ≤ 140737488351232 := by omega
  have hle2 : (len2 : Int) ≤ 140737488351232 := by omega
  go_upto_region 2 with (fail)
  go_cut [8] from 12 (fun v wr => wr = wa ∧ ∃ n : Nat, v = .int .i64 n ∧ n ≤ len0 ∧ n ≤ len1 ∧ n ≤ len2)
  case first =>
    by_cases h1 : (len2 : Int) < (len1 : Int)
    · by_cases h2 : (len2 : Int) < (len0 : Int)
      all_goals
        go_wp2_with fail
        go_meet
        case rel => exact ⟨rfl, _, rfl, by omega, by omega, by omega⟩
    · by_cases h2 : (len1 : Int) < (len0 : Int)
      all_goals
        go_wp2_with fail
        go_meet
        case rel => exact ⟨rfl, _, rfl, by omega, by omega, by omega⟩
  obtain ⟨hwc, n, rfl, n0, n1, n2⟩ := hcut
  rw [hwc]
  clear hwc
  have n0' : (n : Int) ≤ (len0 : Int) := by omega
  have n1' : (n : Int) ≤ (len1 : Int) := by omega
  have n2' : (n : Int) ≤ (len2 : Int) := by omega
  by_cases h5 : (5000 : Int) < (n : Int)
  · go_wp2
    go_ret
    exact ⟨rfl, hb1⟩
  · go_wp2_with fail
    go_loopw [9, 10] (fun x i wr => ∃ (j c : Nat) (ag : Option Addr), j ≤ n ∧ i = .int .i64 j ∧ x = .slice ag j c ∧ wr.ownsRow wa.heap.size 5 1 (.slice ag j c) j ((xor3 (z0.take j) (z1.take j) (z2.take j)).map (.int .u8)) ∧ Below wa.heap.size wa wr) (fun _ i _ => n - (intOf i).toNat)
    case atStart => exact ⟨0, 0, none, Nat.zero_le _, rfl, rfl, World.ownsRow_nil _ _ _ _, Below.refl _ _⟩
    case round =>
      obtain ⟨j, c, ag, hj, rfl, rfl, hown, hbr⟩ := hrel
      by_cases hlt : (j : Int) < (n : Int)
      · obtain ⟨p, hp0, hp8⟩ := h80.get j
        obtain ⟨q, hq0, hq8⟩ := h81.get j
        obtain ⟨r, hr0, hr8⟩ := h82.get j
        have hlt0 : (j : Int) < (len0 : Int) := by omega
        have hlt1 : (j : Int) < (len1 : Int) := by omega
        have hlt2 : (j : Int) < (len2 : Int) := by omega
        obtain ⟨bA, oA, rfl, _, hA⟩ := (q0.later hbr (Nat.le_refl _)).at (by omega)
        obtain ⟨bB, oB, rfl, _, hB⟩ := (q1.later hbr (Nat.le_refl _)).at (by omega)
        obtain ⟨bC, oC, rfl, _, hC⟩ := (q2.later hbr (Nat.le_refl _)).at (by omega)
        have cA := hA j (by omega)
        have cB := hB j (by omega)
        have cC := hC j (by omega)
        rw [hp0] at cA
        rw [hq0] at cB
        rw [hr0] at cC
        clear hA hB hC
        have hx1 := u8_xor_nat p q (by omega) (by omega)
        have hpq : p ^^^ q < 256 := Nat.xor_lt_two_pow (n := 8) (by omega) (by omega)
        have hx2 := u8_xor_nat (p ^^^ q) r hpq (by omega)
        have hv : p ^^^ q ^^^ r < 256 := Nat.xor_lt_two_pow (n := 8) hpq (by omega)
        have HX : Hid (xor3 (z0.take (j + 1)) (z1.take (j + 1)) (z2.take (j + 1)) = xor3 (z0.take j) (z1.take j) (z2.take j) ++ [((p ^^^ q ^^^ r : Nat) : Int)]) := by
          have := xor3_take j z0 z1 z2 (by omega) (by omega) (by omega)
          rw [hp0, hq0, hr0] at this
          exact this
        generalize p ^^^ q ^^^ r = v at hx2 hv HX
        generalize p ^^^ q = pq at hx1 hx2 hpq
        clear hp0 hq0 hr0
        have hbs := hbr.size
        have hnm : j + 1 ≤ maxLen := by unfold maxLen; omega
        go_wp2_with fail
        go_region_law (refine step_append_own rfl (.tmp 28) (.tmp 43) 22 rfl wa.heap.size 5 Try.info5 rfl Try.underlying22 _ _ _ _ rfl (World.ownsRow.drew (hown.alloc _)) ⟨wr.heap.size, 0, none⟩ 1 1 [.int .u8 (v : Int)] rfl rfl (fun i u hu => cell_one_new wr _ _ i u hu) (ints_oneCell .u8 [(v : Int)]) (by decide) (by omega) (by omega) (by simp; omega) ?_; intro ag2 c2 w2 hown2 hb2)
        all_goals
          have hb3 : Below wa.heap.size wa w2 := Below.trans (Below.drew (hbr.alloc hbs _)) (by assumption)
          go_wp2
          go_roundw
          case rel =>
            refine ⟨j + 1, _, _, by omega, by go_num, rfl, ?_, hb3⟩
            rw [HX.out, List.map_append]
            assumption
          case measure => simp [intOf]; omega
      · obtain rfl : j = n := by omega
        have qX := Reads.own hown
        obtain ⟨x0, hs0, hr0⟩ := Reads.to (P := Try.prog) (t := 22) Try.underlying22 (size_of Try.info5) (ao := a0) (len := len0) (cap := cap0) q0.le j n0
        obtain ⟨x1, hs1, hr1⟩ := Reads.to (P := Try.prog) (t := 22) Try.underlying22 (size_of Try.info5) (ao := a1) (len := len1) (cap := cap1) q1.le j n1
        obtain ⟨x2, hs2, hr2⟩ := Reads.to (P := Try.prog) (t := 22) Try.underlying22 (size_of Try.info5) (ao := a2) (len := len2) (cap := cap2) q2.le j n2
        have cX : OfIs wr (.slice ag j c) (ofL (xor3 (z0.take j) (z1.take j) (z2.take j))) := ofIs qX (xor3_bytes _ _ _ (h80.take j) (h81.take j) (h82.take j))
        have c0 : OfIs wr (.slice x0 j cap0) (ofL (z0.take j)) := ofIs (by rw [List.map_take]; exact hr0 _ _ (q0.later hbr (Nat.le_refl _))) (h80.take j)
        have c1 : OfIs wr (.slice x1 j cap1) (ofL (z1.take j)) := ofIs (by rw [List.map_take]; exact hr1 _ _ (q1.later hbr (Nat.le_refl _))) (h81.take j)
        have c2 : OfIs wr (.slice x2 j cap2) (ofL (z2.take j)) := ofIs (by rw [List.map_take]; exact hr2 _ _ (q2.later hbr (Nat.le_refl _))) (h82.take j)
        have HL : Hid _ := of_linear (l := z0.take j) (bs := z1.take j) (cs := z2.take j) (by simp; omega) (by simp; omega) (h80.take j) (h81.take j) (h82.take j) (xor3_bytes _ _ _ (h80.take j) (h81.take j) (h82.take j))
        rw [HL.out] at cX
        have l0 : ofL (z0.take j) < 4294967296 := more_lt _ _
        have l1 : ofL (z1.take j) < 4294967296 := more_lt _ _
        have l2 : ofL (z2.take j) < 4294967296 := more_lt _ _
        generalize ofL (z0.take j) = A at *
        generalize ofL (z1.take j) = B at *
        generalize ofL (z2.take j) = C at *
        have e1 := u32_xor_nat A B l0 l1
        have e2 := u32_xor_nat (A ^^^ B) C (Nat.xor_lt_two_pow (n := 32) l0 l1) l2
        have hbw := Grow.trans hb1 hbr
        clear HL hr0 hr1 hr2 l0 l1 l2 qX q0 q1 q2 r0 r1 r2 f0 f1 f2 h80 h81 h82 hown hb1 hbr
        go_wp2_with fail
        first | go_region_held (fun W => Below wr.heap.size wr W) (first | exact Below.refl _ _ | exact Below.drew (Below.refl _ _) | assumption | exact Grow.trans (by assumption) (by assumption)) (first | (go_at_call 9; refine (OfIs.out (w0 := wr) (by assumption) _ (by first | assumption | exact Below.refl _ _ | exact Below.drew (Below.refl _ _))).mono ?_; rintro e w' ⟨rfl, hb⟩)) | fail
        all_goals
          go_wp2
          go_ret
          exact ⟨rfl, Grow.trans hbw (by assumption)⟩

set_option maxRecDepth 100000 in
theorem lifted (os : Os) (started : os.Started) (H : Type) (enc : TypeId × Value → H) :
    ReturnsInHanded {} Try.checked os 6 .any (Rows.crcLinearSpec.pre6 enc Try.prog Try.f6 Rows.crcLinearRow.domain false) (Rows.crcLinearSpec.post enc Try.prog Try.f6 false true false false) := by
  refine returnsInHanded_of_change_sized (C := Try.checked) own started (by kernel_rfl) Try.func6
    (ChangeSpec.witness6 (enc := enc) (C := Try.checked) false ⟨#[], #[.slice none 0 0, .slice none 0 0, .slice none 0 0], []⟩ 8 (by kernel_rfl) (by kernel_rfl) (by kernel_rfl) (by kernel_rfl)) ?_
  intro W base args ds gs before hval0 hW hcnd hsz0 _
  have hsz : (DataW.weightsEach Try.prog (Try.f6.params.toList ++ Rows.crcLinearSpec.plain.varTypes Try.prog) (ds ++ gs)).all (· ≤ reachBytes) = true := hsz0
  clear hsz0
  have hval : ∀ (j : Nat) t v, Try.f6.params[j]? = some t → args[j]? = some v → Value.okWide Try.prog W .any base t v := hval0
  have hW' := hW
  obtain ⟨p, q, hA0, hV, rfl, hfz, hnd⟩ := hW
  have hA : DataW.TrodAll enc Try.prog W 0 (fun _ => true) true Try.f6.params.toList args.toList ds p := hA0
  rw [Try.params6] at hA hval hsz
  obtain ⟨v0, vs0, d0, ds0, p0, q0, hargs, rfl, rfl, h0, rr0⟩ := trodAll_cons hA
  obtain ⟨v1, vs1, d1, ds1, p1, q1, rfl, rfl, rfl, h1, rr1⟩ := trodAll_cons rr0
  obtain ⟨v2, vs2, d2, ds2, p2, q2, rfl, rfl, rfl, h2, rr2⟩ := trodAll_cons rr1
  obtain ⟨rfl, rfl, rfl⟩ := trodAll_nil rr2
  obtain rfl : args = #[v0, v1, v2] := by cases args; simp_all
  obtain ⟨rfl, rfl⟩ := trodVars_none hV
  obtain ⟨a0, len0, cap0, rfl⟩ := okWide_slice Try.underlying22 (hval 0 22 v0 rfl rfl)
  have k0 := h0
  have lt0 : ∀ x ∈ p0, x.block < W.heap.size := by obtain ⟨m, hm⟩ := k0; exact DataW.trod_lt m _ _ _ hm
  obtain ⟨z0, r0, f0, b0⟩ := slice_in Try.underlying22 Try.underlying5 (by kernel_rfl) (B := 1) (by kernel_rfl) hsz (j := 0) rfl rfl h0
  obtain ⟨a1, len1, cap1, rfl⟩ := okWide_slice Try.underlying22 (hval 1 22 v1 rfl rfl)
  have k1 := h1
  have lt1 : ∀ x ∈ p1, x.block < W.heap.size := by obtain ⟨m, hm⟩ := k1; exact DataW.trod_lt m _ _ _ hm
  obtain ⟨z1, r1, f1, b1⟩ := slice_in Try.underlying22 Try.underlying5 (by kernel_rfl) (B := 1) (by kernel_rfl) hsz (j := 1) rfl rfl h1
  obtain ⟨a2, len2, cap2, rfl⟩ := okWide_slice Try.underlying22 (hval 2 22 v2 rfl rfl)
  have k2 := h2
  have lt2 : ∀ x ∈ p2, x.block < W.heap.size := by obtain ⟨m, hm⟩ := k2; exact DataW.trod_lt m _ _ _ hm
  obtain ⟨z2, r2, f2, b2⟩ := slice_in Try.underlying22 Try.underlying5 (by kernel_rfl) (B := 1) (by kernel_rfl) hsz (j := 2) rfl rfl h2
  clear hA0 hval0
  refine (walk W a0 len0 cap0 z0 r0 f0 b0 a1 len1 cap1 z1 r1 f1 b1 a2 len2 cap2 z2 r2 f2 b2).mono fun e W' ⟨he, bel⟩ => ?_
  subst he
  exact ⟨_, rfl, _, _, _, [], _, [], hW', trodAll_mk1 (shut_bool Try.underlying4 _), (trodAll_cons_mk (Below.trod laidOut (by kernel_rfl) (of_decide_eq_true (by kernel_rfl)) k0 bel lt0) (trodAll_cons_mk (Below.trod laidOut (by kernel_rfl) (of_decide_eq_true (by kernel_rfl)) k1 bel lt1) (trodAll_cons_mk (Below.trod laidOut (by kernel_rfl) (of_decide_eq_true (by kernel_rfl)) k2 bel lt2) trodAll_mk0))), rfl, bel.frame _, fun h => by cases h⟩

theorem over : Rows.crcLinearRow.holds Try.pinned (OpenSpec.ofChange Rows.crcLinearSpec) :=
  OpenClaim.holds_of_wide 6 Try.f6 rfl rfl rfl rfl rfl rfl rfl ⟨rfl, rfl, rfl, rfl, rfl⟩ rfl rfl rfl rfl rfl (by kernel_rfl) Try.func6 (by kernel_rfl)
    (of_decide_eq_true (by kernel_rfl)) (by unfold Func.isWrapper; first | (rw [if_pos (by decide +kernel)]; kernel_rfl) | (rw [if_neg (by decide +kernel)]; exact ⟨rfl, rfl⟩))
    (fun os started H enc _ => lifted os started H enc)
end Go.Proofs.Ytffkdelnpnokjaa.crcLinear
namespace Go.Proofs.Ytffkdelnpnokjaa
theorem crcLinear_holds : Rows.CrcLinearSaid := crcLinear.over
#print axioms crcLinear_holds
end Go.Proofs.Ytffkdelnpnokjaa
