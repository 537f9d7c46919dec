/- For every input NumCuts answers true, and leaves its arguments as they were. Conditions: none. -/
import Derived.Test.YtnlgghfiddmfkaaRows
import Derived.Test.YtnlgghfiddmfkaaShown
import Derived.Test.YtnlgghfiddmfkaaOpen
import Derived.Test.YtnlgghfiddmfkaaCuts
import Derived.Test.YtnlgghfiddmfkaaMath
import Derived.ProofKit
import Derived.OpenShut
import Derived.ShutString
import Derived.ChangeOld
import Derived.SizedLaws
import Derived.Deep.RegionHeld3
namespace Go.Proofs.Ytnlgghfiddmfkaa.numCuts
open Go.ChangeShapes Go.WideShapes Go.ChangeAt Go.RowKit
open Go.ChangeMaps (open_string shut_string)
set_option linter.unusedVariables false

theorem own : ownKnob Try.prog.godebug = none := by kernel_rfl
theorem laidOut : laidOutB Try.prog = true := by kernel_rfl


set_option maxRecDepth 100000 in
set_option maxHeartbeats 4000000 in
theorem walk (w : World) (a0 : Int) (w0 : (Lit.int .u64 a0).wf = true) :
    Calls Try.prog 5 #[.int .u64 a0] w fun e w' => e = .returned (.bool true) ∧ Below w.heap.size w w' := by
  have g0 := bounds_u64 w0
  obtain ⟨n, rfl⟩ := Int.eq_ofNat_of_zero_le g0.1
  go_enter Try.func5, Try.ntmps5
  go_wp2_with fail
  refine (shown_any _).mono ?_
  rintro e wa ⟨rfl, hb1⟩
  go_wp2_with fail
  refine (put_any none 0 0 [] n _ (Reads.nil _) (by decide) (by omega)).mono ?_
  rintro e wb ⟨g, c, k, hk, rfl, hown, hb2⟩
  have Hk : Hid (k = (encode n).length) := by rw [hk, Nat.zero_add]; rfl
  clear hk
  have hb := Grow.trans hb1 hb2
  have rp := Reads.owned hown
  simp only [List.nil_append] at rp
  have lk := encode_len n
  have lk1 : 1 ≤ k := by have := Hk.out; omega
  have lk2 : k ≤ 10 := by have := Hk.out; omega
  clear lk
  go_wp2_with fail
  go_loop [5, 6, 7, 8] (fun i x y z => ∃ j : Nat, j ≤ k ∧ i = .int .i64 j) (fun i _ _ _ => k - (intOf i).toNat)
  case atStart => exact ⟨0, by omega, rfl⟩
  case round =>
    obtain ⟨j, hj, rfl⟩ := hrel
    by_cases hlt : (j : Int) < (k : Int)
    · obtain ⟨x, hs, hr⟩ := Reads.to (P := Try.prog) (t := 22) Try.underlying22 (size_of Try.info5) (ao := some ⟨g, 0, none⟩) (len := k) (cap := c) rp.le j (by omega)
      have hrr := hr wb _ rp
      rw [← List.map_take] at hrr
      have hb8 : isBytes ((encode n).take j) := fun z hz => encode_bytes n (by omega) z (List.mem_of_mem_take hz)
      have hgc : Hid _ := get_cut n j (by have := Hk.out; omega)
      clear hr
      go_wp2_with fail
      refine (get_any _ _ _ _ _ hrr hb8).mono ?_
      rintro e wc ⟨rfl, rfl⟩
      rw [hgc.out]
      unfold getV
      go_wp2
      go_round
      case rel => exact ⟨j + 1, by omega, by go_num⟩
      case measure => simp [intOf]; omega
    · have h1 := encode_one n
      by_cases hn : (n : Int) < 128
      · have hk1 : ((k : Int) == 1) = true := by have := Hk.out; simp; omega
        go_wp2
        go_ret
        exact ⟨rfl, hb⟩
      · have hk1 : ((k : Int) == 1) = false := by have := Hk.out; simp; omega
        go_wp2
        go_ret
        exact ⟨rfl, hb⟩

set_option maxRecDepth 100000 in
theorem lifted (os : Os) (started : os.Started) (H : Type) (enc : TypeId × Value → H) :
    ReturnsInHanded {} Try.checked os 5 .any (Rows.numCutsSpec.pre6 enc Try.prog Try.f5 Rows.numCutsRow.domain false) (Rows.numCutsSpec.post enc Try.prog Try.f5 false true false false) := by
  refine returnsInHanded_of_change_sized (C := Try.checked) own started (by kernel_rfl) Try.func5
    (ChangeSpec.witness6 (enc := enc) (C := Try.checked) false ⟨#[], #[.int .u64 0], []⟩ 8 (by kernel_rfl) (by kernel_rfl) (by kernel_rfl) (by kernel_rfl)) ?_
  intro W base args ds gs before hval0 hW hcnd hsz0 _
  have hsz : (DataW.weightsEach Try.prog (Try.f5.params.toList ++ Rows.numCutsSpec.plain.varTypes Try.prog) (ds ++ gs)).all (· ≤ reachBytes) = true := hsz0
  clear hsz0
  have hval : ∀ (j : Nat) t v, Try.f5.params[j]? = some t → args[j]? = some v → Value.okWide Try.prog W .any base t v := hval0
  have hW' := hW
  obtain ⟨p, q, hA0, hV, rfl, hfz, hnd⟩ := hW
  have hA : DataW.TrodAll enc Try.prog W 0 (fun _ => true) true Try.f5.params.toList args.toList ds p := hA0
  rw [Try.params5] at hA hval hsz
  obtain ⟨v0, vs0, d0, ds0, p0, q0, hargs, rfl, rfl, h0, rr0⟩ := trodAll_cons hA
  obtain ⟨rfl, rfl, rfl⟩ := trodAll_nil rr0
  obtain rfl : args = #[v0] := by cases args; simp_all
  obtain ⟨rfl, rfl⟩ := trodVars_none hV
  obtain ⟨a0, rfl, rfl, rfl, w0⟩ := open_int Try.underlying23 (hval 0 23 v0 rfl rfl) h0
  clear hA0 hval0
  refine (walk W a0 w0).mono fun e W' ⟨he, bel⟩ => ?_
  subst he
  exact ⟨_, rfl, _, _, _, [], _, [], hW', trodAll_mk1 (shut_bool Try.underlying4 _), (trodAll_cons_mk (shut_int Try.underlying23 w0) trodAll_mk0), rfl, bel.frame _, fun h => by cases h⟩

theorem over : Rows.numCutsRow.holds Try.pinned (OpenSpec.ofChange Rows.numCutsSpec) :=
  OpenClaim.holds_of_wide 5 Try.f5 rfl rfl rfl rfl rfl rfl rfl ⟨rfl, rfl, rfl, rfl, rfl⟩ rfl rfl rfl rfl rfl (by kernel_rfl) Try.func5 (by kernel_rfl)
    (of_decide_eq_true (by kernel_rfl)) (by unfold Func.isWrapper; first | (rw [if_pos (by decide +kernel)]; kernel_rfl) | (rw [if_neg (by decide +kernel)]; exact ⟨rfl, rfl⟩))
    (fun os started H enc _ => lifted os started H enc)
end Go.Proofs.Ytnlgghfiddmfkaa.numCuts
namespace Go.Proofs.Ytnlgghfiddmfkaa
theorem numCuts_holds : Rows.NumCutsSaid := numCuts.over
#print axioms numCuts_holds
end Go.Proofs.Ytnlgghfiddmfkaa
