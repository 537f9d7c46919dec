/- For every input NumHeads answers true, and leaves its arguments as they were. Conditions: none. -/
import Derived.Test.YtnlgghfiddmfkaaRows
import Derived.Test.YtnlgghfiddmfkaaShown
import Derived.Test.YtnlgghfiddmfkaaOpen
import Derived.Test.YtnlgghfiddmfkaaCuts
import Derived.Test.YtnlgghfiddmfkaaMath
import Derived.ProofKit
import Derived.OpenShut
import Derived.ShutString
import Derived.ChangeOld
import Derived.SizedLaws
import Derived.Deep.RegionHeld3
namespace Go.Proofs.Ytnlgghfiddmfkaa.numHeads
open Go.ChangeShapes Go.WideShapes Go.ChangeAt Go.RowKit
open Go.ChangeMaps (open_string shut_string)
set_option linter.unusedVariables false

theorem own : ownKnob Try.prog.godebug = none := by kernel_rfl
theorem laidOut : laidOutB Try.prog = true := by kernel_rfl

theorem byte_at {n k : Nat} (Hk : Hid (k = (encode n).length)) (j : Nat) (hn : n < 18446744073709551616) (hj : j < k) : ∃ c : Nat, (encode n)[j]? = some (c : Int) ∧ c ≤ 255 ∧ (128 ≤ c ↔ j + 1 < k) := by
  have hk := Hk.out
  obtain ⟨c, hc, h8⟩ := (encode_bytes n hn).get j
  have := enc_heads 9 n j (by simp [lim]; omega) (by unfold encode at hk; omega)
  refine ⟨c, ?_, h8, ?_⟩
  · rw [← hc]; simp [List.getD, List.getElem?_eq_getElem (show j < (encode n).length by omega)]
  · rw [hk]
    unfold encode at hc ⊢
    rw [hc] at this
    omega
theorem str_ne (a b : Nat) (ha : a < 18446744073709551616) (hb : b < 18446744073709551616) (h : a ≠ b) : ((strOfNums (encode a)).toList == (strOfNums (encode b)).toList) = false := by
  rw [str_beq (encode_bytes a ha) (encode_bytes b hb)]
  exact decide_eq_false fun e => h (encode_inj ha hb e)

set_option maxRecDepth 100000 in
set_option maxHeartbeats 4000000 in
theorem walk (w : World) (a0 : Int) (w0 : (Lit.int .u64 a0).wf = true) (a1 : Int) (w1 : (Lit.int .u64 a1).wf = true) :
    Calls Try.prog 8 #[.int .u64 a0, .int .u64 a1] w fun e w' => e = .returned (.bool true) ∧ Below w.heap.size w w' := by
  have g0 := bounds_u64 w0
  have g1 := bounds_u64 w1
  obtain ⟨x, rfl⟩ := Int.eq_ofNat_of_zero_le g0.1
  obtain ⟨y, rfl⟩ := Int.eq_ofNat_of_zero_le g1.1
  obtain ⟨a, b, hb64, hle, hxy⟩ : ∃ a b : Nat, b < 18446744073709551616 ∧ a ≤ b ∧ ((x = b ∧ y = a ∧ a < b) ∨ (x = a ∧ y = b ∧ a < b) ∨ (x = a ∧ y = a ∧ a = b)) := by
    rcases Nat.lt_trichotomy x y with h | h | h
    · exact ⟨x, y, by omega, by omega, Or.inr (Or.inl ⟨rfl, rfl, h⟩)⟩
    · exact ⟨x, y, by omega, by omega, Or.inr (Or.inr ⟨rfl, h.symm, h⟩)⟩
    · exact ⟨y, x, by omega, by omega, Or.inl ⟨rfl, rfl, h⟩⟩
  have hmono : Hid ((encode a).length ≤ (encode b).length) := enc_mono 9 a b hle
  rcases hxy with ⟨rfl, rfl, hlt⟩ | ⟨rfl, rfl, hlt⟩ | ⟨rfl, rfl, hlt⟩
  case' inr.inr => subst hlt
  case' inl => have hne := str_ne y x (by omega) (by omega) (by omega); have hxe : ((x : Int) == (y : Int)) = false := by simp; omega
  case' inr.inl => have hne := str_ne x y (by omega) (by omega) (by omega); have hxe : ((x : Int) == (y : Int)) = false := by simp; omega
  all_goals
    clear hle
    try have hnlt := Nat.lt_asymm hlt
    go_enter Try.func8, Try.ntmps8
    go_wp2_with fail
    refine (shown_any _).mono ?_
    rintro e wa ⟨rfl, hb1⟩
    go_wp2_with fail
    refine (put_any none 0 0 [] _ _ (Reads.nil _) (by decide) (by omega)).mono ?_
    rintro e wb ⟨g, c, k, hk, rfl, hown, hb2⟩
    rw [Nat.zero_add] at hk
    have Hk : Hid _ := hk
    clear hk
    go_wp2_with fail
    refine (put_any none 0 0 [] _ _ (Reads.nil _) (by decide) (by omega)).mono ?_
    rintro e wc ⟨g', c', k', hk, rfl, hown', hb3⟩
    rw [Nat.zero_add] at hk
    have Hk' : Hid _ := hk
    clear hk
    have lk : k ≤ k' := by rw [Hk.out, Hk'.out]; exact hmono.out
    have lk1 : 1 ≤ k := by rw [Hk.out]; exact (encode_len _).1
    have lk2 : k ≤ 10 := by rw [Hk.out]; exact (encode_len _).2
    have lk3 : k' ≤ 10 := by rw [Hk'.out]; exact (encode_len _).2
    have hb := Grow.trans (Grow.trans hb1 hb2) hb3
    have rp := (Reads.owned hown).later hb3 (Nat.le_refl _)
    have rq := Reads.owned hown'
    simp only [List.nil_append] at rp rq
    have hc1 := conv_of Try.underlying22 Try.underlying5 Try.underlying9 rp
    have hc2 := conv_of Try.underlying22 Try.underlying5 Try.underlying9 rq
    go_wp2_with fail
    go_loop [8] (fun i => ∃ j : Nat, j ≤ k ∧ i = .int .i64 j) (fun i => k - (intOf i).toNat)
    case atStart => exact ⟨0, by omega, rfl⟩
    case round =>
      obtain ⟨j, hj, rfl⟩ := hrel
      by_cases hjk : (j : Int) < (k : Int)
      · have hcell := rp.cell _ rfl
        obtain ⟨cc, hcc, hc8, hhd⟩ := byte_at Hk j (by omega) (by omega)
        have hcj : wc.cell? ⟨g, 0 + j, none⟩ = some (.int .u8 (cc : Int)) := by
          have := hcell j (.int .u8 (cc : Int)) (by rw [List.getElem?_map, hcc]; rfl)
          rwa [Addr.add_lit] at this
        rw [Nat.zero_add] at hcj
        clear hcell hcc
        by_cases hend : (128 : Int) ≤ (cc : Int)
        · have h2 : (j : Int) < (k : Int) - 1 := by omega
          go_wp2
          go_round
          case rel => exact ⟨j + 1, by omega, by go_num⟩
          case measure => simp [intOf]; omega
        · have h2 : ¬ (j : Int) < (k : Int) - 1 := by omega
          go_wp2
          go_round
          case rel => exact ⟨j + 1, by omega, by go_num⟩
          case measure => simp [intOf]; omega
      · go_wp2
        go_ret
        exact ⟨rfl, hb⟩

set_option maxRecDepth 100000 in
theorem lifted (os : Os) (started : os.Started) (H : Type) (enc : TypeId × Value → H) :
    ReturnsInHanded {} Try.checked os 8 .any (Rows.numHeadsSpec.pre6 enc Try.prog Try.f8 Rows.numHeadsRow.domain false) (Rows.numHeadsSpec.post enc Try.prog Try.f8 false true false false) := by
  refine returnsInHanded_of_change_sized (C := Try.checked) own started (by kernel_rfl) Try.func8
    (ChangeSpec.witness6 (enc := enc) (C := Try.checked) false ⟨#[], #[.int .u64 0, .int .u64 0], []⟩ 8 (by kernel_rfl) (by kernel_rfl) (by kernel_rfl) (by kernel_rfl)) ?_
  intro W base args ds gs before hval0 hW hcnd hsz0 _
  have hsz : (DataW.weightsEach Try.prog (Try.f8.params.toList ++ Rows.numHeadsSpec.plain.varTypes Try.prog) (ds ++ gs)).all (· ≤ reachBytes) = true := hsz0
  clear hsz0
  have hval : ∀ (j : Nat) t v, Try.f8.params[j]? = some t → args[j]? = some v → Value.okWide Try.prog W .any base t v := hval0
  have hW' := hW
  obtain ⟨p, q, hA0, hV, rfl, hfz, hnd⟩ := hW
  have hA : DataW.TrodAll enc Try.prog W 0 (fun _ => true) true Try.f8.params.toList args.toList ds p := hA0
  rw [Try.params8] at hA hval hsz
  obtain ⟨v0, vs0, d0, ds0, p0, q0, hargs, rfl, rfl, h0, rr0⟩ := trodAll_cons hA
  obtain ⟨v1, vs1, d1, ds1, p1, q1, rfl, rfl, rfl, h1, rr1⟩ := trodAll_cons rr0
  obtain ⟨rfl, rfl, rfl⟩ := trodAll_nil rr1
  obtain rfl : args = #[v0, v1] := by cases args; simp_all
  obtain ⟨rfl, rfl⟩ := trodVars_none hV
  obtain ⟨a0, rfl, rfl, rfl, w0⟩ := open_int Try.underlying23 (hval 0 23 v0 rfl rfl) h0
  obtain ⟨a1, rfl, rfl, rfl, w1⟩ := open_int Try.underlying23 (hval 1 23 v1 rfl rfl) h1
  clear hA0 hval0
  refine (walk W a0 w0 a1 w1).mono fun e W' ⟨he, bel⟩ => ?_
  subst he
  exact ⟨_, rfl, _, _, _, [], _, [], hW', trodAll_mk1 (shut_bool Try.underlying4 _), (trodAll_cons_mk (shut_int Try.underlying23 w0) (trodAll_cons_mk (shut_int Try.underlying23 w1) trodAll_mk0)), rfl, bel.frame _, fun h => by cases h⟩

theorem over : Rows.numHeadsRow.holds Try.pinned (OpenSpec.ofChange Rows.numHeadsSpec) :=
  OpenClaim.holds_of_wide 8 Try.f8 rfl rfl rfl rfl rfl rfl rfl ⟨rfl, rfl, rfl, rfl, rfl⟩ rfl rfl rfl rfl rfl (by kernel_rfl) Try.func8 (by kernel_rfl)
    (of_decide_eq_true (by kernel_rfl)) (by unfold Func.isWrapper; first | (rw [if_pos (by decide +kernel)]; kernel_rfl) | (rw [if_neg (by decide +kernel)]; exact ⟨rfl, rfl⟩))
    (fun os started H enc _ => lifted os started H enc)
end Go.Proofs.Ytnlgghfiddmfkaa.numHeads
namespace Go.Proofs.Ytnlgghfiddmfkaa
theorem numHeads_holds : Rows.NumHeadsSaid := numHeads.over
#print axioms numHeads_holds
end Go.Proofs.Ytnlgghfiddmfkaa
