/- For every input NumJoins answers true, and leaves its arguments as they were. Conditions: none. -/
import Derived.Test.YtnlgghfiddmfkaaRows
import Derived.Test.YtnlgghfiddmfkaaShown
import Derived.Test.YtnlgghfiddmfkaaOpen
import Derived.Test.YtnlgghfiddmfkaaCuts
import Derived.Test.YtnlgghfiddmfkaaMath
import Derived.ProofKit
import Derived.OpenShut
import Derived.ShutString
import Derived.ChangeOld
import Derived.SizedLaws
import Derived.Deep.RegionHeld
import Derived.Deep.QuietTactic
import Derived.BigQuiet
namespace Go.Proofs.Ytnlgghfiddmfkaa.numJoins
open Go.ChangeShapes Go.WideShapes Go.ChangeAt Go.RowKit
open Go.ChangeMaps (open_string shut_string)
set_option linter.unusedVariables false

theorem own : ownKnob Try.prog.godebug = none := by kernel_rfl
theorem laidOut : laidOutB Try.prog = true := by kernel_rfl

def cat (l : List Int) : List Int := l.flatMap fun z => encode z.toNat
theorem cat_snoc (l : List Int) (j : Nat) (h : j < l.length) : cat (l.take (j + 1)) = cat (l.take j) ++ encode (l[j]).toNat := by
  unfold cat
  rw [List.take_succ_eq_append_getElem h, List.flatMap_append]
  simp
theorem cat_drop (l : List Int) (j : Nat) (h : j < l.length) : cat (l.drop j) = encode (l[j]).toNat ++ cat (l.drop (j + 1)) := by
  unfold cat
  rw [List.drop_eq_getElem_cons h, List.flatMap_cons]
theorem cat_bytes (l : List Int) (h : ∀ z ∈ l, 0 ≤ z ∧ z ≤ 18446744073709551615) : isBytes (cat l) := by
  intro z hz
  unfold cat at hz
  obtain ⟨y, hy, hz⟩ := List.mem_flatMap.1 hz
  have := h y hy
  exact encode_bytes y.toNat (by omega) z hz
theorem cat_len (l : List Int) : (cat l).length ≤ 10 * l.length := by
  induction l with
  | nil => simp [cat]
  | cons z l ih =>
    have := encode_len z.toNat
    unfold cat at ih ⊢
    simp only [List.flatMap_cons, List.length_append, List.length_cons]
    omega

set_option maxRecDepth 100000 in
set_option maxHeartbeats 4000000 in
theorem walk (w : World) (a0 : Option Addr) (len0 cap0 : Nat) (z0 : List Int) (r0 : Reads w a0 len0 cap0 (z0.map (.int .u64))) (f0 : ∀ z ∈ z0, (Lit.int .u64 z).wf = true) (b0 : len0 * 8 ≤ 140737488351232) :
    Calls Try.prog 7 #[.slice a0 len0 cap0] w fun e w' => e = .returned (.bool true) ∧ Below w.heap.size w w' := by
  have hl0 : z0.length = len0 := by simpa using r0.length
  have hu : ∀ z ∈ z0.take 100, 0 ≤ z ∧ z ≤ 18446744073709551615 := fun z hz => bounds_u64 (f0 z (List.mem_of_mem_take hz))
  have hLl : (z0.take 100).length = min 100 len0 := by simp [hl0]
  generalize hLe : z0.take 100 = L at hu hLl
  have hcl : ∀ j, (cat (L.take j)).length ≤ 1000 := fun j => by
    have := cat_len (L.take j)
    have h2 : (L.take j).length ≤ L.length := by simp; omega
    omega
  have Hcl : Hid _ := hcl
  have Hu : Hid _ := hu
  have HLl : Hid _ := hLl
  have hel : ∀ j (h : j < L.length), z0.getD j 0 = L[j] := by
    intro j h
    subst hLe
    simp at h
    simp [List.getD, List.getElem?_eq_getElem (show j < z0.length by omega)]
  have Hel : Hid _ := hel
  clear hcl hu hLl hel hLe
  go_enter Try.func7, Try.ntmps7
  go_wp2_with fail
  refine (shown_any _).mono ?_
  rintro e wa ⟨rfl, hb1⟩
  go_wp2_with fail
  go_loopw [4, 5] (fun v i wr => ∃ (j : Nat) (ao : Option Addr) (n c : Nat), v = .slice ao n c ∧ i = .int .i64 j ∧ j ≤ L.length ∧ Reads wr ao n c ((cat (L.take j)).map (.int .u8)) ∧ Below w.heap.size w wr) (fun _ i _ => 100 - (intOf i).toNat)
  case atStart => exact ⟨0, none, 0, 0, rfl, rfl, by omega, by simpa [cat] using Reads.nil wa, hb1⟩
  case round =>
    obtain ⟨j, ao, n, c, rfl, rfl, hj, hr, hb⟩ := hrel
    have hLl := HLl.out
    have hn : n ≤ 1000 := by have := hr.length; have := Hcl.out j; simp at *; omega
    by_cases hlt : j < L.length
    · have h1 : (j : Int) < (len0 : Int) := by omega
      have h2 : (j : Int) < 100 := by omega
      obtain ⟨b, off, rfl, hbl, hc⟩ := r0.at (by omega)
      have hcj := hc j (by omega)
      rw [Hel.out j hlt] at hcj
      have hz := Hu.out (L[j]) (List.getElem_mem hlt)
      have hsn : Hid _ := cat_snoc L j hlt
      generalize L[j] = z at hcj hz hsn
      obtain ⟨m, rfl⟩ := Int.eq_ofNat_of_zero_le hz.1
      have hcj' : wr.cell? ⟨b, off + j, none⟩ = some (.int .u64 (m : Int)) := by rw [hb.cell (by exact hbl)]; exact hcj
      clear hcj hc hLl
      go_wp2_with fail
      refine (put_any ao n c _ m _ hr (by omega) (by omega)).mono ?_
      rintro e wb ⟨g, c', k, hk, rfl, hown, hb2⟩
      have Hk : Hid _ := hk
      clear hk
      go_wp2
      go_roundw
      case rel => exact ⟨j + 1, _, _, _, rfl, by go_num, hlt, by rw [hsn.out]; exact Reads.owned hown, Grow.trans hb hb2⟩
      case measure => simp [intOf]; omega
    · have hjL : j = L.length := by omega
      rw [hjL, List.take_of_length_le (Nat.le_refl _)] at hr
      obtain ⟨wz, rfl⟩ : ∃ wz : World, wz = wr := ⟨_, rfl⟩
      have h1 : (j : Int) < (len0 : Int) ∧ ¬ (j : Int) < 100 ∨ ¬ (j : Int) < (len0 : Int) := by omega
      clear hlt hLl hjL hj
      rcases h1 with ⟨h1, h2⟩ | h1
      all_goals
        go_wp2_with fail
        go_loopw [4, 6, 7, 8, 9] (fun v i x y z wr => ∃ (q : Nat) (ao : Option Addr) (n c : Nat), v = .slice ao n c ∧ i = .int .i64 q ∧ q ≤ L.length ∧ Reads wr ao n c ((cat (L.drop q)).map (.int .u8)) ∧ Below w.heap.size w wr) (fun _ i _ _ _ _ => 100 - (intOf i).toNat)
        case atStart => exact ⟨0, _, _, _, rfl, rfl, by omega, by simpa using hr, hb⟩
        case round =>
          clear hr hb
          obtain ⟨q, ao, n, c, rfl, rfl, hq, hr, hb⟩ := hrel
          have hLl := HLl.out
          have hlen := hr.length
          simp only [List.length_map] at hlen
          have Hlen : Hid _ := hlen
          by_cases hlt : q < L.length
          · have g1 : (q : Int) < (len0 : Int) := by omega
            have g2 : (q : Int) < 100 := by omega
            obtain ⟨b, off, rfl, hbl, hc⟩ := r0.at (by omega)
            have hcj := hc q (by omega)
            rw [Hel.out q hlt] at hcj
            have hz := Hu.out (L[q]) (List.getElem_mem hlt)
            have hsn := cat_drop L q hlt
            generalize L[q] = z at hcj hz hsn
            obtain ⟨m, rfl⟩ := Int.eq_ofNat_of_zero_le hz.1
            rw [Int.toNat_natCast] at hsn
            have hcj' : wr.cell? ⟨b, off + q, none⟩ = some (.int .u64 (m : Int)) := by rw [hb.cell (by exact hbl)]; exact hcj
            have hgb : Hid _ := get_back m (cat (L.drop (q + 1))) (by omega)
            rw [hsn] at hr hlen
            have hb8 : isBytes (encode m ++ cat (L.drop (q + 1))) := by rw [← hsn]; exact cat_bytes _ fun z hz => Hu.out z (List.mem_of_mem_drop hz)
            have hem : (encode m).length ≤ n := by simp at hlen; omega
            obtain ⟨x, hs, hrr⟩ := Reads.from (P := Try.prog) (t := 22) Try.underlying22 (size_of Try.info5) (ao := ao) (len := n) (cap := c) (encode m).length hem
            have hr2 := hrr wr _ hr
            rw [← List.map_drop, List.drop_left] at hr2
            generalize hke : (encode m).length = k at hs hr2 hgb hem
            clear hcj hc hLl hsn hrr hlen hke
            go_wp2_with fail
            refine (get_any _ _ _ _ _ hr hb8).mono ?_
            rintro e wb ⟨rfl, rfl⟩
            rw [hgb.out]
            unfold getV
            go_wp2
            go_roundw
            case rel => exact ⟨q + 1, _, _, _, rfl, by go_num, hlt, hr2, hb⟩
            case measure => simp [intOf]; omega
          · have hqL : L.drop q = [] := List.drop_eq_nil_of_le (by omega)
            have hn0 : n = 0 := by have := Hlen.out; rw [hqL] at this; simp [cat] at this; omega
            subst hn0
            have h3 : (q : Int) < (len0 : Int) ∧ ¬ (q : Int) < 100 ∨ ¬ (q : Int) < (len0 : Int) := by omega
            clear hlt hLl hqL hr
            rcases h3 with ⟨h3, h4⟩ | h3
            all_goals
              go_wp2
              go_ret
              exact ⟨rfl, hb⟩

set_option maxRecDepth 100000 in
theorem lifted (os : Os) (started : os.Started) (H : Type) (enc : TypeId × Value → H) :
    ReturnsInHanded {} Try.checked os 7 .any (Rows.numJoinsSpec.pre6 enc Try.prog Try.f7 Rows.numJoinsRow.domain false) (Rows.numJoinsSpec.post enc Try.prog Try.f7 false true false false) := by
  refine returnsInHanded_of_change_sized (C := Try.checked) own started (by kernel_rfl) Try.func7
    (ChangeSpec.witness6 (enc := enc) (C := Try.checked) false ⟨#[], #[.slice none 0 0], []⟩ 8 (by kernel_rfl) (by kernel_rfl) (by kernel_rfl) (by kernel_rfl)) ?_
  intro W base args ds gs before hval0 hW hcnd hsz0 _
  have hsz : (DataW.weightsEach Try.prog (Try.f7.params.toList ++ Rows.numJoinsSpec.plain.varTypes Try.prog) (ds ++ gs)).all (· ≤ reachBytes) = true := hsz0
  clear hsz0
  have hval : ∀ (j : Nat) t v, Try.f7.params[j]? = some t → args[j]? = some v → Value.okWide Try.prog W .any base t v := hval0
  have hW' := hW
  obtain ⟨p, q, hA0, hV, rfl, hfz, hnd⟩ := hW
  have hA : DataW.TrodAll enc Try.prog W 0 (fun _ => true) true Try.f7.params.toList args.toList ds p := hA0
  rw [Try.params7] at hA hval hsz
  obtain ⟨v0, vs0, d0, ds0, p0, q0, hargs, rfl, rfl, h0, rr0⟩ := trodAll_cons hA
  obtain ⟨rfl, rfl, rfl⟩ := trodAll_nil rr0
  obtain rfl : args = #[v0] := by cases args; simp_all
  obtain ⟨rfl, rfl⟩ := trodVars_none hV
  obtain ⟨a0, len0, cap0, rfl⟩ := okWide_slice Try.underlying37 (hval 0 37 v0 rfl rfl)
  have k0 := h0
  have lt0 : ∀ x ∈ p0, x.block < W.heap.size := by obtain ⟨m, hm⟩ := k0; exact DataW.trod_lt m _ _ _ hm
  obtain ⟨z0, r0, f0, b0⟩ := slice_in Try.underlying37 Try.underlying23 (by kernel_rfl) (B := 8) (by kernel_rfl) hsz (j := 0) rfl rfl h0
  clear hA0 hval0
  refine (walk W a0 len0 cap0 z0 r0 f0 b0).mono fun e W' ⟨he, bel⟩ => ?_
  subst he
  exact ⟨_, rfl, _, _, _, [], _, [], hW', trodAll_mk1 (shut_bool Try.underlying4 _), (trodAll_cons_mk (Below.trod laidOut (by kernel_rfl) (of_decide_eq_true (by kernel_rfl)) k0 bel lt0) trodAll_mk0), rfl, bel.frame _, fun h => by cases h⟩

theorem over : Rows.numJoinsRow.holds Try.pinned (OpenSpec.ofChange Rows.numJoinsSpec) :=
  OpenClaim.holds_of_wide 7 Try.f7 rfl rfl rfl rfl rfl rfl rfl ⟨rfl, rfl, rfl, rfl, rfl⟩ rfl rfl rfl rfl rfl (by kernel_rfl) Try.func7 (by kernel_rfl)
    (of_decide_eq_true (by kernel_rfl)) (by unfold Func.isWrapper; first | (rw [if_pos (by decide +kernel)]; kernel_rfl) | (rw [if_neg (by decide +kernel)]; exact ⟨rfl, rfl⟩))
    (fun os started H enc _ => lifted os started H enc)
end Go.Proofs.Ytnlgghfiddmfkaa.numJoins
namespace Go.Proofs.Ytnlgghfiddmfkaa
theorem numJoins_holds : Rows.NumJoinsSaid := numJoins.over
#print axioms numJoins_holds
end Go.Proofs.Ytnlgghfiddmfkaa
