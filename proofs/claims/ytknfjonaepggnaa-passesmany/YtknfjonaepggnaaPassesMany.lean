/- For every input PassesMany answers true, and leaves its arguments as they were. Conditions: none. -/
import Derived.Test.YtknfjonaepggnaaRows
import Derived.Test.YtknfjonaepggnaaShown12
import Derived.Test.YtknfjonaepggnaaFound
import Derived.ProofKit
import Derived.OpenShut
import Derived.ShutString
import Derived.ChangeOld
import Derived.SizedLaws
import Derived.Deep.RegionHeld
import Derived.Deep.RegionHeld3
import Derived.Deep.QuietTactic
import Derived.BigQuiet
import Derived.Deep.Cut
import Derived.Deep.CutBlock
namespace Go.Proofs.Ytknfjonaepggnaa.passesMany
open Go.ChangeShapes Go.WideShapes Go.ChangeAt Go.RowKit
open Go.ChangeMaps (open_string shut_string)
set_option linter.unusedVariables false

theorem own : ownKnob Try.prog.godebug = none := by kernel_rfl
theorem laidOut : laidOutB Try.prog = true := by kernel_rfl

theorem groups_of {n f : Nat} (h1 : 1 ≤ n) (h2 : n ≤ 65536) (h3 : 2 ≤ f) (h4 : f ≤ 8) : groupsZ n f = groupsL n f := by unfold groupsZ; rw [nat_fan h1 h2 h3 h4]; simp
theorem passes_of {n f : Nat} (h1 : 1 ≤ n) (h2 : n ≤ 65536) (h3 : 2 ≤ f) (h4 : f ≤ 8) : passesZ n f = passesN n f := by unfold passesZ; rw [nat_fan h1 h2 h3 h4]; simp

set_option maxRecDepth 100000 in
set_option maxHeartbeats 4000000 in
theorem walk (w : World) (a0 : Int) (w0 : (Lit.int .u16 a0).wf = true) (a1 : Int) (w1 : (Lit.int .u8 a1).wf = true) :
    Calls Try.prog 7 #[.int .u16 a0, .int .u8 a1] w fun e w' => e = .returned (.bool true) ∧ Below w.heap.size w w' := by
  obtain ⟨m, hm⟩ : ∃ m : Nat, a0 = m := Int.eq_ofNat_of_zero_le (by have := bounds_u16 w0; omega)
  obtain ⟨q, hq⟩ : ∃ q : Nat, a1 = q := Int.eq_ofNat_of_zero_le (by have := bounds_u8 w1; omega)
  subst hm
  subst hq
  have hm2 : m ≤ 65535 := by have := bounds_u16 w0; omega
  have hq2 : q ≤ 255 := by have := bounds_u8 w1; omega
  clear w0 w1
  obtain ⟨n, hn⟩ : ∃ n, n = 1 + m := ⟨_, rfl⟩
  obtain ⟨f, hf⟩ : ∃ f, f = 2 + q % 6 := ⟨_, rfl⟩
  have n1 : 1 ≤ n := by omega
  have n2 : n ≤ 65536 := by omega
  have f1 : 2 ≤ f := by omega
  have f2 : f ≤ 7 := by omega
  have e1 : (1 : Int) + m = (n : Nat) := by omega
  have e2 : (2 : Int) + (q : Int) % 6 = (f : Nat) := by omega
  have pg := fun W => groups_any (n : Nat) (f : Nat) W (by omega) (by omega) (by omega) (by omega)
  have pp := fun W => passes_any (n : Nat) (f : Nat) W (by omega) (by omega) (by omega) (by omega)
  obtain ⟨f9, hf9⟩ : ∃ f9, f9 = f + 1 := ⟨_, rfl⟩
  have pq := fun W => passes_any (n : Nat) (f9 : Nat) W (by omega) (by omega) (by omega) (by omega)
  rw [groups_of n1 n2 f1 (by omega)] at pg
  rw [passes_of n1 n2 f1 (by omega)] at pp
  rw [passes_of n1 n2 (by omega) (by omega)] at pq
  have hl : (groupsL n f).length = n / f + if 0 < n % f then 1 else 0 := by rw [groups_len, ups_want (by omega)]
  have hmore := passes_more (n := n) (k := f) f1 n1
  rw [← hf9] at hmore
  have hzero := passes_zero (n := n) (k := f) f1 n1
  generalize groupsL n f = gs at *
  generalize passesN n f = p at *
  generalize passesN n f9 = p2 at *
  have d1 : (n : Int) / (f : Int) = ((n / f : Nat) : Int) := rfl
  have d2 : (n : Int) % (f : Int) = ((n % f : Nat) : Int) := rfl
  have d0 : ¬ (f : Int) = 0 := by omega
  have dl := Nat.div_le_self n f
  generalize n / f = nd at *
  generalize n % f = nm at *
  clear hn hf
  have hz : (((p : Int) == 0) == ((n : Int) == 1)) = true := by
    by_cases h : n = 1
    · have := hzero.2 h
      simp [h, this]
    · have h3 : p ≠ 0 := fun hh => h (hzero.1 hh)
      have b1 : ((p : Int) == 0) = false := by rw [beq_eq_false_iff_ne]; omega
      have b2 : ((n : Int) == 1) = false := by rw [beq_eq_false_iff_ne]; omega
      rw [b1, b2]; rfl
  have PG : Hid _ := pg
  have PP : Hid _ := pp
  have PQ : Hid _ := pq
  have e3 : ((f : Int) + 1) = (f9 : Nat) := by omega
  clear hf9
  have hle : (p2 : Int) ≤ p := by omega
  clear pg pp pq hzero hmore
  go_enter Try.func7, Try.ntmps7
  go_wp2_with fail
  refine (shown_any w).mono ?_
  rintro e wa ⟨rfl, hB1⟩
  by_cases hnm : 0 < nm
  · rw [if_pos hnm] at hl
    have g1 : (0 : Int) < nm := by omega
    have hlz : ((gs.length : Nat) : Int) = (nd : Int) + 1 := by omega
    go_wp2_with fail
    refine (PG.out wa).mono ?_
    rintro e wb ⟨ag, c, rfl, ho, hB2⟩
    clear ho
    have HB : Hid _ := hB1.trans (hB2.mono hB1.size)
    clear hB1 hB2
    go_wp2_with fail
    refine (PQ.out wb).mono ?_
    rintro e wc ⟨rfl, hB3⟩
    have HB2 : Hid _ := HB.out.trans (hB3.mono HB.out.size)
    clear HB hB3
    go_wp2_with fail
    refine (PP.out wc).mono ?_
    rintro e wd ⟨rfl, hB4⟩
    have HB3 : Hid _ := HB2.out.trans (hB4.mono HB2.out.size)
    clear HB2 hB4
    go_wp2_with fail
    refine (PP.out wd).mono ?_
    rintro e we ⟨rfl, hB5⟩
    have HB4 : Hid _ := HB3.out.trans (hB5.mono HB3.out.size)
    clear HB3 hB5
    go_wp2
    go_ret
    exact ⟨rfl, HB4.out⟩
  · rw [if_neg hnm] at hl
    have g1 : ¬ (0 : Int) < nm := by omega
    have hlz : ((gs.length : Nat) : Int) = (nd : Int) := by omega
    go_wp2_with fail
    refine (PG.out wa).mono ?_
    rintro e wb ⟨ag, c, rfl, ho, hB2⟩
    clear ho
    have HB : Hid _ := hB1.trans (hB2.mono hB1.size)
    clear hB1 hB2
    go_wp2_with fail
    refine (PQ.out wb).mono ?_
    rintro e wc ⟨rfl, hB3⟩
    have HB2 : Hid _ := HB.out.trans (hB3.mono HB.out.size)
    clear HB hB3
    go_wp2_with fail
    refine (PP.out wc).mono ?_
    rintro e wd ⟨rfl, hB4⟩
    have HB3 : Hid _ := HB2.out.trans (hB4.mono HB2.out.size)
    clear HB2 hB4
    go_wp2_with fail
    refine (PP.out wd).mono ?_
    rintro e we ⟨rfl, hB5⟩
    have HB4 : Hid _ := HB3.out.trans (hB5.mono HB3.out.size)
    clear HB3 hB5
    go_wp2
    go_ret
    exact ⟨rfl, HB4.out⟩

set_option maxRecDepth 100000 in
theorem lifted (os : Os) (started : os.Started) (H : Type) (enc : TypeId × Value → H) :
    ReturnsInHanded {} Try.checked os 7 .any (Rows.passesManySpec.pre6 enc Try.prog Try.f7 Rows.passesManyRow.domain false) (Rows.passesManySpec.post enc Try.prog Try.f7 false true false false) := by
  refine returnsInHanded_of_change_sized (C := Try.checked) own started (by kernel_rfl) Try.func7
    (ChangeSpec.witness6 (enc := enc) (C := Try.checked) false ⟨#[], #[.int .u16 0, .int .u8 0], []⟩ 8 (by kernel_rfl) (by kernel_rfl) (by kernel_rfl) (by kernel_rfl)) ?_
  intro W base args ds gs before hval0 hW hcnd hsz0 _
  have hsz : (DataW.weightsEach Try.prog (Try.f7.params.toList ++ Rows.passesManySpec.plain.varTypes Try.prog) (ds ++ gs)).all (· ≤ reachBytes) = true := hsz0
  clear hsz0
  have hval : ∀ (j : Nat) t v, Try.f7.params[j]? = some t → args[j]? = some v → Value.okWide Try.prog W .any base t v := hval0
  have hW' := hW
  obtain ⟨p, q, hA0, hV, rfl, hfz, hnd⟩ := hW
  have hA : DataW.TrodAll enc Try.prog W 0 (fun _ => true) true Try.f7.params.toList args.toList ds p := hA0
  rw [Try.params7] at hA hval hsz
  obtain ⟨v0, vs0, d0, ds0, p0, q0, hargs, rfl, rfl, h0, rr0⟩ := trodAll_cons hA
  obtain ⟨v1, vs1, d1, ds1, p1, q1, rfl, rfl, rfl, h1, rr1⟩ := trodAll_cons rr0
  obtain ⟨rfl, rfl, rfl⟩ := trodAll_nil rr1
  obtain rfl : args = #[v0, v1] := by cases args; simp_all
  obtain ⟨rfl, rfl⟩ := trodVars_none hV
  obtain ⟨a0, rfl, rfl, rfl, w0⟩ := open_int Try.underlying39 (hval 0 39 v0 rfl rfl) h0
  obtain ⟨a1, rfl, rfl, rfl, w1⟩ := open_int Try.underlying5 (hval 1 5 v1 rfl rfl) h1
  clear hA0 hval0
  refine (walk W a0 w0 a1 w1).mono fun e W' ⟨he, bel⟩ => ?_
  subst he
  exact ⟨_, rfl, _, _, _, [], _, [], hW', trodAll_mk1 (shut_bool Try.underlying4 _), (trodAll_cons_mk (shut_int Try.underlying39 w0) (trodAll_cons_mk (shut_int Try.underlying5 w1) trodAll_mk0)), rfl, bel.frame _, fun h => by cases h⟩

theorem over : Rows.passesManyRow.holds Try.pinned (OpenSpec.ofChange Rows.passesManySpec) :=
  OpenClaim.holds_of_wide 7 Try.f7 rfl rfl rfl rfl rfl rfl rfl ⟨rfl, rfl, rfl, rfl, rfl⟩ rfl rfl rfl rfl rfl (by kernel_rfl) Try.func7 (by kernel_rfl)
    (of_decide_eq_true (by kernel_rfl)) (by unfold Func.isWrapper; first | (rw [if_pos (by decide +kernel)]; kernel_rfl) | (rw [if_neg (by decide +kernel)]; exact ⟨rfl, rfl⟩))
    (fun os started H enc _ => lifted os started H enc)
end Go.Proofs.Ytknfjonaepggnaa.passesMany
namespace Go.Proofs.Ytknfjonaepggnaa
theorem passesMany_holds : Rows.PassesManySaid := passesMany.over
#print axioms passesMany_holds
end Go.Proofs.Ytknfjonaepggnaa
