/- For every input PassesFew answers true, and leaves its arguments as they were. Conditions: none. -/
import Derived.Test.YtknfjonaepggnaaRows
import Derived.Test.YtknfjonaepggnaaShown12
import Derived.Test.YtknfjonaepggnaaFound
import Derived.ProofKit
import Derived.OpenShut
import Derived.ShutString
import Derived.ChangeOld
import Derived.SizedLaws
import Derived.Deep.RegionHeld
import Derived.Deep.RegionHeld3
import Derived.Deep.QuietTactic
import Derived.BigQuiet
import Derived.Deep.Cut
import Derived.Deep.CutBlock
namespace Go.Proofs.Ytknfjonaepggnaa.passesFew
open Go.ChangeShapes Go.WideShapes Go.ChangeAt Go.RowKit
open Go.ChangeMaps (open_string shut_string)
set_option linter.unusedVariables false

theorem own : ownKnob Try.prog.godebug = none := by kernel_rfl
theorem laidOut : laidOutB Try.prog = true := by kernel_rfl

theorem groups_of {n f : Nat} (h1 : 1 ≤ n) (h2 : n ≤ 65536) (h3 : 2 ≤ f) (h4 : f ≤ 8) : groupsZ n f = groupsL n f := by unfold groupsZ; rw [nat_fan h1 h2 h3 h4]; simp
theorem passes_of {n f : Nat} (h1 : 1 ≤ n) (h2 : n ≤ 65536) (h3 : 2 ≤ f) (h4 : f ≤ 8) : passesZ n f = passesN n f := by unfold passesZ; rw [nat_fan h1 h2 h3 h4]; simp
theorem pow_most {f i : Nat} (h1 : 2 ≤ f) (h2 : f ≤ 8) (hi : i ≤ 16) : f ^ i ≤ 281474976710656 := by
  have h3 : f ^ i ≤ 8 ^ i := Nat.pow_le_pow_left h2 i
  have h4 : 8 ^ i ≤ 8 ^ 16 := Nat.pow_le_pow_right (by omega) hi
  have h5 : 8 ^ 16 = 281474976710656 := by decide
  omega

set_option maxRecDepth 100000 in
set_option maxHeartbeats 4000000 in
theorem walk (w : World) (a0 : Int) (w0 : (Lit.int .u16 a0).wf = true) (a1 : Int) (w1 : (Lit.int .u8 a1).wf = true) :
    Calls Try.prog 6 #[.int .u16 a0, .int .u8 a1] w fun e w' => e = .returned (.bool true) ∧ Below w.heap.size w w' := by
  obtain ⟨m, hm⟩ : ∃ m : Nat, a0 = m := Int.eq_ofNat_of_zero_le (by have := bounds_u16 w0; omega)
  obtain ⟨q, hq⟩ : ∃ q : Nat, a1 = q := Int.eq_ofNat_of_zero_le (by have := bounds_u8 w1; omega)
  subst hm
  subst hq
  have hm2 : m ≤ 65535 := by have := bounds_u16 w0; omega
  have hq2 : q ≤ 255 := by have := bounds_u8 w1; omega
  clear w0 w1
  obtain ⟨n, hn⟩ : ∃ n, n = 1 + m := ⟨_, rfl⟩
  obtain ⟨f, hf⟩ : ∃ f, f = 2 + q % 7 := ⟨_, rfl⟩
  have n1 : 1 ≤ n := by omega
  have n2 : n ≤ 65536 := by omega
  have f1 : 2 ≤ f := by omega
  have f2 : f ≤ 8 := by omega
  have e1 : (1 : Int) + m = (n : Nat) := by omega
  have e2 : (2 : Int) + (q : Int) % 7 = (f : Nat) := by omega
  clear hn hf
  have pg := fun W => groups_any (n : Nat) (f : Nat) W (by omega) (by omega) (by omega) (by omega)
  have pp := fun W => passes_any (n : Nat) (f : Nat) W (by omega) (by omega) (by omega) (by omega)
  rw [groups_of n1 n2 f1 f2] at pg
  rw [passes_of n1 n2 f1 f2] at pp
  have hl := groups_len n f
  have hat := fun i (h : i < upN n f) => groups_at (n := n) (k := f) h
  have hlt := fun i => lt_ups (n := n) (k := f) (t := i) (by omega)
  have hup := (ups_le (n := n) (k := f) (t := upN n f) (by omega)).1 (Nat.le_refl _)
  have hfew := passes_few n f f1 n1
  have h16 := passes_16 (n := n) (k := f) f1 n1 n2
  have hum : upN n f ≤ 65536 := (ups_le (by omega)).2 (by have : 65536 * 1 ≤ 65536 * f := Nat.mul_le_mul_left _ (by omega); omega)
  generalize passesN n f = p at *
  generalize groupsL n f = gs at *
  generalize upN n f = u at *
  rw [hl] at pg
  have PP : Hid _ := pp
  have PG : Hid _ := pg
  have HA : Hid _ := hat
  have HT : Hid _ := hlt
  have HU : Hid _ := hup
  have HF : Hid _ := hfew
  clear pp pg hl hat hlt hup hfew
  go_enter Try.func6, Try.ntmps6
  go_wp2_with fail
  refine (shown_any w).mono ?_
  rintro e wa ⟨rfl, hB1⟩
  have HB1 : Hid _ := hB1
  clear hB1
  go_wp2_with fail
  refine (PG.out wa).mono ?_
  rintro e wb ⟨ag, c, rfl, ho, hB2⟩
  have RA : Hid _ := ReadsE.own ho
  have HB2 : Hid _ := HB1.out.trans (hB2.mono HB1.out.size)
  clear ho hB2 HB1
  go_wp2_with fail
  go_loop [9, 10] (fun a i => ∃ j t : Nat, i = .int .i64 j ∧ j ≤ u ∧ a = .int .i64 (t : Nat) ∧ Hid (t = min (j * f) n)) (fun _ i => (u - intOf i).toNat)
  case atStart => exact ⟨0, 0, rfl, Nat.zero_le _, rfl, (by omega : 0 = min (0 * f) n)⟩
  case round =>
    obtain ⟨j, t, rfl, hj, rfl, ht⟩ := hrel
    by_cases hjl : j < u
    · have q1 : (j : Int) < u := by omega
      have hg := HA.out j hjl
      obtain ⟨b, off, rfl, hbl, hc⟩ := ReadsE.atP RA.out (by omega)
      obtain ⟨c1, c2⟩ := hc j _ hg
      have hlo := (HT.out j).1 hjl
      have ht2 : t = j * f := by have := ht.out; omega
      have HJ : Hid (u = j + 1 → n ≤ j * f + f) := fun h => by have := HU.out; rw [h, Nat.add_mul, Nat.one_mul] at this; exact this
      have HK : Hid (j + 1 < u → j * f + f < n) := fun h => by have := (HT.out (j + 1)).1 h; rw [Nat.add_mul, Nat.one_mul] at this; exact this
      have HN : Hid (min ((j + 1) * f) n = min (j * f + f) n) := by show _ = _; rw [Nat.add_mul, Nat.one_mul]
      simp only at c1 c2
      rw [← ht2] at c1 c2 HJ HK hlo HN
      obtain ⟨hi, hhi⟩ : ∃ hi, hi = min (t + f) n := ⟨_, rfl⟩
      rw [← hhi] at c2
      have i1 : ¬ (hi : Int) ≤ t := by omega
      have i2 : ¬ (f : Int) < (hi : Int) - t := by omega
      have HH : Hid (hi = min ((j + 1) * f) n) := by show _ = _; rw [HN.out]; exact hhi
      have i4 : ((t : Int) == t) = true := by simp
      have hor : ((j : Int) < (u : Int) - 1 ∧ (((hi : Int) - t) == (f : Int)) = true) ∨ ¬ (j : Int) < (u : Int) - 1 := by
        by_cases h : j + 1 < u
        · left
          have := HK.out h
          exact ⟨by omega, by rw [beq_iff_eq]; omega⟩
        · right; omega
      clear hc hg hbl ht HN hhi hlo HJ HK ht2 hjl
      rcases hor with ⟨i5, i6⟩ | i5
      all_goals go_wp2
      all_goals go_round
      case rel => exact ⟨j + 1, hi, by go_num, by omega, rfl, HH⟩
      case measure => simp [intOf]; omega
      case rel => exact ⟨j + 1, hi, by go_num, by omega, rfl, HH⟩
      case measure => simp [intOf]; omega
    · have q1 : ¬ (j : Int) < u := by omega
      have hje : j = u := by omega
      have htn : t = n := by have h1 := ht.out; have h2 := HU.out; rw [hje] at h1; omega
      subst htn
      clear ht hjl hje HA HT HU RA
      go_wp2_with fail
      refine (PP.out wb).mono ?_
      rintro e wc ⟨rfl, hB3⟩
      have HB3 : Hid _ := HB2.out.trans (hB3.mono HB2.out.size)
      clear hB3 HB2
      go_wp2_with fail
      go_loop [12, 13, 14] (fun mo le i => ∃ j a b : Nat, i = .int .i64 j ∧ j ≤ p ∧ mo = .int .i64 (a : Nat) ∧ le = .int .i64 (b : Nat) ∧ Hid (a = f ^ j) ∧ Hid (j = 0 ∨ b = f ^ (j - 1))) (fun _ _ i => (p - intOf i).toNat)
      case atStart => exact ⟨0, 1, 1, rfl, Nat.zero_le _, rfl, rfl, (Nat.pow_zero f).symm, (.inl rfl : 0 = 0 ∨ _)⟩
      case round =>
        obtain ⟨j', a, b, rfl, hj', rfl, rfl, ha, hb⟩ := hrel
        have ham : a ≤ 281474976710656 := by rw [ha.out]; exact pow_most f1 f2 (by omega)
        by_cases hjp : j' < p
        · have g1 : (j' : Int) < p := by omega
          have g2 : (j' : Int) < 20 := by omega
          obtain ⟨a2, ha2⟩ : ∃ a2, a2 = a * f := ⟨_, rfl⟩
          have ha3 : a2 ≤ 2251799813685248 := by rw [ha2]; exact Nat.le_trans (Nat.mul_le_mul ham f2) (by decide)
          have g3 : (a : Int) * (f : Int) = (a2 : Nat) := by rw [ha2]; push_cast; rfl
          have HA2 : Hid (a2 = f ^ (j' + 1)) := by show _ = _; rw [ha2, ha.out, Nat.pow_succ]
          have HB : Hid (j' + 1 = 0 ∨ a = f ^ (j' + 1 - 1)) := .inr (by rw [Nat.add_sub_cancel]; exact ha.out)
          clear ha hb ha2 hjp
          go_wp2
          go_round
          case rel => exact ⟨j' + 1, a2, a, by go_num, by omega, rfl, rfl, HA2, HB⟩
          case measure => simp [intOf]; omega
        · have hje : j' = p := by omega
          subst hje
          have g1 : ¬ (j' : Int) < j' := by omega
          have g2 : (t : Int) ≤ a := by have := HF.out.1; rw [← ha.out] at this; omega
          have g4 : ((t : Int) == t) = true := by simp
          have hor : (((j' : Int) == 0) = true) ∨ (((j' : Int) == 0) = false ∧ (b : Int) < t) := by
            by_cases h0 : j' = 0
            · left; subst h0; rfl
            · right
              refine ⟨by rw [beq_eq_false_iff_ne]; omega, ?_⟩
              have h1 := hb.out.resolve_left h0
              have h2 := HF.out.2.resolve_left h0
              rw [← h1] at h2
              omega
          clear ha hb HF hjp
          rcases hor with g5 | ⟨g5, g6⟩
          all_goals go_wp2
          all_goals go_ret
          all_goals exact ⟨rfl, HB3.out⟩

set_option maxRecDepth 100000 in
theorem lifted (os : Os) (started : os.Started) (H : Type) (enc : TypeId × Value → H) :
    ReturnsInHanded {} Try.checked os 6 .any (Rows.passesFewSpec.pre6 enc Try.prog Try.f6 Rows.passesFewRow.domain false) (Rows.passesFewSpec.post enc Try.prog Try.f6 false true false false) := by
  refine returnsInHanded_of_change_sized (C := Try.checked) own started (by kernel_rfl) Try.func6
    (ChangeSpec.witness6 (enc := enc) (C := Try.checked) false ⟨#[], #[.int .u16 0, .int .u8 0], []⟩ 8 (by kernel_rfl) (by kernel_rfl) (by kernel_rfl) (by kernel_rfl)) ?_
  intro W base args ds gs before hval0 hW hcnd hsz0 _
  have hsz : (DataW.weightsEach Try.prog (Try.f6.params.toList ++ Rows.passesFewSpec.plain.varTypes Try.prog) (ds ++ gs)).all (· ≤ reachBytes) = true := hsz0
  clear hsz0
  have hval : ∀ (j : Nat) t v, Try.f6.params[j]? = some t → args[j]? = some v → Value.okWide Try.prog W .any base t v := hval0
  have hW' := hW
  obtain ⟨p, q, hA0, hV, rfl, hfz, hnd⟩ := hW
  have hA : DataW.TrodAll enc Try.prog W 0 (fun _ => true) true Try.f6.params.toList args.toList ds p := hA0
  rw [Try.params6] at hA hval hsz
  obtain ⟨v0, vs0, d0, ds0, p0, q0, hargs, rfl, rfl, h0, rr0⟩ := trodAll_cons hA
  obtain ⟨v1, vs1, d1, ds1, p1, q1, rfl, rfl, rfl, h1, rr1⟩ := trodAll_cons rr0
  obtain ⟨rfl, rfl, rfl⟩ := trodAll_nil rr1
  obtain rfl : args = #[v0, v1] := by cases args; simp_all
  obtain ⟨rfl, rfl⟩ := trodVars_none hV
  obtain ⟨a0, rfl, rfl, rfl, w0⟩ := open_int Try.underlying39 (hval 0 39 v0 rfl rfl) h0
  obtain ⟨a1, rfl, rfl, rfl, w1⟩ := open_int Try.underlying5 (hval 1 5 v1 rfl rfl) h1
  clear hA0 hval0
  refine (walk W a0 w0 a1 w1).mono fun e W' ⟨he, bel⟩ => ?_
  subst he
  exact ⟨_, rfl, _, _, _, [], _, [], hW', trodAll_mk1 (shut_bool Try.underlying4 _), (trodAll_cons_mk (shut_int Try.underlying39 w0) (trodAll_cons_mk (shut_int Try.underlying5 w1) trodAll_mk0)), rfl, bel.frame _, fun h => by cases h⟩

theorem over : Rows.passesFewRow.holds Try.pinned (OpenSpec.ofChange Rows.passesFewSpec) :=
  OpenClaim.holds_of_wide 6 Try.f6 rfl rfl rfl rfl rfl rfl rfl ⟨rfl, rfl, rfl, rfl, rfl⟩ rfl rfl rfl rfl rfl (by kernel_rfl) Try.func6 (by kernel_rfl)
    (of_decide_eq_true (by kernel_rfl)) (by unfold Func.isWrapper; first | (rw [if_pos (by decide +kernel)]; kernel_rfl) | (rw [if_neg (by decide +kernel)]; exact ⟨rfl, rfl⟩))
    (fun os started H enc _ => lifted os started H enc)
end Go.Proofs.Ytknfjonaepggnaa.passesFew
namespace Go.Proofs.Ytknfjonaepggnaa
theorem passesFew_holds : Rows.PassesFewSaid := passesFew.over
#print axioms passesFew_holds
end Go.Proofs.Ytknfjonaepggnaa
