/- slices.Sort of uint64s: partitionEqualOrdered. -/
import Derived.Test.YtnojjipoppemcaaSortU
import Derived.Sort.WalkC4
import Derived.Deep.CutRange
namespace Go.Proofs.Ytnojjipoppemcaa
open Go.RowKit Go.Sort
set_option linter.unusedVariables false
set_option linter.unusedSimpArgs false

set_option maxRecDepth 1000000 in
set_option maxHeartbeats 16000000 in
theorem parteq_any {w0 w : World} {blk off n : Nat} {d : Array Int} (S : SU w0 blk off n d w) (cap a b pivot : Nat) (hap : a ≤ pivot) (hpb : pivot < b) (hb : b ≤ n) (hn : n < 4611686018427387904) :
    Calls Try.prog 36 #[.slice (some ⟨blk, off, none⟩) n cap, .int .i64 a, .int .i64 b, .int .i64 pivot] w fun e w' => e = .returned (.int .i64 (partitionEqual ltInt d a b pivot).1) ∧ SU w0 blk off n (partitionEqual ltInt d a b pivot).2 w' := by
  obtain ⟨bp, hbp⟩ : ∃ q, q + 1 = b := ⟨b - 1, by omega⟩
  have e1 : (b : Int) - 1 = (bp : Int) := by omega
  have HS : Hid (SU w0 blk off n (swp d a pivot) ((w.setCell ⟨blk, off + a, none⟩ (.int .u64 d[pivot]!)).setCell ⟨blk, off + pivot, none⟩ (.int .u64 d[a]!)).drew) := (S.swap a pivot (by omega) (by omega)).drew
  obtain ⟨G, hG⟩ : ∃ G : Nat → Int, ∀ t, G t = d[t]! := ⟨fun t => d[t]!, fun _ => rfl⟩
  have hcw : ∀ t, t < n → w.cell? ⟨blk, off + t, none⟩ = some (.int .u64 (G t)) := fun t ht => by rw [hG]; exact S.cell t ht
  have hfw : ∀ t, t < n → w.frozen? ⟨blk, off + t, none⟩ = false := S.frozen
  rw [← hG, ← hG] at HS
  obtain ⟨u, hu⟩ := S.second a pivot (by omega) (by omega) (.int .u64 (G pivot))
  have HR : Hid (partitionEqual ltInt d a b pivot = partEqLoop ltInt a (a + 1) bp (swp d a pivot)) := by show _ = _; rw [← hbp]; rfl
  rw [HR.out]
  generalize swp d a pivot = D at HS ⊢
  have q0 : bp < n := by omega
  have q00 : a ≤ bp := by omega
  clear S hG HR hbp
  go_enter Try.func36, Try.ntmps36
  go_wp2_with fail
  go_region
  go_wp2_with fail
  clear hu hcw hfw e1
  go_loopw [9, 10] (fun vi vj wr => ∃ (i j : Nat) (dk : Array Int), vi = .int .i64 i ∧ vj = .int .i64 j ∧ a < i ∧ i ≤ j + 1 ∧ j ≤ bp ∧ Hid (SU w0 blk off n dk wr) ∧ Hid (partEqLoop ltInt a i j dk = partEqLoop ltInt a (a + 1) bp D)) (fun vi vj _ => (intOf vj + 1 - intOf vi).toNat)
  case atStart => exact ⟨a + 1, bp, D, by go_num, by go_num, by omega, by omega, by omega, HS, rfl⟩
  case round =>
    obtain ⟨i, j, dk, rfl, rfl, hai, hij, hjb, S1, HO⟩ := hrel
    clear HS
    obtain ⟨G, hG⟩ : ∃ G : Nat → Int, ∀ t, G t = dk[t]! := ⟨fun t => dk[t]!, fun _ => rfl⟩
    have HG : Hid (∀ t, G t = dk[t]!) := hG
    clear hG
    obtain ⟨i2, hi2⟩ : ∃ i2, i2 = scanUp (fun x => !ltInt dk[a]! x) dk j i := ⟨_, rfl⟩
    have Hi2 : Hid _ := hi2
    clear hi2
    go_wp2_with fail
    go_loopw [9] (fun vi wr2 => ∃ t : Nat, vi = .int .i64 t ∧ i ≤ t ∧ t ≤ j + 1 ∧ Hid (SU w0 blk off n dk wr2) ∧ Hid (i2 = scanUp (fun x => !ltInt dk[a]! x) dk j t)) (fun vi _ => (j + 1 - intOf vi).toNat)
    case atStart => exact ⟨i, rfl, by omega, by omega, S1, Hi2⟩
    case round =>
      clear S1
      obtain ⟨t, rfl, hit, htj, S1, HT⟩ := hrel
      have hcw : ∀ t, t < n → wr.cell? ⟨blk, off + t, none⟩ = some (.int .u64 (G t)) := fun t ht => by rw [HG.out]; exact S1.out.cell t ht
      have hfw : ∀ t, t < n → wr.frozen? ⟨blk, off + t, none⟩ = false := S1.out.frozen
      obtain ⟨x, hx⟩ : ∃ x, x = (decide (t ≤ j) && !ltInt (G a) (G t)) := ⟨_, rfl⟩
      have HX : Hid _ := hx
      clear hx
      go_wp2_with fail
      go_cut [43] from 29 to 43 (fun v wq => v = .bool x ∧ ∃ q, wq = wr.drewN q)
      case first =>
        by_cases htj' : t ≤ j
        · have q1 : (t : Int) ≤ (j : Int) := by omega
          have q2 : decide ((t : Int) ≤ (j : Int)) = true := decide_eq_true q1
          have HX2 : Hid (x = !ltInt (G a) (G t)) := by show _ = _; rw [HX.out, decide_eq_true htj', Bool.true_and]
          go_wp2_with fail
          go_big_quiet (first | (go_at_call 35; refine Calls.quiet_of_same (less_any _ _ _)))
          go_wp2_with fail
          go_meet
          case rel => exact ⟨by rw [HX2.out], _, rfl⟩
        · have q2 : decide ((t : Int) ≤ (j : Int)) = false := decide_eq_false (by omega)
          have HX2 : Hid (x = false) := by show _ = _; rw [HX.out, decide_eq_false htj', Bool.false_and]
          go_wp2_with fail
          go_big_quiet (first | (go_at_call 35; refine Calls.quiet_of_same (less_any _ _ _)))
          go_wp2_with fail
          go_meet
          case rel => exact ⟨by rw [HX2.out], _, rfl⟩
      case rest =>
        obtain ⟨rfl, q, hq⟩ := hcut
        have S2 : Hid (SU w0 blk off n dk wc) := by
          show SU _ _ _ _ _ _
          rw [hq]; exact S1.out.drewN q
        clear hcw hfw hq S1
        cases x with
        | true =>
          have hx := HX.out
          have h1 : t ≤ j := by
            have := hx.symm
            simp only [Bool.and_eq_true, decide_eq_true_eq] at this
            exact this.1
          have h2 : (fun x => !ltInt dk[a]! x) dk[t]! = true := by
            have := hx.symm
            simp only [Bool.and_eq_true, decide_eq_true_eq] at this
            rw [HG.out, HG.out] at this; exact this.2
          have HT2 : Hid (i2 = scanUp (fun x => !ltInt dk[a]! x) dk j (t + 1)) := by
            show _ = _
            rw [HT.out, scanUp_go _ _ _ _ h1 h2]
          clear hx h2 HX HT
          go_wp2_with fail
          go_roundw
          case rel => exact ⟨t + 1, by go_num, by omega, by omega, S2, HT2⟩
          case measure => simp [intOf]; omega
        | false =>
          have Ht : Hid (i2 = t) := by
            show _ = _
            rw [HT.out, scanUp_end]
            have hx := HX.out
            rw [HG.out, HG.out] at hx
            by_cases h : t ≤ j
            · rw [decide_eq_true h, Bool.true_and] at hx; exact Or.inr hx.symm
            · exact Or.inl h
          clear HX HT
          obtain rfl := Ht.out
          clear Ht
          obtain ⟨j2, hj2⟩ : ∃ j2, j2 = scanDown (fun x => ltInt dk[a]! x) dk i2 j := ⟨_, rfl⟩
          have Hj2 : Hid _ := hj2
          clear hj2
          go_wp2_with fail
          go_loopw [10] (fun vj wr2 => ∃ t : Nat, vj = .int .i64 t ∧ t ≤ j ∧ i2 ≤ t + 1 ∧ Hid (SU w0 blk off n dk wr2) ∧ Hid (j2 = scanDown (fun x => ltInt dk[a]! x) dk i2 t)) (fun vj _ => (intOf vj).toNat)
          case atStart => exact ⟨j, rfl, by omega, by omega, S2, Hj2⟩
          case round =>
            clear S2
            obtain ⟨t, rfl, htj, hit, S1, HT⟩ := hrel
            have hcw : ∀ t, t < n → wr.cell? ⟨blk, off + t, none⟩ = some (.int .u64 (G t)) := fun t ht => by rw [HG.out]; exact S1.out.cell t ht
            have hfw : ∀ t, t < n → wr.frozen? ⟨blk, off + t, none⟩ = false := S1.out.frozen
            obtain ⟨x, hx⟩ : ∃ x, x = (decide (i2 ≤ t) && ltInt (G a) (G t)) := ⟨_, rfl⟩
            have HX : Hid _ := hx
            clear hx
            go_wp2_with fail
            go_cut [59] from 46 to 59 (fun v wq => v = .bool x ∧ ∃ q, wq = wr.drewN q)
            case first =>
              by_cases htj' : i2 ≤ t
              · have q1 : (i2 : Int) ≤ (t : Int) := by omega
                have q2 : decide ((i2 : Int) ≤ (t : Int)) = true := decide_eq_true q1
                have HX2 : Hid (x = ltInt (G a) (G t)) := by show _ = _; rw [HX.out, decide_eq_true htj', Bool.true_and]
                go_wp2_with fail
                go_big_quiet (first | (go_at_call 35; refine Calls.quiet_of_same (less_any _ _ _)))
                go_wp2_with fail
                go_meet
                case rel => exact ⟨by rw [HX2.out], _, rfl⟩
              · have q2 : decide ((i2 : Int) ≤ (t : Int)) = false := decide_eq_false (by omega)
                have HX2 : Hid (x = false) := by show _ = _; rw [HX.out, decide_eq_false htj', Bool.false_and]
                go_wp2_with fail
                go_big_quiet (first | (go_at_call 35; refine Calls.quiet_of_same (less_any _ _ _)))
                go_wp2_with fail
                go_meet
                case rel => exact ⟨by rw [HX2.out], _, rfl⟩
            case rest =>
              obtain ⟨rfl, q, hq⟩ := hcut
              have S2 : Hid (SU w0 blk off n dk wc) := by
                show SU _ _ _ _ _ _
                rw [hq]; exact S1.out.drewN q
              clear hcw hfw hq S1
              cases x with
              | true =>
                have hx := HX.out.symm
                simp only [Bool.and_eq_true, decide_eq_true_eq] at hx
                rw [HG.out, HG.out] at hx
                have h1 := hx.1
                have HT2 : Hid (j2 = scanDown (fun x => ltInt dk[a]! x) dk i2 (t - 1)) := by
                  show _ = _
                  rw [HT.out, scanDown_go (fun x => ltInt dk[a]! x) dk i2 t h1 (by omega) hx.2]
                clear hx HX HT
                obtain ⟨t, rfl⟩ : ∃ q, t = q + 1 := ⟨t - 1, by omega⟩
                go_wp2_with fail
                go_roundw
                case rel => exact ⟨t, by go_num, by omega, by omega, S2, HT2⟩
                case measure => simp [intOf]
              | false =>
                have Ht : Hid (j2 = t) := by
                  show _ = _
                  rw [HT.out, scanDown_end]
                  have hx := HX.out
                  rw [HG.out, HG.out] at hx
                  by_cases h : i2 ≤ t
                  · rw [decide_eq_true h, Bool.true_and] at hx; exact Or.inr hx.symm
                  · exact Or.inl h
                clear HX HT
                obtain rfl := Ht.out
                clear Ht
                by_cases hbr : j2 < i2
                · have q1 : (j2 : Int) < (i2 : Int) := by omega
                  have HE : Hid (partEqLoop ltInt a i j dk = (i2, dk)) := partEq_break ltInt a i j dk Hi2.out Hj2.out hbr
                  go_wp2_with fail
                  go_ret
                  exact ⟨by rw [← HO.out, HE.out]; rfl, by rw [← HO.out, HE.out]; exact S2.out⟩
                · have q1 : ¬ (j2 : Int) < (i2 : Int) := by omega
                  have hlt : i2 < j2 := scans_lt ltInt a i j dk (by omega) Hi2.out Hj2.out (by omega)
                  have HE : Hid (partEqLoop ltInt a i j dk = partEqLoop ltInt a (i2 + 1) (j2 - 1) (swp dk i2 j2)) := partEq_go ltInt a i j dk Hi2.out Hj2.out (by omega)
                  obtain ⟨jp, rfl⟩ : ∃ q, j2 = q + 1 := ⟨j2 - 1, by omega⟩
                  have hcw : ∀ t, t < n → wc.cell? ⟨blk, off + t, none⟩ = some (.int .u64 (G t)) := fun t ht => by rw [HG.out]; exact S2.out.cell t ht
                  have hfw : ∀ t, t < n → wc.frozen? ⟨blk, off + t, none⟩ = false := S2.out.frozen
                  have hne : i2 ≠ jp + 1 := by omega
                  have HX : Hid (SU w0 blk off n (swp dk i2 (jp + 1)) ((wc.setCell ⟨blk, off + i2, none⟩ (.int .u64 (G (jp + 1)))).setCell ⟨blk, off + (jp + 1), none⟩ (.int .u64 (G i2))).drew) := by
                    show SU _ _ _ _ _ _
                    rw [HG.out, HG.out]; exact (S2.out.swap i2 (jp + 1) (by omega) (by omega)).drew
                  clear S2
                  go_wp2_with fail
                  go_region
                  go_wp2_with fail
                  go_roundw
                  case rel => exact ⟨i2 + 1, jp, swp dk i2 (jp + 1), by go_num, by go_num, by omega, by omega, by omega, HX, (show Hid _ from by rw [← HO.out, HE.out]; exact rfl)⟩
                  case measure => simp [intOf]; omega
end Go.Proofs.Ytnojjipoppemcaa
