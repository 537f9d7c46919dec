/- slices.Sort of uint64s: partitionOrdered. (Written by tools/genpart.py.) -/
import Derived.Test.YtnojjipoppemcaaSortU
import Derived.Sort.WalkC4
import Derived.Deep.CutRange
namespace Go.Proofs.Ytnojjipoppemcaa
open Go.RowKit Go.Sort
set_option linter.unusedVariables false
set_option linter.unusedSimpArgs false

set_option maxRecDepth 1000000 in
set_option maxHeartbeats 16000000 in
theorem part_any {w0 w : World} {blk off n : Nat} {d : Array Int} (S : SU w0 blk off n d w) (cap a b pivot : Nat) (hap : a ≤ pivot) (hpb : pivot < b) (hb : b ≤ n) (hn : n < 4611686018427387904) :
    Calls Try.prog 37 #[.slice (some ⟨blk, off, none⟩) n cap, .int .i64 a, .int .i64 b, .int .i64 pivot] w fun e w' => e = .returned (.tuple #[.int .i64 (partition ltInt d a b pivot).1, .bool (partition ltInt d a b pivot).2.1]) ∧ SU w0 blk off n (partition ltInt d a b pivot).2.2 w' := by
  obtain ⟨bp, hbp⟩ : ∃ q, q + 1 = b := ⟨b - 1, by omega⟩
  obtain ⟨dk, hdk⟩ : ∃ dk, dk = swp d a pivot := ⟨_, rfl⟩
  have HS : Hid (SU w0 blk off n dk ((w.setCell ⟨blk, off + a, none⟩ (.int .u64 d[pivot]!)).setCell ⟨blk, off + pivot, none⟩ (.int .u64 d[a]!)).drew) := by
    rw [hdk]; exact (S.swap a pivot (by omega) (by omega)).drew
  obtain ⟨G0, hG⟩ : ∃ G : Nat → Int, ∀ t, G t = d[t]! := ⟨fun t => d[t]!, fun _ => rfl⟩
  have hcw : ∀ t, t < n → w.cell? ⟨blk, off + t, none⟩ = some (.int .u64 (G0 t)) := fun t ht => by rw [hG]; exact S.cell t ht
  have hfw : ∀ t, t < n → w.frozen? ⟨blk, off + t, none⟩ = false := S.frozen
  rw [← hG, ← hG] at HS
  obtain ⟨u, hu⟩ := S.second a pivot (by omega) (by omega) (.int .u64 (G0 pivot))
  obtain ⟨i, hi⟩ : ∃ i, i = a + 1 := ⟨_, rfl⟩
  have Hi : Hid _ := hi
  have Hj : Hid (bp = b - 1) := by show _ = _; omega
  obtain ⟨j, hj⟩ : ∃ j, j = bp := ⟨_, rfl⟩
  have Hj : Hid (j = b - 1) := by show _ = _; omega
  have Hi0 : Hid (Value.int .i64 ((a : Int) + 1) = .int .i64 (i : Nat)) := by show _ = _; congr 1; omega
  have Hdk : Hid _ := hdk
  have q0 : bp < n := by omega
  have q00 : a ≤ bp := by omega
  have q01 : a < i := by omega
  have q02 : i ≤ j + 1 := by omega
  have q03 : j ≤ bp := by omega
  have e1 : (b : Int) - 1 = (j : Int) := by omega
  clear S hG hbp hi hj hdk
  go_enter Try.func37, Try.ntmps37
  go_wp2_with fail
  go_region
  go_wp2_with fail
  clear hu hcw hfw e1
  obtain ⟨G, hG⟩ : ∃ G : Nat → Int, ∀ t, G t = dk[t]! := ⟨fun t => dk[t]!, fun _ => rfl⟩
  have HG : Hid (∀ t, G t = dk[t]!) := hG
  clear hG
  obtain ⟨i2, hi2⟩ : ∃ i2, i2 = scanUp (fun x => ltInt x dk[a]!) dk j i := ⟨_, rfl⟩
  have Hi2 : Hid _ := hi2
  clear hi2
  go_wp2_with fail
  go_loopw [10] (fun vi wr2 => ∃ t : Nat, vi = .int .i64 t ∧ i ≤ t ∧ t ≤ j + 1 ∧ Hid (SU w0 blk off n dk wr2) ∧ Hid (i2 = scanUp (fun x => ltInt x dk[a]!) dk j t)) (fun vi _ => (j + 1 - intOf vi).toNat)
  case atStart => exact ⟨i, by first | rfl | exact Hi0.out, by omega, by omega, HS, Hi2⟩
  case round =>
    clear HS
    obtain ⟨t, rfl, hit, htj, S1, HT⟩ := hrel
    have hcw : ∀ t, t < n → wr.cell? ⟨blk, off + t, none⟩ = some (.int .u64 (G t)) := fun t ht => by rw [HG.out]; exact S1.out.cell t ht
    have hfw : ∀ t, t < n → wr.frozen? ⟨blk, off + t, none⟩ = false := S1.out.frozen
    obtain ⟨x, hx⟩ : ∃ x, x = (decide (t ≤ j) && ltInt (G t) (G a)) := ⟨_, rfl⟩
    have HX : Hid _ := hx
    clear hx
    go_wp2_with fail
    go_cut [43] from 30 to 43 (fun v wq => v = .bool x ∧ ∃ q, wq = wr.drewN q)
    case first =>
      by_cases htj' : t ≤ j
      · have q1 : (t : Int) ≤ (j : Int) := by omega
        have q2 : decide ((t : Int) ≤ (j : Int)) = true := decide_eq_true q1
        have HX2 : Hid (x = ltInt (G t) (G a)) := by show _ = _; rw [HX.out, decide_eq_true htj', Bool.true_and]
        go_wp2_with fail
        go_big_quiet (first | (go_at_call 35; refine Calls.quiet_of_same (less_any _ _ _)))
        go_wp2_with fail
        go_meet
        case rel => exact ⟨by rw [HX2.out], _, rfl⟩
      · have q2 : decide ((t : Int) ≤ (j : Int)) = false := decide_eq_false (by omega)
        have HX2 : Hid (x = false) := by show _ = _; rw [HX.out, decide_eq_false htj', Bool.false_and]
        go_wp2_with fail
        go_big_quiet (first | (go_at_call 35; refine Calls.quiet_of_same (less_any _ _ _)))
        go_wp2_with fail
        go_meet
        case rel => exact ⟨by rw [HX2.out], _, rfl⟩

    case rest =>
      obtain ⟨rfl, q, hq⟩ := hcut
      have S2 : Hid (SU w0 blk off n dk wc) := by
        show SU _ _ _ _ _ _
        rw [hq]; exact S1.out.drewN q
      clear hcw hfw hq S1

      cases x with
      | true =>
        have hx := HX.out.symm
        simp only [Bool.and_eq_true, decide_eq_true_eq] at hx
        rw [HG.out, HG.out] at hx
        have h1 := hx.1
        have HT2 : Hid (i2 = scanUp (fun x => ltInt x dk[a]!) dk j (t + 1)) := by
          show _ = _
          rw [HT.out, scanUp_go (fun x => ltInt x dk[a]!) dk j t h1 hx.2]
        clear hx HX HT
        go_wp2_with fail
        go_roundw
        case rel => exact ⟨t + 1, by go_num, by omega, by omega, S2, HT2⟩
        case measure => simp [intOf]; omega
      | false =>
        have Ht : Hid (i2 = t) := by
          show _ = _
          rw [HT.out, scanUp_end]
          have hx := HX.out
          rw [HG.out, HG.out] at hx
          by_cases h : t ≤ j
          · rw [decide_eq_true h, Bool.true_and] at hx; exact Or.inr hx.symm
          · exact Or.inl h
        clear HX HT
        obtain rfl := Ht.out
        clear Ht

        obtain ⟨j2, hj2⟩ : ∃ j2, j2 = scanDown (fun x => !ltInt x dk[a]!) dk i2 j := ⟨_, rfl⟩
        have Hj2 : Hid _ := hj2
        clear hj2
        go_wp2_with fail
        go_loopw [11] (fun vj wr2 => ∃ t : Nat, vj = .int .i64 t ∧ t ≤ j ∧ i2 ≤ t + 1 ∧ Hid (SU w0 blk off n dk wr2) ∧ Hid (j2 = scanDown (fun x => !ltInt x dk[a]!) dk i2 t)) (fun vj _ => (intOf vj).toNat)
        case atStart => exact ⟨j, rfl, by omega, by omega, S2, Hj2⟩
        case round =>
          clear S2
          obtain ⟨t, rfl, htj, hit, S1, HT⟩ := hrel
          have hcw : ∀ t, t < n → wr.cell? ⟨blk, off + t, none⟩ = some (.int .u64 (G t)) := fun t ht => by rw [HG.out]; exact S1.out.cell t ht
          have hfw : ∀ t, t < n → wr.frozen? ⟨blk, off + t, none⟩ = false := S1.out.frozen
          obtain ⟨x, hx⟩ : ∃ x, x = (decide (i2 ≤ t) && !ltInt (G t) (G a)) := ⟨_, rfl⟩
          have HX : Hid _ := hx
          clear hx
          go_wp2_with fail
          go_cut [60] from 46 to 60 (fun v wq => v = .bool x ∧ ∃ q, wq = wr.drewN q)
          case first =>
            by_cases htj' : i2 ≤ t
            · have q1 : (i2 : Int) ≤ (t : Int) := by omega
              have q2 : decide ((i2 : Int) ≤ (t : Int)) = true := decide_eq_true q1
              have HX2 : Hid (x = !ltInt (G t) (G a)) := by show _ = _; rw [HX.out, decide_eq_true htj', Bool.true_and]
              go_wp2_with fail
              go_big_quiet (first | (go_at_call 35; refine Calls.quiet_of_same (less_any _ _ _)))
              go_wp2_with fail
              go_meet
              case rel => exact ⟨by rw [HX2.out], _, rfl⟩
            · have q2 : decide ((i2 : Int) ≤ (t : Int)) = false := decide_eq_false (by omega)
              have HX2 : Hid (x = false) := by show _ = _; rw [HX.out, decide_eq_false htj', Bool.false_and]
              go_wp2_with fail
              go_big_quiet (first | (go_at_call 35; refine Calls.quiet_of_same (less_any _ _ _)))
              go_wp2_with fail
              go_meet
              case rel => exact ⟨by rw [HX2.out], _, rfl⟩

          case rest =>
            obtain ⟨rfl, q, hq⟩ := hcut
            have S2 : Hid (SU w0 blk off n dk wc) := by
              show SU _ _ _ _ _ _
              rw [hq]; exact S1.out.drewN q
            clear hcw hfw hq S1

            cases x with
            | true =>
              have hx := HX.out.symm
              simp only [Bool.and_eq_true, decide_eq_true_eq] at hx
              rw [HG.out, HG.out] at hx
              have h1 := hx.1
              have HT2 : Hid (j2 = scanDown (fun x => !ltInt x dk[a]!) dk i2 (t - 1)) := by
                show _ = _
                rw [HT.out, scanDown_go (fun x => !ltInt x dk[a]!) dk i2 t h1 (by omega) hx.2]
              clear hx HX HT
              obtain ⟨t, rfl⟩ : ∃ q, t = q + 1 := ⟨t - 1, by omega⟩
              go_wp2_with fail
              go_roundw
              case rel => exact ⟨t, by go_num, by omega, by omega, S2, HT2⟩
              case measure => simp [intOf]
            | false =>
              have Ht : Hid (j2 = t) := by
                show _ = _
                rw [HT.out, scanDown_end]
                have hx := HX.out
                rw [HG.out, HG.out] at hx
                by_cases h : i2 ≤ t
                · rw [decide_eq_true h, Bool.true_and] at hx; exact Or.inr hx.symm
                · exact Or.inl h
              clear HX HT
              obtain rfl := Ht.out
              clear Ht

              have hcw : ∀ t, t < n → wc.cell? ⟨blk, off + t, none⟩ = some (.int .u64 (G t)) := fun t ht => by rw [HG.out]; exact S2.out.cell t ht
              have hfw : ∀ t, t < n → wc.frozen? ⟨blk, off + t, none⟩ = false := S2.out.frozen
              by_cases hbr : j2 < i2
              · have q1 : (j2 : Int) < (i2 : Int) := by omega
                have HE : Hid (partition ltInt d a b pivot = (j2, true, swp dk j2 a)) := part_first_break ltInt d a b pivot Hi.out Hj.out Hdk.out Hi2.out Hj2.out hbr
                obtain ⟨u, hu⟩ := S2.out.second j2 a (by omega) (by omega) (.int .u64 (G a))
                have HL : Hid (SU w0 blk off n (swp dk j2 a) ((wc.setCell ⟨blk, off + j2, none⟩ (.int .u64 (G a))).setCell ⟨blk, off + a, none⟩ (.int .u64 (G j2))).drew) := by
                  show SU _ _ _ _ _ _
                  rw [HG.out, HG.out]; exact (S2.out.swap j2 a (by omega) (by omega)).drew
                clear S2
                go_wp2_with fail
                go_region
                go_wp2_with fail
                go_ret2

                exact ⟨by rw [HE.out]; rfl, by rw [HE.out]; exact HL.out⟩
              · have q1 : ¬ (j2 : Int) < (i2 : Int) := by omega
                have hlt : i2 < j2 := part_scans_lt ltInt a i j dk (by omega) Hi2.out Hj2.out (by omega)
                obtain ⟨jp, hjp⟩ : ∃ q, q + 1 = j2 := ⟨j2 - 1, by omega⟩
                have e5 : (j2 : Int) - 1 = (jp : Int) := by omega
                have hne : i2 ≠ j2 := by omega
                have q6 : i2 < jp + 1 := by omega
                have q7 : jp + 1 ≤ bp := by omega
                have HX : Hid (SU w0 blk off n (swp dk i2 j2) ((wc.setCell ⟨blk, off + i2, none⟩ (.int .u64 (G j2))).setCell ⟨blk, off + j2, none⟩ (.int .u64 (G i2))).drew) := by
                  show SU _ _ _ _ _ _
                  rw [HG.out, HG.out]; exact (S2.out.swap i2 j2 (by omega) (by omega)).drew

                obtain ⟨D, hD⟩ : ∃ D, D = swp dk i2 j2 := ⟨_, rfl⟩
                obtain ⟨R, hR⟩ : ∃ R, R = partLoop ltInt a (i2 + 1) jp D := ⟨_, rfl⟩
                have HD : Hid (partLoop ltInt a (i2 + 1) jp D = R) := hR.symm
                have HR : Hid (partition ltInt d a b pivot = (R.1, false, swp R.2 R.1 a)) := by
                  show _ = _
                  rw [part_first_go ltInt d a b pivot Hi.out Hj.out Hdk.out Hi2.out Hj2.out (by omega), show j2 - 1 = jp by omega, ← hD, ← hR]
                rw [← hD] at HX
                clear S2 hjp hD hR
                go_wp2_with fail
                go_region
                go_wp2_with fail
                clear hcw hfw e5
                go_loopw [10, 11] (fun vi vj wr => ∃ (i j : Nat) (dk : Array Int), vi = .int .i64 i ∧ vj = .int .i64 j ∧ a < i ∧ i ≤ j + 1 ∧ j ≤ bp ∧ Hid (SU w0 blk off n dk wr) ∧ Hid (partLoop ltInt a i j dk = R)) (fun vi vj _ => (intOf vj + 1 - intOf vi).toNat)
                case atStart => exact ⟨i2 + 1, jp, D, by go_num, by go_num, by omega, by omega, by omega, HX, HD⟩
                case round =>
                  clear HX HD HG Hi2 Hj2
                  rename_i i0 j0 _
                  obtain ⟨i, j, dk, rfl, rfl, hai, hij, hjb, S0, HO⟩ := hrel
                  obtain ⟨G, hG⟩ : ∃ G : Nat → Int, ∀ t, G t = dk[t]! := ⟨fun t => dk[t]!, fun _ => rfl⟩
                  have HG : Hid (∀ t, G t = dk[t]!) := hG
                  clear hG
                  obtain ⟨i2, hi2⟩ : ∃ i2, i2 = scanUp (fun x => ltInt x dk[a]!) dk j i := ⟨_, rfl⟩
                  have Hi2 : Hid _ := hi2
                  clear hi2
                  go_wp2_with fail
                  go_loopw [10] (fun vi wr2 => ∃ t : Nat, vi = .int .i64 t ∧ i ≤ t ∧ t ≤ j + 1 ∧ Hid (SU w0 blk off n dk wr2) ∧ Hid (i2 = scanUp (fun x => ltInt x dk[a]!) dk j t)) (fun vi _ => (j + 1 - intOf vi).toNat)
                  case atStart => exact ⟨i, by first | rfl | exact Hi0.out, by omega, by omega, S0, Hi2⟩
                  case round =>
                    clear S0
                    obtain ⟨t, rfl, hit, htj, S1, HT⟩ := hrel
                    have hcw : ∀ t, t < n → wr.cell? ⟨blk, off + t, none⟩ = some (.int .u64 (G t)) := fun t ht => by rw [HG.out]; exact S1.out.cell t ht
                    have hfw : ∀ t, t < n → wr.frozen? ⟨blk, off + t, none⟩ = false := S1.out.frozen
                    obtain ⟨x, hx⟩ : ∃ x, x = (decide (t ≤ j) && ltInt (G t) (G a)) := ⟨_, rfl⟩
                    have HX : Hid _ := hx
                    clear hx
                    go_wp2_with fail
                    go_cut [112] from 99 to 112 (fun v wq => v = .bool x ∧ ∃ q, wq = wr.drewN q)
                    case first =>
                      by_cases htj' : t ≤ j
                      · have q1 : (t : Int) ≤ (j : Int) := by omega
                        have q2 : decide ((t : Int) ≤ (j : Int)) = true := decide_eq_true q1
                        have HX2 : Hid (x = ltInt (G t) (G a)) := by show _ = _; rw [HX.out, decide_eq_true htj', Bool.true_and]
                        go_wp2_with fail
                        go_big_quiet (first | (go_at_call 35; refine Calls.quiet_of_same (less_any _ _ _)))
                        go_wp2_with fail
                        go_meet
                        case rel => exact ⟨by rw [HX2.out], _, rfl⟩
                      · have q2 : decide ((t : Int) ≤ (j : Int)) = false := decide_eq_false (by omega)
                        have HX2 : Hid (x = false) := by show _ = _; rw [HX.out, decide_eq_false htj', Bool.false_and]
                        go_wp2_with fail
                        go_big_quiet (first | (go_at_call 35; refine Calls.quiet_of_same (less_any _ _ _)))
                        go_wp2_with fail
                        go_meet
                        case rel => exact ⟨by rw [HX2.out], _, rfl⟩

                    case rest =>
                      obtain ⟨rfl, q, hq⟩ := hcut
                      have S2 : Hid (SU w0 blk off n dk wc) := by
                        show SU _ _ _ _ _ _
                        rw [hq]; exact S1.out.drewN q
                      clear hcw hfw hq S1

                      cases x with
                      | true =>
                        have hx := HX.out.symm
                        simp only [Bool.and_eq_true, decide_eq_true_eq] at hx
                        rw [HG.out, HG.out] at hx
                        have h1 := hx.1
                        have HT2 : Hid (i2 = scanUp (fun x => ltInt x dk[a]!) dk j (t + 1)) := by
                          show _ = _
                          rw [HT.out, scanUp_go (fun x => ltInt x dk[a]!) dk j t h1 hx.2]
                        clear hx HX HT
                        go_wp2_with fail
                        go_roundw
                        case rel => exact ⟨t + 1, by go_num, by omega, by omega, S2, HT2⟩
                        case measure => simp [intOf]; omega
                      | false =>
                        have Ht : Hid (i2 = t) := by
                          show _ = _
                          rw [HT.out, scanUp_end]
                          have hx := HX.out
                          rw [HG.out, HG.out] at hx
                          by_cases h : t ≤ j
                          · rw [decide_eq_true h, Bool.true_and] at hx; exact Or.inr hx.symm
                          · exact Or.inl h
                        clear HX HT
                        obtain rfl := Ht.out
                        clear Ht

                        obtain ⟨j2, hj2⟩ : ∃ j2, j2 = scanDown (fun x => !ltInt x dk[a]!) dk i2 j := ⟨_, rfl⟩
                        have Hj2 : Hid _ := hj2
                        clear hj2
                        go_wp2_with fail
                        go_loopw [11] (fun vj wr2 => ∃ t : Nat, vj = .int .i64 t ∧ t ≤ j ∧ i2 ≤ t + 1 ∧ Hid (SU w0 blk off n dk wr2) ∧ Hid (j2 = scanDown (fun x => !ltInt x dk[a]!) dk i2 t)) (fun vj _ => (intOf vj).toNat)
                        case atStart => exact ⟨j, rfl, by omega, by omega, S2, Hj2⟩
                        case round =>
                          clear S2
                          obtain ⟨t, rfl, htj, hit, S1, HT⟩ := hrel
                          have hcw : ∀ t, t < n → wr.cell? ⟨blk, off + t, none⟩ = some (.int .u64 (G t)) := fun t ht => by rw [HG.out]; exact S1.out.cell t ht
                          have hfw : ∀ t, t < n → wr.frozen? ⟨blk, off + t, none⟩ = false := S1.out.frozen
                          obtain ⟨x, hx⟩ : ∃ x, x = (decide (i2 ≤ t) && !ltInt (G t) (G a)) := ⟨_, rfl⟩
                          have HX : Hid _ := hx
                          clear hx
                          go_wp2_with fail
                          go_cut [129] from 115 to 129 (fun v wq => v = .bool x ∧ ∃ q, wq = wr.drewN q)
                          case first =>
                            by_cases htj' : i2 ≤ t
                            · have q1 : (i2 : Int) ≤ (t : Int) := by omega
                              have q2 : decide ((i2 : Int) ≤ (t : Int)) = true := decide_eq_true q1
                              have HX2 : Hid (x = !ltInt (G t) (G a)) := by show _ = _; rw [HX.out, decide_eq_true htj', Bool.true_and]
                              go_wp2_with fail
                              go_big_quiet (first | (go_at_call 35; refine Calls.quiet_of_same (less_any _ _ _)))
                              go_wp2_with fail
                              go_meet
                              case rel => exact ⟨by rw [HX2.out], _, rfl⟩
                            · have q2 : decide ((i2 : Int) ≤ (t : Int)) = false := decide_eq_false (by omega)
                              have HX2 : Hid (x = false) := by show _ = _; rw [HX.out, decide_eq_false htj', Bool.false_and]
                              go_wp2_with fail
                              go_big_quiet (first | (go_at_call 35; refine Calls.quiet_of_same (less_any _ _ _)))
                              go_wp2_with fail
                              go_meet
                              case rel => exact ⟨by rw [HX2.out], _, rfl⟩

                          case rest =>
                            obtain ⟨rfl, q, hq⟩ := hcut
                            have S2 : Hid (SU w0 blk off n dk wc) := by
                              show SU _ _ _ _ _ _
                              rw [hq]; exact S1.out.drewN q
                            clear hcw hfw hq S1

                            cases x with
                            | true =>
                              have hx := HX.out.symm
                              simp only [Bool.and_eq_true, decide_eq_true_eq] at hx
                              rw [HG.out, HG.out] at hx
                              have h1 := hx.1
                              have HT2 : Hid (j2 = scanDown (fun x => !ltInt x dk[a]!) dk i2 (t - 1)) := by
                                show _ = _
                                rw [HT.out, scanDown_go (fun x => !ltInt x dk[a]!) dk i2 t h1 (by omega) hx.2]
                              clear hx HX HT
                              obtain ⟨t, rfl⟩ : ∃ q, t = q + 1 := ⟨t - 1, by omega⟩
                              go_wp2_with fail
                              go_roundw
                              case rel => exact ⟨t, by go_num, by omega, by omega, S2, HT2⟩
                              case measure => simp [intOf]
                            | false =>
                              have Ht : Hid (j2 = t) := by
                                show _ = _
                                rw [HT.out, scanDown_end]
                                have hx := HX.out
                                rw [HG.out, HG.out] at hx
                                by_cases h : i2 ≤ t
                                · rw [decide_eq_true h, Bool.true_and] at hx; exact Or.inr hx.symm
                                · exact Or.inl h
                              clear HX HT
                              obtain rfl := Ht.out
                              clear Ht

                              have hcw : ∀ t, t < n → wc.cell? ⟨blk, off + t, none⟩ = some (.int .u64 (G t)) := fun t ht => by rw [HG.out]; exact S2.out.cell t ht
                              have hfw : ∀ t, t < n → wc.frozen? ⟨blk, off + t, none⟩ = false := S2.out.frozen
                              by_cases hbr : j2 < i2
                              · have q1 : (j2 : Int) < (i2 : Int) := by omega
                                have HE : Hid (partLoop ltInt a i j dk = (j2, dk)) := part_break ltInt a i j dk Hi2.out Hj2.out hbr
                                obtain ⟨u, hu⟩ := S2.out.second j2 a (by omega) (by omega) (.int .u64 (G a))
                                have HL : Hid (SU w0 blk off n (swp dk j2 a) ((wc.setCell ⟨blk, off + j2, none⟩ (.int .u64 (G a))).setCell ⟨blk, off + a, none⟩ (.int .u64 (G j2))).drew) := by
                                  show SU _ _ _ _ _ _
                                  rw [HG.out, HG.out]; exact (S2.out.swap j2 a (by omega) (by omega)).drew
                                clear S2
                                go_wp2_with fail
                                go_region
                                go_wp2_with fail
                                go_ret2

                                exact ⟨by rw [HR.out, ← HO.out, HE.out]; rfl, by rw [HR.out, ← HO.out, HE.out]; exact HL.out⟩
                              · have q1 : ¬ (j2 : Int) < (i2 : Int) := by omega
                                have hlt : i2 < j2 := part_scans_lt ltInt a i j dk (by omega) Hi2.out Hj2.out (by omega)
                                obtain ⟨jp, hjp⟩ : ∃ q, q + 1 = j2 := ⟨j2 - 1, by omega⟩
                                have e5 : (j2 : Int) - 1 = (jp : Int) := by omega
                                have hne : i2 ≠ j2 := by omega
                                have q6 : i2 < jp + 1 := by omega
                                have q7 : jp + 1 ≤ bp := by omega
                                have HX : Hid (SU w0 blk off n (swp dk i2 j2) ((wc.setCell ⟨blk, off + i2, none⟩ (.int .u64 (G j2))).setCell ⟨blk, off + j2, none⟩ (.int .u64 (G i2))).drew) := by
                                  show SU _ _ _ _ _ _
                                  rw [HG.out, HG.out]; exact (S2.out.swap i2 j2 (by omega) (by omega)).drew

                                have HE : Hid (partLoop ltInt a i j dk = partLoop ltInt a (i2 + 1) jp (swp dk i2 j2)) := by
                                  show _ = _
                                  rw [part_go ltInt a i j dk Hi2.out Hj2.out (by omega), show j2 - 1 = jp by omega]
                                clear S2 hjp
                                go_wp2_with fail
                                go_region
                                go_wp2_with fail
                                go_roundw
                                case rel => exact ⟨i2 + 1, jp, swp dk i2 j2, by go_num, by go_num, by omega, by omega, by omega, HX, (show Hid _ from by rw [← HO.out, HE.out]; exact rfl)⟩
                                case measure => simp [intOf]; omega





end Go.Proofs.Ytnojjipoppemcaa
