/- slices.Sort of uint64s: partialInsertionSortOrdered. -/
import Derived.Test.YtnojjipoppemcaaSortU
import Derived.Sort.WalkA6
import Derived.Deep.CutRange
namespace Go.Proofs.Ytnojjipoppemcaa
open Go.RowKit Go.Sort
set_option linter.unusedVariables false
set_option linter.unusedSimpArgs false

set_option maxRecDepth 1000000 in
set_option maxHeartbeats 16000000 in
theorem partial_any {w0 w : World} {blk off n : Nat} {d : Array Int} (S : SU w0 blk off n d w) (cap a b : Nat) (hab : a < b) (hb : b ≤ n) (hn : n < 4611686018427387904) :
    Calls Try.prog 34 #[.slice (some ⟨blk, off, none⟩) n cap, .int .i64 a, .int .i64 b] w fun e w' => e = .returned (.bool (partialInsertionSort ltInt d a b).2) ∧ SU w0 blk off n (partialInsertionSort ltInt d a b).1 w' := by
  have HS : Hid _ := S
  clear S
  have HR : Hid (partialInsertionSort ltInt d a b = partialIns ltInt a b (5 - 0) (a + 1) d) := rfl
  rw [HR.out]
  clear HR
  go_enter Try.func34, Try.ntmps34
  go_wp2_with fail
  go_loopw [7, 8] (fun vi vs wr => ∃ (i s : Nat) (dk : Array Int), vi = .int .i64 i ∧ vs = .int .i64 s ∧ a < i ∧ i ≤ b ∧ s ≤ 5 ∧ Hid (SU w0 blk off n dk wr) ∧ Hid (partialIns ltInt a b (5 - s) i dk = partialIns ltInt a b (5 - 0) (a + 1) d)) (fun _ vs _ => (5 - intOf vs).toNat)
  case atStart => exact ⟨a + 1, 0, d, by go_num, rfl, by omega, by omega, by omega, HS, rfl⟩
  case round =>
    obtain ⟨i, s, dk, rfl, rfl, hai, hib, hs, S0, HO⟩ := hrel
    clear HS
    by_cases hs5 : s < 5
    · have q1 : (s : Int) < 5 := by omega
      obtain ⟨G, hG⟩ : ∃ G : Nat → Int, ∀ t, G t = dk[t]! := ⟨fun t => dk[t]!, fun _ => rfl⟩
      have HG : Hid (∀ t, G t = dk[t]!) := hG
      clear hG
      obtain ⟨K, hK⟩ : ∃ K, K = scanSorted ltInt dk b i := ⟨_, rfl⟩
      have HK : Hid _ := hK
      clear hK
      go_wp2_with fail
      go_loopw [7] (fun vi wr2 => ∃ t : Nat, vi = .int .i64 t ∧ i ≤ t ∧ t ≤ b ∧ Hid (SU w0 blk off n dk wr2) ∧ Hid (K = scanSorted ltInt dk b t)) (fun vi _ => (b - intOf vi).toNat)
      case atStart => exact ⟨i, rfl, by omega, by omega, S0, HK⟩
      case round =>
        clear S0
        obtain ⟨t, rfl, hit, htb, S1, HT⟩ := hrel
        obtain ⟨tp, htp⟩ : ∃ q, q + 1 = t := ⟨t - 1, by omega⟩
        have e1 : (t : Int) - 1 = (tp : Int) := by omega
        have htp' : t - 1 = tp := by omega
        have Htp : Hid _ := htp'
        clear htp'
        have hcw : ∀ t, t < n → wr.cell? ⟨blk, off + t, none⟩ = some (.int .u64 (G t)) := fun t ht => by rw [HG.out]; exact S1.out.cell t ht
        have hfw : ∀ t, t < n → wr.frozen? ⟨blk, off + t, none⟩ = false := S1.out.frozen
        obtain ⟨x, hx⟩ : ∃ x, x = (decide (t < b) && !ltInt (G t) (G tp)) := ⟨_, rfl⟩
        have HX : Hid _ := hx
        have q7 : tp < t := by omega
        clear hx htp
        go_wp2_with fail
        go_cut [32] from 17 to 32 (fun v wq => v = .bool x ∧ ∃ q, wq = wr.drewN q)
        case first =>
          by_cases htb' : t < b
          · have q2 : (t : Int) < (b : Int) := by omega
            have q3 : decide ((t : Int) < (b : Int)) = true := decide_eq_true q2
            have HX2 : Hid (x = !ltInt (G t) (G tp)) := by show _ = _; rw [HX.out, decide_eq_true htb', Bool.true_and]
            go_wp2_with fail
            go_big_quiet (first | (go_at_call 35; refine Calls.quiet_of_same (less_any _ _ _)))
            go_wp2_with fail
            go_meet
            case rel => exact ⟨by rw [HX2.out], _, rfl⟩
          · have q3 : decide ((t : Int) < (b : Int)) = false := decide_eq_false (by omega)
            have HX2 : Hid (x = false) := by show _ = _; rw [HX.out, decide_eq_false htb', Bool.false_and]
            go_wp2_with fail
            go_big_quiet (first | (go_at_call 35; refine Calls.quiet_of_same (less_any _ _ _)))
            go_wp2_with fail
            go_meet
            case rel => exact ⟨by rw [HX2.out], _, rfl⟩
        case rest =>
          obtain ⟨rfl, q, hq⟩ := hcut
          have S2 : Hid (SU w0 blk off n dk wc) := by
            show SU _ _ _ _ _ _
            rw [hq]; exact S1.out.drewN q
          clear hcw hfw hq S1
          cases x with
          | true =>
            have hx := HX.out.symm
            simp only [Bool.and_eq_true, decide_eq_true_eq] at hx
            have h1 := hx.1
            have HT2 : Hid (K = scanSorted ltInt dk b (t + 1)) := by
              show _ = _
              rw [HT.out, scanSorted_go ltInt dk b t h1]
              have := hx.2
              rw [HG.out, HG.out] at this
              rw [Htp.out]
              simpa using this
            clear hx HX HT
            go_wp2_with fail
            go_roundw
            case rel => exact ⟨t + 1, by go_num, by omega, by omega, S2, HT2⟩
            case measure => simp [intOf]; omega
          | false =>
            have Ht : Hid (K = t) := by
              show _ = _
              rw [HT.out, scanSorted_stop]
              have hx := HX.out
              rw [HG.out, HG.out] at hx
              rw [Htp.out]
              by_cases h : t < b
              · rw [decide_eq_true h, Bool.true_and] at hx; exact Or.inr (by simpa using hx.symm)
              · exact Or.inl h
            clear HX HT
            have HK2 : Hid (scanSorted ltInt dk b i = t) := by show _ = _; rw [← HK.out, Ht.out]
            by_cases htb' : t = b
            · have q2 : ((t : Int) == (b : Int)) = true := beq_iff_eq.mpr (by omega)
              have q3 : decide ((t : Int) = (b : Int)) = true := decide_eq_true (by omega)
              have q4 : (t : Int) = (b : Int) := by omega
              have HE : Hid (partialIns ltInt a b (5 - s) i dk = (dk, true)) := pi_true ltInt a b s i dk hs5 (by rw [HK2.out, htb'])
              clear htb'
              go_wp2_with fail
              go_ret
              exact ⟨by rw [← HO.out, HE.out]; rfl, by rw [← HO.out, HE.out]; exact S2.out⟩
            · have q2 : ((t : Int) == (b : Int)) = false := beq_eq_false_iff_ne.mpr (by omega)
              have q4 : ¬ (t : Int) = (b : Int) := by omega
              by_cases h50 : b - a < 50
              · have q3 : (b : Int) - (a : Int) < 50 := by omega
                have HE : Hid (partialIns ltInt a b (5 - s) i dk = (dk, false)) := pi_short ltInt a b s i dk hs5 (by rw [HK2.out]; exact htb') h50
                go_wp2_with fail
                go_ret
                exact ⟨by rw [← HO.out, HE.out]; rfl, by rw [← HO.out, HE.out]; exact S2.out⟩
              · have q3 : ¬ (b : Int) - (a : Int) < 50 := by omega
                obtain ⟨D, hD⟩ : ∃ D, D = swp dk t tp := ⟨_, rfl⟩
                obtain ⟨D1, hD1⟩ : ∃ D1, D1 = fixDown ltInt a t D := ⟨_, rfl⟩
                obtain ⟨D2, hD2⟩ : ∃ D2, D2 = fixUp ltInt b t D1 := ⟨_, rfl⟩
                have HE : Hid (partialIns ltInt a b (5 - s) i dk = partialIns ltInt a b (5 - (s + 1)) t D2) := by
                  show _ = _
                  rw [pi_go ltInt a b s i t dk hs5 HK2.out htb' h50, Htp.out, ← hD, ← hD1, ← hD2]
                have hcw : ∀ t, t < n → wc.cell? ⟨blk, off + t, none⟩ = some (.int .u64 (G t)) := fun t ht => by rw [HG.out]; exact S2.out.cell t ht
                have hfw : ∀ t, t < n → wc.frozen? ⟨blk, off + t, none⟩ = false := S2.out.frozen
                have HX : Hid (SU w0 blk off n D ((wc.setCell ⟨blk, off + t, none⟩ (.int .u64 (G tp))).setCell ⟨blk, off + tp, none⟩ (.int .u64 (G t))).drew) := by
                  show SU _ _ _ _ _ _
                  rw [HG.out, HG.out, hD]; exact (S2.out.swap t tp (by omega) (by omega)).drew
                have HD1 : Hid _ := hD1
                have HD2 : Hid _ := hD2
                have htb2 : t < b := by omega
                have q8 : t ≠ tp := by omega
                clear S2 hD hD1 hD2 htb'
                go_wp2_with fail
                go_region
                go_upto_if 61 with (fail)
                clear hcw hfw
                generalize ((wc.setCell ⟨blk, off + t, none⟩ (.int .u64 (G tp))).setCell ⟨blk, off + tp, none⟩ (.int .u64 (G t))).drew = w3 at HX ⊢
                go_cut [9] from 61 to 94 (fun _ wq => SU w0 blk off n D1 wq)
                case first =>
                  have HF : Hid (∀ (dj : Array Int) wq, dj = shiftDown ltInt tp D → SU w0 blk off n dj wq → SU w0 blk off n (shiftDown ltInt tp D) wq) := fun dj wq e h => e ▸ h
                  by_cases h2 : t - a ≥ 2
                  · have q9 : (2 : Int) ≤ (t : Int) - (a : Int) := by omega
                    have HF : Hid (∀ (dj : Array Int) wq, dj = shiftDown ltInt tp D → SU w0 blk off n dj wq → SU w0 blk off n D1 wq) := fun dj wq e h => by rw [HD1.out, fixDown, if_pos h2, Htp.out, ← e]; exact h
                    have SD : Hid _ := HX
                    clear HX
                    go_wp2_with fail
                    go_loopw [9] (fun v wr2 => ∃ (j : Nat) (dj : Array Int), v = .int .i64 j ∧ j ≤ tp ∧ Hid (SU w0 blk off n dj wr2) ∧ Hid (shiftDown ltInt j dj = shiftDown ltInt (tp) D)) (fun v _ => (intOf v).toNat)
                    case atStart => exact ⟨tp, D, by first | rfl | go_num, by omega, SD, rfl⟩
                    case round =>
                      clear SD
                      obtain ⟨j, dj, rfl, hjt, SJ, HJ⟩ := hrel
                      by_cases hj1 : 0 < j
                      · obtain ⟨jp, hjp⟩ : ∃ q, j = q + 1 := ⟨j - 1, by omega⟩
                        subst hjp
                        have q6 : (1 : Int) ≤ (jp : Int) + 1 := by omega
                        obtain ⟨G, hG⟩ : ∃ G : Nat → Int, ∀ t, G t = dj[t]! := ⟨fun t => dj[t]!, fun _ => rfl⟩
                        have HG : Hid (∀ t, G t = dj[t]!) := hG
                        have hcw : ∀ t, t < n → wr.cell? ⟨blk, off + t, none⟩ = some (.int .u64 (G t)) := fun t ht => by rw [hG]; exact SJ.out.cell t ht
                        have hfw : ∀ t, t < n → wr.frozen? ⟨blk, off + t, none⟩ = false := SJ.out.frozen
                        clear hG
                        cases hlv : ltInt (G (jp + 1)) (G jp) with
                        | true =>
                          have Hlv : Hid _ := hlv
                          have HX : Hid (∀ q, SU w0 blk off n (swp dj (jp + 1) jp) (((wr.drewN q).setCell ⟨blk, off + (jp + 1), none⟩ (.int .u64 (G jp))).setCell ⟨blk, off + jp, none⟩ (.int .u64 (G (jp + 1)))).drew) := by
                            show ∀ q, SU _ _ _ _ _ _
                            intro q
                            rw [HG.out, HG.out]; exact ((SJ.out.drewN q).swap (jp + 1) jp (by omega) (by omega)).drew
                          go_wp2_with fail
                          go_big_quiet (first | (go_at_call 35; refine Calls.quiet_of_same (less_any _ _ _)))
                          go_wp2_with fail
                          go_region
                          go_wp2_with fail
                          go_roundw
                          case rel => exact ⟨jp, swp dj (jp + 1) jp, by first | rfl | (congr 1; omega), by omega, HX.out nq, (show Hid _ from by rw [← HJ.out, shiftDown_go ltInt (jp + 1) dj (by omega) (by rw [Nat.add_sub_cancel, ← HG.out, ← HG.out]; exact Hlv.out)]; exact rfl)⟩
                          case measure => simp [intOf]; try omega
                        | false =>
                          have Hlv : Hid _ := hlv
                          go_wp2_with fail
                          go_big_quiet (first | (go_at_call 35; refine Calls.quiet_of_same (less_any _ _ _)))
                          go_wp2_with fail
                          go_meet
                          case rel => exact HF.out _ _ (by rw [← HJ.out, shiftDown_stop ltInt _ _ (Or.inr (by rw [Nat.add_sub_cancel, ← HG.out, ← HG.out]; exact Hlv.out))]) (SJ.out.drewN _)
                      · have q6 : ¬ ((1 : Int) ≤ (j : Int)) := by omega
                        go_wp2_with fail
                        go_meet
                        case rel => exact HF.out _ _ (by rw [← HJ.out, shiftDown_stop ltInt j dj (Or.inl (by omega))]) SJ.out

                  · have q9 : ¬ (2 : Int) ≤ (t : Int) - (a : Int) := by omega
                    have HF : Hid (D1 = D) := by show _ = _; rw [HD1.out, fixDown, if_neg h2]
                    go_wp2_with fail
                    go_meet
                    case rel => rw [HF.out]; exact HX.out
                case rest =>
                  have S3 : Hid _ := hcut
                  clear HX hcut
                  by_cases h2 : b - t ≥ 2
                  · have q9 : (2 : Int) ≤ (b : Int) - (t : Int) := by omega
                    have HF : Hid (∀ (dj : Array Int) wq, dj = shiftUp ltInt b (t + 1) D1 → SU w0 blk off n dj wq → SU w0 blk off n D2 wq) := fun dj wq e h => by rw [HD2.out, fixUp, if_pos h2, ← e]; exact h
                    have SD : Hid _ := S3
                    clear S3
                    go_wp2_with fail
                    go_loopw [10] (fun v wr2 => ∃ (j : Nat) (dj : Array Int), v = .int .i64 j ∧ t + 1 ≤ j ∧ j ≤ b ∧ Hid (SU w0 blk off n dj wr2) ∧ Hid (shiftUp ltInt b j dj = shiftUp ltInt b (t + 1) D1)) (fun v _ => (b - intOf v).toNat)
                    case atStart => exact ⟨t + 1, D1, by first | rfl | go_num, by omega, by omega, SD, rfl⟩
                    case round =>
                      clear SD
                      obtain ⟨j, dj, rfl, htj, hjb, SJ, HJ⟩ := hrel
                      obtain ⟨jp, hjp⟩ : ∃ q, j = q + 1 := ⟨j - 1, by omega⟩
                      subst hjp
                      by_cases hj1 : jp + 1 < b
                      · have q6 : (jp : Int) + 1 < (b : Int) := by omega
                        obtain ⟨G, hG⟩ : ∃ G : Nat → Int, ∀ t, G t = dj[t]! := ⟨fun t => dj[t]!, fun _ => rfl⟩
                        have HG : Hid (∀ t, G t = dj[t]!) := hG
                        have hcw : ∀ t, t < n → wr.cell? ⟨blk, off + t, none⟩ = some (.int .u64 (G t)) := fun t ht => by rw [hG]; exact SJ.out.cell t ht
                        have hfw : ∀ t, t < n → wr.frozen? ⟨blk, off + t, none⟩ = false := SJ.out.frozen
                        clear hG
                        cases hlv : ltInt (G (jp + 1)) (G jp) with
                        | true =>
                          have Hlv : Hid _ := hlv
                          have HX : Hid (∀ q, SU w0 blk off n (swp dj (jp + 1) jp) (((wr.drewN q).setCell ⟨blk, off + (jp + 1), none⟩ (.int .u64 (G jp))).setCell ⟨blk, off + jp, none⟩ (.int .u64 (G (jp + 1)))).drew) := by
                            show ∀ q, SU _ _ _ _ _ _
                            intro q
                            rw [HG.out, HG.out]; exact ((SJ.out.drewN q).swap (jp + 1) jp (by omega) (by omega)).drew
                          go_wp2_with fail
                          go_big_quiet (first | (go_at_call 35; refine Calls.quiet_of_same (less_any _ _ _)))
                          go_wp2_with fail
                          go_region
                          go_wp2_with fail
                          go_roundw
                          case rel => exact ⟨jp + 2, swp dj (jp + 1) jp, by first | rfl | (congr 1; done) | (congr 1; omega), by omega, by omega, HX.out nq, (show Hid _ from by rw [← HJ.out, shiftUp_go ltInt b (jp + 1) dj hj1 (by rw [Nat.add_sub_cancel, ← HG.out, ← HG.out]; exact Hlv.out)]; exact rfl)⟩
                          case measure => simp [intOf]; omega
                        | false =>
                          have Hlv : Hid _ := hlv
                          go_wp2_with fail
                          go_big_quiet (first | (go_at_call 35; refine Calls.quiet_of_same (less_any _ _ _)))
                          go_wp2_with fail
                          go_roundw
                          case rel => exact ⟨t, s + 1, D2, rfl, by go_num, by omega, by omega, by omega, (HF.out _ _ (by rw [← HJ.out, shiftUp_stop ltInt b _ _ (Or.inr (by rw [Nat.add_sub_cancel, ← HG.out, ← HG.out]; exact Hlv.out))]) (SJ.out.drewN _)), (show Hid _ from by rw [← HO.out, HE.out]; exact rfl)⟩
                          case measure => simp [intOf]; omega
                      · have q6 : ¬ ((jp : Int) + 1 < (b : Int)) := by omega
                        go_wp2_with fail
                        go_roundw
                        case rel => exact ⟨t, s + 1, D2, rfl, by go_num, by omega, by omega, by omega, (HF.out _ _ (by rw [← HJ.out, shiftUp_stop ltInt b _ _ (Or.inl hj1)]) SJ.out), (show Hid _ from by rw [← HO.out, HE.out]; exact rfl)⟩
                        case measure => simp [intOf]; omega

                  · have q9 : ¬ (2 : Int) ≤ (b : Int) - (t : Int) := by omega
                    have HF : Hid (D2 = D1) := by show _ = _; rw [HD2.out, fixUp, if_neg h2]
                    go_wp2_with fail
                    go_roundw
                    case rel => exact ⟨t, s + 1, D2, rfl, by go_num, by omega, by omega, by omega, (by rw [HF.out]; exact S3.out), (show Hid _ from by rw [← HO.out, HE.out]; exact rfl)⟩
                    case measure => simp [intOf]; omega
    · obtain rfl : s = 5 := by omega
      go_wp2_with fail
      go_ret
      exact ⟨by rw [← HO.out, pi_end]; rfl, by rw [← HO.out, pi_end]; exact S0.out⟩
end Go.Proofs.Ytnojjipoppemcaa
