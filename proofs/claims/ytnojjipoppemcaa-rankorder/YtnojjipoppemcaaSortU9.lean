/- slices.Sort of uint64s: pdqsortOrdered, slices.Sort. -/
import Derived.Test.YtnojjipoppemcaaSortU2
import Derived.Test.YtnojjipoppemcaaSortU3
import Derived.Test.YtnojjipoppemcaaSortU4
import Derived.Test.YtnojjipoppemcaaSortU5
import Derived.Test.YtnojjipoppemcaaSortU7
import Derived.Test.YtnojjipoppemcaaSortU8
namespace Go.Proofs.Ytnojjipoppemcaa
open Go.RowKit Go.Sort
set_option linter.unusedVariables false
set_option linter.unusedSimpArgs false

/-- pdqsortOrdered on parts shorter than N. -/
def PdqOK (N : Nat) : Prop := ∀ {w0 w : World} {blk off n : Nat} {d : Array Int} (S : SU w0 blk off n d w) (cap a b limit : Nat), b - a < N → a ≤ b → b ≤ n → n < 4611686018427387904 → limit < 4611686018427387904 → Sort.Below ltInt a b d →
    Calls Try.prog 27 #[.slice (some ⟨blk, off, none⟩) n cap, .int .i64 a, .int .i64 b, .int .i64 limit] w fun e w' => e = .returned (.tuple #[]) ∧ SU w0 blk off n (pdq ltInt d a b limit true true) w'

set_option maxRecDepth 1000000 in
set_option maxHeartbeats 32000000 in
theorem pdq_any : ∀ N : Nat, PdqOK N := by
  intro N
  induction N with
  | zero => intro _ _ _ _ _ _ _ _ _ _ _ h; exact absurd h (Nat.not_lt_zero _)
  | succ N ih =>
    intro w0 w blk off n d S cap a b limit hN hab hb hn hli hBel
    have HS : Hid _ := S
    have HB0 : Hid (Sort.Below ltInt a b d) := hBel
    have IH : Hid (PdqOK N) := ih
    clear S hBel ih
    go_enter Try.func27, Try.ntmps27
    go_wp2_with fail
    go_loopw [1, 2, 3, 8, 9] (fun s1 s2 s3 s8 s9 wr => ∃ (a' b' lim : Nat) (wb wp : Bool) (dk : Array Int), s1 = .int .i64 a' ∧ s2 = .int .i64 b' ∧ s3 = .int .i64 lim ∧ s8 = .bool wb ∧ s9 = .bool wp ∧
      a' ≤ b' ∧ b' ≤ n ∧ b' - a' ≤ b - a ∧ lim ≤ limit ∧ Hid (Sort.Below ltInt a' b' dk) ∧ Hid (SU w0 blk off n dk wr) ∧ Hid (pdq ltInt dk a' b' lim wb wp = pdq ltInt d a b limit true true)) (fun s1 s2 _ _ _ _ => (intOf s2 - intOf s1).toNat)
    case atStart => exact ⟨a, b, limit, true, true, d, rfl, rfl, rfl, rfl, rfl, hab, hb, Nat.le_refl _, Nat.le_refl _, HB0, HS, rfl⟩
    case round =>
      obtain ⟨a', b', lim, wb, wp, dk, rfl, rfl, rfl, rfl, rfl, hab', hb', hk, hlim, HBel, S0, HO⟩ := hrel
      clear HS HB0
      by_cases h12 : b' - a' ≤ 12
      · have q1 : (b' : Int) - (a' : Int) ≤ 12 := by omega
        have p1 := ins_any S0.out cap a' b' hab' hb' hn
        go_wp2_with fail
        refine p1.mono ?_
        rintro e w1 ⟨rfl, hS⟩
        have HS1 : Hid _ := hS
        clear hS p1
        go_wp2_with fail
        (try simp only [Exit.inBlock, Exit.then]); refine bodyPost_ret (results_none rfl _ _ _) rfl ?_
        exact ⟨rfl, by rw [← HO.out, pdq_small h12]; exact HS1.out⟩
      · have q1 : ¬ (b' : Int) - (a' : Int) ≤ 12 := by omega
        by_cases hl0 : lim = 0
        · subst hl0
          have p1 := heap_any S0.out cap a' b' (by omega) hb' hn
          go_wp2_with fail
          refine p1.mono ?_
          rintro e w1 ⟨rfl, hS⟩
          have HS1 : Hid _ := hS
          clear hS p1
          go_wp2_with fail
          (try simp only [Exit.inBlock, Exit.then]); refine bodyPost_ret (results_none rfl _ _ _) rfl ?_
          exact ⟨rfl, by rw [← HO.out, pdq_heap h12 rfl]; exact HS1.out⟩
        · have q2 : ((lim : Int) == 0) = false := beq_eq_false_iff_ne.mpr (by omega)
          have q3 : ¬ (lim : Int) = 0 := by omega
          obtain ⟨r, hr⟩ : ∃ r, r = rd ltInt dk a' b' lim wb wp := ⟨_, rfl⟩
          have hsz : dk.size = n := S0.out.hs
          obtain ⟨s1, B1, hc1, s2, B2, hpv, s3, B3⟩ := rd_facts (limit := lim) (wb := wb) (wp := wp) swo_ltInt partialInsertionSort_holds reverseRange_holds (show a' < b' by omega) (show b' ≤ dk.size by omega) HBel.out
          rw [← hr] at s1 B1 hc1 s2 B2 hpv s3 B3
          have HR : Hid _ := hr
          have HB3 : Hid (Sort.Below ltInt a' b' r.pi.1) := B3
          have HC1 : Hid _ := hc1
          have hlr : r.lim ≤ lim := by rw [hr]; exact rd_lim_le
          have hcl : a' < b' := by omega
          clear s1 s2 s3 B1 B2 B3 hr hsz hc1
          obtain ⟨l1, hl1⟩ : ∃ l, l = r.lim := ⟨_, rfl⟩
          obtain ⟨D1, hD1⟩ : ∃ l, l = r.d1 := ⟨_, rfl⟩
          obtain ⟨D2, hD2⟩ : ∃ l, l = r.d2 := ⟨_, rfl⟩
          obtain ⟨pv, hpv'⟩ : ∃ l, l = r.pivot := ⟨_, rfl⟩
          obtain ⟨D3, hD3⟩ : ∃ l, l = r.pi.1 := ⟨_, rfl⟩
          rw [← hl1] at hlr
          rw [← hpv'] at hpv
          rw [← hD3] at HB3
          have HL1 : Hid _ := hl1
          have HD1 : Hid _ := hD1
          have HD2 : Hid _ := hD2
          have HPV : Hid _ := hpv'
          have HD3 : Hid _ := hD3
          obtain ⟨hpv1, hpv2⟩ := hpv
          clear hl1 hD1 hD2 hpv' hD3
          go_upto_if 35 with (fail)
          go_cut [3] from 35 to 41 (fun s3 wc => s3 = .int .i64 l1 ∧ SU w0 blk off n D1 wc)
          case first =>
            cases wb with
            | false =>
              have p1 := break_any S0.out cap a' b' hab' hb' hn
              have HE : Hid (D1 = breakPatterns dk a' b' ∧ l1 = lim - 1) := by
                show _ ∧ _
                rw [HD1.out, HL1.out, HR.out]; exact rd_false
              go_wp2_with fail
              refine p1.mono ?_
              rintro e w1 ⟨rfl, hS⟩
              have HS1 : Hid _ := hS
              clear hS p1
              go_wp2_with fail
              go_meet
              case rel => exact ⟨by rw [HE.out.2]; congr 1; omega, by rw [HE.out.1]; exact HS1.out⟩
            | true =>
              have HE : Hid (D1 = dk ∧ l1 = lim) := by
                show _ ∧ _
                rw [HD1.out, HL1.out, HR.out]; exact rd_true
              go_wp2_with fail
              go_meet
              case rel => exact ⟨by rw [HE.out.2], by rw [HE.out.1]; exact S0.out⟩
          case rest =>
            obtain ⟨rfl, hS⟩ := hcut
            have p1 := pivot_any hS cap a' b' hcl hb' hn
            clear S0 hS
            have HC : Hid (choosePivot ltInt D1 a' b' = r.c) := by
              show _ = _
              rw [HD1.out, HR.out]; exact rd_c.symm
            rw [HC.out] at p1
            obtain ⟨pc, hpc⟩ : ∃ p, p = r.c.1 := ⟨_, rfl⟩
            obtain ⟨hi, hhi⟩ : ∃ h, h = r.c.2 := ⟨_, rfl⟩
            rw [← hpc, ← hhi] at p1
            obtain ⟨ci, hci⟩ : ∃ c, c = hintCode hi := ⟨_, rfl⟩
            rw [← hci] at p1
            have HCI : Hid _ := hci
            have HPC : Hid _ := hpc
            have HHI : Hid _ := hhi
            have hc1 := HC1.out
            rw [← hpc] at hc1
            obtain ⟨hc1, hc2⟩ := hc1
            clear hpc hhi HC HC1 hci
            go_upto_if 50 with (go_at_call 32; refine p1.mono ?_; rintro e w2 ⟨rfl, hS⟩)
            have S1 : Hid _ := hS
            clear hS p1
            go_cut [11, 12] from 50 to 60 (fun v11 v12 wq => v11 = .int .i64 pv ∧ v12 = .int .i64 (hintCode r.hint) ∧ SU w0 blk off n D2 wq)
            case first =>
              by_cases hh : hi = .decreasing
              · have p1 := reverse_any S1.out cap a' b' hcl hb' hn
                have HE : Hid (D2 = reverseRange D1 a' b' ∧ pv = (b' - 1) - (pc - a') ∧ r.hint = .increasing) := by
                  show _ ∧ _ ∧ _
                  rw [HD2.out, HD1.out, HPV.out, HPC.out, HR.out]
                  exact rd_dec (by rw [← HR.out, ← HHI.out]; exact hh)
                obtain rfl : ci = 2 := by rw [HCI.out, hh]; rfl
                clear hh
                have e5 : (b' : Int) - 1 - ((pc : Int) - (a' : Int)) = (pv : Int) := by rw [HE.out.2.1]; omega
                go_wp2_with (go_at_call 33; refine p1.mono ?_; rintro e w3 ⟨rfl, hS⟩)
                go_meet
                case rel => exact ⟨rfl, by rw [HE.out.2.2]; rfl, by rw [HE.out.1]; exact hS⟩
              · have HE : Hid (D2 = D1 ∧ pv = pc ∧ r.hint = hi) := by
                  show _ ∧ _ ∧ _
                  rw [HD2.out, HD1.out, HPV.out, HPC.out, HHI.out, HR.out]
                  exact rd_not (by rw [← HR.out, ← HHI.out]; exact hh)
                have q5 : ¬ ci = 2 := fun e => hh (hintCode_two (HCI.out ▸ e))
                have q4 : (ci == 2) = false := beq_eq_false_iff_ne.mpr q5
                clear hh
                go_wp2_with fail
                go_meet
                case rel => exact ⟨by rw [HE.out.2.1], by rw [HE.out.2.2, HCI.out], by rw [HE.out.1]; exact S1.out⟩
            case rest =>
              obtain ⟨rfl, rfl, hS⟩ := hcut
              have S2 : Hid _ := hS
              clear hS S1
              obtain ⟨ht, hht⟩ : ∃ h, h = r.hint := ⟨_, rfl⟩
              have HHT : Hid _ := hht
              rw [← hht]
              obtain ⟨ct, hct⟩ : ∃ c, c = hintCode ht := ⟨_, rfl⟩
              have HCT : Hid _ := hct
              rw [← hct]
              clear hht hct
              obtain ⟨x, hx⟩ : ∃ x, x = (wb && wp && decide (ht = .increasing)) := ⟨_, rfl⟩
              have HX : Hid _ := hx
              clear hx
              obtain ⟨wz, hwz⟩ : ∃ wz, wz = wc := ⟨_, rfl⟩
              have HWZ : Hid (wc = wz) := hwz.symm
              have SZ : Hid (SU w0 blk off n D2 wz) := by rw [hwz]; exact S2
              clear hwz S2
              go_upto_region 15 with (fail)
              go_cut [68] from 61 to 68 (fun v wq => v = .bool x ∧ wq = wz)
              case first =>
                cases wb <;> cases wp <;> cases ht <;> (have hct := HCT.out; clear HCT; simp only [hintCode] at hct; subst hct; go_wp2_with fail; go_meet; case rel => exact ⟨by rw [HX.out]; rfl, HWZ.out⟩)
              case rest =>
                obtain ⟨rfl, hw⟩ := hcut
                subst hw
                clear HWZ
                go_upto_if 68 with (fail)
                go_cut [72] from 68 to 71 (fun _ wq => SU w0 blk off n D3 wq ∧ r.pi.2 = false)
                case first =>
                  cases x with
                  | true =>
                    have HP : Hid (partialInsertionSort ltInt D2 a' b' = r.pi) := by
                      show _ = _
                      rw [HD2.out]
                      have := rd_pi_yes (lt := ltInt) (d := dk) (a := a') (b := b') (limit := lim) (wb := wb) (wp := wp)
                      rw [← HR.out, ← HHT.out] at this
                      exact (this HX.out.symm).symm
                    have p1 := partial_any SZ.out cap a' b' hcl hb' hn
                    rw [HP.out] at p1
                    cases hpi : r.pi.2 with
                    | true =>
                      have Hpi : Hid _ := hpi
                      rw [hpi] at p1
                      clear hpi
                      go_wp2_with (go_at_call 34; refine p1.mono ?_; rintro e w3 ⟨rfl, hS⟩)
                      (try simp only [Exit.inBlock, Exit.then]); refine bodyPost_ret (results_none rfl _ _ _) rfl ?_
                      exact ⟨rfl, by rw [← HO.out, pdq_done h12 hl0 (by rw [← HR.out]; exact Hpi.out), ← HR.out]; exact hS⟩
                    | false =>
                      have Hpi : Hid (r.pi.2 = false) := hpi
                      rw [hpi] at p1
                      clear hpi
                      go_wp2_with (go_at_call 34; refine p1.mono ?_; rintro e w3 ⟨rfl, hS⟩)
                      go_meet
                      case rel => exact ⟨by rw [HD3.out]; exact hS, Hpi.out⟩
                  | false =>
                    have HP : Hid (r.pi = (D2, false)) := by
                      show _ = _
                      rw [HD2.out]
                      have := rd_pi_no (lt := ltInt) (d := dk) (a := a') (b := b') (limit := lim) (wb := wb) (wp := wp)
                      rw [← HR.out, ← HHT.out] at this
                      exact this HX.out.symm
                    go_wp2_with fail
                    go_meet
                    case rel => exact ⟨by rw [HD3.out, HP.out]; exact SZ.out, by rw [HP.out]⟩
                case rest =>
                  obtain ⟨hS, hpi⟩ := hcut
                  have S3 : Hid _ := hS
                  have Hpi : Hid (r.pi.2 = false) := hpi
                  clear hS hpi SZ HX
                  obtain ⟨G, hG⟩ : ∃ G : Nat → Int, ∀ t, G t = D3[t]! := ⟨fun t => D3[t]!, fun _ => rfl⟩
                  have HG : Hid (∀ t, G t = D3[t]!) := hG
                  have hcw : ∀ t, t < n → wc.cell? ⟨blk, off + t, none⟩ = some (.int .u64 (G t)) := fun t ht => by rw [hG]; exact S3.out.cell t ht
                  have hfw : ∀ t, t < n → wc.frozen? ⟨blk, off + t, none⟩ = false := S3.out.frozen
                  clear hG
                  obtain ⟨x2, hx2⟩ : ∃ x, x = (decide (a' > 0) && !ltInt D3[a' - 1]! D3[pv]!) := ⟨_, rfl⟩
                  have HX : Hid _ := hx2
                  clear hx2
                  go_wp2_with fail
                  go_cut [87] from 73 to 87 (fun v wq => v = .bool x2 ∧ ∃ q, wq = wc.drewN q)
                  case first =>
                    rcases Nat.eq_zero_or_pos a' with ha0 | ha0
                    · subst ha0
                      have HX2 : Hid (x2 = false) := by show _ = _; rw [HX.out]; rfl
                      have q6 : decide ((0 : Int) < 0) = false := rfl
                      go_wp2_with fail
                      go_big_quiet (first | (go_at_call 35; refine Calls.quiet_of_same (less_any _ _ _)))
                      go_wp2_with fail
                      go_meet
                      case rel => exact ⟨by rw [HX2.out], _, rfl⟩
                    · obtain ⟨ap, hap⟩ : ∃ q, q + 1 = a' := ⟨a' - 1, by omega⟩
                      have e6 : (a' : Int) - 1 = (ap : Int) := by omega
                      have q5 : (0 : Int) < (a' : Int) := by omega
                      have q6 : decide ((0 : Int) < (a' : Int)) = true := decide_eq_true q5
                      have q7 : ap < n := by omega
                      have HX2 : Hid (x2 = !ltInt (G ap) (G pv)) := by show _ = _; rw [HX.out, decide_eq_true ha0, Bool.true_and, show a' - 1 = ap by omega, HG.out, HG.out]
                      clear hap
                      go_wp2_with fail
                      go_big_quiet (first | (go_at_call 35; refine Calls.quiet_of_same (less_any _ _ _)))
                      go_wp2_with fail
                      go_meet
                      case rel => exact ⟨by rw [HX2.out], _, rfl⟩
                  case rest =>
                    obtain ⟨rfl, q, hq⟩ := hcut
                    have S4 : Hid (SU w0 blk off n D3 wc) := by
                      show SU _ _ _ _ _ _
                      rw [hq]; exact S3.out.drewN q
                    clear hcw hfw hq S3 HG
                    have hsz : D3.size = n := S4.out.hs
                    have HSZ : Hid _ := hsz
                    clear hsz
                    have HPI : Hid ((rd ltInt dk a' b' lim wb wp).pi.2 = false) := by show _ = _; rw [← HR.out]; exact Hpi.out
                    cases x2 with
                    | true =>
                      have h0 := HX.out.symm
                      simp only [Bool.and_eq_true, decide_eq_true_eq, Bool.not_eq_true'] at h0
                      obtain ⟨⟨mid, D4⟩, hx⟩ : ∃ y, y = partitionEqual ltInt D3 a' b' pv := ⟨_, rfl⟩
                      obtain ⟨m1, m2, m3, m4, _⟩ := round_eq swo_ltInt (partitionEqual_holds ltInt) (by omega) hpv1 hpv2 (by rw [HSZ.out]; exact hb') HB3.out h0.2 hx.symm
                      have p1 := parteq_any S4.out cap a' b' pv hpv1 hpv2 hb' hn
                      rw [← hx] at p1
                      have HE : Hid (pdq ltInt dk a' b' lim wb wp = pdq ltInt D4 mid b' l1 wb wp) := by
                        show _ = _
                        have hx' := hx
                        rw [HD3.out, HPV.out, HR.out] at hx'
                        have hX := HX.out
                        rw [HD3.out, HPV.out, HR.out] at hX
                        rw [pdq_eq h12 hl0 HPI.out hX.symm (by rw [← hx']; exact ⟨m1, m2⟩), ← hx', HL1.out, HR.out]
                      have M4 : Hid (Sort.Below ltInt mid b' D4) := m4
                      clear h0 hx m3 m4 HX S4
                      go_wp2_with (go_at_call 36; refine p1.mono ?_; rintro e w4 ⟨rfl, hS⟩)
                      have S5 : Hid _ := hS
                      clear hS p1
                      go_roundw
                      case rel => exact ⟨mid, b', l1, wb, wp, D4, rfl, rfl, rfl, rfl, rfl, m2, hb', by omega, by omega, M4, S5, (show Hid _ from by rw [← HO.out, HE.out]; exact rfl)⟩
                      case measure => simp [intOf]; omega
                    | false =>
                      obtain ⟨⟨mid, al, D4⟩, hx⟩ : ∃ y, y = partition ltInt D3 a' b' pv := ⟨_, rfl⟩
                      obtain ⟨m1, m2, m3, m4, m5, mL, mR⟩ := round_part swo_ltInt (partition_holds ltInt) hpv1 hpv2 (by rw [HSZ.out]; exact hb') HB3.out hx.symm
                      have p1 := part_any S4.out cap a' b' pv hpv1 hpv2 hb' hn
                      rw [← hx] at p1
                      have hx' := hx
                      rw [HD3.out, HPV.out, HR.out] at hx'
                      have HX' : Hid _ := hx'
                      have hX := HX.out
                      rw [HD3.out, HPV.out, HR.out] at hX
                      have HXX : Hid _ := hX
                      have M3 : Hid (D4.size = n) := m3.trans HSZ.out
                      have M4 : Hid (Sort.Below ltInt a' mid D4) := m4
                      have M5 : Hid (Sort.Below ltInt (mid + 1) b' D4) := m5
                      have ML : Hid _ := mL
                      have MR : Hid _ := mR
                      obtain ⟨L, hL⟩ : ∃ L, L = b' - a' := ⟨_, rfl⟩
                      obtain ⟨th, hth⟩ : ∃ t, t = (b' - a') / 8 := ⟨_, rfl⟩
                      have e8 : ((b' : Int) - (a' : Int)).tdiv 8 = (th : Int) := by rw [show (b' : Int) - (a' : Int) = ((b' - a' : Nat) : Int) by omega, Int.tdiv_eq_ediv_of_nonneg (by omega)]; omega
                      have e9 : ((b' : Int) - (a' : Int)) / 8 = (th : Int) := by omega
                      obtain ⟨le, hle⟩ : ∃ l, l = mid - a' := ⟨_, rfl⟩
                      obtain ⟨ri, hri⟩ : ∃ l, l = b' - mid := ⟨_, rfl⟩
                      have e10 : (mid : Int) - (a' : Int) = (le : Int) := by omega
                      have e11 : (b' : Int) - (mid : Int) = (ri : Int) := by omega
                      clear hx m3 m4 m5 mL mR HX hx' hX S4
                      have HTH : Hid _ := hth
                      have HLE : Hid _ := hle
                      have HRI : Hid _ := hri
                      clear hth hle hri hL
                      by_cases hlr : le < ri
                      · have q5 : (le : Int) < (ri : Int) := by omega
                        obtain ⟨D5, hD5⟩ : ∃ D, D = pdq ltInt D4 a' mid l1 true true := ⟨_, rfl⟩
                        obtain ⟨P5, O5⟩ := pdq_sorts ltInt swo_ltInt D4 a' mid l1 true true m1 (by have := M3.out; omega) M4.out
                        rw [← hD5] at P5 O5
                        have M6 : Hid (Sort.Below ltInt (mid + 1) b' D5) := (ML.out D5 P5 O5).1
                        have HE : Hid (pdq ltInt dk a' b' lim wb wp = pdq ltInt D5 (mid + 1) b' l1 (decide (th ≤ le)) al) := by
                          show _ = _
                          have := pdq_left (lt := ltInt) (d := dk) (wb := wb) (wp := wp) h12 hl0 HPI.out HXX.out.symm (by rw [← HX'.out]; exact ⟨m1, m2⟩) (by rw [← HX'.out]; have := HLE.out; have := HRI.out; omega)
                          rw [this, ← HX'.out]
                          simp only []
                          rw [← HR.out, ← HL1.out, ← hD5, ← HTH.out, ← HLE.out]
                        have HIH : Hid (∀ w, SU w0 blk off n D4 w → Calls Try.prog 27 #[.slice (some ⟨blk, off, none⟩) n cap, .int .i64 a', .int .i64 mid, .int .i64 l1] w fun e w' => e = .returned (.tuple #[]) ∧ SU w0 blk off n D5 w') := fun w S => by
                          rw [hD5]
                          exact IH.out S cap a' mid l1 (by omega) m1 (by omega) hn (by omega) M4.out
                        clear P5 O5 hD5 ML MR HXX HX'
                        go_wp2_with (go_at_call 37; refine p1.mono ?_; rintro e w4 ⟨rfl, hS⟩)
                        have p2 := HIH.out _ hS
                        clear hS p1
                        go_wp2_with (go_at_call 27; refine p2.mono ?_; rintro e w5 ⟨rfl, hS⟩)
                        have S5 : Hid _ := hS
                        clear hS p2
                        go_roundw
                        case rel => exact ⟨mid + 1, b', l1, decide (th ≤ le), al, D5, by go_num, rfl, rfl, by simp, rfl, by omega, hb', by omega, by omega, M6, S5, (show Hid _ from by rw [← HO.out, HE.out]; exact rfl)⟩
                        case measure => simp [intOf]; omega
                      · have q5 : ¬ (le : Int) < (ri : Int) := by omega
                        obtain ⟨D5, hD5⟩ : ∃ D, D = pdq ltInt D4 (mid + 1) b' l1 true true := ⟨_, rfl⟩
                        obtain ⟨P5, O5⟩ := pdq_sorts ltInt swo_ltInt D4 (mid + 1) b' l1 true true m2 (by have := M3.out; omega) M5.out
                        rw [← hD5] at P5 O5
                        have M6 : Hid (Sort.Below ltInt a' mid D5) := (MR.out D5 P5 O5).1
                        have HE : Hid (pdq ltInt dk a' b' lim wb wp = pdq ltInt D5 a' mid l1 (decide (th ≤ ri)) al) := by
                          show _ = _
                          have := pdq_right (lt := ltInt) (d := dk) (wb := wb) (wp := wp) h12 hl0 HPI.out HXX.out.symm (by rw [← HX'.out]; exact ⟨m1, m2⟩) (by rw [← HX'.out]; have := HLE.out; have := HRI.out; omega)
                          rw [this, ← HX'.out]
                          simp only []
                          rw [← HR.out, ← HL1.out, ← hD5, ← HTH.out, ← HRI.out]
                        have HIH : Hid (∀ w, SU w0 blk off n D4 w → Calls Try.prog 27 #[.slice (some ⟨blk, off, none⟩) n cap, .int .i64 ((mid : Int) + 1), .int .i64 b', .int .i64 l1] w fun e w' => e = .returned (.tuple #[]) ∧ SU w0 blk off n D5 w') := fun w S => by
                          rw [hD5]
                          have := IH.out S cap (mid + 1) b' l1 (by omega) (by omega) hb' hn (by omega) M5.out
                          rw [show ((mid + 1 : Nat) : Int) = (mid : Int) + 1 by omega] at this
                          exact this
                        clear P5 O5 hD5 ML MR HXX HX'
                        go_wp2_with (go_at_call 37; refine p1.mono ?_; rintro e w4 ⟨rfl, hS⟩)
                        have p2 := HIH.out _ hS
                        clear hS p1
                        go_wp2_with (go_at_call 27; refine p2.mono ?_; rintro e w5 ⟨rfl, hS⟩)
                        have S5 : Hid _ := hS
                        clear hS p2
                        go_roundw
                        case rel => exact ⟨a', mid, l1, decide (th ≤ ri), al, D5, rfl, rfl, rfl, by simp, rfl, by omega, by omega, by omega, by omega, M6, S5, (show Hid _ from by rw [← HO.out, HE.out]; exact rfl)⟩
                        case measure => simp [intOf]; omega

theorem bitsLen_le62 {n : Nat} (hn : n < 4611686018427387904) : bitsLen n ≤ 62 := (bitsLen_le_iff n 62).2 (by omega)

set_option maxRecDepth 1000000 in
set_option maxHeartbeats 16000000 in
/-- slices.Sort of a row of uint64s. -/
theorem sortu_any {w0 w : World} {blk off n : Nat} {d : Array Int} (S : SU w0 blk off n d w) (cap : Nat) (hn : n < 4611686018427387904) :
    Calls Try.prog 24 #[.slice (some ⟨blk, off, none⟩) n cap] w fun e w' => e = .returned (.tuple #[]) ∧ SU w0 blk off n (d.toList.mergeSort (fun x y => decide (x ≤ y))).toArray w' := by
  have p1 := len_any n w (by omega)
  have p2 := pdq_any (n + 1) S cap 0 n (bitsLen n) (by omega) (by omega) (Nat.le_refl _) hn (by have := bitsLen_le62 hn; omega) (Or.inl rfl)
  have e1 : Lib.bitLen n = bitsLen n := bitLen_eq _ (by omega)
  rw [e1] at p1
  have HE : Hid (pdq ltInt d 0 n (bitsLen n) true true = (d.toList.mergeSort (fun x y => decide (x ≤ y))).toArray) := by
    show _ = _
    have := sortInt d.toList
    rw [← this, Array.toArray_toList]
    unfold Sort.sort
    simp only [Array.toArray_toList, S.hs]
  rw [HE.out] at p2
  clear S e1 HE
  generalize (d.toList.mergeSort (fun x y => decide (x ≤ y))).toArray = D at p2 ⊢
  go_enter Try.func24, Try.ntmps24
  go_wp2_with fail
  refine p1.mono ?_
  rintro e w1 ⟨rfl, rfl⟩
  clear p1
  go_wp2_with fail
  refine p2.mono ?_
  rintro e w2 ⟨rfl, hS⟩
  have HS : Hid _ := hS
  clear hS p2
  go_wp2_with fail
  go_end0
  exact ⟨rfl, HS.out⟩

theorem ins_none (cap : Nat) (w : World) : Calls Try.prog 29 #[.slice none 0 cap, .int .i64 0, .int .i64 0] w fun e w' => e = .returned (.tuple #[]) ∧ w' = w := by
  go_enter Try.func29, Try.ntmps29
  go_wp2_with fail
  refine wp_loop_rounds 1 ?_
  rw [rounds_succ]
  go_wp2_with fail
  go_end0
  exact ⟨rfl, rfl⟩
theorem pdq_none (cap limit : Nat) (w : World) : Calls Try.prog 27 #[.slice none 0 cap, .int .i64 0, .int .i64 0, .int .i64 limit] w fun e w' => e = .returned (.tuple #[]) ∧ w' = w := by
  have p1 := ins_none cap w
  go_enter Try.func27, Try.ntmps27
  go_wp2_with fail
  refine wp_loop_rounds 1 ?_
  rw [rounds_succ]
  go_wp2_with fail
  refine p1.mono ?_
  rintro e w1 ⟨rfl, rfl⟩
  go_wp2_with fail
  (try simp only [Exit.inBlock, Exit.then]); refine bodyPost_ret (results_none rfl _ _ _) rfl ?_
  exact ⟨rfl, rfl⟩
theorem sortu_none (cap : Nat) (w : World) : Calls Try.prog 24 #[.slice none 0 cap] w fun e w' => e = .returned (.tuple #[]) ∧ w' = w := by
  have p1 := len_any 0 w (by omega)
  have p2 := pdq_none cap (Lib.bitLen 0) w
  go_enter Try.func24, Try.ntmps24
  go_wp2_with fail
  refine p1.mono ?_
  rintro e w1 ⟨rfl, rfl⟩
  go_wp2_with fail
  refine p2.mono ?_
  rintro e w2 ⟨rfl, rfl⟩
  go_wp2_with fail
  go_end0
  exact ⟨rfl, rfl⟩
end Go.Proofs.Ytnojjipoppemcaa
