/- slices.Sort of uint64s: siftDownOrdered, heapSortOrdered. -/
import Derived.Test.YtnojjipoppemcaaSortU
import Derived.Sort.WalkB3
import Derived.Deep.CutRange
namespace Go.Proofs.Ytnojjipoppemcaa
open Go.RowKit Go.Sort
set_option linter.unusedVariables false
set_option linter.unusedSimpArgs false

set_option maxRecDepth 1000000 in
set_option maxHeartbeats 16000000 in
theorem sift_any {w0 w : World} {blk off n : Nat} {d : Array Int} (S : SU w0 blk off n d w) (cap lo hi first : Nat) (hlo : lo ≤ hi) (hb : first + hi ≤ n) (hn : n < 4611686018427387904) :
    Calls Try.prog 39 #[.slice (some ⟨blk, off, none⟩) n cap, .int .i64 lo, .int .i64 hi, .int .i64 first] w fun e w' => e = .returned (.tuple #[]) ∧ SU w0 blk off n (siftDown ltInt hi first lo d) w' := by
  have HS : Hid _ := S
  clear S
  go_enter Try.func39, Try.ntmps39
  go_wp2_with fail
  go_loopw [8] (fun v wr => ∃ (root : Nat) (dk : Array Int), v = .int .i64 root ∧ root ≤ hi ∧ Hid (SU w0 blk off n dk wr) ∧ Hid (siftDown ltInt hi first root dk = siftDown ltInt hi first lo d)) (fun v _ => hi - (intOf v).toNat)
  case atStart => exact ⟨lo, d, rfl, hlo, HS, rfl⟩
  case round =>
    obtain ⟨root, dk, rfl, hr, S1, HO⟩ := hrel
    clear HS
    by_cases h0 : hi ≤ 2 * root + 1
    · have q1 : (hi : Int) ≤ 2 * (root : Int) + 1 := by omega
      go_wp2_with fail
      go_end0
      exact ⟨rfl, by rw [← HO.out, sd_end ltInt dk h0]; exact S1.out⟩
    · have q1 : ¬ (hi : Int) ≤ 2 * (root : Int) + 1 := by omega
      obtain ⟨G, hG⟩ : ∃ G : Nat → Int, ∀ t, G t = dk[t]! := ⟨fun t => dk[t]!, fun _ => rfl⟩
      have HG : Hid (∀ t, G t = dk[t]!) := hG
      have hcw : ∀ t, t < n → wr.cell? ⟨blk, off + t, none⟩ = some (.int .u64 (G t)) := fun t ht => by rw [hG]; exact S1.out.cell t ht
      have hfw : ∀ t, t < n → wr.frozen? ⟨blk, off + t, none⟩ = false := S1.out.frozen
      clear hG
      obtain ⟨ch, hch⟩ : ∃ ch : Nat → Prop, ∀ c, ch c ↔ root < c ∧ c < hi ∧ (ltInt (G (first + root)) (G (first + c)) = false → siftDown ltInt hi first root dk = dk) ∧ (ltInt (G (first + root)) (G (first + c)) = true → siftDown ltInt hi first root dk = siftDown ltInt hi first c (swp dk (first + root) (first + c))) := ⟨_, fun _ => Iff.rfl⟩
      have Hch : Hid _ := hch
      clear hch
      go_wp2_with fail
      go_cut [36] from 17 to 36 (fun v wq => ∃ x : Bool, v = .bool x ∧ ch (2 * root + 1 + (if x then 1 else 0)) ∧ ∃ q, wq = wr.drewN q)
      case first =>
        by_cases h1 : 2 * root + 2 < hi
        · have q2 : 2 * (root : Int) + 1 + 1 < (hi : Int) := by omega
          have q3 : decide (2 * (root : Int) + 1 + 1 < (hi : Int)) = true := decide_eq_true q2
          cases hlv : ltInt (G (first + 2 * root + 1)) (G (first + 2 * root + 2)) with
          | true =>
            have HC : Hid (ch (2 * root + 2)) := by
              show ch _
              rw [Hch.out]
              rw [HG.out, HG.out, Nat.add_assoc, Nat.add_assoc] at hlv
              refine ⟨by omega, by omega, fun h => sd_right_stop ltInt dk h1 hlv ?_, fun h => sd_right_go ltInt dk h1 hlv ?_⟩ <;> rw [← HG.out, ← HG.out] <;> exact h
            go_wp2_with fail
            go_big_quiet (first | (go_at_call 35; refine Calls.quiet_of_same (less_any _ _ _)))
            go_wp2_with fail
            go_meet
            case rel => exact ⟨true, rfl, HC.out, _, rfl⟩
          | false =>
            have HC : Hid (ch (2 * root + 1)) := by
              show ch _
              rw [Hch.out]
              rw [HG.out, HG.out, Nat.add_assoc, Nat.add_assoc] at hlv
              refine ⟨by omega, by omega, fun h => sd_left_stop ltInt dk (by omega) (fun _ => hlv) ?_, fun h => sd_left_go ltInt dk (by omega) (fun _ => hlv) ?_⟩ <;> rw [← HG.out, ← HG.out] <;> exact h
            go_wp2_with fail
            go_big_quiet (first | (go_at_call 35; refine Calls.quiet_of_same (less_any _ _ _)))
            go_wp2_with fail
            go_meet
            case rel => exact ⟨false, rfl, HC.out, _, rfl⟩
        · have q3 : decide (2 * (root : Int) + 1 + 1 < (hi : Int)) = false := decide_eq_false (by omega)
          have HC : Hid (ch (2 * root + 1)) := by
            show ch _
            rw [Hch.out]
            refine ⟨by omega, by omega, fun h => sd_left_stop ltInt dk (by omega) (fun h2 => absurd h2 h1) ?_, fun h => sd_left_go ltInt dk (by omega) (fun h2 => absurd h2 h1) ?_⟩ <;> rw [← HG.out, ← HG.out] <;> exact h
          go_wp2_with fail
          go_big_quiet (first | (go_at_call 35; refine Calls.quiet_of_same (less_any _ _ _)))
          go_wp2_with fail
          go_meet
          case rel => exact ⟨false, rfl, HC.out, _, rfl⟩
      case rest =>
        obtain ⟨x, rfl, hx, q, hq⟩ := hcut
        have S2 : Hid (SU w0 blk off n dk wc) := by
          show SU _ _ _ _ _ _
          rw [hq]; exact S1.out.drewN q
        clear hcw hfw hq S1
        obtain ⟨w2, hw2⟩ : ∃ w2, w2 = wc := ⟨_, rfl⟩
        have HW2 : Hid (wc = w2) := hw2.symm
        clear hw2
        go_upto_if 36 with (fail)
        go_cut [9] from 37 to 38 (fun v wq => ∃ c : Nat, v = .int .i64 c ∧ ch c ∧ wq = w2)
        case first =>
          cases x with
          | true =>
            have HC : Hid (ch (2 * root + 2)) := hx
            clear hx
            go_wp2_with fail
            go_meet
            case rel => exact ⟨2 * root + 2, by congr 1; try omega, HC.out, HW2.out⟩
          | false =>
            have HC : Hid (ch (2 * root + 1)) := hx
            clear hx
            go_wp2_with fail
            go_meet
            case rel => exact ⟨2 * root + 1, by congr 1; try omega, HC.out, HW2.out⟩
        case rest =>
          obtain ⟨c, rfl, hc, hq⟩ := hcut
          have S4 : Hid (SU w0 blk off n dk wc) := by
            show SU _ _ _ _ _ _
            rw [hq, ← HW2.out]; exact S2.out
          clear hq hx HW2 S2
          have S2 : Hid _ := S4.out
          clear S4
          rw [Hch.out] at hc
          obtain ⟨c1, c2, c3, c4⟩ := hc
          have C3 : Hid _ := c3
          have C4 : Hid _ := c4
          clear c3 c4 Hch
          have hcw : ∀ t, t < n → wc.cell? ⟨blk, off + t, none⟩ = some (.int .u64 (G t)) := fun t ht => by rw [HG.out]; exact S2.out.cell t ht
          have hfw : ∀ t, t < n → wc.frozen? ⟨blk, off + t, none⟩ = false := S2.out.frozen
          cases hlv : ltInt (G (first + root)) (G (first + c)) with
          | true =>
            have HC : Hid (siftDown ltInt hi first root dk = siftDown ltInt hi first c (swp dk (first + root) (first + c))) := C4.out hlv
            have HX : Hid (∀ q, SU w0 blk off n (swp dk (first + root) (first + c)) (((wc.drewN q).setCell ⟨blk, off + (first + root), none⟩ (.int .u64 (G (first + c)))).setCell ⟨blk, off + (first + c), none⟩ (.int .u64 (G (first + root)))).drew) := by
              show ∀ q, SU _ _ _ _ _ _
              intro q
              rw [HG.out, HG.out]; exact ((S2.out.drewN q).swap (first + root) (first + c) (by omega) (by omega)).drew
            clear C3 C4
            have hne : root ≠ c := by omega
            go_wp2_with fail
            go_big_quiet (first | (go_at_call 35; refine Calls.quiet_of_same (less_any _ _ _)))
            go_wp2_with fail
            go_region
            go_wp2_with fail
            go_roundw
            case rel => exact ⟨c, swp dk (first + root) (first + c), rfl, by omega, HX.out nq, (show Hid _ from by rw [← HO.out, HC.out]; exact rfl)⟩
            case measure => simp [intOf]; omega
          | false =>
            have HC : Hid (siftDown ltInt hi first root dk = dk) := C3.out hlv
            clear C3 C4
            go_wp2_with fail
            go_big_quiet (first | (go_at_call 35; refine Calls.quiet_of_same (less_any _ _ _)))
            go_wp2_with fail
            (try simp only [Exit.inBlock, Exit.then]); refine bodyPost_ret (results_none rfl _ _ _) rfl ?_
            exact ⟨rfl, by rw [← HO.out, HC.out]; exact S2.out.drewN _⟩

theorem heapBuild_next (hi first k : Nat) (d : Array Int) : heapBuild ltInt hi first (k + 1) d = heapBuild ltInt hi first k (siftDown ltInt hi first k d) := rfl
theorem heapPop_next (first k : Nat) (d : Array Int) : heapPop ltInt first (k + 1) d = heapPop ltInt first k (siftDown ltInt k first 0 (swp d first (first + k))) := rfl

set_option maxRecDepth 1000000 in
set_option maxHeartbeats 16000000 in
theorem heap_any {w0 w : World} {blk off n : Nat} {d : Array Int} (S : SU w0 blk off n d w) (cap a b : Nat) (hab : a < b) (hb : b ≤ n) (hn : n < 4611686018427387904) :
    Calls Try.prog 30 #[.slice (some ⟨blk, off, none⟩) n cap, .int .i64 a, .int .i64 b] w fun e w' => e = .returned (.tuple #[]) ∧ SU w0 blk off n (heapSort ltInt d a b) w' := by
  have HS : Hid _ := S
  clear S
  obtain ⟨h, hh⟩ : ∃ h, h = b - a := ⟨_, rfl⟩
  have e1 : (b : Int) - (a : Int) = (h : Int) := by omega
  obtain ⟨k0, hk0⟩ : ∃ k, k = (h - 1) / 2 := ⟨_, rfl⟩
  have e2 : ((h : Int) - 1).tdiv 2 = (k0 : Int) := by
    rw [show (h : Int) - 1 = ((h - 1 : Nat) : Int) by omega, hk0, Int.tdiv_eq_ediv_of_nonneg (by omega)]; omega
  have e3 : heapSort ltInt d a b = heapPop ltInt a h (heapBuild ltInt h a (k0 + 1) d) := by unfold heapSort; rw [hk0, hh]
  have q3 : k0 + 1 ≤ h := by omega
  have q4 : a + h ≤ n := by omega
  rw [e3]
  have e4 : (0 : Int) ≤ (h : Int) - 1 := by omega
  clear e3 hk0 hh
  go_enter Try.func30, Try.ntmps30
  go_wp2_with fail
  clear e2
  go_loopw [9] (fun v wr => ∃ (z : Int) (k : Nat) (dk : Array Int), v = .int .i64 z ∧ z + 1 = k ∧ k ≤ h ∧ Hid (SU w0 blk off n dk wr) ∧ Hid (heapBuild ltInt h a k dk = heapBuild ltInt h a (k0 + 1) d)) (fun v _ => (intOf v + 1).toNat)
  case atStart => exact ⟨k0, k0 + 1, d, rfl, by omega, by omega, HS, rfl⟩
  case round =>
    obtain ⟨z, k, dk, rfl, hz, hk, S1, HO⟩ := hrel
    clear HS
    rcases Nat.eq_zero_or_pos k with rfl | hkp
    · obtain rfl : z = -1 := by omega
      go_wp2_with fail
      go_loopw [10] (fun v wr => ∃ (z : Int) (k : Nat) (dj : Array Int), v = .int .i64 z ∧ z + 1 = k ∧ k ≤ h ∧ Hid (SU w0 blk off n dj wr) ∧ Hid (heapPop ltInt a k dj = heapPop ltInt a h dk)) (fun v _ => (intOf v + 1).toNat)
      case atStart => exact ⟨(h : Int) - 1, h, dk, rfl, by omega, by omega, S1, rfl⟩
      case round =>
        clear S1 e4 hz
        obtain ⟨z, k, dj, rfl, hz, hk, S1, HP⟩ := hrel
        rcases Nat.eq_zero_or_pos k with rfl | hkp
        · obtain rfl : z = -1 := by omega
          go_wp2_with fail
          go_end0
          exact ⟨rfl, by rw [← HO.out, show heapBuild ltInt h a 0 dk = dk from rfl, ← HP.out]; exact S1.out⟩
        · obtain ⟨k, rfl⟩ : ∃ q, k = q + 1 := ⟨k - 1, by omega⟩
          obtain rfl : z = (k : Int) := by omega
          clear hz
          obtain ⟨G, hG⟩ : ∃ G : Nat → Int, ∀ t, G t = dj[t]! := ⟨fun t => dj[t]!, fun _ => rfl⟩
          have HG : Hid (∀ t, G t = dj[t]!) := hG
          have hcw : ∀ t, t < n → wr.cell? ⟨blk, off + t, none⟩ = some (.int .u64 (G t)) := fun t ht => by rw [hG]; exact S1.out.cell t ht
          have hfw : ∀ t, t < n → wr.frozen? ⟨blk, off + t, none⟩ = false := S1.out.frozen
          clear hG
          have q5 : (0 : Int) ≤ (k : Int) := by omega
          rcases Nat.eq_zero_or_pos k with rfl | hk1
          · have hS : SU w0 blk off n (swp dj a (a + 0)) ((wr.setCell ⟨blk, off + a, none⟩ (.int .u64 (G a))).setCell ⟨blk, off + a, none⟩ (.int .u64 (G a))).drew := by
              rw [HG.out]; exact (S1.out.swap a a (by omega) (by omega)).drew
            have p1 := sift_any hS cap 0 0 a (by omega) (by omega) hn
            clear S1 hS
            go_wp2_with fail
            go_region
            go_wp2_with fail
            refine p1.mono ?_
            rintro e wa ⟨rfl, hS⟩
            have HS1 : Hid _ := hS
            clear hS p1
            go_wp2_with fail
            go_roundw
            case rel => exact ⟨-1, 0, siftDown ltInt 0 a 0 (swp dj a (a + 0)), by first | rfl | go_num, by omega, by omega, HS1, (show Hid _ from by rw [← HP.out, heapPop_next]; exact rfl)⟩
            case measure => simp [intOf]
          · have hS : SU w0 blk off n (swp dj a (a + k)) ((wr.setCell ⟨blk, off + a, none⟩ (.int .u64 (G (a + k)))).setCell ⟨blk, off + (a + k), none⟩ (.int .u64 (G a))).drew := by
              rw [HG.out, HG.out]; exact (S1.out.swap a (a + k) (by omega) (by omega)).drew
            have p1 := sift_any hS cap 0 k a (by omega) (by omega) hn
            clear S1 hS
            go_wp2_with fail
            go_region
            go_wp2_with fail
            refine p1.mono ?_
            rintro e wa ⟨rfl, hS⟩
            have HS1 : Hid _ := hS
            clear hS p1
            go_wp2_with fail
            go_roundw
            case rel => exact ⟨(k : Int) - 1, k, siftDown ltInt k a 0 (swp dj a (a + k)), rfl, by omega, by omega, HS1, (show Hid _ from by rw [← HP.out, heapPop_next]; exact rfl)⟩
            case measure => simp [intOf]
    · obtain ⟨k, rfl⟩ : ∃ q, k = q + 1 := ⟨k - 1, by omega⟩
      obtain rfl : z = (k : Int) := by omega
      have q1 : (0 : Int) ≤ (k : Int) := by omega
      have p1 := sift_any S1.out cap k h a (by omega) (by omega) hn
      clear hz
      go_wp2_with fail
      refine p1.mono ?_
      rintro e wa ⟨rfl, hS⟩
      have HS1 : Hid _ := hS
      clear hS p1
      go_wp2_with fail
      go_roundw
      case rel => exact ⟨(k : Int) - 1, k, siftDown ltInt h a k dk, rfl, by omega, by omega, HS1, (show Hid _ from by rw [← HO.out, heapBuild_next]; exact rfl)⟩
      case measure => simp [intOf]
end Go.Proofs.Ytnojjipoppemcaa
