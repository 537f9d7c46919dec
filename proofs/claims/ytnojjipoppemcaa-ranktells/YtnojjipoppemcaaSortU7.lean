/- slices.Sort of uint64s: choosePivotOrdered. -/
import Derived.Test.YtnojjipoppemcaaSortU6
namespace Go.Proofs.Ytnojjipoppemcaa
open Go.RowKit Go.Sort
set_option linter.unusedVariables false
set_option linter.unusedSimpArgs false

theorem CU.start {w0 w : World} {blk off n : Nat} {d : Array Int} (S : SU w0 blk off n d w) (T : TypeId) : CU w0 blk off n d w.heap.size 0 (w.alloc (.cells #[.int .i64 0] T)) :=
  ⟨S.alloc _, by simp, by simp, S.sw.le⟩
theorem pivot_low {d : Array Int} {a b l q : Nat} (hl : l = b - a) (hq : q = l / 4) (h : l < 8) : choosePivot ltInt d a b = (a + q * 2, .increasing) := by
  subst hq; subst hl
  unfold choosePivot
  simp only []
  rw [if_neg (by omega)]
  rfl
theorem pivot_mid {d : Array Int} {a b l q : Nat} (hl : l = b - a) (hq : q = l / 4) (h : 8 ≤ l) (h2 : l < 50) : choosePivot ltInt d a b = ((median ltInt d (a + q * 1) (a + q * 2) (a + q * 3) 0).1, hintOf (median ltInt d (a + q * 1) (a + q * 2) (a + q * 3) 0).2) := by
  subst hq; subst hl
  unfold choosePivot
  simp only []
  rw [if_pos (by omega), if_neg (by omega)]
  rfl
theorem pivot_high {d : Array Int} {a b l q : Nat} (hl : l = b - a) (hq : q = l / 4) (h : 50 ≤ l) {i s1 j s2 k s3 m s4 : Nat} (h1 : (i, s1) = medianAdjacent ltInt d (a + q * 1) 0) (h2 : (j, s2) = medianAdjacent ltInt d (a + q * 2) s1) (h3 : (k, s3) = medianAdjacent ltInt d (a + q * 3) s2) (h4 : (m, s4) = median ltInt d i j k s3) : choosePivot ltInt d a b = (m, hintOf s4) := by
  subst hq; subst hl
  unfold choosePivot
  simp only []
  rw [if_pos (by omega), if_pos (by omega), ← h1]
  simp only []
  rw [← h2]
  simp only []
  rw [← h3]
  simp only []
  rw [← h4]
  rfl

set_option maxRecDepth 1000000 in
set_option maxHeartbeats 16000000 in
theorem pivot_any {w0 w : World} {blk off n : Nat} {d : Array Int} (S : SU w0 blk off n d w) (cap a b : Nat) (hab : a < b) (hb : b ≤ n) (hn : n < 4611686018427387904) :
    Calls Try.prog 32 #[.slice (some ⟨blk, off, none⟩) n cap, .int .i64 a, .int .i64 b] w fun e w' => e = .returned (.tuple #[.int .i64 (choosePivot ltInt d a b).1, .int .i64 (hintCode (choosePivot ltInt d a b).2)]) ∧ SU w0 blk off n d w' := by
  have C0 : Hid _ := CU.start S 3
  clear S
  obtain ⟨l, hl⟩ : ∃ l, l = b - a := ⟨_, rfl⟩
  obtain ⟨q, hq⟩ : ∃ q, q = l / 4 := ⟨_, rfl⟩
  have e1 : (b : Int) - (a : Int) = (l : Int) := by omega
  have e2 : (l : Int).tdiv 4 = (q : Int) := by rw [Int.tdiv_eq_ediv_of_nonneg (by omega)]; omega
  have e3 : (l : Int) / 4 = (q : Int) := by omega
  by_cases h8 : l < 8
  · have HE : Hid _ := pivot_low (d := d) hl hq h8
    rw [HE.out]
    have q1 : ¬ (8 : Int) ≤ (l : Int) := by omega
    have q2 : a + q * 2 < n := by omega
    clear hl hq HE h8
    go_enter Try.func32, Try.ntmps32
    go_wp2_with fail
    go_ret2
    exact ⟨by first | rfl | (simp [hintCode]; done), C0.out.su⟩
  · have q1 : (8 : Int) ≤ (l : Int) := by omega
    obtain ⟨i0, hi0⟩ : ∃ i, i = a + q * 1 := ⟨_, rfl⟩
    obtain ⟨j0, hj0⟩ : ∃ i, i = a + q * 2 := ⟨_, rfl⟩
    obtain ⟨k0, hk0⟩ : ∃ i, i = a + q * 3 := ⟨_, rfl⟩
    have e5 : (a : Int) + (q : Int) = (i0 : Int) := by omega
    have e6 : (a : Int) + (q : Int) * 2 = (j0 : Int) := by omega
    have e7 : (a : Int) + (q : Int) * 3 = (k0 : Int) := by omega
    have b1 : i0 + 1 < n := by omega
    have b2 : j0 + 1 < n := by omega
    have b3 : k0 + 1 < n := by omega
    have b4 : 1 ≤ i0 := by omega
    have b5 : 1 ≤ j0 := by omega
    have b6 : 1 ≤ k0 := by omega
    by_cases h50 : l < 50
    · have q2 : ¬ (50 : Int) ≤ (l : Int) := by omega
      have HE : Hid _ := pivot_mid (d := d) hl hq (by omega) h50
      rw [HE.out, ← hi0, ← hj0, ← hk0]
      have p1 := median_any C0.out cap i0 j0 k0 (by omega) (by omega) (by omega) (by omega) hn
      generalize median ltInt d i0 j0 k0 0 = r at p1 ⊢
      obtain ⟨m, s⟩ := r
      simp only at p1
      clear hl hq HE h8 h50 hi0 hj0 hk0 C0
      go_enter Try.func32, Try.ntmps32
      go_wp2_with fail
      refine p1.mono ?_
      rintro e wa ⟨rfl, hSC, hm1, hm2⟩
      clear p1
      have HC : Hid _ := hSC
      have hcc := hSC.cell
      have hcf := hSC.frozen
      clear hSC
      rcases Nat.eq_zero_or_pos s with rfl | hs0
      · go_wp2_with fail
        go_ret2
        exact ⟨by first | rfl | (simp [hintCode, hintOf]; done), HC.out.su⟩
      · by_cases hs12 : s = 12
        · subst hs12
          go_wp2_with fail
          go_ret2
          exact ⟨by first | rfl | (simp [hintCode, hintOf]; done), HC.out.su⟩
        · have q7 : ((s : Int) == 0) = false := beq_eq_false_iff_ne.mpr (by omega)
          have q8 : ((s : Int) == 12) = false := beq_eq_false_iff_ne.mpr (by omega)
          have q9 : ¬ (s : Int) = 0 := by omega
          have q10 : ¬ (s : Int) = 12 := by omega
          have HH : Hid (hintOf s = .unknown) := by show _ = _; unfold hintOf; rw [if_neg (by omega), if_neg hs12]
          clear hs12
          go_wp2_with fail
          go_ret2
          exact ⟨by rw [HH.out]; first | rfl | (simp [hintCode, hintOf]; done), HC.out.su⟩

    · have q2 : (50 : Int) ≤ (l : Int) := by omega
      obtain ⟨⟨i1, s1⟩, h1⟩ : ∃ r, r = medianAdjacent ltInt d i0 0 := ⟨_, rfl⟩
      have p1 := medianAdj_any C0.out cap i0 b1 b4 (by omega) hn
      rw [← h1] at p1
      obtain ⟨⟨j1, s2⟩, h2⟩ : ∃ r, r = medianAdjacent ltInt d j0 s1 := ⟨_, rfl⟩
      obtain ⟨⟨k1, s3⟩, h3⟩ : ∃ r, r = medianAdjacent ltInt d k0 s2 := ⟨_, rfl⟩
      obtain ⟨⟨m, s⟩, h4⟩ : ∃ r, r = median ltInt d i1 j1 k1 s3 := ⟨_, rfl⟩
      have HE : Hid _ := pivot_high (d := d) hl hq (by omega) (by rw [← hi0]; exact h1) (by rw [← hj0]; exact h2) (by rw [← hk0]; exact h3) h4
      rw [HE.out]
      have H2 : Hid _ := h2
      have H3 : Hid _ := h3
      have H4 : Hid _ := h4
      simp only at p1
      clear hl hq HE h8 h50 hi0 hj0 hk0 C0 h1 h2 h3 h4
      go_enter Try.func32, Try.ntmps32
      go_wp2_with fail
      refine p1.mono ?_
      rintro e wa ⟨rfl, hSC, hm1, hm2⟩
      have p2 := medianAdj_any hSC cap j0 b2 b5 (by omega) hn
      rw [← H2.out] at p2
      simp only at p2
      clear p1 hSC H2
      have M1 : Hid (i1 < n ∧ s1 ≤ 3) := ⟨hm1, by omega⟩
      clear hm1 hm2
      go_wp2_with fail
      refine p2.mono ?_
      rintro e wb ⟨rfl, hSC, hm1, hm2⟩
      have p3 := medianAdj_any hSC cap k0 b3 b6 (by have := M1.out; omega) hn
      rw [← H3.out] at p3
      simp only at p3
      clear p2 hSC H3
      have M2 : Hid (j1 < n ∧ s2 ≤ 6) := ⟨hm1, by have := M1.out; omega⟩
      clear hm1 hm2
      go_wp2_with fail
      refine p3.mono ?_
      rintro e wd ⟨rfl, hSC, hm1, hm2⟩
      have p4 := median_any hSC cap i1 j1 k1 M1.out.1 M2.out.1 hm1 (by have := M2.out; omega) hn
      rw [← H4.out] at p4
      simp only at p4
      clear p3 hSC H4 hm1 hm2
      go_wp2_with fail
      refine p4.mono ?_
      rintro e we ⟨rfl, hSC, hm1, hm2⟩
      clear p4 hm1 hm2
      have HC : Hid _ := hSC
      have hcc := hSC.cell
      have hcf := hSC.frozen
      clear hSC
      rcases Nat.eq_zero_or_pos s with rfl | hs0
      · go_wp2_with fail
        go_ret2
        exact ⟨by first | rfl | (simp [hintCode, hintOf]; done), HC.out.su⟩
      · by_cases hs12 : s = 12
        · subst hs12
          go_wp2_with fail
          go_ret2
          exact ⟨by first | rfl | (simp [hintCode, hintOf]; done), HC.out.su⟩
        · have q7 : ((s : Int) == 0) = false := beq_eq_false_iff_ne.mpr (by omega)
          have q8 : ((s : Int) == 12) = false := beq_eq_false_iff_ne.mpr (by omega)
          have q9 : ¬ (s : Int) = 0 := by omega
          have q10 : ¬ (s : Int) = 12 := by omega
          have HH : Hid (hintOf s = .unknown) := by show _ = _; unfold hintOf; rw [if_neg (by omega), if_neg hs12]
          clear hs12
          go_wp2_with fail
          go_ret2
          exact ⟨by rw [HH.out]; first | rfl | (simp [hintCode, hintOf]; done), HC.out.su⟩

end Go.Proofs.Ytnojjipoppemcaa
