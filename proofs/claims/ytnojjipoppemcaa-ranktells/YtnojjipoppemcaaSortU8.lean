/- slices.Sort of uint64s: breakPatternsOrdered. -/
import Derived.Test.YtnojjipoppemcaaSortU
import Derived.Test.YtnojjipoppemcaaRankShelf
import Derived.Sort.Walk7
import Derived.Deep.CutRange
namespace Go.Proofs.Ytnojjipoppemcaa
open Go.RowKit Go.Sort
set_option linter.unusedVariables false
set_option linter.unusedSimpArgs false

set_option maxRecDepth 1000000 in
set_option maxHeartbeats 16000000 in
theorem break_any {w0 w : World} {blk off n : Nat} {d : Array Int} (S : SU w0 blk off n d w) (cap a b : Nat) (hab : a ≤ b) (hb : b ≤ n) (hn : n < 4611686018427387904) :
    Calls Try.prog 31 #[.slice (some ⟨blk, off, none⟩) n cap, .int .i64 a, .int .i64 b] w fun e w' => e = .returned (.tuple #[]) ∧ SU w0 blk off n (breakPatterns d a b) w' := by
  obtain ⟨L, hL⟩ : ∃ L, L = b - a := ⟨_, rfl⟩
  have e1 : (b : Int) - (a : Int) = (L : Int) := by omega
  have hbL : b = a + L := by omega
  by_cases h8 : 8 ≤ L
  · have HE : Hid (breakPatterns d a b = bpRest a L (1 <<< bitsLen L) (a + L / 4 * 2 - 1) 3 0 (UInt64.ofNat L, d)) := by
      show _ = _
      rw [hbL]; exact breakPatterns_eq d a L h8
    rw [HE.out]
    obtain ⟨M, hM⟩ : ∃ M : Nat, M = 1 <<< bitsLen L := ⟨_, rfl⟩
    have hM1 : 1 ≤ M := by rw [hM, Nat.one_shiftLeft]; exact Nat.two_pow_pos _
    have hM2 : M ≤ 2 * L := by rw [hM, Nat.one_shiftLeft]; exact two_pow_bitsLen_le (by omega)
    have pw := pow_any L (by omega)
    rw [← hM] at pw ⊢
    obtain ⟨q, hq⟩ : ∃ q, q = L / 4 := ⟨_, rfl⟩
    obtain ⟨i0, hi0⟩ : ∃ i, i = a + L / 4 * 2 - 1 := ⟨_, rfl⟩
    rw [← hi0]
    have e2 : (L : Int).tdiv 4 = (q : Int) := by rw [Int.tdiv_eq_ediv_of_nonneg (by omega)]; omega
    have e3 : (L : Int) / 4 = (q : Int) := by omega
    obtain ⟨j0, hj0⟩ : ∃ j, j = a + q * 2 := ⟨_, rfl⟩
    have e6 : (a : Int) + (q : Int) * 2 = (j0 : Int) := by omega
    have e7 : (j0 : Int) - 1 = (i0 : Int) := by omega
    have b1 : i0 + 2 < a + L := by omega
    have b2 : a ≤ i0 := by omega
    have b3 : i0 + 1 = j0 := by omega
    have b4 : a + L ≤ n := by omega
    have q1 : (8 : Int) ≤ (L : Int) := by omega
    have HS : Hid (∀ T, SU w0 blk off n d (w.alloc (.cells #[.int .u64 (L : Nat)] T))) := fun T => S.alloc _
    have HS0 : Hid (w0.heap.size ≤ w.heap.size) := S.sw.le
    have Hblk : Hid (blk < w0.heap.size) := S.hb
    obtain ⟨rb, hrb⟩ : ∃ rb, rb = w.heap.size := ⟨_, rfl⟩
    have hLn : ((UInt64.ofNat L).toNat : Int) = (L : Int) := by simp; omega
    have HLn : Hid _ := hLn
    clear S hM hq hi0 hj0 HE hL hbL h8 hLn
    go_enter Try.func31, Try.ntmps31
    go_wp2_with (first | (go_at_call 40; refine (pw _).mono ?_; rintro e w' ⟨rfl, rfl⟩))
    clear e7
    go_loopw [9] (fun vi wr => ∃ (t x : Nat) (r : UInt64) (dk : Array Int), vi = .int .i64 x ∧ x = i0 + t ∧ t ≤ 3 ∧ Hid (SU w0 blk off n dk wr) ∧ wr.cell? ⟨w.heap.size, 0, none⟩ = some (.int .u64 (r.toNat : Int)) ∧ wr.frozen? ⟨w.heap.size, 0, none⟩ = false ∧ Hid (bpRest a L M i0 (3 - t) t (r, dk) = bpRest a L M i0 3 0 (UInt64.ofNat L, d))) (fun vi _ => (i0 + 3 - intOf vi).toNat)
    case atStart => exact ⟨0, i0, UInt64.ofNat L, d, rfl, rfl, by omega, HS.out _, by rw [HLn.out]; simp, by simp, rfl⟩
    case round =>
      obtain ⟨t, x, r, dk, rfl, hx, ht, S1, hc, hf, HO⟩ := hrel
      have Hx : Hid _ := hx
      by_cases ht3 : t < 3
      · have q2 : (x : Int) ≤ (j0 : Int) + 1 := by omega
        obtain ⟨R, hR⟩ : ∃ R : Nat, R = r.toNat := ⟨_, rfl⟩
        have lR : R < 18446744073709551616 := by rw [hR]; exact r.toNat_lt
        rw [← hR] at hc
        obtain ⟨R', hR'⟩ : ∃ R' : Nat, R' = xorNextN R := ⟨_, rfl⟩
        have lR' : R' < 18446744073709551616 := by rw [hR']; exact xorNextN_lt R lR
        obtain ⟨O, hO⟩ : ∃ O : Nat, O = R' &&& (M - 1) := ⟨_, rfl⟩
        have lO : O ≤ M - 1 := by rw [hO]; exact Nat.and_le_right
        have eAnd : bits .and .u64 (R' : Int) ((M : Int) - 1) = (O : Int) := by
          rw [show ((M : Int) - 1) = ((M - 1 : Nat) : Int) by omega, bits_and_u64_nat _ _ lR' (by omega), hO]
        have nx := next_any w.heap.size R lR wr hc hf
        rw [← hR'] at nx
        have HN : Hid (R' = (xorNext r).toNat ∧ O = (xorNext r).toNat &&& (M - 1)) := by
          have e : R' = (xorNext r).toNat := by rw [hR', hR, xorNext_toNat]
          exact ⟨e, by rw [hO, e]⟩
        have lO' : O ≤ 9223372036854775807 := by omega
        have lO2 : O < 2 * L := by omega
        have S2 : Hid (SU w0 blk off n dk ((wr.setCell ⟨w.heap.size, 0, none⟩ (.int .u64 (R' : Int))).drewN 3)) := (S1.out.setNew _ _ _ HS0.out).drewN 3
        have c2 : ((wr.setCell ⟨w.heap.size, 0, none⟩ (.int .u64 (R' : Int))).drewN 3).cell? ⟨w.heap.size, 0, none⟩ = some (.int .u64 (R' : Int)) := by
          rw [World.cell?_drewN]; exact World.cell?_setCell_same _ _ _ hc
        have f2 : ((wr.setCell ⟨w.heap.size, 0, none⟩ (.int .u64 (R' : Int))).drewN 3).frozen? ⟨w.heap.size, 0, none⟩ = false := by
          rw [World.frozen?_drewN, World.frozen?_setCell]; exact hf
        clear hR hR' hO S1 hc hf lO
        generalize (wr.setCell ⟨w.heap.size, 0, none⟩ (.int .u64 (R' : Int))).drewN 3 = w2 at nx S2 c2 f2
        obtain ⟨G, hG⟩ : ∃ G : Nat → Int, ∀ t, G t = dk[t]! := ⟨fun t => dk[t]!, fun _ => rfl⟩
        have HG : Hid (∀ t, G t = dk[t]!) := hG
        have hcw : ∀ t, t < n → w2.cell? ⟨blk, off + t, none⟩ = some (.int .u64 (G t)) := fun t ht => by rw [hG]; exact S2.out.cell t ht
        have hfw : ∀ t, t < n → w2.frozen? ⟨blk, off + t, none⟩ = false := S2.out.frozen
        clear hG
        have hne : blk ≠ w.heap.size := by have := HS0.out; have := Hblk.out; omega
        have keep : ∀ x y : Nat, x < n → y < n → ∀ u v : Value, (((w2.setCell ⟨blk, off + x, none⟩ u).setCell ⟨blk, off + y, none⟩ v).drew).cell? ⟨w.heap.size, 0, none⟩ = some (.int .u64 ((xorNext r).toNat : Int)) ∧ (((w2.setCell ⟨blk, off + x, none⟩ u).setCell ⟨blk, off + y, none⟩ v).drew).frozen? ⟨w.heap.size, 0, none⟩ = false := fun x y _ _ u v => by
          refine ⟨?_, ?_⟩
          · show ((w2.setCell ⟨blk, off + x, none⟩ u).setCell ⟨blk, off + y, none⟩ v).cell? _ = _
            rw [World.cell?_setCell_other _ _ _ _ (by intro e; simp only [Addr.mk.injEq] at e; exact hne e.1), World.cell?_setCell_other _ _ _ _ (by intro e; simp only [Addr.mk.injEq] at e; exact hne e.1), c2, HN.out.1]
          · show ((w2.setCell ⟨blk, off + x, none⟩ u).setCell ⟨blk, off + y, none⟩ v).frozen? _ = _
            rw [World.frozen?_setCell, World.frozen?_setCell, f2]
        by_cases hLO : L ≤ O
        · have q8 : (L : Int) ≤ (O : Int) := by omega
          obtain ⟨o, ho⟩ : ∃ o, o = O - L := ⟨_, rfl⟩
          have e10 : (O : Int) - (L : Int) = (o : Int) := by omega
          have HB : Hid (bpRest a L M i0 (3 - t) t (r, dk) = bpRest a L M i0 (3 - (t + 1)) (t + 1) (xorNext r, swp dk x (a + o))) := by
            show _ = _
            rw [hx]
            exact bp_step a L M i0 t r dk o ht3 (by rw [← HN.out.2, if_pos (by omega), ho])

          have lo : o < L := by omega
          clear HN
          have e11 : (a : Int) + (o : Int) = ((a + o : Nat) : Int) := by omega
          obtain ⟨y, hy⟩ : ∃ y, y = a + o := ⟨_, rfl⟩
          rw [← hy] at HB e11
          have ly : y < n := by omega
          have lx : x < n := by omega
          have HX : Hid (SU w0 blk off n (swp dk x y) ((w2.setCell ⟨blk, off + x, none⟩ (.int .u64 (G y))).setCell ⟨blk, off + y, none⟩ (.int .u64 (G x))).drew) := by
            show SU _ _ _ _ _ _
            rw [HG.out, HG.out]; exact (S2.out.swap x y lx ly).drew
          obtain ⟨u, hu⟩ := S2.out.second x y lx ly (.int .u64 (G y))
          have HK := keep x y lx ly (.int .u64 (G y)) (.int .u64 (G x))
          have HK' : Hid _ := HK
          clear HK keep ho hy hx S2
          go_wp2_with (go_at_call 41; refine nx.mono ?_; rintro e w' ⟨rfl, rfl⟩)
          go_region
          go_wp2_with fail
          go_roundw
          case rel => exact ⟨t + 1, x + 1, xorNext r, swp dk x y, by go_num, by have := Hx.out; omega, by omega, HX, HK'.out.1, HK'.out.2, (show Hid _ from by rw [← HO.out, HB.out]; exact rfl)⟩
          case measure => simp [intOf]; omega

        · have q8 : ¬ (L : Int) ≤ (O : Int) := by omega
          obtain ⟨o, ho⟩ : ∃ o, o = O := ⟨_, rfl⟩
          have HB : Hid (bpRest a L M i0 (3 - t) t (r, dk) = bpRest a L M i0 (3 - (t + 1)) (t + 1) (xorNext r, swp dk x (a + o))) := by
            show _ = _
            rw [hx]
            exact bp_step a L M i0 t r dk o ht3 (by rw [← HN.out.2, if_neg (by omega), ho])
          rw [ho] at HB
          have lo : O < L := by omega
          clear HN
          have e11 : (a : Int) + (O : Int) = ((a + O : Nat) : Int) := by omega
          obtain ⟨y, hy⟩ : ∃ y, y = a + O := ⟨_, rfl⟩
          rw [← hy] at HB e11
          have ly : y < n := by omega
          have lx : x < n := by omega
          have HX : Hid (SU w0 blk off n (swp dk x y) ((w2.setCell ⟨blk, off + x, none⟩ (.int .u64 (G y))).setCell ⟨blk, off + y, none⟩ (.int .u64 (G x))).drew) := by
            show SU _ _ _ _ _ _
            rw [HG.out, HG.out]; exact (S2.out.swap x y lx ly).drew
          obtain ⟨u, hu⟩ := S2.out.second x y lx ly (.int .u64 (G y))
          have HK := keep x y lx ly (.int .u64 (G y)) (.int .u64 (G x))
          have HK' : Hid _ := HK
          clear HK keep ho hy hx S2
          go_wp2_with (go_at_call 41; refine nx.mono ?_; rintro e w' ⟨rfl, rfl⟩)
          go_region
          go_wp2_with fail
          go_roundw
          case rel => exact ⟨t + 1, x + 1, xorNext r, swp dk x y, by go_num, by have := Hx.out; omega, by omega, HX, HK'.out.1, HK'.out.2, (show Hid _ from by rw [← HO.out, HB.out]; exact rfl)⟩
          case measure => simp [intOf]; omega

      · obtain rfl : t = 3 := by omega
        have q2 : ¬ (x : Int) ≤ (j0 : Int) + 1 := by omega
        go_wp2_with fail
        go_end0
        exact ⟨rfl, by rw [← HO.out]; exact S1.out⟩
  · have q1 : ¬ (8 : Int) ≤ (L : Int) := by omega
    have HE : Hid (breakPatterns d a b = d) := by
      show _ = _
      unfold breakPatterns
      simp only []
      rw [← hL, if_neg (by omega)]
    rw [HE.out]
    have HS : Hid _ := S
    clear S HE hL hbL
    go_enter Try.func31, Try.ntmps31
    go_wp2_with fail
    go_end0
    exact ⟨rfl, HS.out⟩
end Go.Proofs.Ytnojjipoppemcaa
