/- The landed Groups and Passes. -/
import Derived.Test.YtknfjonaepggnaaRef12
import Derived.Test.YtknfjonaepggnaaRef12Merge
import Derived.ScopeJumps
namespace Go.Proofs.Ytknfjonaepggnaa
open Go.RowKit
set_option linter.unusedVariables false
set_option linter.unusedSimpArgs false

/-- May the fan be? -/
theorem fmay_yes (k : Int) (w : World) (h1 : 2 ≤ k) (h2 : k ≤ 8) : Calls Try.prog 17 #[.int .i64 k] w fun e w' => e = .returned (.bool true) ∧ w = w' := by
  go_enter Try.func17, Try.ntmps17
  go_wp2
  go_ret
  exact ⟨rfl, rfl⟩
theorem fmay_no (k : Int) (w : World) (h : k < 2 ∨ 8 < k) : Calls Try.prog 17 #[.int .i64 k] w fun e w' => e = .returned (.bool false) ∧ w = w' := by
  by_cases h1 : 2 ≤ k
  · have h2 : ¬ k ≤ 8 := by omega
    clear h
    go_enter Try.func17, Try.ntmps17
    go_wp2
    go_ret
    exact ⟨rfl, rfl⟩
  · clear h
    go_enter Try.func17, Try.ntmps17
    go_wp2
    go_ret
    exact ⟨rfl, rfl⟩
#print axioms fmay_no

set_option maxRecDepth 100000 in
set_option maxHeartbeats 4000000 in
theorem groups_any (n k : Int) (w : World) (hn : n ≤ 9223372036854775807) (hn0 : -9223372036854775808 ≤ n) (hk : k ≤ 9223372036854775807) (hk0 : -9223372036854775808 ≤ k) :
    Calls Try.prog 9 #[.int .i64 n, .int .i64 k] w fun e w' => ∃ ag c, e = .returned (.slice ag (groupsZ n k).length c) ∧ w'.ownsRow w.heap.size 25 2 (.slice ag (groupsZ n k).length c) (groupsZ n k).length (cellsP (groupsZ n k)) ∧ Below w.heap.size w w' := by
  cases hf : fanB n k with
  | false =>
    have hE : Hid (groupsZ n k = []) := by show _ = _; unfold groupsZ; rw [hf]; rfl
    have hsp : n < 1 ∨ (¬ n < 1 ∧ 65536 < n) ∨ (¬ n < 1 ∧ ¬ 65536 < n ∧ (k < 2 ∨ 8 < k)) := by rcases fan_not hf with h | h | h | h <;> omega
    clear hf
    rcases hsp with h1 | ⟨h1, h2⟩ | ⟨h1, h2, h3⟩
    · go_enter Try.func9, Try.ntmps9
      go_wp2
      go_ret
      rw [hE.out]
      exact ⟨none, 0, rfl, World.ownsRow_nil _ _ _ _, Below.refl _ _⟩
    · go_enter Try.func9, Try.ntmps9
      go_wp2
      go_ret
      rw [hE.out]
      exact ⟨none, 0, rfl, World.ownsRow_nil _ _ _ _, Below.refl _ _⟩
    · have pm := fmay_no k w h3
      clear h3
      go_enter Try.func9, Try.ntmps9
      go_wp2_with fail
      refine pm.mono ?_
      rintro e wa ⟨rfl, rfl⟩
      clear pm
      go_wp2
      go_ret
      rw [hE.out]
      exact ⟨none, 0, rfl, World.ownsRow_nil _ _ _ _, Below.refl _ _⟩
  | true =>
    obtain ⟨m, f, rfl, rfl, m1, m2, f1, f2⟩ := fan_nat hf
    have hE : Hid (groupsZ m f = groupsL m f) := by show _ = _; unfold groupsZ; rw [hf]; simp
    have i1 : ¬ (m : Int) < 1 := by omega
    have i2 : ¬ (65536 : Int) < m := by omega
    have pm := fmay_yes f w (by omega) (by omega)
    have hgl := groups_len m f
    have hum : upN m f ≤ 65536 := (ups_le (by omega)).2 (by have : 65536 * 1 ≤ 65536 * f := Nat.mul_le_mul_left _ (by omega); omega)
    have Hlt : Hid (∀ i, i < upN m f ↔ i * f < m) := fun i => lt_ups (by omega)
    have Hat : Hid (∀ i, i < upN m f → (groupsL m f)[i]? = some (i * f, min (i * f + f) m)) := fun i h => groups_at h
    generalize groupsL m f = gs at *
    generalize upN m f = u at *
    clear hf hn hn0 hk hk0
    go_enter Try.func9, Try.ntmps9
    go_wp2_with fail
    refine pm.mono ?_
    rintro e wa ⟨rfl, rfl⟩
    clear pm
    go_wp2_with fail
    go_loopw [5, 6] (fun v a wr => ∃ (t c : Nat) (ag : Option Addr) (cc : Nat), v = .slice ag c cc ∧ a = .int .i64 (t : Nat) ∧ c ≤ u ∧ Hid (t = c * f) ∧
      Hid (wr.ownsRow w.heap.size 25 2 (.slice ag c cc) c (cellsP (gs.take c))) ∧ Hid (Below w.heap.size w wr)) (fun _ a _ => (m - intOf a).toNat)
    case atStart => exact ⟨0, 0, none, 0, rfl, rfl, Nat.zero_le _, (by omega : 0 = 0 * f), World.ownsRow_nil _ _ _ _, Below.refl _ _⟩
    case round =>
      obtain ⟨t, c, ag, cc, rfl, rfl, hcu, ht, hrow, hB⟩ := hrel
      have hsz := hB.out.size
      by_cases htm : t < m
      · have hti : (t : Int) < m := by omega
        have hlt : c < u := (Hlt.out c).2 (by rw [← ht.out]; exact htm)
        obtain ⟨hi, hhi⟩ : ∃ hi, hi = min (t + f) m := ⟨_, rfl⟩
        have hg := Hat.out c hlt
        rw [← ht.out, ← hhi] at hg
        have HG : Hid (cellsP (gs.take (c + 1)) = cellsP (gs.take c) ++ [.int .i64 (t : Nat), .int .i64 (hi : Nat)]) := by show _ = _; rw [List.take_add_one, hg, cellsP_app]; rfl
        have hone : ∀ u ∈ [Value.int .i64 (t : Nat), Value.int .i64 (hi : Nat)], u.oneCell' = true := by simp [Value.oneCell']
        have hm1 : c + 1 ≤ maxLen := by unfold maxLen; omega
        have hm2 : (c + 1) * 16 ≤ 140737488355328 := by omega
        have hrw := hrow.out
        obtain ⟨s9, h9⟩ : ∃ s9, s9 = t + f := ⟨_, rfl⟩
        have e9 : (t : Int) + f = (s9 : Nat) := by omega
        have Ht : Hid (s9 = (c + 1) * f) := by show _ = _; rw [h9, Nat.add_mul, Nat.one_mul, ← ht.out]
        have Hm9 : Hid (t < s9) := (by omega : t < s9)
        have hor : ((m : Int) < s9 ∧ ¬ (s9 : Int) ≤ m ∧ ¬ (s9 : Int) < m ∧ hi = m) ∨ ((s9 : Int) ≤ m ∧ ¬ (m : Int) < s9 ∧ hi = s9) := by omega
        clear hg hhi ht htm hrow h9
        rcases hor with ⟨q9, q8, q7, rfl⟩ | ⟨q9, q8, rfl⟩
        all_goals go_wp2_with (at_builtin; refine wpList_append_pair rfl _ _ rfl w.heap.size _ _ _ _ rfl (hrw.alloc _) _ _ _ _ rfl (reads_lit _ _ _ _) hone hm1 hm2 (Nat.le_trans hsz (by simp)) ?_; intro ag2 c2 w2 hr2 hg2 hb2)
        all_goals
          rw [← HG.out] at hr2
          have HB2 : Hid _ := (hB.out.alloc hsz _).trans hb2
          have HR2 : Hid _ := hr2
          clear hr2 hg2 hb2 hrw
          go_wp2
          go_roundw
          case rel => exact ⟨_, c + 1, ag2, c2, rfl, by go_num, by omega, Ht, HR2, HB2⟩
          case measure => have := Hm9.out; simp [intOf]; omega
      · have hti : ¬ (t : Int) < m := by omega
        have hce : c = u := by
          by_cases h : c < u
          · have := (Hlt.out c).1 h; have := ht.out; omega
          · omega
        subst hce
        have hr2 : Hid (wr.ownsRow w.heap.size 25 2 (.slice ag c cc) c (cellsP gs)) := by
          have := hrow.out
          rwa [List.take_of_length_le (by omega)] at this
        clear hrow ht htm
        go_wp2
        go_ret
        rw [hE.out, hgl]
        exact ⟨ag, cc, rfl, hr2.out, hB.out⟩
#print axioms groups_any

set_option maxRecDepth 100000 in
set_option maxHeartbeats 4000000 in
theorem passes_any (n k : Int) (w : World) (hn : n ≤ 9223372036854775807) (hn0 : -9223372036854775808 ≤ n) (hk : k ≤ 9223372036854775807) (hk0 : -9223372036854775808 ≤ k) :
    Calls Try.prog 11 #[.int .i64 n, .int .i64 k] w fun e w' => e = .returned (.int .i64 (passesZ n k : Nat)) ∧ Below w.heap.size w w' := by
  cases hf : fanB n k with
  | false =>
    have hE : Hid (passesZ n k = 0) := by show _ = _; unfold passesZ; rw [hf]; rfl
    have pg := groups_any n k w hn hn0 hk hk0
    rw [show groupsZ n k = [] by unfold groupsZ; rw [hf]; rfl] at pg
    rw [show ([] : List (Nat × Nat)).length = 0 from rfl] at pg
    clear hf
    by_cases h1 : n = 1
    · subst h1
      go_enter Try.func11, Try.ntmps11
      go_wp2_with fail
      go_step3
      go_wp2_with fail
      go_step3
      go_wp2_with fail
      refine pg.mono ?_
      rintro e w1 ⟨ag, c, rfl, _, hG⟩
      have HG : Hid _ := hG
      clear pg hG
      go_wp2
      first | (rw [Exit.noGoto_ret]; go_ret) | go_ret
      exact ⟨by rw [hE.out]; rfl, HG.out⟩
    · have h1 : (n == 1) = false := by rw [beq_eq_false_iff_ne]; exact h1
      go_enter Try.func11, Try.ntmps11
      go_wp2_with fail
      go_step3
      go_wp2_with fail
      go_step3
      go_wp2_with fail
      refine pg.mono ?_
      rintro e w1 ⟨ag, c, rfl, _, hG⟩
      have HG : Hid _ := hG
      clear pg hG
      go_wp2
      first | (rw [Exit.noGoto_ret]; go_ret) | go_ret
      exact ⟨by rw [hE.out]; rfl, HG.out⟩
  | true =>
    obtain ⟨m, f, rfl, rfl, m1, m2, f1, f2⟩ := fan_nat hf
    have hE : Hid (passesZ m f = passesN m f) := by show _ = _; unfold passesZ; rw [hf]; simp
    clear hf hn hn0 hk hk0
    have PG : Hid (∀ x : Nat, 1 ≤ x → x ≤ 65536 → ∀ W : World, Calls Try.prog 9 #[.int .i64 (x : Nat), .int .i64 (f : Nat)] W fun e w' => ∃ ag c, e = .returned (.slice ag (upN x f) c) ∧ Below W.heap.size W w') := by
      intro x x1 x2 W
      refine (groups_any x f W (by omega) (by omega) (by omega) (by omega)).mono ?_
      rintro e w' ⟨ag, c, rfl, _, hG⟩
      have hz : groupsZ (x : Nat) (f : Nat) = groupsL x f := by unfold groupsZ; rw [nat_fan (by omega) (by omega) f1 f2]; simp
      rw [hz, groups_len]
      exact ⟨ag, c, rfl, hG⟩
    go_enter Try.func11, Try.ntmps11
    go_wp2_with fail
    refine wp_scope_jumps 0 (fun a' w' => Hid (Below w.heap.size w w') ∧ ∃ (x r : Nat) (u2 u3 u6 u7 u8 u9 u10 u11 u12 u13 u14 u15 u16 u17 u18 u19 u20 u21 : Value), a' = { tmps := #[.int .i64 (x : Nat), .int .i64 (f : Nat), u2, u3, .int .i64 0, .int .i64 (r : Nat), u6, u7, u8, u9, u10, u11, u12, u13, u14, u15, u16, u17, u18, u19, u20, u21], defers := [] } ∧ 1 ≤ x ∧ x ≤ 65536 ∧ r ≤ 16 ∧ Hid (passesN m f = r + passesN x f)) (fun a' _ => (intOf (a'.tmps.getD 0 undef)).toNat) rfl ?_ ?_
    · go_wp2_with fail
      go_step3
      have pg := PG.out m m1 m2 w
      by_cases h1 : m = 1
      · subst h1
        have hE2 : Hid (passesN 1 f = 0) := passes_one f
        rw [show upN 1 f = 1 by have := ups_pos (n := 1) (k := f) (by omega) (by omega); have := (ups_le (n := 1) (k := f) (t := 1) (by omega)).2 (by omega); omega] at pg
        go_wp2_with fail
        refine pg.mono ?_
        rintro e w1 ⟨ag, c, rfl, hG⟩
        have HG : Hid _ := hG
        clear pg hG
        go_wp2
        simp only [Exit.jump]
        go_ret
        exact ⟨by rw [hE.out, hE2.out]; rfl, HG.out⟩
      · have h1 : ((m : Int) == 1) = false := by rw [beq_eq_false_iff_ne]; omega
        have hup := ups_pos (n := m) (k := f) (by omega) (by omega)
        have hul := ups_lt (n := m) (k := f) (by omega) (by omega)
        have hN : Hid (passesN m f = 1 + passesN (upN m f) f) := passes_next f1 (by omega)
        generalize upN m f = u at *
        have h2 : ((u : Int) == 0) = false := by rw [beq_eq_false_iff_ne]; omega
        go_wp2_with fail
        refine pg.mono ?_
        rintro e w1 ⟨ag, c, rfl, hG⟩
        have HG : Hid _ := hG
        clear pg hG
        go_wp2
        go_step3
        exact ⟨rfl, HG, u, 1, _, _, _, _, _, _, _, _, _, _, _, _, _, _, _, _, _, _, by go_num, hup, by omega, by omega, hN⟩
    · rintro a' wr ⟨HB, x, r, u2, u3, u6, u7, u8, u9, u10, u11, u12, u13, u14, u15, u16, u17, u18, u19, u20, u21, rfl, x1, x2, r1, hN⟩
      have pg := PG.out x x1 x2 wr
      by_cases h1 : x = 1
      · subst h1
        have hE2 : Hid (passesN m f = r) := by show _ = _; rw [hN.out, passes_one f]; rfl
        rw [show upN 1 f = 1 by have := ups_pos (n := 1) (k := f) (by omega) (by omega); have := (ups_le (n := 1) (k := f) (t := 1) (by omega)).2 (by omega); omega] at pg
        clear hN
        go_wp2_with fail
        refine pg.mono ?_
        rintro e w1 ⟨ag, c, rfl, hG⟩
        have HG : Hid _ := HB.out.trans (hG.mono HB.out.size)
        clear pg hG HB
        go_wp2
        simp only [Exit.jump]
        go_ret
        exact ⟨by rw [hE.out, hE2.out]; rfl, HG.out⟩
      · have h1 : ((x : Int) == 1) = false := by rw [beq_eq_false_iff_ne]; omega
        have hup := ups_pos (n := x) (k := f) (by omega) (by omega)
        have hul := ups_lt (n := x) (k := f) (by omega) (by omega)
        have hN2 : Hid (passesN m f = (r + 1) + passesN (upN x f) f) := by show _ = _; rw [hN.out, passes_next f1 (by omega), Nat.add_assoc]
        have h16 := passes_16 (n := upN x f) (k := f) f1 hup (by omega)
        have hmm := passes_16 (n := m) (k := f) f1 m1 m2
        have hr2 : r + 1 ≤ 16 := by have := hN2.out; omega
        clear h16 hmm hN
        generalize upN x f = u at *
        have h2 : ((u : Int) == 0) = false := by rw [beq_eq_false_iff_ne]; omega
        go_wp2_with fail
        refine pg.mono ?_
        rintro e w1 ⟨ag, c, rfl, hG⟩
        have HG : Hid _ := HB.out.trans (hG.mono HB.out.size)
        clear pg hG HB
        go_wp2
        go_step3
        refine ⟨rfl, ⟨HG, u, r + 1, _, _, _, _, _, _, _, _, _, _, _, _, _, _, _, _, _, _, by go_num, hup, by omega, hr2, hN2⟩, ?_⟩
        simp [intOf]; omega
#print axioms passes_any
end Go.Proofs.Ytknfjonaepggnaa
