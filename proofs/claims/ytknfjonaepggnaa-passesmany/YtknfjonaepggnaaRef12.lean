/- The document's own Groups and Passes. -/
import Derived.Test.YtknfjonaepggnaaPairs
import Derived.Test.YtknfjonaepggnaaPassesMath
namespace Go.Proofs.Ytknfjonaepggnaa
open Go.RowKit
set_option linter.unusedVariables false
set_option linter.unusedSimpArgs false

/-- May so many runs be, and the fan? -/
def fanB (n k : Int) : Bool := decide (1 ≤ n ∧ n ≤ 65536 ∧ 2 ≤ k ∧ k ≤ 8)
def groupsZ (n k : Int) : List (Nat × Nat) := if fanB n k then groupsL n.toNat k.toNat else []
def passesZ (n k : Int) : Nat := if fanB n k then passesN n.toNat k.toNat else 0
theorem fan_nat {n k : Int} (h : fanB n k = true) : ∃ m f : Nat, n = m ∧ k = f ∧ 1 ≤ m ∧ m ≤ 65536 ∧ 2 ≤ f ∧ f ≤ 8 := by
  have := of_decide_eq_true h
  exact ⟨n.toNat, k.toNat, by omega, by omega, by omega, by omega, by omega, by omega⟩
theorem nat_fan {m f : Nat} (h1 : 1 ≤ m) (h2 : m ≤ 65536) (h3 : 2 ≤ f) (h4 : f ≤ 8) : fanB m f = true := decide_eq_true (by omega)
theorem fan_not {n k : Int} (h : fanB n k = false) : n < 1 ∨ (¬ n < 1 ∧ 65536 < n) ∨ (¬ n < 1 ∧ ¬ 65536 < n ∧ k < 2) ∨ (¬ n < 1 ∧ ¬ 65536 < n ∧ ¬ k < 2 ∧ 8 < k) := by
  have := of_decide_eq_false h
  omega
/-- Groups, found one by one. -/
theorem groups_step {n k t : Nat} (hk : 2 ≤ k) (ht : t + 1 < n) : ((t + 1) % k = 0 → (groupsL n k).take ((t + 1) / k) = (groupsL n k).take (t / k) ++ [(t / k * k, t + 1)] ∧ (t + 1) / k * k = t + 1 ∧ t + 1 - t / k * k = k ∧ (t + 1) / k = t / k + 1) ∧ ((t + 1) % k ≠ 0 → (t + 1) / k = t / k ∧ t + 1 - t / k * k ≠ k) := by
  have h1 := Nat.div_add_mod t k
  have h2 := Nat.div_add_mod (t + 1) k
  have m1 := Nat.mod_lt t (show k > 0 by omega)
  have m2 := Nat.mod_lt (t + 1) (show k > 0 by omega)
  have c1 : k * (t / k) = t / k * k := Nat.mul_comm _ _
  have c2 : k * ((t + 1) / k) = (t + 1) / k * k := Nat.mul_comm _ _
  constructor
  · intro h0
    have e1 : (t + 1) / k = t / k + 1 := by
      apply Nat.le_antisymm
      · by_cases hh : (t + 1) / k ≤ t / k + 1
        · exact hh
        · exfalso
          have : (t / k + 2) * k ≤ (t + 1) / k * k := Nat.mul_le_mul_right _ (by omega)
          rw [Nat.add_mul] at this
          omega
      · by_cases hh : t / k + 1 ≤ (t + 1) / k
        · exact hh
        · exfalso
          have : (t + 1) / k * k ≤ t / k * k := Nat.mul_le_mul_right _ (by omega)
          omega
    have e2 : (t / k + 1) * k = t / k * k + k := by rw [Nat.add_mul, Nat.one_mul]
    have h5 : (t + 1) / k * k + (t + 1) % k = t + 1 := by omega
    rw [e1, e2] at h5
    rw [e1, e2]
    refine ⟨?_, by omega, by omega, rfl⟩
    have hlt : t / k < upN n k := (lt_ups (by omega)).2 (by omega)
    rw [List.take_add_one, groups_at hlt]
    have : min (t / k * k + k) n = t + 1 := by omega
    rw [this]; rfl
  · intro h0
    have e1 : (t + 1) / k = t / k := by
      apply Nat.le_antisymm
      · by_cases hh : (t + 1) / k ≤ t / k
        · exact hh
        · exfalso
          have : (t / k + 1) * k ≤ (t + 1) / k * k := Nat.mul_le_mul_right _ (by omega)
          rw [Nat.add_mul, Nat.one_mul] at this
          omega
      · exact Nat.div_le_div_right (by omega)
    rw [e1] at c2 h2
    exact ⟨e1, by omega⟩
theorem groups_last {n k : Nat} (hk : 2 ≤ k) (hn : 1 ≤ n) : groupsL n k = (groupsL n k).take ((n - 1) / k) ++ [((n - 1) / k * k, n)] := by
  have h1 := Nat.div_add_mod (n - 1) k
  have m1 := Nat.mod_lt (n - 1) (show k > 0 by omega)
  have c1 : k * ((n - 1) / k) = (n - 1) / k * k := Nat.mul_comm _ _
  have hup : upN n k = (n - 1) / k + 1 := by
    have e2 : ((n - 1) / k + 1) * k = (n - 1) / k * k + k := by rw [Nat.add_mul, Nat.one_mul]
    apply Nat.le_antisymm
    · exact (ups_le (by omega)).2 (by omega)
    · exact (lt_ups (by omega)).2 (by omega)
  have hat := groups_at (n := n) (k := k) (i := (n - 1) / k) (by omega)
  have : min ((n - 1) / k * k + k) n = n := by omega
  rw [this] at hat
  have hl := groups_len n k
  have h2 : (groupsL n k).take ((n - 1) / k + 1) = groupsL n k := List.take_of_length_le (by omega)
  rw [List.take_add_one, hat] at h2
  exact h2.symm

set_option maxRecDepth 100000 in
set_option maxHeartbeats 4000000 in
theorem rgroups_any (n k : Int) (w : World) (hn : n ≤ 9223372036854775807) (hn0 : -9223372036854775808 ≤ n) (hk : k ≤ 9223372036854775807) (hk0 : -9223372036854775808 ≤ k) :
    Calls Try.prog 10 #[.int .i64 n, .int .i64 k] w fun e w' => ∃ ag c, e = .returned (.slice ag (groupsZ n k).length c) ∧ w'.ownsRow w.heap.size 25 2 (.slice ag (groupsZ n k).length c) (groupsZ n k).length (cellsP (groupsZ n k)) ∧ Below w.heap.size w w' := by
  cases hf : fanB n k with
  | false =>
    have hE : Hid (groupsZ n k = []) := by show _ = _; unfold groupsZ; rw [hf]; rfl
    have hsp := fan_not hf
    clear hf
    rcases hsp with h1 | ⟨h1, h2⟩ | ⟨h1, h2, h3⟩ | ⟨h1, h2, h3, h4⟩
    all_goals go_enter Try.func10, Try.ntmps10
    all_goals go_wp2
    all_goals go_ret
    all_goals rw [hE.out]
    all_goals exact ⟨none, 0, rfl, World.ownsRow_nil _ _ _ _, Below.refl _ _⟩
  | true =>
    obtain ⟨m, f, rfl, rfl, m1, m2, f1, f2⟩ := fan_nat hf
    have hE : Hid (groupsZ m f = groupsL m f) := by show _ = _; unfold groupsZ; rw [hf]; simp
    have i1 : ¬ (m : Int) < 1 := by omega
    have i2 : ¬ (65536 : Int) < m := by omega
    have i3 : ¬ (f : Int) < 2 := by omega
    have i4 : ¬ (8 : Int) < f := by omega
    have hgl : (groupsL m f).length ≤ 65536 := by rw [groups_len]; exact (ups_le (by omega)).2 (by have : 65536 * 1 ≤ 65536 * f := Nat.mul_le_mul_left _ (by omega); omega)
    have Hgl : Hid _ := hgl
    clear hf hn hn0 hk hk0 hgl
    go_enter Try.func10, Try.ntmps10
    go_wp2_with fail
    go_loopw [5, 6, 7] (fun v a i wr => ∃ (t fr c : Nat) (ag : Option Addr) (cc : Nat), v = .slice ag c cc ∧ a = .int .i64 (fr : Nat) ∧ i = .int .i64 ((t : Int) + 1) ∧ t ≤ m ∧ Hid (t < m → c = t / f ∧ fr = t / f * f ∧ fr ≤ t) ∧ Hid (t = m → c = (groupsL m f).length) ∧ Hid (c ≤ (groupsL m f).length) ∧ fr ≤ t ∧
      Hid (wr.ownsRow w.heap.size 25 2 (.slice ag c cc) c (cellsP ((groupsL m f).take c))) ∧ Hid (Below w.heap.size w wr)) (fun _ _ i _ => (m + 1 - intOf i).toNat)
    case atStart => exact ⟨0, 0, 0, none, 0, rfl, rfl, rfl, Nat.zero_le _, fun _ => by simp, (fun h => by omega), Nat.zero_le _, Nat.le_refl _, World.ownsRow_nil _ _ _ _, Below.refl _ _⟩
    case round =>
      obtain ⟨t, fr, c, ag, cc, rfl, rfl, rfl, ht, h1, h2, h3, hfr, hrow, hB⟩ := hrel
      have hsz := hB.out.size
      by_cases htm : t < m
      · obtain ⟨hc, hfe, _⟩ := h1.out htm
        have hti : (t : Int) + 1 ≤ m := by omega
        have hcl := h3.out
        have hgl := Hgl.out
        have hone : ∀ u ∈ [Value.int .i64 (fr : Int), Value.int .i64 ((t : Int) + 1)], u.oneCell' = true := by simp [Value.oneCell']
        have hm1 : c + 1 ≤ maxLen := by unfold maxLen; omega
        have hm2 : (c + 1) * 16 ≤ 140737488355328 := by omega
        have hrw := hrow.out
        have Hhi : Hid (t < m) := htm
        -- appended, or not
        have hgo : (((((t : Int) + 1) == (m : Int)) = true ∨ ((((t : Int) + 1) == (m : Int)) = false ∧ ((((t : Int) + 1 - fr) == (f : Int)) = true))) ∧
            Hid ((t + 1 < m → c + 1 = (t + 1) / f ∧ t + 1 = (t + 1) / f * f) ∧ (t + 1 = m → c + 1 = (groupsL m f).length) ∧ c + 1 ≤ (groupsL m f).length ∧ (groupsL m f).take (c + 1) = (groupsL m f).take c ++ [(fr, t + 1)])) ∨
            (((((t : Int) + 1) == (m : Int)) = false ∧ ((((t : Int) + 1 - fr) == (f : Int)) = false)) ∧ Hid (t + 1 < m ∧ c = (t + 1) / f ∧ fr = (t + 1) / f * f)) := by
          by_cases hl : t + 1 = m
          · left
            have hg := groups_last (n := m) (k := f) f1 m1
            have hmt : m - 1 = t := by omega
            rw [hmt, ← hc] at hg
            have hlen : (groupsL m f).length = c + 1 := by
              have := congrArg List.length hg
              rw [List.length_append, List.length_take] at this
              simp only [List.length_singleton] at this
              have h9 : c ≤ (groupsL m f).length := hcl
              omega
            refine ⟨.inl (by rw [beq_iff_eq]; omega), fun h => by omega, fun _ => hlen.symm, by omega, ?_⟩
            rw [List.take_of_length_le (by omega)]
            have hfc : fr = c * f := by rw [hfe, hc]
            rw [hfc, hl]
            exact hg
          · have hlt : t + 1 < m := by omega
            have b1 : (((t : Int) + 1) == (m : Int)) = false := by rw [beq_eq_false_iff_ne]; omega
            obtain ⟨s1, s2⟩ := groups_step (n := m) (k := f) f1 hlt
            by_cases h0 : (t + 1) % f = 0
            · left
              obtain ⟨t1, t2, t3, t4⟩ := s1 h0
              refine ⟨.inr ⟨b1, by rw [beq_iff_eq]; omega⟩, fun _ => ⟨by omega, t2.symm⟩, fun h => by omega, ?_, ?_⟩
              · have hx : t / f < upN m f := (lt_ups (by omega)).2 (by omega)
                rw [groups_len]; omega
              · rw [hc, ← t4, hfe]; exact t1
            · right
              obtain ⟨t1, t2⟩ := s2 h0
              exact ⟨⟨b1, by rw [beq_eq_false_iff_ne]; omega⟩, hlt, by omega, by rw [t1]; exact hfe⟩
        clear hc hfe h1 h2 h3 hrow htm hcl hgl
        rcases hgo with ⟨hb, hg⟩ | ⟨⟨b1, b2⟩, hg⟩
        · rcases hb with b1 | ⟨b1, b2⟩
          all_goals go_wp2_with (at_builtin; refine wpList_append_pair rfl _ _ rfl w.heap.size _ _ _ _ rfl (hrw.alloc _) _ _ _ _ rfl (reads_lit _ _ _ _) hone hm1 hm2 (Nat.le_trans hsz (by simp)) ?_; intro ag2 c2 w2 hr2 hg2 hb2)
          all_goals
            obtain ⟨a1, a2, a3, a4⟩ := hg.out
            have HB2 : Hid _ := (hB.out.alloc hsz (.cells #[.int .i64 (fr : Int), .int .i64 ((t : Int) + 1)] 25)).trans hb2
            have HR2 : Hid (w2.ownsRow w.heap.size 25 2 (.slice ag2 (c + 1) c2) (c + 1) (cellsP ((groupsL m f).take (c + 1)))) := by show World.ownsRow _ _ _ _ _ _ _; rw [a4, cellsP_app]; exact hr2
            clear hr2 hg2 hb2 hrw hg
            go_roundw
            case rel => exact ⟨t + 1, t + 1, c + 1, ag2, c2, rfl, by go_num, by go_num, by have := Hhi.out; omega, fun h => ⟨(a1 h).1, (a1 h).2, Nat.le_refl _⟩, a2, a3, Nat.le_refl _, HR2, HB2⟩
            case measure => simp [intOf]; omega
        · obtain ⟨a1, a2, a3⟩ := hg.out
          have hrow : Hid (wr.ownsRow w.heap.size 25 2 (.slice ag c cc) c (cellsP ((groupsL m f).take c))) := hrw
          have hc3 : c ≤ (groupsL m f).length := by have := hrw.1; rw [cellsP_len, List.length_take] at this; omega
          have Ha : Hid _ := (⟨a2, a3⟩ : _ ∧ _)
          have Hc3 : Hid _ := hc3
          have Ha1 : Hid _ := a1
          clear hrw hg a1 a2 a3 hc3
          go_wp2
          go_roundw
          case rel => exact ⟨t + 1, fr, c, ag, cc, rfl, rfl, by go_num, by have := Hhi.out; omega, fun _ => ⟨Ha.out.1, Ha.out.2, by omega⟩, (fun h => by have := Ha1.out; omega), Hc3.out, by omega, hrow, hB⟩
          case measure => simp [intOf]; omega
      · have hte : t = m := by omega
        have hce := h2.out hte
        have hni : ¬ (t : Int) + 1 ≤ m := by omega
        have hr2 : Hid (wr.ownsRow w.heap.size 25 2 (.slice ag c cc) c (cellsP (groupsL m f))) := by
          have := hrow.out
          rw [List.take_of_length_le (by omega)] at this
          exact this
        subst hce
        clear h1 h2 h3 hrow hte htm
        go_wp2
        go_ret
        rw [hE.out]
        exact ⟨ag, cc, rfl, hr2.out, hB.out⟩
#print axioms rgroups_any

set_option maxRecDepth 100000 in
set_option maxHeartbeats 4000000 in
theorem rpasses_nat : ∀ (m f : Nat) (w : World), 1 ≤ m → m ≤ 65536 → 2 ≤ f → f ≤ 8 → Calls Try.prog 12 #[.int .i64 (m : Nat), .int .i64 (f : Nat)] w fun e w' => e = .returned (.int .i64 (passesN m f : Nat)) ∧ w' = w := by
  intro m
  induction m using Nat.strongRecOn with
  | ind m ih =>
    intro f w m1 m2 f1 f2
    have i1 : ¬ (m : Int) < 1 := by omega
    have i2 : ¬ (65536 : Int) < m := by omega
    have i3 : ¬ (f : Int) < 2 := by omega
    have i4 : ¬ (8 : Int) < f := by omega
    by_cases hm : m = 1
    · subst hm
      have hE : Hid (passesN 1 f = 0) := passes_one f
      clear ih
      go_enter Try.func12, Try.ntmps12
      go_wp2
      go_ret
      exact ⟨by rw [hE.out]; rfl, rfl⟩
    · have hm2 : 2 ≤ m := by omega
      have i5 : ((m : Int) == 1) = false := by rw [beq_eq_false_iff_ne]; omega
      have i6 : ¬ (m : Int) = 1 := by omega
      have hq : ((m : Int) + f - 1) / (f : Int) = (upN m f : Nat) := by
        unfold upN
        rw [show ((m : Int) + f - 1) = ((m + f - 1 : Nat) : Int) by omega]
        rfl
      have hf0 : ¬ (f : Int) = 0 := by omega
      have hul := ups_lt f1 hm2
      have hup := ups_pos (n := m) (k := f) (by omega) (by omega)
      have p := ih (upN m f) hul f w hup (by omega) f1 f2
      have hE : Hid (((passesN m f : Nat) : Int) = 1 + (passesN (upN m f) f : Nat)) := by show _ = _; rw [passes_next f1 hm2]; push_cast; rfl
      have h16 := passes_16 f1 hup (by omega)
      generalize upN m f = u at *
      generalize passesN u f = r at *
      clear ih hul hup hm2 hm
      go_enter Try.func12, Try.ntmps12
      go_wp2_with fail
      refine p.mono ?_
      rintro e w' ⟨rfl, rfl⟩
      clear p
      go_wp2
      go_ret
      exact ⟨by rw [hE.out]; rfl, rfl⟩
theorem rpasses_any (n k : Int) (w : World) (hn : n ≤ 9223372036854775807) (hn0 : -9223372036854775808 ≤ n) (hk : k ≤ 9223372036854775807) (hk0 : -9223372036854775808 ≤ k) :
    Calls Try.prog 12 #[.int .i64 n, .int .i64 k] w fun e w' => e = .returned (.int .i64 (passesZ n k : Nat)) ∧ w' = w := by
  cases hf : fanB n k with
  | false =>
    have hE : Hid (passesZ n k = 0) := by show _ = _; unfold passesZ; rw [hf]; rfl
    have hsp := fan_not hf
    clear hf
    rcases hsp with h1 | ⟨h1, h2⟩ | ⟨h1, h2, h3⟩ | ⟨h1, h2, h3, h4⟩
    all_goals go_enter Try.func12, Try.ntmps12
    all_goals go_wp2
    all_goals go_ret
    all_goals exact ⟨by rw [hE.out]; rfl, rfl⟩
  | true =>
    obtain ⟨m, f, rfl, rfl, m1, m2, f1, f2⟩ := fan_nat hf
    have hE : passesZ m f = passesN m f := by unfold passesZ; rw [hf]; simp
    rw [hE]
    exact rpasses_nat m f w m1 m2 f1 f2
#print axioms rpasses_any
end Go.Proofs.Ytknfjonaepggnaa
