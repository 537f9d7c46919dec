/- The contract of num.Get. -/
import Derived.Test.YtgnhnhachhfafaaBase
import Derived.Deep.Cut
namespace Go.Proofs.Ytgnhnhachhfafaa
open Go.RowKit

theorem scan_form (zs : List Int) (j m c : Nat) (hj : j < zs.length) (hc : zs.getD j 0 = (c : Int)) (h : (j = 9 ∧ 1 < c) ∨ (0 < j ∧ c = 0)) : scan (zs.drop j) j m = (0, 0, 2) := by
  rw [drop_at zs j hj, hc, scan, if_pos (by omega)]

theorem scan_read (zs : List Int) (j m c : Nat) (hj : j < zs.length) (hc : zs.getD j 0 = (c : Int)) (h : ¬((j = 9 ∧ 1 < c) ∨ (0 < j ∧ c = 0))) (h2 : c < 128) : scan (zs.drop j) j m = (m + c % 128 * 128 ^ j, j + 1, 0) := by
  rw [drop_at zs j hj, hc, scan, if_neg (by omega), if_pos (by omega)]; simp

theorem scan_on (zs : List Int) (j m c : Nat) (hj : j < zs.length) (hc : zs.getD j 0 = (c : Int)) (h : ¬((j = 9 ∧ 1 < c) ∨ (0 < j ∧ c = 0))) (h2 : ¬ c < 128) : scan (zs.drop j) j m = scan (zs.drop (j + 1)) (j + 1) (m + c % 128 * 128 ^ j) := by
  rw [drop_at zs j hj, hc, scan, if_neg (by omega), if_neg (by omega)]; simp

def getV (r : Nat × Nat × Nat) : Value := .tuple #[.int .u64 r.1, .int .i64 r.2.1, .int .i64 r.2.2]

set_option maxRecDepth 100000 in
set_option maxHeartbeats 400000 in
theorem get_some (b off len cap : Nat) (zs : List Int) (w : World) (hz : zs.length = len) (hc : ∀ j, j < len → w.cell? ⟨b, off + j, none⟩ = some (.int .u8 (zs.getD j 0))) (hlen : len ≤ 9223372036854775807) (h8 : isBytes zs) :
    Calls Try.prog 57 #[.slice (some ⟨b, off, none⟩) len cap] w fun e w' => e = .returned (getV (getL zs)) ∧ w' = w := by
  have hcH : Hid _ := hc
  clear hc
  go_enter Try.func57, Try.ntmps57
  go_wp2_with fail
  go_step3
  go_wp2_with fail
  go_step3
  go_wp2_with fail
  go_loop [5, 6, 7, 8, 11] (fun n f i c k => ∃ j m : Nat, j ≤ len ∧ j ≤ 9 ∧ k = .int .i64 j ∧ n = .int .u64 m ∧ f = .int .i64 3 ∧ Hid (m < 128 ^ j) ∧ Hid (scan (zs.drop j) j m = getL zs)) (fun _ _ _ _ k => len - (intOf k).toNat)
  case atStart => exact ⟨0, 0, by omega, by omega, rfl, rfl, rfl, (by decide : 0 < 128 ^ 0), rfl⟩
  case round =>
    rename w = w => hww
    clear hww
    obtain ⟨j, m, hj, hj9, rfl, rfl, rfl, hm, hs⟩ := hrel
    by_cases hlt : (j : Int) < (len : Int)
    · obtain ⟨c, hcz0, hc80⟩ := h8.get j
      have hc8 : (c : Int) ≤ 255 := by omega
      have hcz : Hid _ := hcz0
      have hcj := hcH.out j (by omega)
      rw [hcz.out] at hcj
      clear hcz0
      by_cases hf : (j = 9 ∧ 1 < c) ∨ (0 < j ∧ c = 0)
      · have hres : Hid (getL zs = (0, 0, 2)) := by rw [← hs.out]; exact scan_form zs j m c (by omega) hcz.out hf
        by_cases hf1 : j = 9 ∧ 1 < c
        · obtain ⟨rfl, h2⟩ := hf1
          have h2 : (1 : Int) < (c : Int) := by omega
          clear hf
          go_wp2
          first | (rw [Exit.noGoto_ret]; go_ret3) | go_ret3
          exact ⟨by rw [hres.out]; rfl, rfl⟩
        · have h1 : (0 : Int) < (j : Int) := by omega
          obtain rfl : c = 0 := by omega
          clear hf hf1
          by_cases h9 : j = 9
          · subst h9
            go_wp2
            first | (rw [Exit.noGoto_ret]; go_ret3) | go_ret3
            exact ⟨by rw [hres.out]; rfl, rfl⟩
          · have h9' : ((j : Int) == 9) = false := by simp; omega
            clear h9
            go_wp2
            first | (rw [Exit.noGoto_ret]; go_ret3) | go_ret3
            exact ⟨by rw [hres.out]; rfl, rfl⟩
      · obtain ⟨hor, hs1, hs2⟩ := or_more m c j hm.out hc80 hj9 (by omega)
        by_cases h128 : c < 128
        · have hres : Hid (getL zs = (m + c % 128 * 128 ^ j, j + 1, 0)) := by rw [← hs.out]; exact scan_read zs j m c (by omega) hcz.out hf h128
          generalize m + c % 128 * 128 ^ j = m' at hor hs1 hs2 hres
          have h2 : (c : Int) < 128 := by omega
          by_cases h9 : j = 9
          · subst h9
            obtain rfl : c = 1 := by omega
            rw [show IntKind.u64.wrap (((1 : Nat) : Int) % 128 * 2 ^ (7 * 9)) = 9223372036854775808 from by rw [IntKind.wrap_u64]; decide] at hor
            clear hf h128
            go_wp2
            first | (rw [Exit.noGoto_ret]; go_ret3) | go_ret3
            exact ⟨by rw [hres.out]; rfl, rfl⟩
          · have h9' : ((j : Int) == 9) = false := by simp; omega
            by_cases h0 : (0 : Int) < (j : Int)
            · have h3 : ((c : Int) == 0) = false := by simp; omega
              clear h9
              clear hf h128
              go_wp2
              first | (rw [Exit.noGoto_ret]; go_ret3) | go_ret3
              exact ⟨by rw [hres.out]; rfl, rfl⟩
            · clear hf h128 h9
              go_wp2
              first | (rw [Exit.noGoto_ret]; go_ret3) | go_ret3
              exact ⟨by rw [hres.out]; rfl, rfl⟩
        · have hres : Hid (scan (zs.drop (j + 1)) (j + 1) (m + c % 128 * 128 ^ j) = getL zs) := by rw [← hs.out]; exact (scan_on zs j m c (by omega) hcz.out hf h128).symm
          generalize m + c % 128 * 128 ^ j = m' at hor hs1 hs2 hres
          have h2 : (128 : Int) ≤ (c : Int) := by omega
          have h9 : ((j : Int) == 9) = false := by simp; omega
          have h10 : ((c : Int) == 0) = false := by simp; omega
          have hj8 : j < 9 := by omega
          have hs3 : Hid _ := hs1
          clear hf h128 hs1
          by_cases h0 : (0 : Int) < (j : Int)
          all_goals
            go_wp2
            go_round
            case rel => exact ⟨j + 1, m', by omega, by omega, by go_num, rfl, rfl, hs3, hres⟩
            case measure => simp [intOf]; omega
    · have hres : Hid (getL zs = (0, 0, 3)) := by rw [← hs.out, List.drop_eq_nil_of_le (by omega)]; rfl
      go_wp2
      first | (rw [Exit.noGoto_ret]; go_ret3) | go_ret3
      exact ⟨by rw [hres.out]; rfl, rfl⟩

set_option maxRecDepth 100000 in
set_option maxHeartbeats 400000 in
theorem get_none (ao : Option Addr) (cap : Nat) (w : World) :
    Calls Try.prog 57 #[.slice ao 0 cap] w fun e w' => e = .returned (getV (0, 0, 3)) ∧ w' = w := by
  go_enter Try.func57, Try.ntmps57
  go_wp2_with fail
  go_step3
  go_wp2_with fail
  go_step3
  go_wp2_with fail
  refine wp_loop_rounds 1 ?_
  rw [rounds_succ]
  go_wp2
  first | (rw [Exit.noGoto_ret]; go_ret3) | go_ret3
  exact ⟨rfl, rfl⟩

/-- num.Get of whatever bytes. -/
theorem get_any (ao : Option Addr) (len cap : Nat) (zs : List Int) (w : World) (hr : Reads w ao len cap (zs.map (.int .u8))) (h8 : isBytes zs) :
    Calls Try.prog 57 #[.slice ao len cap] w fun e w' => e = .returned (getV (getL zs)) ∧ w' = w := by
  have hl := hr.length
  simp only [List.length_map] at hl
  rcases Nat.eq_zero_or_pos len with h | h
  · subst h
    have : zs = [] := List.eq_nil_of_length_eq_zero hl
    subst this
    exact get_none ao cap w
  · obtain ⟨b, off, rfl, _, hc⟩ := hr.at h
    have := hr.le
    have hm := hr.most
    unfold maxLen at hm
    exact get_some b off len cap zs w hl hc (by omega) h8
#print axioms get_any
end Go.Proofs.Ytgnhnhachhfafaa
