/- The contracts of the document's answer for layer 2: manteletref02.More and Of. -/
import Derived.Test.YtgnhnhachhfafaaCrcMore
namespace Go.Proofs.Ytgnhnhachhfafaa
open Go.RowKit
set_option linter.unusedVariables false

def iterH : Nat → Nat → Nat
  | 0, s => s
  | n + 1, s => iterH n (half s)

set_option maxRecDepth 100000 in
set_option maxHeartbeats 4000000 in
theorem rmore_any (c : Nat) (ao : Option Addr) (len cap : Nat) (zs : List Int) (w : World) (hc0 : c < 4294967296) (hr : Reads w ao len cap (zs.map (.int .u8))) (h8 : isBytes zs) :
    Calls Try.prog 62 #[.int .u32 c, .slice ao len cap] w fun e w' => e = .returned (.int .u32 (moreL c zs : Nat)) ∧ w' = w := by
  have HB : Hid _ := hr
  have hz : zs.length = len := by simpa using hr.length
  have hlen : len ≤ 9223372036854775807 := by have := hr.le; have := hr.most; unfold maxLen at this; omega
  have hf : (4294967295 : Int) - (c : Int) = ((flip32 c : Nat) : Int) := by unfold flip32; omega
  have hc1 : (c : Int) ≤ 4294967295 := by omega
  clear hr
  have hfl := flip_lt c
  have HM : Hid (moreL c zs = flip32 (crcL (flip32 c) zs)) := rfl
  generalize flip32 c = c1 at hfl HM hf
  go_enter Try.func62, Try.ntmps62
  go_wp2_with fail
  go_loop [0, 5] (fun x i => ∃ j s : Nat, j ≤ len ∧ i = .int .i64 j ∧ x = .int .u32 s ∧ s < 4294967296 ∧ Hid (crcL s (zs.drop j) = crcL c1 zs)) (fun _ i => len - (intOf i).toNat)
  case atStart => exact ⟨0, c1, by omega, rfl, by first | rfl | simp [hf], hfl, rfl⟩
  case round =>
    obtain ⟨j, s, hj, rfl, rfl, hs, HS⟩ := hrel
    by_cases hlt : (j : Int) < (len : Int)
    · obtain ⟨x, hx0, hx8⟩ := h8.get j
      obtain ⟨b, off, rfl, hbl, hcell⟩ := HB.out.at (by omega)
      have hcj := hcell j (by omega)
      rw [hx0] at hcj
      clear hcell hbl
      have hx1 := u32_xor_nat s x (by omega) (by omega)
      have hx2 : s ^^^ x < 4294967296 := Nat.xor_lt_two_pow (n := 32) hs (by omega)
      have HN : Hid (crcL (iterH 8 (s ^^^ x)) (zs.drop (j + 1)) = crcL c1 zs) := by
        unfold Hid
        rw [← HS.out, drop_at zs j (by omega), crc_cons, hx0, Int.toNat_natCast]; rfl
      generalize s ^^^ x = s1 at hx1 HN hx2
      have Hx0 : Hid _ := hx0
      clear hx0
      have hx82 : (x : Int) ≤ 255 := by omega
      go_wp2_with fail
      go_loop [0, 6] (fun y i => ∃ k t : Nat, k ≤ 8 ∧ i = .int .i64 k ∧ y = .int .u32 t ∧ t < 4294967296 ∧ Hid (iterH (8 - k) t = iterH 8 s1)) (fun _ i => 8 - (intOf i).toNat)
      case atStart => exact ⟨0, s1, by omega, rfl, rfl, hx2, rfl⟩
      case round =>
        obtain ⟨k, t, hk, rfl, rfl, ht, HK⟩ := hrel
        have ht1 : (t : Int) ≤ 4294967295 := by omega
        by_cases hk8 : (k : Int) < 8
        · have hp := xor_poly t ht
          have hhl := half_lt ht
          have HK2 : Hid (iterH (8 - (k + 1)) (half t) = iterH 8 s1) := by
            unfold Hid
            rw [← HK.out, show 8 - k = 8 - (k + 1) + 1 from by omega]; rfl
          rcases Nat.mod_two_eq_zero_or_one t with h2 | h2
          · have e : Hid (half t = t / 2) := half_ev h2
            have h2' : (t : Int) % 2 = 0 := by omega
            clear h2
            go_wp2_with fail
            go_round
            case rel => exact ⟨k + 1, half t, by omega, by go_num, by rw [e.out]; simp, hhl, HK2⟩
            case measure => simp [intOf]; omega
          · have e : Hid (half t = t / 2 ^^^ 3988292384) := half_odd h2
            have h2' : (t : Int) % 2 = 1 := by omega
            clear h2
            go_wp2_with fail
            go_round
            case rel => exact ⟨k + 1, half t, by omega, by go_num, by rw [e.out], hhl, HK2⟩
            case measure => simp [intOf]; omega
        · obtain rfl : k = 8 := by omega
          have HT : Hid (t = iterH 8 s1) := HK.out
          go_wp2_with fail
          go_round
          case rel => exact ⟨j + 1, t, by omega, by go_num, rfl, ht, by rw [HT.out]; exact HN.out⟩
          case measure => simp [intOf]; omega
    · have HE : Hid (s = crcL c1 zs) := by
        unfold Hid
        rw [← HS.out, List.drop_eq_nil_of_le (by omega)]; rfl
      have hnot : (4294967295 : Int) - (s : Int) = ((flip32 s : Nat) : Int) := by unfold flip32; omega
      have hs1 : (s : Int) ≤ 4294967295 := by omega
      go_wp2
      go_ret
      exact ⟨by rw [HM.out, ← HE.out]; first | rfl | (simp [← hnot]), rfl⟩
#print axioms rmore_any

set_option maxRecDepth 100000 in
theorem rof_any (ao : Option Addr) (len cap : Nat) (zs : List Int) (w : World) (hr : Reads w ao len cap (zs.map (.int .u8))) (h8 : isBytes zs) :
    Calls Try.prog 54 #[.slice ao len cap] w fun e w' => e = .returned (.int .u32 (ofL zs : Nat)) ∧ w' = w := by
  go_enter Try.func54, Try.ntmps54
  go_wp2_with fail
  refine (rmore_any 0 ao len cap zs w (by decide) hr h8).mono ?_
  rintro e w1 ⟨rfl, rfl⟩
  go_wp2
  go_ret
  exact ⟨rfl, rfl⟩
#print axioms rof_any
end Go.Proofs.Ytgnhnhachhfafaa
