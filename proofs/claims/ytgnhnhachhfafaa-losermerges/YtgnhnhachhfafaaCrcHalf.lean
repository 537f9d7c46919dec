/- The contract of crc.halved. -/
import Derived.Test.YtgnhnhachhfafaaCrcMath
import Derived.Laws.BitsAllLaws
namespace Go.Proofs.Ytgnhnhachhfafaa
open Go.RowKit

theorem half_odd {c : Nat} (h : c % 2 = 1) : half c = c / 2 ^^^ 3988292384 := by unfold half; rw [h, Nat.one_mul]
theorem half_ev {c : Nat} (h : c % 2 = 0) : half c = c / 2 := by unfold half; rw [h, Nat.zero_mul, Nat.xor_zero]

theorem xor_poly (c : Nat) (h : c < 4294967296) : bits BinOp.xor IntKind.u32 ((c : Int) / 2) 3988292384 = ((c / 2 ^^^ 3988292384 : Nat) : Int) := by
  have := u32_xor_nat (c / 2) 3988292384 (by omega) (by omega)
  simpa using this

set_option maxRecDepth 100000 in
set_option maxHeartbeats 400000 in
theorem halved_any (c : Nat) (w : World) (h : c < 4294967296) :
    Calls Try.prog 67 #[.int .u32 c] w fun e w' => e = .returned (.int .u32 (half c : Nat)) ∧ w' = w := by
  have hx := xor_poly c h
  have hc : (c : Int) ≤ 4294967295 := by omega
  rcases Nat.mod_two_eq_zero_or_one c with h2 | h2
  · have e : Hid _ := half_ev h2
    have h2' : (c : Int) % 2 = 0 := by omega
    clear h2
    go_enter Try.func67, Try.ntmps67
    go_wp2
    go_ret
    exact ⟨by rw [e.out]; simp, rfl⟩
  · have e : Hid _ := half_odd h2
    have h2' : (c : Int) % 2 = 1 := by omega
    clear h2
    go_enter Try.func67, Try.ntmps67
    go_wp2
    go_ret
    exact ⟨by rw [e.out]; rfl, rfl⟩
#print axioms halved_any
end Go.Proofs.Ytgnhnhachhfafaa
