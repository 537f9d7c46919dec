/- math/bits.Len64, Len, nextPowerOfTwo and the xorshift's step at this dump: the library's own contracts, laid. -/
import Derived.Test.YtnojjipoppemcaaProg
import Derived.Shelf.Small.Bits
import Derived.Shelf.Strconv.Itoa0
import Derived.Shelf.SlLaysF0
import Derived.Shelf.SlSortCmp.Xorshift
namespace Go.Proofs.Ytnojjipoppemcaa
open Go.Shelf Go.RowKit Go.Sort
def rk64_ren : Go.Shelf.Ren := ⟨fun | 129 => 20 | n => n, fun | 53 => 23 | 3 => 3 | 4 => 4 | 46 => 49 | 5 => 5 | 9 => 9 | n => n, fun | n => n⟩
theorem rk64 : Go.Proofs.Lays.n129 Try.prog rk64_ren := {
  mixed := by kernel_rfl
  f129 := Try.func20.trans (congrArg some (by kernel_rfl))
  t3 := Try.underlying3
  a3 := Try.isAgg3
  z3 := Try.sizeOf3
  v3 := Try.zeroValue3
  t4 := Try.underlying4
  a4 := Try.isAgg4
  z4 := Try.sizeOf4
  v4 := Try.zeroValue4
  t5 := Try.underlying5
  a5 := Try.isAgg5
  z5 := Try.sizeOf5
  v5 := Try.zeroValue5
  t9 := Try.underlying9
  a9 := Try.isAgg9
  z9 := Try.sizeOf9
  v9 := Try.zeroValue9
  t46 := Try.underlying49
  a46 := Try.isAgg49
  z46 := Try.sizeOf49
  v46 := Try.zeroValue49
  t53 := Try.underlying23
  a53 := Try.isAgg23
  z53 := Try.sizeOf23
  v53 := Try.zeroValue23 }
def rkLen_ren : Go.Shelf.Ren := ⟨fun | 125 => 28 | 128 => 38 | 129 => 20 | n => n, fun | 46 => 49 | 3 => 3 | 51 => 37 | 53 => 23 | 4 => 4 | 5 => 5 | 9 => 9 | n => n, fun | n => n⟩
theorem rkLen : Go.Proofs.Lays.n125 Try.prog rkLen_ren := {
  mixed := by kernel_rfl
  f125 := Try.func28.trans (congrArg some (by kernel_rfl))
  f128 := Try.func38.trans (congrArg some (by kernel_rfl))
  f129 := Try.func20.trans (congrArg some (by kernel_rfl))
  t3 := Try.underlying3
  a3 := Try.isAgg3
  z3 := Try.sizeOf3
  v3 := Try.zeroValue3
  t4 := Try.underlying4
  a4 := Try.isAgg4
  z4 := Try.sizeOf4
  v4 := Try.zeroValue4
  t5 := Try.underlying5
  a5 := Try.isAgg5
  z5 := Try.sizeOf5
  v5 := Try.zeroValue5
  t9 := Try.underlying9
  a9 := Try.isAgg9
  z9 := Try.sizeOf9
  v9 := Try.zeroValue9
  t46 := Try.underlying49
  a46 := Try.isAgg49
  z46 := Try.sizeOf49
  v46 := Try.zeroValue49
  t51 := Try.underlying37
  a51 := Try.isAgg37
  z51 := Try.sizeOf37
  v51 := Try.zeroValue37
  t53 := Try.underlying23
  a53 := Try.isAgg23
  z53 := Try.sizeOf23
  v53 := Try.zeroValue23 }
def rkPow_ren : Go.Shelf.Ren := ⟨fun | 47 => 40 | 15 => 28 | 28 => 38 | 29 => 20 | n => n, fun | 3 => 3 | 39 => 49 | 53 => 37 | 55 => 23 | 4 => 4 | 5 => 5 | 9 => 9 | n => n, fun | n => n⟩
theorem rkPow : Go.Proofs.SlLaysF0.n47 Try.prog rkPow_ren := {
  mixed := by kernel_rfl
  f15 := Try.func28.trans (congrArg some (by kernel_rfl))
  f28 := Try.func38.trans (congrArg some (by kernel_rfl))
  f29 := Try.func20.trans (congrArg some (by kernel_rfl))
  f47 := Try.func40.trans (congrArg some (by kernel_rfl))
  t3 := Try.underlying3
  a3 := Try.isAgg3
  z3 := Try.sizeOf3
  v3 := Try.zeroValue3
  t4 := Try.underlying4
  a4 := Try.isAgg4
  z4 := Try.sizeOf4
  v4 := Try.zeroValue4
  t5 := Try.underlying5
  a5 := Try.isAgg5
  z5 := Try.sizeOf5
  v5 := Try.zeroValue5
  t9 := Try.underlying9
  a9 := Try.isAgg9
  z9 := Try.sizeOf9
  v9 := Try.zeroValue9
  t39 := Try.underlying49
  a39 := Try.isAgg49
  z39 := Try.sizeOf49
  v39 := Try.zeroValue49
  t53 := Try.underlying37
  a53 := Try.isAgg37
  z53 := Try.sizeOf37
  v53 := Try.zeroValue37
  t55 := Try.underlying23
  a55 := Try.isAgg23
  z55 := Try.sizeOf23
  v55 := Try.zeroValue23 }
def rkNext_ren : Go.Shelf.Ren := ⟨fun | 48 => 41 | n => n, fun | 76 => 71 | 55 => 23 | 0 => 0 | 66 => 65 | 39 => 49 | n => n, fun | n => n⟩
theorem rkNext : Go.Proofs.SlLaysF0.n48 Try.prog rkNext_ren := {
  mixed := by kernel_rfl
  f48 := Try.func41.trans (congrArg some (by kernel_rfl))
  t0 := Try.underlying0
  a0 := Try.isAgg0
  z0 := Try.sizeOf0
  v0 := Try.zeroValue0
  t39 := Try.underlying49
  a39 := Try.isAgg49
  z39 := Try.sizeOf49
  v39 := Try.zeroValue49
  t55 := Try.underlying23
  a55 := Try.isAgg23
  z55 := Try.sizeOf23
  v55 := Try.zeroValue23
  t66 := Try.underlying65
  a66 := Try.isAgg65
  z66 := Try.sizeOf65
  v66 := Try.zeroValue65
  t76 := Try.underlying71
  a76 := Try.isAgg71
  z76 := Try.sizeOf71
  v76 := Try.zeroValue71 }


theorem len64_any (x : Nat) (w : World) (h : x ≤ 18446744073709551615) : Calls Try.prog 20 #[.int .u64 (x : Nat)] w fun e w' => e = .returned (.int .i64 (Lib.bitLen x : Nat)) ∧ w' = w := by
  have := Any.bits_Len64 rk64 (x : Int) w (by omega) (by omega)
  rw [Int.toNat_natCast] at this
  exact this
theorem len_any (x : Nat) (w : World) (h : x ≤ 18446744073709551615) : Calls Try.prog 28 #[.int .u64 (x : Nat)] w fun e w' => e = .returned (.int .i64 (Lib.bitLen x : Nat)) ∧ w' = w := by
  have := Any.bits_Len rkLen (x : Int) w (by omega) (by omega)
  rw [Int.toNat_natCast] at this
  exact this
theorem pow_any (n : Nat) (hn : n < 4611686018427387904) (w : World) : Calls Try.prog 40 #[.int .i64 (n : Nat)] w fun e w' => e = .returned (.int .u64 ((1 <<< bitsLen n : Nat) : Int)) ∧ w' = w := AnyF.nextPowerOfTwo rkPow n hn w
theorem next_any (rb X : Nat) (hX : X < 18446744073709551616) (w : World) (hc : w.cell? ⟨rb, 0, none⟩ = some (.int .u64 X)) (hf : w.frozen? ⟨rb, 0, none⟩ = false) :
    Calls Try.prog 41 #[.pointer (some ⟨rb, 0, none⟩)] w fun e w' => e = .returned (.int .u64 (xorNextN X : Nat)) ∧ w' = (w.setCell ⟨rb, 0, none⟩ (.int .u64 (xorNextN X : Nat))).drewN 3 := AnyF.xorshift_Next rkNext rb 0 X hX w hc hf
end Go.Proofs.Ytnojjipoppemcaa
