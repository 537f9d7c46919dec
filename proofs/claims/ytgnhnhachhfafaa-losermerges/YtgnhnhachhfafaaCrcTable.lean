/- The contract of crc.byteSums. -/
import Derived.Test.YtgnhnhachhfafaaCrcHalf
import Derived.Test.YtgnhnhachhfafaaArr
namespace Go.Proofs.Ytgnhnhachhfafaa
open Go.RowKit
set_option linter.unusedVariables false

def inner (bit c : Nat) : Nat → List Nat → List Nat
  | 0, s => s
  | j + 1, s => (inner bit c j s).set (2 * bit * j + bit) ((inner bit c j s).getD (2 * bit * j) 0 ^^^ c)
def halfN : Nat → Nat
  | 0 => 1
  | k + 1 => half (halfN k)
def stK : Nat → List Nat
  | 0 => List.replicate 256 0
  | k + 1 => inner (2 ^ (7 - k)) (halfN (k + 1)) (2 ^ k) (stK k)
def table : List Nat := (List.range 256).map half8

theorem stK_all : stK 8 = table := by decide +kernel

def all32 (s : List Nat) : Prop := ∀ x ∈ s, x < 4294967296
theorem all32.get {s : List Nat} (h : all32 s) (i : Nat) : s.getD i 0 < 4294967296 := by
  by_cases hi : i < s.length
  · simp only [List.getD, List.getElem?_eq_getElem hi, Option.getD_some]; exact h _ (List.getElem_mem hi)
  · simp [List.getD, List.getElem?_eq_none (Nat.le_of_not_lt hi)]
theorem inner_ok (bit c : Nat) (s : List Nat) (hc : c < 4294967296) (h : s.length = 256 ∧ all32 s) : ∀ j, (inner bit c j s).length = 256 ∧ all32 (inner bit c j s) := by
  intro j
  induction j with
  | zero => exact h
  | succ j ih =>
    refine ⟨by simp [inner, ih.1], fun x hx => ?_⟩
    rcases List.mem_or_eq_of_mem_set hx with hx | hx
    · exact ih.2 x hx
    · rw [hx]; exact Nat.xor_lt_two_pow (n := 32) (ih.2.get _) hc
theorem halfN_lt (k : Nat) : halfN k < 4294967296 := by
  induction k with
  | zero => decide
  | succ k ih => exact half_lt ih
theorem stK_ok (k : Nat) : (stK k).length = 256 ∧ all32 (stK k) := by
  induction k with
  | zero => exact ⟨List.length_replicate, fun x hx => by rw [List.eq_of_mem_replicate hx]; decide⟩
  | succ k ih => exact inner_ok _ _ _ (halfN_lt _) ih _

def cellsL (s : List Nat) : List Value := s.map (fun (x : Nat) => Value.int .u32 (x : Int))
def cellsOf (s : List Nat) : Array Value := (cellsL s).toArray

theorem cellsOf_get (s : List Nat) (i : Nat) (h : i < s.length) : (cellsOf s)[i]? = some (.int .u32 (s.getD i 0 : Nat)) := by
  simp [cellsOf, cellsL, List.getD, List.getElem?_eq_getElem h]
theorem cellsOf_set (s : List Nat) (i x : Nat) : (cellsOf s).setIfInBounds i (.int .u32 (x : Int)) = cellsOf (s.set i x) := by
  simp [cellsOf, cellsL, List.map_set]
theorem cellsOf_size (s : List Nat) : (cellsOf s).size = s.length := by simp [cellsOf, cellsL]
theorem cellsOf_one (s : List Nat) : (cellsOf s).all (·.oneCell') = true := by
  rw [Array.all_eq_true_iff_forall_mem]
  intro v hv
  simp [cellsOf, cellsL] at hv
  obtain ⟨x, _, rfl⟩ := hv
  rfl

theorem Try.info111 : (Try.prog.info? 111).map (fun i => (i.zero, i.size)) = some (some (.agg (cellsOf (stK 0))), 256) := by kernel_rfl

theorem inner_next {B n j : Nat} (h : 2 * B * n = 256) (hB : 1 ≤ B) : (j < n → 2 * B * j + 2 * B ≤ 256) ∧ (2 * B * j < 256 → j < n) ∧ (j ≤ n → 2 * B * j ≤ 256) := by
  refine ⟨fun hj => ?_, fun hj => ?_, fun hj => ?_⟩
  · have := Nat.mul_le_mul_left (2 * B) (show j + 1 ≤ n from hj)
    rw [Nat.mul_succ] at this; omega
  · apply Nat.lt_of_not_le
    intro hn
    have := Nat.mul_le_mul_left (2 * B) hn
    omega
  · have := Nat.mul_le_mul_left (2 * B) hj
    omega

theorem bit_of (k : Nat) (h : k < 8) : 2 * 2 ^ (7 - k) * 2 ^ k = 256 ∧ 1 ≤ 2 ^ (7 - k) ∧ 2 ^ (7 - k) ≤ 128 ∧ 128 / 2 ^ k = 2 ^ (7 - k) ∧ 2 ^ (7 - k) / 2 = 128 / 2 ^ (k + 1) := by
  match k, h with
  | 0, _ => decide
  | 1, _ => decide
  | 2, _ => decide
  | 3, _ => decide
  | 4, _ => decide
  | 5, _ => decide
  | 6, _ => decide
  | 7, _ => decide

set_option maxRecDepth 100000 in
set_option maxHeartbeats 4000000 in
theorem sums_any (w : World) :
    Calls Try.prog 66 #[] w fun e w' => e = .returned (.agg (cellsOf table)) ∧ Below w.heap.size w w' := by
  obtain ⟨hz, hi⟩ := zero_of_info Try.info111
  go_enter Try.func66, Try.ntmps66
  go_wp2_with fail
  go_loopw [2, 3] (fun c b wr => ∃ k B : Nat, k ≤ 8 ∧ Hid (B = 128 / 2 ^ k) ∧ c = .int .u32 (halfN k : Nat) ∧ b = .int .i64 (B : Nat) ∧ wr = (w.alloc (.cells (cellsOf (stK 0)) 111)).alloc (.cells (cellsOf (stK k)) 111)) (fun _ b _ => (intOf b).toNat)
  case atStart => exact ⟨0, 128, by omega, rfl, rfl, rfl, rfl⟩
  case round =>
    obtain ⟨k, B, hk, hB, rfl, rfl, rfl⟩ := hrel
    by_cases h8 : k = 8
    · subst h8
      obtain rfl : B = 0 := hB.out
      rw [stK_all]
      have hls : (cellsOf table).size = 256 := by rw [← stK_all, cellsOf_size, (stK_ok 8).1]
      have hl0 : (cellsOf (stK 0)).size = 256 := by rw [cellsOf_size, (stK_ok 0).1]
      have Hls : Hid _ := hls
      have Hl0 : Hid _ := hl0
      have Hi : Hid _ := hi
      clear hls hl0 hi
      have HR : Hid (((w.alloc (.cells (cellsOf (stK 0)) 111)).alloc (.cells (cellsOf table) 111)).rangeAt (w.heap.size + 1) 0 (cellsL table)) := by
        unfold Hid
        have := range_new (w.alloc (.cells (cellsOf (stK 0)) 111)) (cellsOf table) 111
        simpa [cellsOf] using this
      have HT : Hid (((w.alloc (.cells (cellsOf (stK 0)) 111)).alloc (.cells (cellsOf table) 111)).there w.heap.size 0 (cellsOf table).size) := by
        unfold Hid
        have := World.there_alloc (there_new w (cellsOf (stK 0)) 111) (.cells (cellsOf table) 111)
        rw [Hls.out, ← Hl0.out]
        exact this
      have HI : Hid ((Try.prog.info? 111).map (·.size) = some (cellsL table).length) := by
        unfold Hid
        rw [Hi.out, ← Hls.out]; simp [cellsOf]
      have HI2 : Hid ((Try.prog.info? 111).map (·.size) = some (cellsOf table).size) := by
        unfold Hid
        rw [Hi.out, ← Hls.out]
      have hb : Below w.heap.size w (((w.alloc (.cells (cellsOf (stK 0)) 111)).alloc (.cells (cellsOf table) 111)).setCells w.heap.size 0 (cellsL table)) :=
        Below.setCells' _ (Nat.le_refl _) _ _ _ (((Below.refl _ _).alloc (Nat.le_refl _) _).alloc (by simp) _)
      have hld := run_loadVar_mid (P := Try.prog) (((w.alloc (.cells (cellsOf (stK 0)) 111)).alloc (.cells (cellsOf table) 111)).setCells w.heap.size 0 (cellsL table)) w.heap.size 0 111 (cellsL table) _
        (World.rangeAt_setCells_same _ _ _ _ (by simpa [cellsOf] using HT.out)) Try.underlying111 rfl HI.out
      have Hld : Hid _ := hld
      clear hld
      go_wp2_with (first | (refine wpList_load_mid rfl 111 (.tmp 1) rfl _ 0 rfl (cellsL table) _ HR.out Try.underlying111 rfl HI.out ?_) | (refine wpList_store_mid rfl 111 (.tmp 0) (.tmp 26) rfl _ 0 (cellsOf table) rfl rfl HT.out HI2.out (cellsOf_one _) ?_))
      (try simp only [Exit.inBlock, Exit.then])
      refine bodyPost_ret (v := .agg (cellsOf table)) ?_ rfl ⟨rfl, hb⟩
      rw [results_cell_one rfl]
      simp [asAddr, Result.andThen]
      exact Hld.out
    · obtain ⟨b1, b2, b3, b4, b5⟩ := bit_of k (by omega)
      have hB1 : B = 2 ^ (7 - k) := by rw [hB.out, b4]
      rw [← hB1] at b1 b2 b3 b4 b5
      have H1 : Hid _ := b1
      have H5 : Hid _ := b5
      have HB : Hid _ := hB1
      clear b1 b4 b5 hB1
      have hlt := halfN_lt k
      have b2' : (1 : Int) ≤ (B : Int) := by omega
      have b3' : (B : Int) ≤ 128 := by omega
      go_wp2_with fail
      refine (halved_any (halfN k) _ hlt).mono ?_
      rintro e wx ⟨rfl, rfl⟩
      go_wp2_with fail
      have hlt2 : half (halfN k) < 4294967296 := half_lt hlt
      have hS := fun j => inner_ok B (half (halfN k)) (stK k) hlt2 (stK_ok k) j
      have HS : Hid _ := hS
      clear hS
      go_loopw [4] (fun i wr => ∃ j I : Nat, j ≤ 2 ^ k ∧ Hid (I = 2 * B * j) ∧ i = .int .i64 (I : Nat) ∧ wr = (w.alloc (.cells (cellsOf (stK 0)) 111)).alloc (.cells (cellsOf (inner B (half (halfN k)) j (stK k))) 111)) (fun i _ => 256 - (intOf i).toNat)
      case atStart => exact ⟨0, 0, Nat.zero_le _, rfl, rfl, rfl⟩
      case round =>
        obtain ⟨j, I, hj, hI, rfl, rfl⟩ := hrel
        obtain ⟨n1, n2, n3⟩ := inner_next (j := j) H1.out b2
        rw [← hI.out] at n1 n2 n3
        by_cases hjn : j < 2 ^ k
        · have n4 := n1 hjn
          have n5 : (I : Int) + 2 * (B : Int) ≤ 256 := by omega
          have n6 : (I : Int) < 256 := by omega
          have n7 : (I : Int) + (B : Int) ≤ 255 := by omega
          obtain ⟨S, hSe⟩ : ∃ S, S = inner B (half (halfN k)) j (stK k) := ⟨_, rfl⟩
          have hSn : inner B (half (halfN k)) (j + 1) (stK k) = S.set (I + B) (S.getD I 0 ^^^ half (halfN k)) := by rw [inner, ← hSe, ← hI.out]
          have HSn : Hid _ := hSn
          have hok := HS.out j
          rw [← hSe] at hok ⊢
          have hc1 := cellsOf_get S I (by omega)
          have hc2 := cellsOf_get S (I + B) (by omega)
          have hsz := cellsOf_size S
          rw [hok.1] at hsz
          have hx := u32_xor_nat (S.getD I 0) (half (halfN k)) (hok.2.get I) hlt2
          generalize S.getD I 0 = x at hc1 hx HSn
          clear n1 n2 n3 hSe hSn hok
          go_wp2_with fail
          go_roundw
          case rel =>
            refine ⟨j + 1, I + 2 * B, by omega, ?_, by go_num, ?_⟩
            · rw [hI.out]; exact (Nat.mul_succ _ _).symm
            · rw [HSn.out, ← cellsOf_set]
          case measure => simp [intOf]; omega
        · have n8 : (256 : Int) ≤ (I : Int) := by
            have := hI.out
            obtain rfl : j = 2 ^ k := by omega
            have := H1.out
            omega
          have HSe : Hid (inner B (half (halfN k)) j (stK k) = stK (k + 1)) := by
            obtain rfl : j = 2 ^ k := by omega
            unfold Hid
            rw [stK, halfN, ← HB.out]
          have H6 : Hid (half (halfN k) = halfN (k + 1)) := rfl
          have hk8 : k + 1 ≤ 8 := by omega
          clear n1 n2 n3 hjn
          go_wp2_with fail
          go_roundw
          case rel => exact ⟨k + 1, B / 2, hk8, H5.out, by rw [H6.out], by go_num, by rw [HSe.out]⟩
          case measure => simp [intOf]; omega
#print axioms sums_any
end Go.Proofs.Ytgnhnhachhfafaa
