/- Plain helpers: what a slice value shows in a world; numbers as bytes, over lists. -/
import Derived.Test.YtgnhnhachhfafaaRows
import Derived.WalkKit
import Derived.WalkSpells
import Derived.WalkLawsBesides
namespace Go.Proofs.Ytgnhnhachhfafaa
open Go.RowKit

/-- What a slice value shows: its elements, and nothing of its spare room. -/
structure Reads (w : World) (ao : Option Addr) (len cap : Nat) (xs : List Value) : Prop where
  length : xs.length = len
  le : len ≤ cap
  most : cap ≤ maxLen
  bare : ao = none → len = 0 ∧ cap = 0
  cell : ∀ a, ao = some a → ∀ j u, xs[j]? = some u → w.cell? (a.add j) = some u

theorem Reads.nil (w : World) : Reads w none 0 0 [] := ⟨rfl, Nat.le_refl _, Nat.zero_le _, fun _ => ⟨rfl, rfl⟩, fun _ h => by cases h⟩

theorem Reads.later {w w' : World} {ao : Option Addr} {len cap : Nat} {xs : List Value} {B : Nat} (h : Reads w ao len cap xs) (hb : Below B w w') (hB : w.heap.size ≤ B) : Reads w' ao len cap xs :=
  ⟨h.length, h.le, h.most, h.bare, fun a ha j u hu => by
    have hc := h.cell a ha j u hu
    have hlt := World.block_lt_of_cell? w _ hc
    rw [hb.cell (by omega)]; exact hc⟩

theorem Reads.owned {w : World} {base e g n cap : Nat} {xs : List Value} (h : w.ownsRow base e 1 (.slice (some ⟨g, 0, none⟩) n cap) n xs) : Reads w (some ⟨g, 0, none⟩) n cap xs := by
  have hl := h.1
  have hcells := h.cells (g := g) rfl
  rcases h.2 with ⟨h, _⟩ | ⟨g', cap', cur, hv, hb, hg, hle, hm, hs, ht⟩
  · cases h
  · simp only [Value.slice.injEq, Option.some.injEq, Addr.mk.injEq, and_true, true_and] at hv
    obtain ⟨rfl, rfl⟩ := hv
    exact ⟨by simpa using hl, hle, hm, fun h => (by cases h), fun a ha j u hu => by cases ha; exact hcells j u hu⟩

/-- At a place within the slice. -/
theorem Reads.at {w : World} {ao : Option Addr} {len cap : Nat} {zs : List Int} {k : IntKind} (h : Reads w ao len cap (zs.map (.int k))) (hp : 0 < len) :
    ∃ b off, ao = some ⟨b, off, none⟩ ∧ b < w.heap.size ∧ ∀ j, j < len → w.cell? ⟨b, off + j, none⟩ = some (.int k (zs.getD j 0)) := by
  have hl := h.length
  simp only [List.length_map] at hl
  cases ao with
  | none => have := h.bare rfl; omega
  | some a =>
    obtain ⟨b, off, spot⟩ := a
    have h0 := h.cell _ rfl 0 (.int k (zs.getD 0 0)) (by simp [List.getD, show 0 < zs.length by omega])
    have hspot : spot = none := by simpa [Addr.add] using World.cell?_spot h0
    subst hspot
    refine ⟨b, off, rfl, by simpa [Addr.add] using World.block_lt_of_cell? w _ h0, fun j hj => ?_⟩
    have := h.cell _ rfl j (.int k (zs.getD j 0)) (by simp [List.getD, show j < zs.length by omega])
    simpa [Addr.add_lit] using this

/-! Numbers as bytes. -/
def enc : Nat → Nat → List Int
  | 0, n => [(n : Int)]
  | f + 1, n => if n < 128 then [(n : Int)] else ((n : Int) % 128 + 128) :: enc f (n / 128)
def lim : Nat → Nat
  | 0 => 2
  | f + 1 => 128 * lim f
def encode (n : Nat) : List Int := enc 9 n

theorem enc_len (f n : Nat) : 1 ≤ (enc f n).length ∧ (enc f n).length ≤ f + 1 := by
  induction f generalizing n with
  | zero => simp [enc]
  | succ f ih =>
    unfold enc
    split
    · simp
    · have := ih (n / 128)
      simp; omega

theorem lim_le (f : Nat) (h : f ≤ 9) : lim f ≤ 18446744073709551616 := by
  match f, h with
  | 0, _ => decide
  | 1, _ => decide
  | 2, _ => decide
  | 3, _ => decide
  | 4, _ => decide
  | 5, _ => decide
  | 6, _ => decide
  | 7, _ => decide
  | 8, _ => decide
  | 9, _ => decide

theorem enc_stop (f m : Nat) (h : m < 128) : enc f m = [(m : Int)] := by
  cases f with
  | zero => rfl
  | succ f => unfold enc; rw [if_pos h]

theorem enc_step {f m : Nat} {pre E : List Int} (h : 128 ≤ m) (hm : m < lim f) (he : pre ++ enc f m = E) (hf : pre.length + f = 9) :
    ∃ f', m / 128 < lim f' ∧ (pre ++ [(m : Int) % 128 + 128]) ++ enc f' (m / 128) = E ∧ (pre ++ [(m : Int) % 128 + 128]).length + f' = 9 := by
  cases f with
  | zero => simp [lim] at hm; omega
  | succ f =>
    refine ⟨f, ?_, ?_, ?_⟩
    · simp only [lim] at hm; omega
    · rw [← he]; conv => rhs; unfold enc
      rw [if_neg (by omega)]; simp
    · simp; omega

theorem encode_len (n : Nat) : 1 ≤ (encode n).length ∧ (encode n).length ≤ 10 := enc_len 9 n

/-- The number with which bytes begin: from the i-th byte on, n read so far. -/
def scan : List Int → Nat → Nat → Nat × Nat × Nat
  | [], _, _ => (0, 0, 3)
  | c :: r, i, n => if (i = 9 ∧ 1 < c) ∨ (0 < i ∧ c = 0) then (0, 0, 2) else if c < 128 then (n + c.toNat % 128 * 128 ^ i, i + 1, 0) else scan r (i + 1) (n + c.toNat % 128 * 128 ^ i)
def getL (zs : List Int) : Nat × Nat × Nat := scan zs 0 0

theorem drop_at (zs : List Int) (j : Nat) (h : j < zs.length) : zs.drop j = zs.getD j 0 :: zs.drop (j + 1) := by
  rw [List.drop_eq_getElem_cons h]
  simp [List.getD, h]

theorem or_add (m x j : Nat) (hm : m < 2 ^ j) : m ||| x * 2 ^ j = m + x * 2 ^ j := by
  have := Nat.two_pow_add_eq_or_of_lt hm x
  rw [Nat.or_comm, Nat.mul_comm, ← this, Nat.add_comm]

theorem pow_128 (j : Nat) : 128 ^ j = 2 ^ (7 * j) := by
  rw [Nat.pow_mul]

/-- One byte more of a number. -/
theorem or_more (m c j : Nat) (hm : m < 128 ^ j) (hc : c ≤ 255) (hj : j ≤ 9) (h : j = 9 → c ≤ 1) :
    bits BinOp.or IntKind.u64 (m : Int) (IntKind.u64.wrap ((c : Int) % 128 * 2 ^ (7 * j))) = ((m + c % 128 * 128 ^ j : Nat) : Int) ∧ m + c % 128 * 128 ^ j < 128 ^ (j + 1) ∧ m + c % 128 * 128 ^ j < 18446744073709551616 := by
  have hp : (128 : Nat) ^ j ≤ 9223372036854775808 := by
    have : (128 : Nat) ^ j ≤ 128 ^ 9 := Nat.pow_le_pow_right (by decide) hj
    have e : (128 : Nat) ^ 9 = 9223372036854775808 := by decide
    omega
  have hlt : c % 128 * 128 ^ j ≤ 127 * 128 ^ j := Nat.mul_le_mul_right _ (by omega)
  have hs : m + c % 128 * 128 ^ j < 128 ^ (j + 1) := by rw [Nat.pow_succ]; omega
  have h64 : m + c % 128 * 128 ^ j < 18446744073709551616 := by
    by_cases h9 : j = 9
    · have := h h9
      have : c % 128 * 128 ^ j ≤ 1 * 128 ^ j := Nat.mul_le_mul_right _ (by omega)
      omega
    · have : (128 : Nat) ^ (j + 1) ≤ 128 ^ 9 := Nat.pow_le_pow_right (by decide) (by omega)
      have e : (128 : Nat) ^ 9 = 9223372036854775808 := by decide
      omega
  refine ⟨?_, hs, h64⟩
  have e1 : ((c : Int) % 128 * 2 ^ (7 * j)) = ((c % 128 * 128 ^ j : Nat) : Int) := by
    rw [pow_128]; simp
  rw [e1, IntKind.wrap_u64]
  have e2 : ((c % 128 * 128 ^ j : Nat) : Int) % 18446744073709551616 = ((c % 128 * 128 ^ j : Nat) : Int) := by omega
  rw [e2, u64_or_nat _ _ (by omega) (by omega), pow_128, or_add _ _ _ (by rw [← pow_128]; exact hm)]

def isBytes (zs : List Int) : Prop := ∀ z ∈ zs, 0 ≤ z ∧ z ≤ 255

theorem isBytes.get {zs : List Int} (h : isBytes zs) (j : Nat) : ∃ c : Nat, zs.getD j 0 = (c : Int) ∧ c ≤ 255 := by
  by_cases hj : j < zs.length
  · have := h (zs[j]) (List.getElem_mem hj)
    refine ⟨(zs[j]).toNat, ?_, by omega⟩
    simp [List.getD, hj]; omega
  · exact ⟨0, by simp [List.getD, List.getElem?_eq_none (Nat.le_of_not_lt hj)], by omega⟩
end Go.Proofs.Ytgnhnhachhfafaa
