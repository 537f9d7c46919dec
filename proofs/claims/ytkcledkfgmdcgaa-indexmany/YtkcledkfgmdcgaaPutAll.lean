/- Numbers as bytes, there and back: over lists alone. The contract of num.Put. -/
import Derived.Test.YtkcledkfgmdcgaaFound
import Derived.Deep.Cut
namespace Go.Proofs.Ytkcledkfgmdcgaa

theorem scan_cons_on (c : Int) (r : List Int) (j n : Nat) (hj : j ≠ 9) (hc : 128 ≤ c) : scan (c :: r) j n = scan r (j + 1) (n + c.toNat % 128 * 128 ^ j) := by
  rw [scan, if_neg (by omega), if_neg (by omega)]

/-- A number without its end is too short. -/
theorem scan_cut (f : Nat) : ∀ (m i j acc : Nat), i < (enc f m).length → j + f = 9 → scan ((enc f m).take i) j acc = (0, 0, 3) := by
  induction f with
  | zero =>
    intro m i j acc hi _
    simp [enc] at hi
    subst hi
    simp [scan]
  | succ f ih =>
    intro m i j acc hi hj
    cases i with
    | zero => simp [scan]
    | succ i =>
      unfold enc at hi ⊢
      split at hi
      · simp at hi
      · rename_i hm
        rw [if_neg hm, List.take_succ_cons, scan_cons_on _ _ _ _ (by omega) (by omega)]
        exact ih (m / 128) i (j + 1) _ (by simpa using hi) (by omega)

/-- A number is read as it was put, whatever stands behind. -/
theorem scan_back (f : Nat) : ∀ (m j acc : Nat) (b : List Int), m < lim f → j + f = 9 → (0 < j → m ≠ 0) → scan (enc f m ++ b) j acc = (acc + m * 128 ^ j, j + (enc f m).length, 0) := by
  induction f with
  | zero =>
    intro m j acc b hm hj hp
    simp only [lim] at hm
    simp only [enc, List.singleton_append, scan]
    rw [if_neg (by omega), if_pos (by omega)]
    simp only [Int.toNat_natCast, List.length_singleton]
    rw [Nat.mod_eq_of_lt (by omega)]
  | succ f ih =>
    intro m j acc b hm hj hp
    unfold enc
    split
    · simp only [List.singleton_append, scan]
      rw [if_neg (by omega), if_pos (by omega)]
      simp only [Int.toNat_natCast, List.length_singleton]
      rw [Nat.mod_eq_of_lt (by omega)]
    · rename_i hlt
      simp only [lim] at hm
      rw [List.cons_append, scan_cons_on _ _ _ _ (by omega) (by omega), ih (m / 128) (j + 1) _ b (by omega) (by omega) (by omega)]
      have e : ((m : Int) % 128 + 128).toNat % 128 = m % 128 := by omega
      rw [e]
      simp only [List.length_cons, Prod.mk.injEq, and_true]
      refine ⟨?_, by omega⟩
      rw [Nat.pow_succ]
      have h1 : m / 128 * (128 ^ j * 128) = (m / 128 * 128) * 128 ^ j := by rw [Nat.mul_comm (128 ^ j), ← Nat.mul_assoc]
      rw [h1, Nat.add_assoc, ← Nat.add_mul]
      congr 2
      omega

theorem get_back (n : Nat) (b : List Int) (hn : n < 18446744073709551616) : getL (encode n ++ b) = (n, (encode n).length, 0) := by
  have := scan_back 9 n 0 0 b (by simp [lim]; omega) rfl (by omega)
  simpa [getL, encode] using this

theorem get_cut (n i : Nat) (hi : i < (encode n).length) : getL ((encode n).take i) = (0, 0, 3) := scan_cut 9 n i 0 0 hi rfl

/-- What is read is put as it stood. -/
theorem scan_ok (zs : List Int) (h8 : isBytes zs) : ∀ (j acc f x i : Nat), j + f = 9 → scan zs j acc = (x, i, 0) →
    ∃ m k, x = acc + m * 128 ^ j ∧ i = j + k ∧ 1 ≤ k ∧ k ≤ zs.length ∧ enc f m = zs.take k ∧ m < lim f ∧ (0 < j → m ≠ 0) := by
  induction zs with
  | nil => intro j acc f x i _ h; simp [scan] at h
  | cons c r ih =>
    intro j acc f x i hj h
    have hc := h8 c (by simp)
    have hr : isBytes r := fun z hz => h8 z (by simp [hz])
    rw [scan] at h
    split at h
    · simp at h
    · rename_i hcond
      split at h
      · rename_i hlt
        simp only [Prod.mk.injEq, and_true] at h
        obtain ⟨rfl, rfl⟩ := h
        have e : ((c.toNat : Nat) : Int) = c := by omega
        refine ⟨c.toNat, 1, by rw [Nat.mod_eq_of_lt (by omega)], rfl, Nat.le_refl _, by simp, ?_, ?_, by omega⟩
        · rw [enc_stop f _ (by omega), e]; simp
        · cases f with
          | zero => simp only [lim]; omega
          | succ f =>
            have : ∀ f, 128 ≤ lim (f + 1) := by
              intro f
              induction f with
              | zero => decide
              | succ f ih => rw [lim]; omega
            have := this f; omega
      · rename_i hlt
        cases f with
        | zero => omega
        | succ f =>
          obtain ⟨m, k, hx, hi, hk1, hk2, he, hm, hp⟩ := ih hr (j + 1) _ f x i (by omega) h
          have hp' := hp (by omega)
          refine ⟨m * 128 + c.toNat % 128, k + 1, ?_, by omega, by omega, by simp; omega, ?_, ?_, by omega⟩
          · rw [hx, Nat.pow_succ, Nat.add_mul, Nat.mul_assoc m 128, Nat.mul_comm 128 (128 ^ j)]
            omega
          · unfold enc
            rw [if_neg (by omega), List.take_succ_cons]
            have e1 : (m * 128 + c.toNat % 128) / 128 = m := by omega
            rw [e1, he]
            congr 1
            omega
          · simp only [lim]; omega

theorem get_ok (zs : List Int) (h8 : isBytes zs) (x i : Nat) (h : getL zs = (x, i, 0)) : 1 ≤ i ∧ i ≤ zs.length ∧ encode x = zs.take i ∧ x < 18446744073709551616 := by
  obtain ⟨m, k, hx, hi, hk1, hk2, he, hm, _⟩ := scan_ok zs h8 0 0 9 x i rfl h
  simp at hx hi
  subst hx hi
  exact ⟨hk1, hk2, he, by simp [lim] at hm; omega⟩

theorem scan_err (zs : List Int) : ∀ (j acc x i f : Nat), scan zs j acc = (x, i, f) → f = 0 ∨ ((f = 2 ∨ f = 3) ∧ x = 0 ∧ i = 0) := by
  induction zs with
  | nil => intro j acc x i f h; simp [scan] at h; omega
  | cons c r ih =>
    intro j acc x i f h
    rw [scan] at h
    split at h
    · simp at h; omega
    · split at h
      · simp at h; omega
      · exact ih _ _ _ _ _ h

theorem enc_bytes (f n : Nat) : n < lim f → isBytes (enc f n) := by
  induction f generalizing n with
  | zero => intro h z hz; simp [enc] at hz; simp [lim] at h; omega
  | succ f ih =>
    intro h z hz
    unfold enc at hz
    split at hz
    · simp at hz; omega
    · simp only [List.mem_cons] at hz
      rcases hz with rfl | hz
      · omega
      · exact ih (n / 128) (by simp only [lim] at h; omega) z hz

theorem encode_bytes (n : Nat) (hn : n < 18446744073709551616) : isBytes (encode n) := enc_bytes 9 n (by simp [lim]; omega)

theorem encode_inj {a b : Nat} (ha : a < 18446744073709551616) (hb : b < 18446744073709551616) (h : encode a = encode b) : a = b := by
  have h1 := get_back a [] ha
  have h2 := get_back b [] hb
  rw [h, h2] at h1
  simp at h1
  exact h1.symm

/-- All bytes of a number but the last one have 128 more. -/
theorem enc_heads (f : Nat) : ∀ (n i : Nat), n < lim f → i < (enc f n).length → (128 ≤ (enc f n).getD i 0 ↔ i + 1 < (enc f n).length) := by
  induction f with
  | zero => intro n i hn hi; simp [enc] at hi ⊢; simp [lim] at hn; subst hi; simp; omega
  | succ f ih =>
    intro n i hn hi
    unfold enc at hi ⊢
    split at hi
    · rename_i hlt
      rw [if_pos hlt]
      simp at hi
      subst hi
      simp; omega
    · rename_i hlt
      rw [if_neg hlt]
      simp only [lim] at hn
      cases i with
      | zero => have := enc_len f (n / 128); simp; omega
      | succ i =>
        have := ih (n / 128) i (by omega) (by simpa using hi)
        simp only [List.getD_cons_succ, List.length_cons]
        omega

theorem enc_mono (f : Nat) : ∀ (n m : Nat), n ≤ m → (enc f n).length ≤ (enc f m).length := by
  induction f with
  | zero => intro n m _; simp [enc]
  | succ f ih =>
    intro n m h
    have h1 := enc_len f (m / 128)
    unfold enc
    split <;> split
    · simp
    · simp
    · omega
    · have := ih (n / 128) (m / 128) (by omega)
      simp; exact this

theorem encode_one (n : Nat) : (encode n).length = 1 ↔ n < 128 := by
  unfold encode enc
  split
  · simp; assumption
  · have := enc_len 8 (n / 128)
    simp only [List.length_cons]; omega
end Go.Proofs.Ytkcledkfgmdcgaa

namespace Go.Proofs.Ytkcledkfgmdcgaa
open Go.RowKit

theorem Try.info5 : (Try.prog.info? 5).map (fun i => (i.zero, i.size, i.bytes)) = some (some (.int .u8 0), 1, 1) := by kernel_rfl

set_option maxRecDepth 100000 in
set_option maxHeartbeats 400000 in
theorem put_any (ao : Option Addr) (len cap : Nat) (zs : List Int) (n : Nat) (w : World) (hr : Reads w ao len cap (zs.map (.int .u8))) (hlen : len ≤ 140737488351232) (hn : n < 18446744073709551616) :
    Calls Try.prog 35 #[.slice ao len cap, .int .u64 n] w fun e w' => ∃ g c m, m = len + (encode n).length ∧ e = .returned (.slice (some ⟨g, 0, none⟩) m c) ∧
      w'.ownsRow w.heap.size 5 1 (.slice (some ⟨g, 0, none⟩) m c) m ((zs ++ encode n).map (.int .u8)) ∧ Below w.heap.size w w' := by
  obtain ⟨i0, hi, hz0, hz1, hz2⟩ := info_parts Try.info5
  go_enter Try.func35, Try.ntmps35
  go_wp2_with (at_make; refine wpList_make_own _ rfl _ _ 62 rfl w.heap.size 5 i0 (.int .u8 0) 1 Try.underlying62 hi hz0 hz1 _ _ _ (len + 10) rfl rfl (by omega) ?b1 ?b2 ?b3 ?_)
  case b1 => rw [hz2]; omega
  case b2 => unfold maxLen; omega
  case b3 => exact Nat.le_refl _
  intro w1 hown1 hgrow1
  have hb1 : Below w.heap.size w w1 := (Below.refl _ _).grown hgrow1 (Nat.le_refl _) (fun k h => by cases h)
  have hr1 := hr.later hb1 (Nat.le_refl _)
  go_wp2_with (at_builtin; refine wpList_append_fits_any _ rfl (.tmp 10) (.tmp 11) 62 rfl w.heap.size 5 i0 1 Try.underlying62 hi hz1 w.heap.size 0 (len + 10) [] rfl hown1 ao len cap (zs.map (.int .u8)) rfl ?d1 ?d2 ?d3 ?d4 ?d5 ?_)
  case d1 => simpa using hr.length
  case d2 => exact hr1.bare
  case d3 => exact hr1.cell
  case d4 => exact ints_oneCell _ _
  case d5 => omega
  intro w2 hown2 hgrow2
  have hb2 : Below w.heap.size w w2 := hb1.grown hgrow2 hb1.size (fun k h => by cases h; exact Nat.le_refl _)
  try simp only [Nat.zero_add, List.nil_append] at hown2
  have hbB : w.heap.size + 1 ≤ w2.heap.size := by have := hown2.lt w.heap.size rfl; omega
  go_wp2_with fail
  go_loopw [1, 5] (fun i v wr => ∃ (f m : Nat) (pre : List Int), i = .int .u64 m ∧ m < lim f ∧ Hid (pre ++ enc f m = encode n) ∧ pre.length + f = 9 ∧ v = .slice (some ⟨w.heap.size, 0, none⟩) (len + pre.length) (len + 10) ∧
      wr.ownsRow w.heap.size 5 1 (.slice (some ⟨w.heap.size, 0, none⟩) (len + pre.length) (len + 10)) (len + pre.length) ((zs ++ pre).map (.int .u8)) ∧ Below w.heap.size w wr) (fun i _ _ => (intOf i).toNat)
  case atStart => exact ⟨9, n, [], rfl, by simp [lim]; omega, rfl, rfl, rfl, by simpa using hown2, hb2⟩
  case round =>
    obtain ⟨f, m, pre, rfl, hm, hpre, hf0, rfl, hown, hb⟩ := hrel
    have hf : Hid (pre.length + f = 9) := hf0
    have hpl : pre.length ≤ 9 := by omega
    have hm0 : Hid (m < lim f) := hm
    clear hf0 hm
    have hm64 : (m : Int) < 18446744073709551616 := by have := lim_le f (by have := hf.out; omega); have := hm0.out; omega
    by_cases hlt : (128 : Int) ≤ (m : Int)
    · go_wp2_with (at_builtin; refine wpList_append_fits _ rfl (.tmp 15) (.tmp 20) 62 rfl w.heap.size 5 i0 1 Try.underlying62 hi hz1 w.heap.size (len + pre.length) (len + 10) _ rfl (hown.alloc _) ⟨wr.heap.size, 0, none⟩ 1 1 [.int .u8 ((m : Int) % 128 + 128)] rfl rfl ?c1 ?c2 ?c3 ?_)
      case c1 => exact cell_one_new _ _ _
      case c2 => exact ints_oneCell .u8 [(m : Int) % 128 + 128]
      case c3 => omega
      intro w3 hown3 hgrow3
      have hb3 : Below w.heap.size w w3 := (hb.alloc hb.size _).grown hgrow3 (by have := hb.size; simp; omega) (fun k h => by cases h; exact Nat.le_refl _)
      obtain ⟨f', s1, s2, s3⟩ := enc_step (by omega) hm0.out hpre.out hf.out
      have s2' : Hid _ := s2
      have s3' : Hid _ := s3
      have s1' : Hid _ := s1
      clear s2 s3 s1
      go_wp2
      go_roundw
      case rel =>
        refine ⟨f', m / 128, pre ++ [(m : Int) % 128 + 128], by go_num, s1'.out, s2', s3'.out, by simp; omega, ?_, hb3⟩
        have e : len + (pre ++ [(m : Int) % 128 + 128]).length = len + pre.length + 1 := by simp; omega
        rw [e]
        simpa using hown3
      case measure => simp [intOf]; omega
    · go_wp2_with (at_builtin; refine wpList_append_fits _ rfl (.tmp 24) (.tmp 27) 62 rfl w.heap.size 5 i0 1 Try.underlying62 hi hz1 w.heap.size (len + pre.length) (len + 10) _ rfl (hown.alloc _) ⟨wr.heap.size, 0, none⟩ 1 1 [.int .u8 (m : Int)] rfl rfl (cell_one_new _ _ _) (ints_oneCell .u8 [(m : Int)]) (by omega) ?_)
      intro w3 hown3 hgrow3
      have hb3 : Below w.heap.size w w3 := (hb.alloc hb.size _).grown hgrow3 (by have := hb.size; simp; omega) (fun k h => by cases h; exact Nat.le_refl _)
      have he : Hid (encode n = pre ++ [(m : Int)]) := by have := hpre.out; rw [enc_stop f m (by omega)] at this; exact this.symm
      go_wp2
      go_ret
      refine ⟨w.heap.size, len + 10, len + pre.length + 1, by rw [he.out]; simp; omega, rfl, ?_, hb3⟩
      rw [he.out]
      simpa using hown3
#print axioms put_any
end Go.Proofs.Ytkcledkfgmdcgaa
