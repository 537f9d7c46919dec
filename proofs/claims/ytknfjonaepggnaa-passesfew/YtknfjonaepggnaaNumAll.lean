/- Numbers as bytes, there and back: over lists alone. The contract of num.Get. The contract of num.Put. The contracts of the document's own Put and Get. -/
import Derived.Test.YtknfjonaepggnaaFound
import Derived.Deep.Cut
namespace Go.Proofs.Ytknfjonaepggnaa

theorem scan_cons_on (c : Int) (r : List Int) (j n : Nat) (hj : j ≠ 9) (hc : 128 ≤ c) : scan (c :: r) j n = scan r (j + 1) (n + c.toNat % 128 * 128 ^ j) := by
  rw [scan, if_neg (by omega), if_neg (by omega)]

/-- A number without its end is too short. -/
theorem scan_cut (f : Nat) : ∀ (m i j acc : Nat), i < (enc f m).length → j + f = 9 → scan ((enc f m).take i) j acc = (0, 0, 3) := by
  induction f with
  | zero =>
    intro m i j acc hi _
    simp [enc] at hi
    subst hi
    simp [scan]
  | succ f ih =>
    intro m i j acc hi hj
    cases i with
    | zero => simp [scan]
    | succ i =>
      unfold enc at hi ⊢
      split at hi
      · simp at hi
      · rename_i hm
        rw [if_neg hm, List.take_succ_cons, scan_cons_on _ _ _ _ (by omega) (by omega)]
        exact ih (m / 128) i (j + 1) _ (by simpa using hi) (by omega)

/-- A number is read as it was put, whatever stands behind. -/
theorem scan_back (f : Nat) : ∀ (m j acc : Nat) (b : List Int), m < lim f → j + f = 9 → (0 < j → m ≠ 0) → scan (enc f m ++ b) j acc = (acc + m * 128 ^ j, j + (enc f m).length, 0) := by
  induction f with
  | zero =>
    intro m j acc b hm hj hp
    simp only [lim] at hm
    simp only [enc, List.singleton_append, scan]
    rw [if_neg (by omega), if_pos (by omega)]
    simp only [Int.toNat_natCast, List.length_singleton]
    rw [Nat.mod_eq_of_lt (by omega)]
  | succ f ih =>
    intro m j acc b hm hj hp
    unfold enc
    split
    · simp only [List.singleton_append, scan]
      rw [if_neg (by omega), if_pos (by omega)]
      simp only [Int.toNat_natCast, List.length_singleton]
      rw [Nat.mod_eq_of_lt (by omega)]
    · rename_i hlt
      simp only [lim] at hm
      rw [List.cons_append, scan_cons_on _ _ _ _ (by omega) (by omega), ih (m / 128) (j + 1) _ b (by omega) (by omega) (by omega)]
      have e : ((m : Int) % 128 + 128).toNat % 128 = m % 128 := by omega
      rw [e]
      simp only [List.length_cons, Prod.mk.injEq, and_true]
      refine ⟨?_, by omega⟩
      rw [Nat.pow_succ]
      have h1 : m / 128 * (128 ^ j * 128) = (m / 128 * 128) * 128 ^ j := by rw [Nat.mul_comm (128 ^ j), ← Nat.mul_assoc]
      rw [h1, Nat.add_assoc, ← Nat.add_mul]
      congr 2
      omega

theorem get_back (n : Nat) (b : List Int) (hn : n < 18446744073709551616) : getL (encode n ++ b) = (n, (encode n).length, 0) := by
  have := scan_back 9 n 0 0 b (by simp [lim]; omega) rfl (by omega)
  simpa [getL, encode] using this

theorem get_cut (n i : Nat) (hi : i < (encode n).length) : getL ((encode n).take i) = (0, 0, 3) := scan_cut 9 n i 0 0 hi rfl

/-- What is read is put as it stood. -/
theorem scan_ok (zs : List Int) (h8 : isBytes zs) : ∀ (j acc f x i : Nat), j + f = 9 → scan zs j acc = (x, i, 0) →
    ∃ m k, x = acc + m * 128 ^ j ∧ i = j + k ∧ 1 ≤ k ∧ k ≤ zs.length ∧ enc f m = zs.take k ∧ m < lim f ∧ (0 < j → m ≠ 0) := by
  induction zs with
  | nil => intro j acc f x i _ h; simp [scan] at h
  | cons c r ih =>
    intro j acc f x i hj h
    have hc := h8 c (by simp)
    have hr : isBytes r := fun z hz => h8 z (by simp [hz])
    rw [scan] at h
    split at h
    · simp at h
    · rename_i hcond
      split at h
      · rename_i hlt
        simp only [Prod.mk.injEq, and_true] at h
        obtain ⟨rfl, rfl⟩ := h
        have e : ((c.toNat : Nat) : Int) = c := by omega
        refine ⟨c.toNat, 1, by rw [Nat.mod_eq_of_lt (by omega)], rfl, Nat.le_refl _, by simp, ?_, ?_, by omega⟩
        · rw [enc_stop f _ (by omega), e]; simp
        · cases f with
          | zero => simp only [lim]; omega
          | succ f =>
            have : ∀ f, 128 ≤ lim (f + 1) := by
              intro f
              induction f with
              | zero => decide
              | succ f ih => rw [lim]; omega
            have := this f; omega
      · rename_i hlt
        cases f with
        | zero => omega
        | succ f =>
          obtain ⟨m, k, hx, hi, hk1, hk2, he, hm, hp⟩ := ih hr (j + 1) _ f x i (by omega) h
          have hp' := hp (by omega)
          refine ⟨m * 128 + c.toNat % 128, k + 1, ?_, by omega, by omega, by simp; omega, ?_, ?_, by omega⟩
          · rw [hx, Nat.pow_succ, Nat.add_mul, Nat.mul_assoc m 128, Nat.mul_comm 128 (128 ^ j)]
            omega
          · unfold enc
            rw [if_neg (by omega), List.take_succ_cons]
            have e1 : (m * 128 + c.toNat % 128) / 128 = m := by omega
            rw [e1, he]
            congr 1
            omega
          · simp only [lim]; omega

theorem get_ok (zs : List Int) (h8 : isBytes zs) (x i : Nat) (h : getL zs = (x, i, 0)) : 1 ≤ i ∧ i ≤ zs.length ∧ encode x = zs.take i ∧ x < 18446744073709551616 := by
  obtain ⟨m, k, hx, hi, hk1, hk2, he, hm, _⟩ := scan_ok zs h8 0 0 9 x i rfl h
  simp at hx hi
  subst hx hi
  exact ⟨hk1, hk2, he, by simp [lim] at hm; omega⟩

theorem scan_err (zs : List Int) : ∀ (j acc x i f : Nat), scan zs j acc = (x, i, f) → f = 0 ∨ ((f = 2 ∨ f = 3) ∧ x = 0 ∧ i = 0) := by
  induction zs with
  | nil => intro j acc x i f h; simp [scan] at h; omega
  | cons c r ih =>
    intro j acc x i f h
    rw [scan] at h
    split at h
    · simp at h; omega
    · split at h
      · simp at h; omega
      · exact ih _ _ _ _ _ h

theorem enc_bytes (f n : Nat) : n < lim f → isBytes (enc f n) := by
  induction f generalizing n with
  | zero => intro h z hz; simp [enc] at hz; simp [lim] at h; omega
  | succ f ih =>
    intro h z hz
    unfold enc at hz
    split at hz
    · simp at hz; omega
    · simp only [List.mem_cons] at hz
      rcases hz with rfl | hz
      · omega
      · exact ih (n / 128) (by simp only [lim] at h; omega) z hz

theorem encode_bytes (n : Nat) (hn : n < 18446744073709551616) : isBytes (encode n) := enc_bytes 9 n (by simp [lim]; omega)

theorem encode_inj {a b : Nat} (ha : a < 18446744073709551616) (hb : b < 18446744073709551616) (h : encode a = encode b) : a = b := by
  have h1 := get_back a [] ha
  have h2 := get_back b [] hb
  rw [h, h2] at h1
  simp at h1
  exact h1.symm

/-- All bytes of a number but the last one have 128 more. -/
theorem enc_heads (f : Nat) : ∀ (n i : Nat), n < lim f → i < (enc f n).length → (128 ≤ (enc f n).getD i 0 ↔ i + 1 < (enc f n).length) := by
  induction f with
  | zero => intro n i hn hi; simp [enc] at hi ⊢; simp [lim] at hn; subst hi; simp; omega
  | succ f ih =>
    intro n i hn hi
    unfold enc at hi ⊢
    split at hi
    · rename_i hlt
      rw [if_pos hlt]
      simp at hi
      subst hi
      simp; omega
    · rename_i hlt
      rw [if_neg hlt]
      simp only [lim] at hn
      cases i with
      | zero => have := enc_len f (n / 128); simp; omega
      | succ i =>
        have := ih (n / 128) i (by omega) (by simpa using hi)
        simp only [List.getD_cons_succ, List.length_cons]
        omega

theorem enc_mono (f : Nat) : ∀ (n m : Nat), n ≤ m → (enc f n).length ≤ (enc f m).length := by
  induction f with
  | zero => intro n m _; simp [enc]
  | succ f ih =>
    intro n m h
    have h1 := enc_len f (m / 128)
    unfold enc
    split <;> split
    · simp
    · simp
    · omega
    · have := ih (n / 128) (m / 128) (by omega)
      simp; exact this

theorem encode_one (n : Nat) : (encode n).length = 1 ↔ n < 128 := by
  unfold encode enc
  split
  · simp; assumption
  · have := enc_len 8 (n / 128)
    simp only [List.length_cons]; omega
end Go.Proofs.Ytknfjonaepggnaa

namespace Go.Proofs.Ytknfjonaepggnaa
open Go.RowKit

theorem scan_form (zs : List Int) (j m c : Nat) (hj : j < zs.length) (hc : zs.getD j 0 = (c : Int)) (h : (j = 9 ∧ 1 < c) ∨ (0 < j ∧ c = 0)) : scan (zs.drop j) j m = (0, 0, 2) := by
  rw [drop_at zs j hj, hc, scan, if_pos (by omega)]

theorem scan_read (zs : List Int) (j m c : Nat) (hj : j < zs.length) (hc : zs.getD j 0 = (c : Int)) (h : ¬((j = 9 ∧ 1 < c) ∨ (0 < j ∧ c = 0))) (h2 : c < 128) : scan (zs.drop j) j m = (m + c % 128 * 128 ^ j, j + 1, 0) := by
  rw [drop_at zs j hj, hc, scan, if_neg (by omega), if_pos (by omega)]; simp

theorem scan_on (zs : List Int) (j m c : Nat) (hj : j < zs.length) (hc : zs.getD j 0 = (c : Int)) (h : ¬((j = 9 ∧ 1 < c) ∨ (0 < j ∧ c = 0))) (h2 : ¬ c < 128) : scan (zs.drop j) j m = scan (zs.drop (j + 1)) (j + 1) (m + c % 128 * 128 ^ j) := by
  rw [drop_at zs j hj, hc, scan, if_neg (by omega), if_neg (by omega)]; simp

def getV (r : Nat × Nat × Nat) : Value := .tuple #[.int .u64 r.1, .int .i64 r.2.1, .int .i64 r.2.2]

set_option maxRecDepth 100000 in
set_option maxHeartbeats 400000 in
theorem get_some (b off len cap : Nat) (zs : List Int) (w : World) (hz : zs.length = len) (hc : ∀ j, j < len → w.cell? ⟨b, off + j, none⟩ = some (.int .u8 (zs.getD j 0))) (hlen : len ≤ 9223372036854775807) (h8 : isBytes zs) :
    Calls Try.prog 63 #[.slice (some ⟨b, off, none⟩) len cap] w fun e w' => e = .returned (getV (getL zs)) ∧ w' = w := by
  have hcH : Hid _ := hc
  clear hc
  go_enter Try.func63, Try.ntmps63
  go_wp2_with fail
  go_step3
  go_wp2_with fail
  go_step3
  go_wp2_with fail
  go_loop [5, 6, 7, 8, 11] (fun n f i c k => ∃ j m : Nat, j ≤ len ∧ j ≤ 9 ∧ k = .int .i64 j ∧ n = .int .u64 m ∧ f = .int .i64 3 ∧ Hid (m < 128 ^ j) ∧ Hid (scan (zs.drop j) j m = getL zs)) (fun _ _ _ _ k => len - (intOf k).toNat)
  case atStart => exact ⟨0, 0, by omega, by omega, rfl, rfl, rfl, (by decide : 0 < 128 ^ 0), rfl⟩
  case round =>
    rename w = w => hww
    clear hww
    obtain ⟨j, m, hj, hj9, rfl, rfl, rfl, hm, hs⟩ := hrel
    by_cases hlt : (j : Int) < (len : Int)
    · obtain ⟨c, hcz0, hc80⟩ := h8.get j
      have hc8 : (c : Int) ≤ 255 := by omega
      have hcz : Hid _ := hcz0
      have hcj := hcH.out j (by omega)
      rw [hcz.out] at hcj
      clear hcz0
      by_cases hf : (j = 9 ∧ 1 < c) ∨ (0 < j ∧ c = 0)
      · have hres : Hid (getL zs = (0, 0, 2)) := by rw [← hs.out]; exact scan_form zs j m c (by omega) hcz.out hf
        by_cases hf1 : j = 9 ∧ 1 < c
        · obtain ⟨rfl, h2⟩ := hf1
          have h2 : (1 : Int) < (c : Int) := by omega
          clear hf
          go_wp2
          first | (rw [Exit.noGoto_ret]; go_ret3) | go_ret3
          exact ⟨by rw [hres.out]; rfl, rfl⟩
        · have h1 : (0 : Int) < (j : Int) := by omega
          obtain rfl : c = 0 := by omega
          clear hf hf1
          by_cases h9 : j = 9
          · subst h9
            go_wp2
            first | (rw [Exit.noGoto_ret]; go_ret3) | go_ret3
            exact ⟨by rw [hres.out]; rfl, rfl⟩
          · have h9' : ((j : Int) == 9) = false := by simp; omega
            clear h9
            go_wp2
            first | (rw [Exit.noGoto_ret]; go_ret3) | go_ret3
            exact ⟨by rw [hres.out]; rfl, rfl⟩
      · obtain ⟨hor, hs1, hs2⟩ := or_more m c j hm.out hc80 hj9 (by omega)
        by_cases h128 : c < 128
        · have hres : Hid (getL zs = (m + c % 128 * 128 ^ j, j + 1, 0)) := by rw [← hs.out]; exact scan_read zs j m c (by omega) hcz.out hf h128
          generalize m + c % 128 * 128 ^ j = m' at hor hs1 hs2 hres
          have h2 : (c : Int) < 128 := by omega
          by_cases h9 : j = 9
          · subst h9
            obtain rfl : c = 1 := by omega
            rw [show IntKind.u64.wrap (((1 : Nat) : Int) % 128 * 2 ^ (7 * 9)) = 9223372036854775808 from by rw [IntKind.wrap_u64]; decide] at hor
            clear hf h128
            go_wp2
            first | (rw [Exit.noGoto_ret]; go_ret3) | go_ret3
            exact ⟨by rw [hres.out]; rfl, rfl⟩
          · have h9' : ((j : Int) == 9) = false := by simp; omega
            by_cases h0 : (0 : Int) < (j : Int)
            · have h3 : ((c : Int) == 0) = false := by simp; omega
              clear h9
              clear hf h128
              go_wp2
              first | (rw [Exit.noGoto_ret]; go_ret3) | go_ret3
              exact ⟨by rw [hres.out]; rfl, rfl⟩
            · clear hf h128 h9
              go_wp2
              first | (rw [Exit.noGoto_ret]; go_ret3) | go_ret3
              exact ⟨by rw [hres.out]; rfl, rfl⟩
        · have hres : Hid (scan (zs.drop (j + 1)) (j + 1) (m + c % 128 * 128 ^ j) = getL zs) := by rw [← hs.out]; exact (scan_on zs j m c (by omega) hcz.out hf h128).symm
          generalize m + c % 128 * 128 ^ j = m' at hor hs1 hs2 hres
          have h2 : (128 : Int) ≤ (c : Int) := by omega
          have h9 : ((j : Int) == 9) = false := by simp; omega
          have h10 : ((c : Int) == 0) = false := by simp; omega
          have hj8 : j < 9 := by omega
          have hs3 : Hid _ := hs1
          clear hf h128 hs1
          by_cases h0 : (0 : Int) < (j : Int)
          all_goals
            go_wp2
            go_round
            case rel => exact ⟨j + 1, m', by omega, by omega, by go_num, rfl, rfl, hs3, hres⟩
            case measure => simp [intOf]; omega
    · have hres : Hid (getL zs = (0, 0, 3)) := by rw [← hs.out, List.drop_eq_nil_of_le (by omega)]; rfl
      go_wp2
      first | (rw [Exit.noGoto_ret]; go_ret3) | go_ret3
      exact ⟨by rw [hres.out]; rfl, rfl⟩

set_option maxRecDepth 100000 in
set_option maxHeartbeats 400000 in
theorem get_none (ao : Option Addr) (cap : Nat) (w : World) :
    Calls Try.prog 63 #[.slice ao 0 cap] w fun e w' => e = .returned (getV (0, 0, 3)) ∧ w' = w := by
  go_enter Try.func63, Try.ntmps63
  go_wp2_with fail
  go_step3
  go_wp2_with fail
  go_step3
  go_wp2_with fail
  refine wp_loop_rounds 1 ?_
  rw [rounds_succ]
  go_wp2
  first | (rw [Exit.noGoto_ret]; go_ret3) | go_ret3
  exact ⟨rfl, rfl⟩

/-- num.Get of whatever bytes. -/
theorem get_any (ao : Option Addr) (len cap : Nat) (zs : List Int) (w : World) (hr : Reads w ao len cap (zs.map (.int .u8))) (h8 : isBytes zs) :
    Calls Try.prog 63 #[.slice ao len cap] w fun e w' => e = .returned (getV (getL zs)) ∧ w' = w := by
  have hl := hr.length
  simp only [List.length_map] at hl
  rcases Nat.eq_zero_or_pos len with h | h
  · subst h
    have : zs = [] := List.eq_nil_of_length_eq_zero hl
    subst this
    exact get_none ao cap w
  · obtain ⟨b, off, rfl, _, hc⟩ := hr.at h
    have := hr.le
    have hm := hr.most
    unfold maxLen at hm
    exact get_some b off len cap zs w hl hc (by omega) h8
#print axioms get_any
end Go.Proofs.Ytknfjonaepggnaa

namespace Go.Proofs.Ytknfjonaepggnaa
open Go.RowKit

theorem Try.info5 : (Try.prog.info? 5).map (fun i => (i.zero, i.size, i.bytes)) = some (some (.int .u8 0), 1, 1) := by kernel_rfl

set_option maxRecDepth 100000 in
set_option maxHeartbeats 400000 in
theorem put_any (ao : Option Addr) (len cap : Nat) (zs : List Int) (n : Nat) (w : World) (hr : Reads w ao len cap (zs.map (.int .u8))) (hlen : len ≤ 140737488351232) (hn : n < 18446744073709551616) :
    Calls Try.prog 53 #[.slice ao len cap, .int .u64 n] w fun e w' => ∃ g c m, m = len + (encode n).length ∧ e = .returned (.slice (some ⟨g, 0, none⟩) m c) ∧
      w'.ownsRow w.heap.size 5 1 (.slice (some ⟨g, 0, none⟩) m c) m ((zs ++ encode n).map (.int .u8)) ∧ Below w.heap.size w w' := by
  obtain ⟨i0, hi, hz0, hz1, hz2⟩ := info_parts Try.info5
  go_enter Try.func53, Try.ntmps53
  go_wp2_with (at_make; refine wpList_make_own _ rfl _ _ 30 rfl w.heap.size 5 i0 (.int .u8 0) 1 Try.underlying30 hi hz0 hz1 _ _ _ (len + 10) rfl rfl (by omega) ?b1 ?b2 ?b3 ?_)
  case b1 => rw [hz2]; omega
  case b2 => unfold maxLen; omega
  case b3 => exact Nat.le_refl _
  intro w1 hown1 hgrow1
  have hb1 : Below w.heap.size w w1 := (Below.refl _ _).grown hgrow1 (Nat.le_refl _) (fun k h => by cases h)
  have hr1 := hr.later hb1 (Nat.le_refl _)
  go_wp2_with (at_builtin; refine wpList_append_fits_any _ rfl (.tmp 10) (.tmp 11) 30 rfl w.heap.size 5 i0 1 Try.underlying30 hi hz1 w.heap.size 0 (len + 10) [] rfl hown1 ao len cap (zs.map (.int .u8)) rfl ?d1 ?d2 ?d3 ?d4 ?d5 ?_)
  case d1 => simpa using hr.length
  case d2 => exact hr1.bare
  case d3 => exact hr1.cell
  case d4 => exact ints_oneCell _ _
  case d5 => omega
  intro w2 hown2 hgrow2
  have hb2 : Below w.heap.size w w2 := hb1.grown hgrow2 hb1.size (fun k h => by cases h; exact Nat.le_refl _)
  try simp only [Nat.zero_add, List.nil_append] at hown2
  have hbB : w.heap.size + 1 ≤ w2.heap.size := by have := hown2.lt w.heap.size rfl; omega
  go_wp2_with fail
  go_loopw [1, 5] (fun i v wr => ∃ (f m : Nat) (pre : List Int), i = .int .u64 m ∧ m < lim f ∧ Hid (pre ++ enc f m = encode n) ∧ pre.length + f = 9 ∧ v = .slice (some ⟨w.heap.size, 0, none⟩) (len + pre.length) (len + 10) ∧
      wr.ownsRow w.heap.size 5 1 (.slice (some ⟨w.heap.size, 0, none⟩) (len + pre.length) (len + 10)) (len + pre.length) ((zs ++ pre).map (.int .u8)) ∧ Below w.heap.size w wr) (fun i _ _ => (intOf i).toNat)
  case atStart => exact ⟨9, n, [], rfl, by simp [lim]; omega, rfl, rfl, rfl, by simpa using hown2, hb2⟩
  case round =>
    obtain ⟨f, m, pre, rfl, hm, hpre, hf0, rfl, hown, hb⟩ := hrel
    have hf : Hid (pre.length + f = 9) := hf0
    have hpl : pre.length ≤ 9 := by omega
    have hm0 : Hid (m < lim f) := hm
    clear hf0 hm
    have hm64 : (m : Int) < 18446744073709551616 := by have := lim_le f (by have := hf.out; omega); have := hm0.out; omega
    by_cases hlt : (128 : Int) ≤ (m : Int)
    · go_wp2_with (at_builtin; refine wpList_append_fits _ rfl (.tmp 15) (.tmp 20) 30 rfl w.heap.size 5 i0 1 Try.underlying30 hi hz1 w.heap.size (len + pre.length) (len + 10) _ rfl (hown.alloc _) ⟨wr.heap.size, 0, none⟩ 1 1 [.int .u8 ((m : Int) % 128 + 128)] rfl rfl ?c1 ?c2 ?c3 ?_)
      case c1 => exact cell_one_new _ _ _
      case c2 => exact ints_oneCell .u8 [(m : Int) % 128 + 128]
      case c3 => omega
      intro w3 hown3 hgrow3
      have hb3 : Below w.heap.size w w3 := (hb.alloc hb.size _).grown hgrow3 (by have := hb.size; simp; omega) (fun k h => by cases h; exact Nat.le_refl _)
      obtain ⟨f', s1, s2, s3⟩ := enc_step (by omega) hm0.out hpre.out hf.out
      have s2' : Hid _ := s2
      have s3' : Hid _ := s3
      have s1' : Hid _ := s1
      clear s2 s3 s1
      go_wp2
      go_roundw
      case rel =>
        refine ⟨f', m / 128, pre ++ [(m : Int) % 128 + 128], by go_num, s1'.out, s2', s3'.out, by simp; omega, ?_, hb3⟩
        have e : len + (pre ++ [(m : Int) % 128 + 128]).length = len + pre.length + 1 := by simp; omega
        rw [e]
        simpa using hown3
      case measure => simp [intOf]; omega
    · go_wp2_with (at_builtin; refine wpList_append_fits _ rfl (.tmp 24) (.tmp 27) 30 rfl w.heap.size 5 i0 1 Try.underlying30 hi hz1 w.heap.size (len + pre.length) (len + 10) _ rfl (hown.alloc _) ⟨wr.heap.size, 0, none⟩ 1 1 [.int .u8 (m : Int)] rfl rfl (cell_one_new _ _ _) (ints_oneCell .u8 [(m : Int)]) (by omega) ?_)
      intro w3 hown3 hgrow3
      have hb3 : Below w.heap.size w w3 := (hb.alloc hb.size _).grown hgrow3 (by have := hb.size; simp; omega) (fun k h => by cases h; exact Nat.le_refl _)
      have he : Hid (encode n = pre ++ [(m : Int)]) := by have := hpre.out; rw [enc_stop f m (by omega)] at this; exact this.symm
      go_wp2
      go_ret
      refine ⟨w.heap.size, len + 10, len + pre.length + 1, by rw [he.out]; simp; omega, rfl, ?_, hb3⟩
      rw [he.out]
      simpa using hown3
#print axioms put_any
end Go.Proofs.Ytknfjonaepggnaa

namespace Go.Proofs.Ytknfjonaepggnaa
open Go.RowKit

set_option maxRecDepth 100000 in
set_option maxHeartbeats 400000 in
theorem rput_any (ao : Option Addr) (len cap : Nat) (zs : List Int) (n : Nat) (w : World) (hr : Reads w ao len cap (zs.map (.int .u8))) (hlen : len ≤ 140737488351232) (hn : n < 18446744073709551616) :
    Calls Try.prog 42 #[.slice ao len cap, .int .u64 n] w fun e w' => ∃ ag c m, m = len + (encode n).length ∧ e = .returned (.slice ag m c) ∧
      w'.ownsRow w.heap.size 5 1 (.slice ag m c) m ((zs ++ encode n).map (.int .u8)) ∧ Below w.heap.size w w' := by
  have mx : len + 20 ≤ maxLen := by unfold maxLen; omega
  go_enter Try.func42, Try.ntmps42
  go_wp2_with (at_builtin; refine wpList_append_reads rfl (.tmp 6) (.tmp 7) 30 rfl w.heap.size 5 Try.info5 rfl Try.underlying30 _ _ _ _ rfl (ownsRow_empty w 5) _ _ _ _ rfl (hr.later ((Below.refl w.heap.size w).alloc (Nat.le_refl _) _) (Nat.le_refl _)) (ints_oneCell _ _) (by omega) (by omega) (by simp) ?_)
  intro ag c2 wc hown2 hb3
  have hb2 : Below w.heap.size w wc := Below.trans ((Below.refl w.heap.size w).alloc (Nat.le_refl _) _) hb3
  clear hb3
  go_wp2_with fail
  go_loopw [1, 5] (fun i v wr => ∃ (f m : Nat) (pre : List Int) (ag : Option Addr) (c : Nat), i = .int .u64 m ∧ Hid (m < lim f) ∧ Hid (pre ++ enc f m = encode n) ∧ Hid (pre.length + f = 9) ∧ v = .slice ag (len + pre.length) c ∧
      wr.ownsRow w.heap.size 5 1 (.slice ag (len + pre.length) c) (len + pre.length) ((zs ++ pre).map (.int .u8)) ∧ Below w.heap.size w wr) (fun i _ _ => (intOf i).toNat)
  case atStart => exact ⟨9, n, [], ag, c2, rfl, by show n < lim 9; simp [lim]; omega, rfl, rfl, rfl, by simpa using hown2, hb2⟩
  case round =>
    obtain ⟨f, m, pre, ag, c, rfl, hm0, hpre, hf, rfl, hown, hb⟩ := hrel
    have hpl : pre.length ≤ 9 := by have := hf.out; omega
    have hm64 : (m : Int) < 18446744073709551616 := by have := lim_le f (by have := hf.out; omega); have := hm0.out; omega
    by_cases hlt : (127 : Int) < (m : Int)
    · go_wp2_with (at_builtin; refine wpList_append_reads rfl (.tmp 11) (.tmp 16) 30 rfl w.heap.size 5 Try.info5 rfl Try.underlying30 _ _ _ _ rfl (hown.alloc _) _ _ _ _ rfl (reads_one _ _ _) (ints_oneCell .u8 [128 + (m : Int) % 128]) (by omega) (by omega) (by have := hb.size; simp; omega) ?_)
      intro ag3 c3 w3 hown3 hb3
      have hb3' : Below w.heap.size w w3 := (hb.alloc hb.size _).trans hb3
      obtain ⟨f', s1, s2, s3⟩ := enc_step (by omega) hm0.out hpre.out hf.out
      have s2' : Hid _ := s2
      have s3' : Hid _ := s3
      have s1' : Hid _ := s1
      clear s2 s3 s1 hb3
      go_wp2
      go_roundw
      case rel =>
        have e : len + (pre ++ [(m : Int) % 128 + 128]).length = len + pre.length + 1 := by simp; omega
        refine ⟨f', m / 128, pre ++ [(m : Int) % 128 + 128], ag3, c3, by go_num, s1', s2', s3', by rw [e], ?_, hb3'⟩
        rw [e]
        rw [Int.add_comm 128] at hown3
        simpa using hown3
      case measure => simp [intOf]; omega
    · go_wp2_with (at_builtin; refine wpList_append_reads rfl (.tmp 20) (.tmp 23) 30 rfl w.heap.size 5 Try.info5 rfl Try.underlying30 _ _ _ _ rfl (hown.alloc _) _ _ _ _ rfl (reads_one _ _ _) (ints_oneCell .u8 [(m : Int)]) (by omega) (by omega) (by have := hb.size; simp; omega) ?_)
      intro ag3 c3 w3 hown3 hb3
      have hb3' : Below w.heap.size w w3 := (hb.alloc hb.size _).trans hb3
      have he : Hid (encode n = pre ++ [(m : Int)]) := by have := hpre.out; rw [enc_stop f m (by omega)] at this; exact this.symm
      clear hb3
      go_wp2
      go_ret
      refine ⟨ag3, c3, len + pre.length + 1, by rw [he.out]; simp; omega, rfl, ?_, hb3'⟩
      rw [he.out]
      simpa using hown3

set_option maxRecDepth 100000 in
set_option maxHeartbeats 1000000 in
theorem rget_some (b off len cap : Nat) (zs : List Int) (w : World) (hz : zs.length = len) (hc : ∀ j, j < len → w.cell? ⟨b, off + j, none⟩ = some (.int .u8 (zs.getD j 0))) (hlen : len ≤ 9223372036854775807) (h8 : isBytes zs) :
    Calls Try.prog 37 #[.slice (some ⟨b, off, none⟩) len cap] w fun e w' => e = .returned (getV (getL zs)) ∧ w' = w := by
  have hcH : Hid _ := hc
  clear hc
  go_enter Try.func37, Try.ntmps37
  go_wp2_with fail
  go_loop [5, 6, 7, 8] (fun n un i d => ∃ j m u : Nat, j ≤ len ∧ j ≤ 9 ∧ i = .int .i64 j ∧ n = .int .u64 m ∧ un = .int .u64 u ∧ Hid (u = 128 ^ j) ∧ Hid (m < 128 ^ j) ∧ Hid (scan (zs.drop j) j m = getL zs)) (fun _ _ i _ => len - (intOf i).toNat)
  case atStart => exact ⟨0, 0, 1, by omega, by omega, rfl, rfl, rfl, rfl, (by decide : 0 < 128 ^ 0), rfl⟩
  case round =>
    rename w = w => hww
    clear hww
    obtain ⟨j, m, u, hj, hj9, rfl, rfl, rfl, hu, hm, hs⟩ := hrel
    by_cases hlt : j < len
    · obtain ⟨c, hcz0, hc80⟩ := h8.get j
      have hne : ((j : Int) == (len : Int)) = false := by simp; omega
      have hlt' : (j : Int) < (len : Int) := by omega
      have hc8 : (c : Int) ≤ 255 := by omega
      have hcz : Hid _ := hcz0
      have hcj := hcH.out j (by omega)
      rw [hcz.out] at hcj
      clear hcz0
      by_cases hf : (j = 9 ∧ 1 < c) ∨ (0 < j ∧ c = 0)
      · have hres : Hid (getL zs = (0, 0, 2)) := by rw [← hs.out]; exact scan_form zs j m c (by omega) hcz.out hf
        by_cases hf1 : j = 9 ∧ 1 < c
        · obtain ⟨rfl, h2⟩ := hf1
          clear hf
          by_cases hd : (1 : Int) < (c : Int) % 128
          · go_wp2
            go_ret3
            exact ⟨by rw [hres.out]; rfl, rfl⟩
          · have hd2 : (127 : Int) < (c : Int) := by omega
            go_wp2
            go_ret3
            exact ⟨by rw [hres.out]; rfl, rfl⟩
        · have h1 : (0 : Int) < (j : Int) := by omega
          obtain rfl : c = 0 := by omega
          clear hf hf1
          by_cases h9 : j = 9
          · subst h9
            go_wp2
            go_ret3
            exact ⟨by rw [hres.out]; rfl, rfl⟩
          · have h9' : ((j : Int) == 9) = false := by simp; omega
            clear h9
            go_wp2
            go_ret3
            exact ⟨by rw [hres.out]; rfl, rfl⟩
      · have hs1 := (or_more m c j hm.out hc80 hj9 (by omega)).2.1
        have hs2 := (or_more m c j hm.out hc80 hj9 (by omega)).2.2
        have hu0 := hu.out
        have hm0 := hm.out
        have hp9 : (128 : Nat) ^ j ≤ 9223372036854775808 := by
          have : (128 : Nat) ^ j ≤ 128 ^ 9 := Nat.pow_le_pow_right (by decide) hj9
          have e : (128 : Nat) ^ 9 = 9223372036854775808 := by decide
          omega
        have hu9 : (u : Int) ≤ 9223372036854775808 := by omega
        have hm9 : (m : Int) ≤ 9223372036854775807 := by omega
        have hpe : ((c % 128 * 128 ^ j : Nat) : Int) = (c : Int) % 128 * (u : Int) := by rw [← hu0]; simp
        have hmul : IntKind.u64.wrap ((c : Int) % 128 * (u : Int)) = ((c % 128 * 128 ^ j : Nat) : Int) := by
          rw [← hpe, IntKind.wrap_u64]; omega
        by_cases h128 : c < 128
        · have hres : Hid (getL zs = (m + c % 128 * 128 ^ j, j + 1, 0)) := by rw [← hs.out]; exact scan_read zs j m c (by omega) hcz.out hf h128
          by_cases h9 : j = 9
          · subst h9
            obtain rfl : c = 1 := by omega
            have hfin : Hid ((m : Int) + (u : Int) = ((m + 1 % 128 * 128 ^ 9 : Nat) : Int)) := by show (m : Int) + (u : Int) = _; rw [hu0]; simp
            clear hf h128 hmul hpe hs1 hs2 hu0 hm0 hp9
            go_wp2
            go_ret3
            exact ⟨by rw [hres.out, getV, ← hfin.out]; rfl, rfl⟩
          · have h9' : ((j : Int) == 9) = false := by simp; omega
            have h2 : (c : Int) < 128 := by omega
            have hs2' : Hid ((m : Int) + ((c % 128 * 128 ^ j : Nat) : Int) = ((m + c % 128 * 128 ^ j : Nat) : Int)) := by show (m : Int) + _ = _; omega
            have hs3 : (m : Int) + ((c % 128 * 128 ^ j : Nat) : Int) ≤ 18446744073709551615 := by omega
            generalize m + c % 128 * 128 ^ j = m' at hs2' hres
            generalize c % 128 * 128 ^ j = p at hmul hs3 hs2'
            clear hpe hs1 hs2 hu0 hm0 hp9
            by_cases h0 : (0 : Int) < (j : Int)
            · have h3 : ((c : Int) == 0) = false := by simp; omega
              clear hf h128 h9
              go_wp2
              go_ret3
              exact ⟨by rw [hres.out, getV, ← hs2'.out]; rfl, rfl⟩
            · clear hf h128 h9
              go_wp2
              go_ret3
              exact ⟨by rw [hres.out, getV, ← hs2'.out]; rfl, rfl⟩
        · have hres : Hid (scan (zs.drop (j + 1)) (j + 1) (m + c % 128 * 128 ^ j) = getL zs) := by rw [← hs.out]; exact (scan_on zs j m c (by omega) hcz.out hf h128).symm
          have h9 : ((j : Int) == 9) = false := by simp; omega
          have h2 : (128 : Int) ≤ (c : Int) := by omega
          have hj8 : j < 9 := by omega
          have hu8 : (u : Int) ≤ 72057594037927936 := by
            have : (128 : Nat) ^ j ≤ 128 ^ 8 := Nat.pow_le_pow_right (by decide) (by omega)
            have e : (128 : Nat) ^ 8 = 72057594037927936 := by decide
            omega
          have hs2' : Hid ((m : Int) + ((c % 128 * 128 ^ j : Nat) : Int) = ((m + c % 128 * 128 ^ j : Nat) : Int)) := by show (m : Int) + _ = _; omega
          have hs3 : (m : Int) + ((c % 128 * 128 ^ j : Nat) : Int) ≤ 18446744073709551615 := by omega
          have hs4 : Hid _ := hs1
          have hu1 : Hid (u * 128 = 128 ^ (j + 1)) := by show u * 128 = _; rw [hu0, Nat.pow_succ]
          generalize m + c % 128 * 128 ^ j = m' at hs2' hres hs4
          generalize c % 128 * 128 ^ j = p at hmul hs3 hs2'
          clear hf h128 hpe hs1 hs2 hu0 hm0 hp9 hu9
          go_wp2
          go_round
          case rel => exact ⟨j + 1, m', u * 128, by omega, by omega, by go_num, by rw [← hs2'.out], by go_num, hu1, hs4, hres⟩
          case measure => simp [intOf]; omega
    · obtain rfl : j = len := by omega
      have hres : Hid (getL zs = (0, 0, 3)) := by rw [← hs.out, List.drop_eq_nil_of_le (by omega)]; rfl
      go_wp2
      go_ret3
      exact ⟨by rw [hres.out]; rfl, rfl⟩

set_option maxRecDepth 100000 in
set_option maxHeartbeats 400000 in
theorem rget_none (ao : Option Addr) (cap : Nat) (w : World) :
    Calls Try.prog 37 #[.slice ao 0 cap] w fun e w' => e = .returned (getV (0, 0, 3)) ∧ w' = w := by
  go_enter Try.func37, Try.ntmps37
  go_wp2_with fail
  refine wp_loop_rounds 1 ?_
  rw [rounds_succ]
  go_wp2
  go_ret3
  exact ⟨rfl, rfl⟩

theorem rget_any (ao : Option Addr) (len cap : Nat) (zs : List Int) (w : World) (hr : Reads w ao len cap (zs.map (.int .u8))) (h8 : isBytes zs) :
    Calls Try.prog 37 #[.slice ao len cap] w fun e w' => e = .returned (getV (getL zs)) ∧ w' = w := by
  have hl := hr.length
  simp only [List.length_map] at hl
  rcases Nat.eq_zero_or_pos len with h | h
  · subst h
    have : zs = [] := List.eq_nil_of_length_eq_zero hl
    subst this
    exact rget_none ao cap w
  · obtain ⟨b, off, rfl, _, hc⟩ := hr.at h
    have := hr.le
    have hm := hr.most
    unfold maxLen at hm
    exact rget_some b off len cap zs w hl hc (by omega) h8
end Go.Proofs.Ytknfjonaepggnaa
