/- The contracts of the document's own Put and Get. -/
import Derived.Test.YtgnhnhachhfafaaNumMath
import Derived.Test.YtgnhnhachhfafaaCuts
import Derived.Test.YtgnhnhachhfafaaNumGet
import Derived.Test.YtgnhnhachhfafaaNumPut
namespace Go.Proofs.Ytgnhnhachhfafaa
open Go.RowKit

set_option maxRecDepth 100000 in
set_option maxHeartbeats 400000 in
theorem rput_any (ao : Option Addr) (len cap : Nat) (zs : List Int) (n : Nat) (w : World) (hr : Reads w ao len cap (zs.map (.int .u8))) (hlen : len ≤ 140737488351232) (hn : n < 18446744073709551616) :
    Calls Try.prog 42 #[.slice ao len cap, .int .u64 n] w fun e w' => ∃ ag c m, m = len + (encode n).length ∧ e = .returned (.slice ag m c) ∧
      w'.ownsRow w.heap.size 5 1 (.slice ag m c) m ((zs ++ encode n).map (.int .u8)) ∧ Below w.heap.size w w' := by
  have mx : len + 20 ≤ maxLen := by unfold maxLen; omega
  go_enter Try.func42, Try.ntmps42
  go_wp2_with (at_builtin; refine wpList_append_reads rfl (.tmp 6) (.tmp 7) 33 rfl w.heap.size 5 Try.info5 rfl Try.underlying33 _ _ _ _ rfl (ownsRow_empty w 5) _ _ _ _ rfl (hr.later ((Below.refl w.heap.size w).alloc (Nat.le_refl _) _) (Nat.le_refl _)) (ints_oneCell _ _) (by omega) (by omega) (by simp) ?_)
  intro ag c2 wc hown2 hb3
  have hb2 : Below w.heap.size w wc := Below.trans ((Below.refl w.heap.size w).alloc (Nat.le_refl _) _) hb3
  clear hb3
  go_wp2_with fail
  go_loopw [1, 5] (fun i v wr => ∃ (f m : Nat) (pre : List Int) (ag : Option Addr) (c : Nat), i = .int .u64 m ∧ Hid (m < lim f) ∧ Hid (pre ++ enc f m = encode n) ∧ Hid (pre.length + f = 9) ∧ v = .slice ag (len + pre.length) c ∧
      wr.ownsRow w.heap.size 5 1 (.slice ag (len + pre.length) c) (len + pre.length) ((zs ++ pre).map (.int .u8)) ∧ Below w.heap.size w wr) (fun i _ _ => (intOf i).toNat)
  case atStart => exact ⟨9, n, [], ag, c2, rfl, by show n < lim 9; simp [lim]; omega, rfl, rfl, rfl, by simpa using hown2, hb2⟩
  case round =>
    obtain ⟨f, m, pre, ag, c, rfl, hm0, hpre, hf, rfl, hown, hb⟩ := hrel
    have hpl : pre.length ≤ 9 := by have := hf.out; omega
    have hm64 : (m : Int) < 18446744073709551616 := by have := lim_le f (by have := hf.out; omega); have := hm0.out; omega
    by_cases hlt : (127 : Int) < (m : Int)
    · go_wp2_with (at_builtin; refine wpList_append_reads rfl (.tmp 11) (.tmp 16) 33 rfl w.heap.size 5 Try.info5 rfl Try.underlying33 _ _ _ _ rfl (hown.alloc _) _ _ _ _ rfl (reads_one _ _ _) (ints_oneCell .u8 [128 + (m : Int) % 128]) (by omega) (by omega) (by have := hb.size; simp; omega) ?_)
      intro ag3 c3 w3 hown3 hb3
      have hb3' : Below w.heap.size w w3 := (hb.alloc hb.size _).trans hb3
      obtain ⟨f', s1, s2, s3⟩ := enc_step (by omega) hm0.out hpre.out hf.out
      have s2' : Hid _ := s2
      have s3' : Hid _ := s3
      have s1' : Hid _ := s1
      clear s2 s3 s1 hb3
      go_wp2
      go_roundw
      case rel =>
        have e : len + (pre ++ [(m : Int) % 128 + 128]).length = len + pre.length + 1 := by simp; omega
        refine ⟨f', m / 128, pre ++ [(m : Int) % 128 + 128], ag3, c3, by go_num, s1', s2', s3', by rw [e], ?_, hb3'⟩
        rw [e]
        rw [Int.add_comm 128] at hown3
        simpa using hown3
      case measure => simp [intOf]; omega
    · go_wp2_with (at_builtin; refine wpList_append_reads rfl (.tmp 20) (.tmp 23) 33 rfl w.heap.size 5 Try.info5 rfl Try.underlying33 _ _ _ _ rfl (hown.alloc _) _ _ _ _ rfl (reads_one _ _ _) (ints_oneCell .u8 [(m : Int)]) (by omega) (by omega) (by have := hb.size; simp; omega) ?_)
      intro ag3 c3 w3 hown3 hb3
      have hb3' : Below w.heap.size w w3 := (hb.alloc hb.size _).trans hb3
      have he : Hid (encode n = pre ++ [(m : Int)]) := by have := hpre.out; rw [enc_stop f m (by omega)] at this; exact this.symm
      clear hb3
      go_wp2
      go_ret
      refine ⟨ag3, c3, len + pre.length + 1, by rw [he.out]; simp; omega, rfl, ?_, hb3'⟩
      rw [he.out]
      simpa using hown3

set_option maxRecDepth 100000 in
set_option maxHeartbeats 1000000 in
theorem rget_some (b off len cap : Nat) (zs : List Int) (w : World) (hz : zs.length = len) (hc : ∀ j, j < len → w.cell? ⟨b, off + j, none⟩ = some (.int .u8 (zs.getD j 0))) (hlen : len ≤ 9223372036854775807) (h8 : isBytes zs) :
    Calls Try.prog 39 #[.slice (some ⟨b, off, none⟩) len cap] w fun e w' => e = .returned (getV (getL zs)) ∧ w' = w := by
  have hcH : Hid _ := hc
  clear hc
  go_enter Try.func39, Try.ntmps39
  go_wp2_with fail
  go_loop [5, 6, 7, 8] (fun n un i d => ∃ j m u : Nat, j ≤ len ∧ j ≤ 9 ∧ i = .int .i64 j ∧ n = .int .u64 m ∧ un = .int .u64 u ∧ Hid (u = 128 ^ j) ∧ Hid (m < 128 ^ j) ∧ Hid (scan (zs.drop j) j m = getL zs)) (fun _ _ i _ => len - (intOf i).toNat)
  case atStart => exact ⟨0, 0, 1, by omega, by omega, rfl, rfl, rfl, rfl, (by decide : 0 < 128 ^ 0), rfl⟩
  case round =>
    rename w = w => hww
    clear hww
    obtain ⟨j, m, u, hj, hj9, rfl, rfl, rfl, hu, hm, hs⟩ := hrel
    by_cases hlt : j < len
    · obtain ⟨c, hcz0, hc80⟩ := h8.get j
      have hne : ((j : Int) == (len : Int)) = false := by simp; omega
      have hlt' : (j : Int) < (len : Int) := by omega
      have hc8 : (c : Int) ≤ 255 := by omega
      have hcz : Hid _ := hcz0
      have hcj := hcH.out j (by omega)
      rw [hcz.out] at hcj
      clear hcz0
      by_cases hf : (j = 9 ∧ 1 < c) ∨ (0 < j ∧ c = 0)
      · have hres : Hid (getL zs = (0, 0, 2)) := by rw [← hs.out]; exact scan_form zs j m c (by omega) hcz.out hf
        by_cases hf1 : j = 9 ∧ 1 < c
        · obtain ⟨rfl, h2⟩ := hf1
          clear hf
          by_cases hd : (1 : Int) < (c : Int) % 128
          · go_wp2
            go_ret3
            exact ⟨by rw [hres.out]; rfl, rfl⟩
          · have hd2 : (127 : Int) < (c : Int) := by omega
            go_wp2
            go_ret3
            exact ⟨by rw [hres.out]; rfl, rfl⟩
        · have h1 : (0 : Int) < (j : Int) := by omega
          obtain rfl : c = 0 := by omega
          clear hf hf1
          by_cases h9 : j = 9
          · subst h9
            go_wp2
            go_ret3
            exact ⟨by rw [hres.out]; rfl, rfl⟩
          · have h9' : ((j : Int) == 9) = false := by simp; omega
            clear h9
            go_wp2
            go_ret3
            exact ⟨by rw [hres.out]; rfl, rfl⟩
      · have hs1 := (or_more m c j hm.out hc80 hj9 (by omega)).2.1
        have hs2 := (or_more m c j hm.out hc80 hj9 (by omega)).2.2
        have hu0 := hu.out
        have hm0 := hm.out
        have hp9 : (128 : Nat) ^ j ≤ 9223372036854775808 := by
          have : (128 : Nat) ^ j ≤ 128 ^ 9 := Nat.pow_le_pow_right (by decide) hj9
          have e : (128 : Nat) ^ 9 = 9223372036854775808 := by decide
          omega
        have hu9 : (u : Int) ≤ 9223372036854775808 := by omega
        have hm9 : (m : Int) ≤ 9223372036854775807 := by omega
        have hpe : ((c % 128 * 128 ^ j : Nat) : Int) = (c : Int) % 128 * (u : Int) := by rw [← hu0]; simp
        have hmul : IntKind.u64.wrap ((c : Int) % 128 * (u : Int)) = ((c % 128 * 128 ^ j : Nat) : Int) := by
          rw [← hpe, IntKind.wrap_u64]; omega
        by_cases h128 : c < 128
        · have hres : Hid (getL zs = (m + c % 128 * 128 ^ j, j + 1, 0)) := by rw [← hs.out]; exact scan_read zs j m c (by omega) hcz.out hf h128
          by_cases h9 : j = 9
          · subst h9
            obtain rfl : c = 1 := by omega
            have hfin : Hid ((m : Int) + (u : Int) = ((m + 1 % 128 * 128 ^ 9 : Nat) : Int)) := by show (m : Int) + (u : Int) = _; rw [hu0]; simp
            clear hf h128 hmul hpe hs1 hs2 hu0 hm0 hp9
            go_wp2
            go_ret3
            exact ⟨by rw [hres.out, getV, ← hfin.out]; rfl, rfl⟩
          · have h9' : ((j : Int) == 9) = false := by simp; omega
            have h2 : (c : Int) < 128 := by omega
            have hs2' : Hid ((m : Int) + ((c % 128 * 128 ^ j : Nat) : Int) = ((m + c % 128 * 128 ^ j : Nat) : Int)) := by show (m : Int) + _ = _; omega
            have hs3 : (m : Int) + ((c % 128 * 128 ^ j : Nat) : Int) ≤ 18446744073709551615 := by omega
            generalize m + c % 128 * 128 ^ j = m' at hs2' hres
            generalize c % 128 * 128 ^ j = p at hmul hs3 hs2'
            clear hpe hs1 hs2 hu0 hm0 hp9
            by_cases h0 : (0 : Int) < (j : Int)
            · have h3 : ((c : Int) == 0) = false := by simp; omega
              clear hf h128 h9
              go_wp2
              go_ret3
              exact ⟨by rw [hres.out, getV, ← hs2'.out]; rfl, rfl⟩
            · clear hf h128 h9
              go_wp2
              go_ret3
              exact ⟨by rw [hres.out, getV, ← hs2'.out]; rfl, rfl⟩
        · have hres : Hid (scan (zs.drop (j + 1)) (j + 1) (m + c % 128 * 128 ^ j) = getL zs) := by rw [← hs.out]; exact (scan_on zs j m c (by omega) hcz.out hf h128).symm
          have h9 : ((j : Int) == 9) = false := by simp; omega
          have h2 : (128 : Int) ≤ (c : Int) := by omega
          have hj8 : j < 9 := by omega
          have hu8 : (u : Int) ≤ 72057594037927936 := by
            have : (128 : Nat) ^ j ≤ 128 ^ 8 := Nat.pow_le_pow_right (by decide) (by omega)
            have e : (128 : Nat) ^ 8 = 72057594037927936 := by decide
            omega
          have hs2' : Hid ((m : Int) + ((c % 128 * 128 ^ j : Nat) : Int) = ((m + c % 128 * 128 ^ j : Nat) : Int)) := by show (m : Int) + _ = _; omega
          have hs3 : (m : Int) + ((c % 128 * 128 ^ j : Nat) : Int) ≤ 18446744073709551615 := by omega
          have hs4 : Hid _ := hs1
          have hu1 : Hid (u * 128 = 128 ^ (j + 1)) := by show u * 128 = _; rw [hu0, Nat.pow_succ]
          generalize m + c % 128 * 128 ^ j = m' at hs2' hres hs4
          generalize c % 128 * 128 ^ j = p at hmul hs3 hs2'
          clear hf h128 hpe hs1 hs2 hu0 hm0 hp9 hu9
          go_wp2
          go_round
          case rel => exact ⟨j + 1, m', u * 128, by omega, by omega, by go_num, by rw [← hs2'.out], by go_num, hu1, hs4, hres⟩
          case measure => simp [intOf]; omega
    · obtain rfl : j = len := by omega
      have hres : Hid (getL zs = (0, 0, 3)) := by rw [← hs.out, List.drop_eq_nil_of_le (by omega)]; rfl
      go_wp2
      go_ret3
      exact ⟨by rw [hres.out]; rfl, rfl⟩

set_option maxRecDepth 100000 in
set_option maxHeartbeats 400000 in
theorem rget_none (ao : Option Addr) (cap : Nat) (w : World) :
    Calls Try.prog 39 #[.slice ao 0 cap] w fun e w' => e = .returned (getV (0, 0, 3)) ∧ w' = w := by
  go_enter Try.func39, Try.ntmps39
  go_wp2_with fail
  refine wp_loop_rounds 1 ?_
  rw [rounds_succ]
  go_wp2
  go_ret3
  exact ⟨rfl, rfl⟩

theorem rget_any (ao : Option Addr) (len cap : Nat) (zs : List Int) (w : World) (hr : Reads w ao len cap (zs.map (.int .u8))) (h8 : isBytes zs) :
    Calls Try.prog 39 #[.slice ao len cap] w fun e w' => e = .returned (getV (getL zs)) ∧ w' = w := by
  have hl := hr.length
  simp only [List.length_map] at hl
  rcases Nat.eq_zero_or_pos len with h | h
  · subst h
    have : zs = [] := List.eq_nil_of_length_eq_zero hl
    subst this
    exact rget_none ao cap w
  · obtain ⟨b, off, rfl, _, hc⟩ := hr.at h
    have := hr.le
    have hm := hr.most
    unfold maxLen at hm
    exact rget_some b off len cap zs w hl hc (by omega) h8
end Go.Proofs.Ytgnhnhachhfafaa
