/- The contract of num.Put. -/
import Derived.Test.YtgnhnhachhfafaaBase
namespace Go.Proofs.Ytgnhnhachhfafaa
open Go.RowKit

theorem Try.info5 : (Try.prog.info? 5).map (fun i => (i.zero, i.size, i.bytes)) = some (some (.int .u8 0), 1, 1) := by kernel_rfl

set_option maxRecDepth 100000 in
set_option maxHeartbeats 400000 in
theorem put_any (ao : Option Addr) (len cap : Nat) (zs : List Int) (n : Nat) (w : World) (hr : Reads w ao len cap (zs.map (.int .u8))) (hlen : len ≤ 140737488351232) (hn : n < 18446744073709551616) :
    Calls Try.prog 50 #[.slice ao len cap, .int .u64 n] w fun e w' => ∃ g c m, m = len + (encode n).length ∧ e = .returned (.slice (some ⟨g, 0, none⟩) m c) ∧
      w'.ownsRow w.heap.size 5 1 (.slice (some ⟨g, 0, none⟩) m c) m ((zs ++ encode n).map (.int .u8)) ∧ Below w.heap.size w w' := by
  obtain ⟨i0, hi, hz0, hz1, hz2⟩ := info_parts Try.info5
  go_enter Try.func50, Try.ntmps50
  go_wp2_with (at_make; refine wpList_make_own _ rfl _ _ 33 rfl w.heap.size 5 i0 (.int .u8 0) 1 Try.underlying33 hi hz0 hz1 _ _ _ (len + 10) rfl rfl (by omega) ?b1 ?b2 ?b3 ?_)
  case b1 => rw [hz2]; omega
  case b2 => unfold maxLen; omega
  case b3 => exact Nat.le_refl _
  intro w1 hown1 hgrow1
  have hb1 : Below w.heap.size w w1 := (Below.refl _ _).grown hgrow1 (Nat.le_refl _) (fun k h => by cases h)
  have hr1 := hr.later hb1 (Nat.le_refl _)
  go_wp2_with (at_builtin; refine wpList_append_fits_any _ rfl (.tmp 10) (.tmp 11) 33 rfl w.heap.size 5 i0 1 Try.underlying33 hi hz1 w.heap.size 0 (len + 10) [] rfl hown1 ao len cap (zs.map (.int .u8)) rfl ?d1 ?d2 ?d3 ?d4 ?d5 ?_)
  case d1 => simpa using hr.length
  case d2 => exact hr1.bare
  case d3 => exact hr1.cell
  case d4 => exact ints_oneCell _ _
  case d5 => omega
  intro w2 hown2 hgrow2
  have hb2 : Below w.heap.size w w2 := hb1.grown hgrow2 hb1.size (fun k h => by cases h; exact Nat.le_refl _)
  try simp only [Nat.zero_add, List.nil_append] at hown2
  have hbB : w.heap.size + 1 ≤ w2.heap.size := by have := hown2.lt w.heap.size rfl; omega
  go_wp2_with fail
  go_loopw [1, 5] (fun i v wr => ∃ (f m : Nat) (pre : List Int), i = .int .u64 m ∧ m < lim f ∧ Hid (pre ++ enc f m = encode n) ∧ pre.length + f = 9 ∧ v = .slice (some ⟨w.heap.size, 0, none⟩) (len + pre.length) (len + 10) ∧
      wr.ownsRow w.heap.size 5 1 (.slice (some ⟨w.heap.size, 0, none⟩) (len + pre.length) (len + 10)) (len + pre.length) ((zs ++ pre).map (.int .u8)) ∧ Below w.heap.size w wr) (fun i _ _ => (intOf i).toNat)
  case atStart => exact ⟨9, n, [], rfl, by simp [lim]; omega, rfl, rfl, rfl, by simpa using hown2, hb2⟩
  case round =>
    obtain ⟨f, m, pre, rfl, hm, hpre, hf0, rfl, hown, hb⟩ := hrel
    have hf : Hid (pre.length + f = 9) := hf0
    have hpl : pre.length ≤ 9 := by omega
    have hm0 : Hid (m < lim f) := hm
    clear hf0 hm
    have hm64 : (m : Int) < 18446744073709551616 := by have := lim_le f (by have := hf.out; omega); have := hm0.out; omega
    by_cases hlt : (128 : Int) ≤ (m : Int)
    · go_wp2_with (at_builtin; refine wpList_append_fits _ rfl (.tmp 15) (.tmp 20) 33 rfl w.heap.size 5 i0 1 Try.underlying33 hi hz1 w.heap.size (len + pre.length) (len + 10) _ rfl (hown.alloc _) ⟨wr.heap.size, 0, none⟩ 1 1 [.int .u8 ((m : Int) % 128 + 128)] rfl rfl ?c1 ?c2 ?c3 ?_)
      case c1 => exact cell_one_new _ _ _
      case c2 => exact ints_oneCell .u8 [(m : Int) % 128 + 128]
      case c3 => omega
      intro w3 hown3 hgrow3
      have hb3 : Below w.heap.size w w3 := (hb.alloc hb.size _).grown hgrow3 (by have := hb.size; simp; omega) (fun k h => by cases h; exact Nat.le_refl _)
      obtain ⟨f', s1, s2, s3⟩ := enc_step (by omega) hm0.out hpre.out hf.out
      have s2' : Hid _ := s2
      have s3' : Hid _ := s3
      have s1' : Hid _ := s1
      clear s2 s3 s1
      go_wp2
      go_roundw
      case rel =>
        refine ⟨f', m / 128, pre ++ [(m : Int) % 128 + 128], by go_num, s1'.out, s2', s3'.out, by simp; omega, ?_, hb3⟩
        have e : len + (pre ++ [(m : Int) % 128 + 128]).length = len + pre.length + 1 := by simp; omega
        rw [e]
        simpa using hown3
      case measure => simp [intOf]; omega
    · go_wp2_with (at_builtin; refine wpList_append_fits _ rfl (.tmp 24) (.tmp 27) 33 rfl w.heap.size 5 i0 1 Try.underlying33 hi hz1 w.heap.size (len + pre.length) (len + 10) _ rfl (hown.alloc _) ⟨wr.heap.size, 0, none⟩ 1 1 [.int .u8 (m : Int)] rfl rfl (cell_one_new _ _ _) (ints_oneCell .u8 [(m : Int)]) (by omega) ?_)
      intro w3 hown3 hgrow3
      have hb3 : Below w.heap.size w w3 := (hb.alloc hb.size _).grown hgrow3 (by have := hb.size; simp; omega) (fun k h => by cases h; exact Nat.le_refl _)
      have he : Hid (encode n = pre ++ [(m : Int)]) := by have := hpre.out; rw [enc_stop f m (by omega)] at this; exact this.symm
      go_wp2
      go_ret
      refine ⟨w.heap.size, len + 10, len + pre.length + 1, by rw [he.out]; simp; omega, rfl, ?_, hb3⟩
      rw [he.out]
      simpa using hown3
#print axioms put_any
end Go.Proofs.Ytgnhnhachhfafaa
