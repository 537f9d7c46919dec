/- The contracts of frame.laySum and frame.Put. -/
import Derived.Test.YtgnhnhachhfafaaOwn
import Derived.Test.YtgnhnhachhfafaaNumPut
import Derived.Test.YtgnhnhachhfafaaCrcMore
import Derived.Test.YtgnhnhachhfafaaFrameMath
namespace Go.Proofs.Ytgnhnhachhfafaa
open Go.RowKit

set_option maxRecDepth 100000 in
set_option maxHeartbeats 400000 in
theorem laysum_any (base : Nat) (ag : Option Addr) (n c : Nat) (xs : List Int) (bo : Option Addr) (blen bcap : Nat) (ps : List Int) (w : World) (hown : w.ownsRow base 5 1 (.slice ag n c) n (xs.map (.int .u8))) (hbase : base ≤ w.heap.size)
    (hp : Reads w bo blen bcap (ps.map (.int .u8))) (h8 : isBytes ps) (hlen : n + 4 ≤ 140737488351232) :
    Calls Try.prog 52 #[.slice ag n c, .slice bo blen bcap] w fun e w' => ∃ ag' c', e = .returned (.slice ag' (n + 4) c') ∧
      w'.ownsRow base 5 1 (.slice ag' (n + 4) c') (n + 4) ((xs ++ sum4 (ofL ps)).map (.int .u8)) ∧ Below base w w' := by
  have mx : n + 20 ≤ maxLen := by unfold maxLen; omega
  have hs32 : ofL ps < 4294967296 := more_lt 0 ps
  generalize hS : ofL ps = s at hs32 ⊢
  have e24 : Hid ((s : Int) / 16777216 % 256 = (s : Int) / 16777216) := by show _ = _; omega
  go_enter Try.func52, Try.ntmps52
  go_wp2_with fail
  refine (of_any bo blen bcap ps w hp h8).mono ?_
  rintro e w1 ⟨rfl, hb1⟩
  rw [hS]
  clear hS
  have hown1 := own_later hown hb1 (Nat.le_refl _)
  have hB1 : Below base w w1 := hb1.mono hbase
  clear hb1 hown
  go_wp2_with fail
  go_loopw [0, 9] (fun v i wr => ∃ (j : Nat) (ag' : Option Addr) (c' : Nat), i = .int .i64 j ∧ j ≤ 4 ∧ v = .slice ag' (n + j) c' ∧
      wr.ownsRow base 5 1 (.slice ag' (n + j) c') (n + j) ((xs ++ (sum4 s).take j).map (.int .u8)) ∧ Below base w wr) (fun _ i _ => (4 - intOf i).toNat)
  case atStart => exact ⟨0, ag, c, rfl, by omega, rfl, by simpa using hown1, hB1⟩
  case round =>
    obtain ⟨j, ag', c', rfl, hj, rfl, hown, hb⟩ := hrel
    by_cases hj4 : j = 4
    · subst hj4
      go_wp2
      go_ret
      exact ⟨ag', c', rfl, hown, hb⟩
    · have hcase : j = 0 ∨ j = 1 ∨ j = 2 ∨ j = 3 := by omega
      have hsz := hb.size
      rcases hcase with rfl | rfl | rfl | rfl
      all_goals
        go_wp2_with (at_builtin; refine wpList_append_reads rfl (.tmp 12) (.tmp 18) 33 rfl base 5 Try.info5 rfl Try.underlying33 _ _ _ _ rfl (hown.alloc _) _ _ _ _ rfl (reads_one _ _ _) (ints_oneCell .u8 [_]) (by omega) (by omega) (by simp; omega) ?_)
        intro ag3 c3 w3 hown3 hb3
        have hb3' : Below base w w3 := (hb.alloc (by omega) _).trans hb3
        clear hb3
        go_wp2
        go_roundw
        case rel =>
          first
            | refine ⟨1, ag3, c3, by first | rfl | go_num, by decide, rfl, ?_, hb3'⟩
            | refine ⟨2, ag3, c3, by first | rfl | go_num, by decide, rfl, ?_, hb3'⟩
            | refine ⟨3, ag3, c3, by first | rfl | go_num, by decide, rfl, ?_, hb3'⟩
            | refine ⟨4, ag3, c3, by first | rfl | go_num, by decide, rfl, ?_, hb3'⟩
          all_goals simpa [sum4, e24.out] using hown3
        case measure => simp [intOf]

set_option maxRecDepth 100000 in
set_option maxHeartbeats 400000 in
theorem fput_ok (ao : Option Addr) (len cap : Nat) (zs : List Int) (bo : Option Addr) (blen bcap : Nat) (ps : List Int) (w : World) (hr : Reads w ao len cap (zs.map (.int .u8))) (hp : Reads w bo blen bcap (ps.map (.int .u8))) (h8 : isBytes ps)
    (hlen : len ≤ 100000000000000) (hbl : blen ≤ 1048576) :
    Calls Try.prog 37 #[.slice ao len cap, .slice bo blen bcap] w fun e w' => ∃ ag c m, m = len + (recL ps).length ∧ e = .returned (.tuple #[.slice ag m c, .int .i64 0]) ∧
      w'.ownsRow w.heap.size 5 1 (.slice ag m c) m ((zs ++ recL ps).map (.int .u8)) ∧ Below w.heap.size w w' := by
  have hbl' : (blen : Int) ≤ 1048576 := by omega
  have hpl : ps.length = blen := by simpa using hp.length
  have hel := encode_len blen
  go_enter Try.func37, Try.ntmps37
  go_wp2_with fail
  refine (put_any ao len cap zs blen w hr (by omega) (by omega)).mono ?_
  rintro e w1 ⟨g, c1, m1, hm1, rfl, hown1, hb1⟩
  have hp1 := hp.later hb1 (Nat.le_refl _)
  have mx : m1 + blen + 20 ≤ maxLen := by unfold maxLen; omega
  have hm1' : m1 ≤ len + 10 := by omega
  have Hm1 : Hid _ := hm1
  clear hm1
  have hs1 := hb1.size
  go_wp2_with (at_builtin; refine wpList_append_reads rfl (.tmp 15) (.tmp 16) 33 rfl w.heap.size 5 Try.info5 rfl Try.underlying33 _ _ _ _ rfl hown1 _ _ _ _ rfl hp1 (ints_oneCell _ _) (by omega) (by omega) hs1 ?_)
  intro ag2 c2 w2 hown2 hb2'
  have hb2 := hb1.trans hb2'
  have hp2 := hp.later hb2 (Nat.le_refl _)
  clear hb2' hb1
  simp only [← List.map_append, ← List.append_assoc] at hown2
  go_wp2_with fail
  refine (laysum_any w.heap.size ag2 _ c2 _ bo blen bcap ps w2 hown2 hb2.size hp2 h8 (by omega)).mono ?_
  rintro e w3 ⟨ag3, c3, rfl, hown3, hb3⟩
  have hb3' := hb2.trans hb3
  go_wp2
  go_ret2
  refine ⟨ag3, c3, m1 + blen + 4, by rw [rec_len, hpl, Hm1.out]; omega, rfl, ?_, hb3'⟩
  have e : zs ++ recL ps = zs ++ encode blen ++ ps ++ sum4 (ofL ps) := by rw [recL, hpl]; simp
  rw [e]
  exact hown3

set_option maxRecDepth 100000 in
theorem fput_full (ao : Option Addr) (len cap : Nat) (bo : Option Addr) (blen bcap : Nat) (w : World) (hbl : 1048576 < blen) (hlt : blen ≤ 140737488351232) :
    Calls Try.prog 37 #[.slice ao len cap, .slice bo blen bcap] w fun e w' => e = .returned (.tuple #[.slice none 0 0, .int .i64 6]) ∧ w' = w := by
  have hbl' : (1048577 : Int) ≤ blen := by omega
  go_enter Try.func37, Try.ntmps37
  go_wp2
  go_ret2
  exact ⟨rfl, rfl⟩
#print axioms fput_ok
#print axioms fput_full
end Go.Proofs.Ytgnhnhachhfafaa
