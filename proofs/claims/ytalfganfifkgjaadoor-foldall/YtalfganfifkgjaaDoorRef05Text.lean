/- The contract of the document's own answer for texts folded. -/
import Derived.Test.YtalfganfifkgjaaDoorRef05
import Derived.Test.YtalfganfifkgjaaDoorUtfConv
import Derived.Test.YtalfganfifkgjaaDoorInfos
namespace Go.Proofs.YtalfganfifkgjaaDoor
open Go.RowKit


theorem map_take_next (f : Int → Int) (z : List Int) (j : Nat) (h : j < z.length) : (z.take (j + 1)).map f = (z.take j).map f ++ [f (z.getD j 0)] := by
  have e : z.take (j + 1) = z.take j ++ [z.getD j 0] := by rw [List.take_add_one, List.getD, List.getElem?_eq_getElem h]; rfl
  rw [e, List.map_append]; rfl

set_option maxRecDepth 100000 in
set_option maxHeartbeats 400000 in
theorem rtext_any (zs : List Int) (w : World) (h8 : isBytes zs) (hlen : zs.length ≤ 1000000000000) :
    Calls Tryd.prog 16 #[.string (strOfNums zs)] w fun e w' => e = .returned (.string (strOfNums (textF zs))) ∧ Below w.heap.size w w' := by
  obtain ⟨cp, w1, hc1, r1, hb1⟩ := conv_to_runes (P := Tryd.prog) (s := 9) (t := 29) Tryd.underlying9 Tryd.underlying29 Tryd.underlying21 zs h8 (by omega) w
  have hal := all_le zs
  have hT : Hid (textF zs = textU ((allU zs).map foldF)) := rfl
  generalize allU zs = l at hc1 r1 hal hT
  generalize hL : l.length = L at hc1 r1 hal
  have hL' : L ≤ 1000000000000 := by omega
  go_enter Tryd.func16, Tryd.ntmps16
  go_wp2_with fail
  go_loopw [4, 5] (fun v i wr => ∃ (j : Nat) (ag : Option Addr) (c : Nat), v = .slice ag j c ∧ i = .int .i64 j ∧ j ≤ L ∧ wr.ownsRow w1.heap.size 21 1 (.slice ag j c) j (((l.take j).map foldF).map (.int .i32)) ∧ Below w1.heap.size w1 wr) (fun _ i _ => (L - intOf i).toNat)
  case atStart => exact ⟨0, none, 0, rfl, rfl, by omega, World.ownsRow_nil _ _ _ _, Below.refl _ _⟩
  case round =>
    obtain ⟨j, ag, c, rfl, rfl, hj, hown, hb⟩ := hrel
    have hsz := hb.size
    by_cases hjl : j = L
    · subst hjl
      rw [List.take_of_length_le (by omega)] at hown
      have v1 := conv_runes Tryd.underlying9 Tryd.underlying29 Tryd.underlying21 (Reads.own hown)
      rw [← hT.out] at v1
      have hB := Grow.trans hb1 hb
      clear hc1 hown
      go_wp2
      go_ret
      exact ⟨rfl, hB⟩
    have hjl' : (j : Int) < L := by omega
    have hc := r1.cell _ rfl j (.int .i32 (l.getD j 0)) (by simp [List.getD, show j < l.length by omega])
    have hlt := World.block_lt_of_cell? w1 _ hc
    have hcj : wr.cell? ⟨w.heap.size, j, none⟩ = some (.int .i32 (l.getD j 0)) := by
      have : wr.cell? ((⟨w.heap.size, 0, none⟩ : Addr).add j) = some (.int .i32 (l.getD j 0)) := by rw [hb.cell hlt]; exact hc
      rwa [Addr.add_lit, Nat.zero_add] at this
    have hN := map_take_next foldF l j (by omega)
    have HN : Hid _ := hN
    clear hN hc hlt
    generalize l.getD j 0 = x at hcj HN
    have mx : j + 20 ≤ maxLen := by unfold maxLen; omega
    clear hc1
    go_wp2_with fail
    refine (rfold_any x wr).mono ?_
    rintro e wb ⟨rfl, rfl⟩
    go_wp2_with (at_builtin; refine wpList_append_reads rfl (.tmp 14) (.tmp 20) 29 rfl w1.heap.size 21 Tryd.infoRune rfl Tryd.underlying29 _ _ _ _ rfl (hown.alloc _) _ _ _ _ rfl (reads_one _ _ _) (ints_oneCell .i32 [foldF x]) (by omega) (by omega) (by simp; omega) ?_)
    intro ag3 c3 w3 hown3 hb3
    have hb3' : Below w1.heap.size w1 w3 := (hb.alloc hsz _).trans hb3
    clear hb3 hown
    go_wp2
    go_roundw
    case rel =>
      refine ⟨j + 1, ag3, c3, rfl, by go_num, by omega, ?_, hb3'⟩
      rw [HN.out]
      simpa using hown3
    case measure => simp [intOf]; omega
#print axioms rtext_any
end Go.Proofs.YtalfganfifkgjaaDoor
