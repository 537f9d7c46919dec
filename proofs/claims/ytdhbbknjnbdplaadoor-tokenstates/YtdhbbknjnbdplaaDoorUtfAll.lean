/- The contract of utf.All: a range over the bytes as a string. -/
import Derived.Test.YtdhbbknjnbdplaaDoorIter
import Derived.Test.YtdhbbknjnbdplaaDoorInfos
import Derived.Test.YtdhbbknjnbdplaaDoorUtfConv
namespace Go.Proofs.YtdhbbknjnbdplaaDoor
open Go.RowKit
set_option linter.unusedVariables false

set_option maxRecDepth 100000 in
set_option maxHeartbeats 400000 in
theorem uall_own (ao : Option Addr) (len cap : Nat) (zs : List Int) (w : World) (hr : Reads w ao len cap (zs.map (.int .u8))) (h8 : isBytes zs) (hlen : len ≤ 1000000000) :
    Calls Tryd.prog 23 #[.slice ao len cap] w fun e w' => ∃ ag c m, e = .returned (.slice ag m c) ∧ m = (allU zs).length ∧ w'.ownsRow w.heap.size 21 1 (.slice ag m c) m ((allU zs).map (.int .i32)) ∧ Below w.heap.size w w' := by
  have hl : zs.length = len := by simpa using hr.length
  have hcv := conv_of Tryd.underlying22 Tryd.underlying5 Tryd.underlying9 hr
  clear hr
  go_enter Tryd.func23, Tryd.ntmps23
  go_wp2_with fail
  go_loopw [3] (fun v wr => ∃ (pos : Nat) (ag : Option Addr) (c m : Nat) (ls : List Int), v = .slice ag m c ∧ pos ≤ len ∧ m ≤ pos ∧ wr.ownsRow w.heap.size 21 1 (.slice ag m c) m (ls.map (.int .i32)) ∧ Hid (wr.heap[w.heap.size]? = some (.stringIter (strOfNums zs) pos)) ∧
      Hid (allU zs = ls ++ allU (zs.drop pos)) ∧ Below w.heap.size w wr) (fun _ wr => len - wr.iterPos w.heap.size)
  case atStart => exact ⟨0, none, 0, 0, [], rfl, by omega, by omega, World.ownsRow_nil _ _ _ _, World.iter_heap w (strOfNums zs) 0, by show _ = _; simp, (Below.refl _ w).alloc (Nat.le_refl _) _⟩
  case round =>
    obtain ⟨pos, ag, c, m, ls, rfl, hp, hm, hown, hit, hS, hb⟩ := hrel
    have hsz : w.heap.size < wr.heap.size := (Array.getElem?_eq_some_iff.1 hit.out).1
    have hml : ls.length = m := by have := hown.1; simpa using this
    have hss : (strOfNums zs).size = len := by rw [str_size, hl]
    by_cases hpos : pos < len
    · obtain ⟨r, hdec, hr1⟩ := decode_str zs h8 pos (by omega)
      have hnx : ∀ ty, (Instr.next (.pointer (some ⟨w.heap.size, 0, none⟩)) true ty).run Tryd.prog wr = .ok (.tuple #[.bool true, .int .i64 pos, .int .i32 r]) (wr.iterAt w.heap.size (strOfNums zs) (pos + (oneU (zs.drop pos)).2)) := fun ty => by
        have := Lib.run_next_any_at (P := Tryd.prog) wr w.heap.size (strOfNums zs) pos ty hit.out (by omega)
        rw [hdec] at this
        exact this
      have hne : zs.drop pos ≠ [] := by intro h; have := congrArg List.length h; simp at this; omega
      have ho1 := one_pos (zs.drop pos)
      have ho2 := one_le hne
      rw [List.length_drop, hl] at ho2
      have hS' : Hid (allU zs = (ls ++ [(r : Int)]) ++ allU (zs.drop (pos + (oneU (zs.drop pos)).2))) := by
        show _ = _
        rw [hS.out, all_step hne, hr1, List.drop_drop]; simp
      generalize (oneU (zs.drop pos)).2 = k at hnx ho1 ho2 hS'
      have hown1 := own_iter hown hit.out (pos + k)
      have hit1 : Hid _ := Lib.iterAt_heap wr w.heap.size (strOfNums zs) pos (pos + k) hit.out
      have hb1 := Lib.below_iterAt hb (k := w.heap.size) (Nat.le_refl _) (strOfNums zs) (pos + k)
      have hpo : wr.iterPos w.heap.size = pos := by simp only [World.iterPos, hit.out]
      have Hpo : Hid _ := hpo
      have hsz1 : w.heap.size < (wr.iterAt w.heap.size (strOfNums zs) (pos + k)).heap.size := by rw [Lib.iterAt_size]; exact hsz
      have mx : m + 20 ≤ maxLen := by unfold maxLen; omega
      clear hS hown hit hb hdec hr1 hne hss hpo hsz
      generalize wr.iterAt w.heap.size (strOfNums zs) (pos + k) = wi at hnx hown1 hit1 hb1 hsz1
      go_wp2_with (at_builtin; refine wpList_append_grown rfl (.tmp 12) (.tmp 14) 28 rfl w.heap.size 21 Tryd.infoRune rfl Tryd.underlying28 _ _ _ _ rfl (hown1.alloc _) _ _ _ _ rfl (reads_one _ _ _) (ints_oneCell .i32 [(r : Int)]) (by omega) (by omega) (by simp; omega) ?_)
      intro ag3 c3 w3 hown4 hg3 hb3
      have hb3' : Below w.heap.size w w3 := (hb1.alloc (by omega) _).trans hb3
      have hit3 : Hid _ := iter_kept (iter_alloc hit1.out _) (hown1.alloc _) hg3
      clear hb3 hg3 hown1 hit1 hnx
      have hpo3 : Hid (w3.iterPos w.heap.size = pos + k) := by show _ = _; simp only [World.iterPos, hit3.out]
      go_wp2
      go_roundw
      case rel => exact ⟨pos + k, ag3, c3, m + 1, ls ++ [(r : Int)], rfl, by omega, by omega, by simpa using hown4, hit3, hS', hb3'⟩
      case measure =>
        rw [hpo3.out, Hpo.out]
        omega
    · have hE : Hid (allU zs = ls) := by show _ = _; rw [hS.out, List.drop_of_length_le (by omega), all_nil, List.append_nil]
      have hnx : ∀ ty, (Instr.next (.pointer (some ⟨w.heap.size, 0, none⟩)) true ty).run Tryd.prog wr = .ok (.tuple #[.bool false]) wr := fun ty => Lib.run_next_end_at wr w.heap.size (strOfNums zs) pos ty hit.out (by omega)
      clear hS hit
      go_wp2
      go_ret
      rw [hE.out]
      exact ⟨ag, c, m, rfl, hml.symm, hown, hb⟩
#print axioms uall_own
end Go.Proofs.YtdhbbknjnbdplaaDoor
