/- The landed words: longer, the closure of Feed, Feed, End, All. -/
import Derived.Test.YtdhbbknjnbdplaaDoorWordsCode
import Derived.Deep.QuietTactic
namespace Go.Proofs.YtdhbbknjnbdplaaDoor
open Go.RowKit
set_option linter.unusedVariables false
set_option linter.unusedSimpArgs false

theorem reads_one' {W : World} {x : Value} {t : TypeId} {b : Nat} (he : b = W.heap.size) : Reads (W.alloc (.cells #[x] t)) (some ⟨b, 0, none⟩) 1 1 [x] := by subst he; exact reads_one W x t

/-- A stretch with one rune more. -/
def longW (u : UnderW) (f : Int) : UnderW := if u.long = true ∨ 32 < (u.word ++ (if u.mark then [39] else []) ++ [f]).length then ⟨[], false, true⟩ else ⟨u.word ++ (if u.mark then [39] else []) ++ [f], false, false⟩
theorem longW_mark (u : UnderW) (f : Int) : (longW u f).mark = false := by unfold longW; (repeat' split) <;> rfl

set_option maxRecDepth 100000 in
set_option maxHeartbeats 1000000 in
theorem wlonger_any (base : Nat) (bg : Option Addr) (k d : Nat) (u : UnderW) (f : Int) (w : World) (hown : w.ownsRow base 21 1 (.slice bg k d) k (u.word.map (.int .i32))) (hok : OkW u) (hbase : base ≤ w.heap.size) :
    Calls Tryd.prog 53 #[.agg #[.slice bg k d, .bool u.mark, .bool u.long], .int .i32 f] w fun e w' => ∃ bg' d' k', e = .returned (.agg #[.slice bg' k' d', .bool false, .bool (longW u f).long]) ∧ k' = (longW u f).word.length ∧
      w'.ownsRow base 21 1 (.slice bg' k' d') k' ((longW u f).word.map (.int .i32)) ∧ KeptBut 21 w w' ∧ Below base w w' := by
  have hl : u.word.length = k := by have := hown.1; simpa using this
  have hshort := hok.short
  cases hL : u.long with
  | true =>
    have hE : Hid (longW u f = ⟨[], false, true⟩) := by show _ = _; unfold longW; rw [if_pos (.inl hL)]
    generalize hm : u.mark = mk
    have hb0 : Below w.heap.size w ((w.alloc (.cells #[.slice bg k d, .bool mk, .bool true] 32)).alloc (.cells #[.slice none 0 0, .bool false, .bool true] 32)) := ((Below.refl _ _).alloc (Nat.le_refl _) _).alloc (by simp) _
    go_enter Tryd.func53, Tryd.ntmps53
    go_wp2
    refine bodyPost_ret (v := .agg #[.slice none 0 0, .bool false, .bool true]) ?_ rfl ⟨none, 0, 0, by rw [hE.out], by rw [hE.out]; rfl, by rw [hE.out]; exact World.ownsRow_nil _ _ _ _, KeptBut.below hb0, hb0.mono hbase⟩
    rw [results_cell_one rfl]
    simp only [Array.getD_eq_getD_getElem?, List.getElem?_toArray, asAddr, Sem.run_pure, Result.andThen_ok]
    exact load_state (heap_alloc2_new _ _ _)
  | false =>
    cases hM : u.mark with
    | false =>
      by_cases h32 : k = 32
      · have hE : Hid (longW u f = ⟨[], false, true⟩) := by show _ = _; unfold longW; rw [if_pos (.inr (by rw [hM]; simp; omega))]
        have hb0 : Below w.heap.size w ((w.alloc (.cells #[.slice bg k d, .bool false, .bool false] 32)).alloc (.cells #[.slice none 0 0, .bool false, .bool true] 32)) := ((Below.refl _ _).alloc (Nat.le_refl _) _).alloc (by simp) _
        have g1 : (32 : Int) ≤ k := by omega
        clear h32
        go_enter Tryd.func53, Tryd.ntmps53
        go_wp2
        refine bodyPost_ret (v := .agg #[.slice none 0 0, .bool false, .bool true]) ?_ rfl ⟨none, 0, 0, by rw [hE.out], by rw [hE.out]; rfl, by rw [hE.out]; exact World.ownsRow_nil _ _ _ _, KeptBut.below hb0, hb0.mono hbase⟩
        rw [results_cell_one rfl]
        simp only [Array.getD_eq_getD_getElem?, List.getElem?_toArray, asAddr, Sem.run_pure, Result.andThen_ok]
        exact load_state (heap_alloc2_new _ _ _)
      · have hE : Hid (longW u f = ⟨u.word ++ [f], false, false⟩) := by show _ = _; unfold longW; rw [if_neg (by rw [hM, hL]; simp; omega), hM]; simp
        have g1 : (k : Int) < 32 := by omega
        have mx : k + 20 ≤ maxLen := by unfold maxLen; omega
        have hb0 : Below w.heap.size w ((w.alloc (.cells #[.slice bg k d, .bool false, .bool false] 32)).alloc (.cells #[.slice none 0 0, .bool false, .bool false] 32)) := ((Below.refl _ _).alloc (Nat.le_refl _) _).alloc (by simp) _
        have k1 := heap_alloc2_new w (.cells #[.slice bg k d, .bool false, .bool false] 32) (.cells #[.slice none 0 0, .bool false, .bool false] 32)
        have hown0 := own_later hown hb0 (Nat.le_refl _)
        go_enter Tryd.func53, Tryd.ntmps53
        go_wp2_with (at_builtin; refine wpList_append_grown rfl (.tmp 20) (.tmp 22) 28 rfl base 21 Tryd.infoRune rfl Tryd.underlying28 _ _ _ _ rfl (hown0.alloc _) _ _ _ _ rfl (reads_one' (by simp)) (ints_oneCell .i32 [f]) (by omega) (by omega) (by simp; omega) ?_)
        intro ag3 c3 w3 hown3 hg3 hb3
        have hkA : KeptBut 21 _ w3 := KeptBut.grown (hown0.alloc _) hg3
        have j1 := hkA.kept _ _ _ _ ((Below.heap_alloc _ _ _ (lt_of_block k1)).trans k1) (by decide)
        have hk3 : KeptBut 21 w w3 := KeptBut.trans (KeptBut.below (hb0.alloc hb0.size _)) hkA
        have hb3' : Below base w w3 := Below.trans ((hb0.alloc hb0.size _).mono hbase) hb3
        have j2 := blk3 j1
        have hoe := own_set3 (by simpa using hown3) (b := w.heap.size + 1) (own_type hown3 j1 (by decide)) (.slice ag3 (k + 1) c3) (.bool false) (.bool false)
        have hbe : Below base w (((w3.setCell ⟨w.heap.size + 1, 0, none⟩ (.slice ag3 (k + 1) c3)).setCell ⟨w.heap.size + 1, 1, none⟩ (.bool false)).setCell ⟨w.heap.size + 1, 2, none⟩ (.bool false)) := ((hb3'.setCell (by simp; omega) _).setCell (by simp; omega) _).setCell (by simp; omega) _
        have hke : KeptBut 21 w (((w3.setCell ⟨w.heap.size + 1, 0, none⟩ (.slice ag3 (k + 1) c3)).setCell ⟨w.heap.size + 1, 1, none⟩ (.bool false)).setCell ⟨w.heap.size + 1, 2, none⟩ (.bool false)) := ((hk3.setCell (by simp) _).setCell (by simp) _).setCell (by simp) _
        have hld := load_state (blk3_set j1 (.slice ag3 (k + 1) c3) (.bool false) (.bool false))
        clear hkA j1 hk3 hb3' hown3 hg3 hb3 hown0 hown k1 hb0
        go_wp2
        refine bodyPost_ret (v := .agg #[.slice ag3 (k + 1) c3, .bool false, .bool false]) ?_ rfl ⟨ag3, c3, k + 1, by rw [hE.out], by rw [hE.out]; simp; omega, by rw [hE.out]; simpa using hoe, hke, hbe⟩
        rw [results_cell_one rfl]
        simp only [Array.getD_eq_getD_getElem?, List.getElem?_toArray, asAddr, Sem.run_pure, Result.andThen_ok]
        exact hld
    | true =>
      have mx : k + 20 ≤ maxLen := by unfold maxLen; omega
      have hb0 : Below w.heap.size w ((w.alloc (.cells #[.slice bg k d, .bool true, .bool false] 32)).alloc (.cells #[.slice none 0 0, .bool false, .bool false] 32)) := ((Below.refl _ _).alloc (Nat.le_refl _) _).alloc (by simp) _
      have k1 := heap_alloc2_new w (.cells #[.slice bg k d, .bool true, .bool false] 32) (.cells #[.slice none 0 0, .bool false, .bool false] 32)
      have hown0 := own_later hown hb0 (Nat.le_refl _)
      by_cases h31 : 31 ≤ k
      · have hE : Hid (longW u f = ⟨[], false, true⟩) := by show _ = _; unfold longW; rw [if_pos (.inr (by rw [hM]; simp; omega))]
        have g1 : (32 : Int) ≤ (k : Int) + 1 := by omega
        have g2 : (32 : Int) ≤ ((k + 1 : Nat) : Int) := by omega
        clear h31
        go_enter Tryd.func53, Tryd.ntmps53
        go_wp2_with (at_builtin; refine wpList_append_grown rfl (.tmp 13) (.tmp 14) 28 rfl base 21 Tryd.infoRune rfl Tryd.underlying28 _ _ _ _ rfl (hown0.alloc _) _ _ _ _ rfl (reads_one' (by simp)) (ints_oneCell .i32 [39]) (by omega) (by omega) (by simp; omega) ?_)
        intro ag2 c2 w2 hown2 hg2 hb2
        have hkA : KeptBut 21 _ w2 := KeptBut.grown (hown0.alloc _) hg2
        have j1 := hkA.kept _ _ _ _ ((Below.heap_alloc _ _ _ (lt_of_block k1)).trans k1) (by decide)
        have hk2 : KeptBut 21 w w2 := KeptBut.trans (KeptBut.below (hb0.alloc hb0.size _)) hkA
        have hb2' : Below base w w2 := Below.trans ((hb0.alloc hb0.size _).mono hbase) hb2
        have hs2 := hk2.size
        have j2 := blk3 j1
        have hbe : Below base w (((w2.setCell ⟨w.heap.size + 1, 0, none⟩ (.slice none 0 0)).setCell ⟨w.heap.size + 1, 1, none⟩ (.bool false)).setCell ⟨w.heap.size + 1, 2, none⟩ (.bool true)) := ((hb2'.setCell (by simp; omega) _).setCell (by simp; omega) _).setCell (by simp; omega) _
        have hke : KeptBut 21 w (((w2.setCell ⟨w.heap.size + 1, 0, none⟩ (.slice none 0 0)).setCell ⟨w.heap.size + 1, 1, none⟩ (.bool false)).setCell ⟨w.heap.size + 1, 2, none⟩ (.bool true)) := ((hk2.setCell (by simp) _).setCell (by simp) _).setCell (by simp) _
        have hld := load_state (blk3_set j1 (.slice none 0 0) (.bool false) (.bool true))
        clear hkA j1 hk2 hb2' hown2 hg2 hb2 hown0 hown k1 hb0 hs2
        go_wp2
        refine bodyPost_ret (v := .agg #[.slice none 0 0, .bool false, .bool true]) ?_ rfl ⟨none, 0, 0, by rw [hE.out], by rw [hE.out]; rfl, by rw [hE.out]; exact World.ownsRow_nil _ _ _ _, hke, hbe⟩
        rw [results_cell_one rfl]
        simp only [Array.getD_eq_getD_getElem?, List.getElem?_toArray, asAddr, Sem.run_pure, Result.andThen_ok]
        exact hld
      · have hE : Hid (longW u f = ⟨u.word ++ [39] ++ [f], false, false⟩) := by show _ = _; unfold longW; rw [if_neg (by rw [hM, hL]; simp; omega), hM]; simp
        have g1 : (k : Int) + 1 < 32 := by omega
        have g2 : ((k + 1 : Nat) : Int) < 32 := by omega
        clear h31
        go_enter Tryd.func53, Tryd.ntmps53
        go_wp2_with (at_builtin; refine wpList_append_grown rfl (.tmp 13) (.tmp 14) 28 rfl base 21 Tryd.infoRune rfl Tryd.underlying28 _ _ _ _ rfl (hown0.alloc _) _ _ _ _ rfl (reads_one' (by simp)) (ints_oneCell .i32 [39]) (by omega) (by omega) (by simp; omega) ?_)
        intro ag2 c2 w2 hown2 hg2 hb2
        have hkA : KeptBut 21 _ w2 := KeptBut.grown (hown0.alloc _) hg2
        have j1 := hkA.kept _ _ _ _ ((Below.heap_alloc _ _ _ (lt_of_block k1)).trans k1) (by decide)
        have hk2 : KeptBut 21 w w2 := KeptBut.trans (KeptBut.below (hb0.alloc hb0.size _)) hkA
        have hb2' : Below base w w2 := Below.trans ((hb0.alloc hb0.size _).mono hbase) hb2
        have hs2 := hk2.size
        have hi1 : w2.heap[w.heap.size + 1]? = _ := j1
        clear hkA hg2 hb2 hown0 hown k1 hb0 j1
        go_wp2_with (at_builtin; refine wpList_append_grown rfl (.tmp 20) (.tmp 22) 28 rfl base 21 Tryd.infoRune rfl Tryd.underlying28 _ _ _ _ rfl (hown2.alloc _) _ _ _ _ rfl (reads_one' (by simp)) (ints_oneCell .i32 [f]) (by omega) (by omega) (by simp; omega) ?_)
        intro ag3 c3 w3 hown3 hg3 hb3
        have hkB : KeptBut 21 _ w3 := KeptBut.grown (hown2.alloc _) hg3
        have j1 := hkB.kept _ _ _ _ ((Below.heap_alloc _ _ _ (lt_of_block hi1)).trans hi1) (by decide)
        have hk3 : KeptBut 21 w w3 := KeptBut.trans hk2 (KeptBut.trans (KeptBut.below ((Below.refl _ _).alloc (Nat.le_refl _) _)) hkB)
        have hb3' : Below base w w3 := Below.trans (hb2'.alloc (Nat.le_trans hbase hs2) _) hb3
        have j2 := blk3 j1
        have hoe := own_set3 (by simpa using hown3) (b := w.heap.size + 1) (own_type hown3 j1 (by decide)) (.slice ag3 (k + 1 + 1) c3) (.bool false) (.bool false)
        have hbe : Below base w (((w3.setCell ⟨w.heap.size + 1, 0, none⟩ (.slice ag3 (k + 1 + 1) c3)).setCell ⟨w.heap.size + 1, 1, none⟩ (.bool false)).setCell ⟨w.heap.size + 1, 2, none⟩ (.bool false)) := ((hb3'.setCell (by simp; omega) _).setCell (by simp; omega) _).setCell (by simp; omega) _
        have hke : KeptBut 21 w (((w3.setCell ⟨w.heap.size + 1, 0, none⟩ (.slice ag3 (k + 1 + 1) c3)).setCell ⟨w.heap.size + 1, 1, none⟩ (.bool false)).setCell ⟨w.heap.size + 1, 2, none⟩ (.bool false)) := ((hk3.setCell (by simp) _).setCell (by simp) _).setCell (by simp) _
        have hld := load_state (blk3_set j1 (.slice ag3 (k + 1 + 1) c3) (.bool false) (.bool false))
        clear hkB j1 hk3 hb3' hown3 hg3 hb3 hown2 hk2 hb2' hi1 hs2
        go_wp2
        refine bodyPost_ret (v := .agg #[.slice ag3 (k + 1 + 1) c3, .bool false, .bool false]) ?_ rfl ⟨ag3, c3, k + 1 + 1, by rw [hE.out], by rw [hE.out]; simp; omega, by rw [hE.out]; simpa using hoe, hke, hbe⟩
        rw [results_cell_one rfl]
        simp only [Array.getD_eq_getD_getElem?, List.getElem?_toArray, asAddr, Sem.run_pure, Result.andThen_ok]
        exact hld
#print axioms wlonger_any
end Go.Proofs.YtdhbbknjnbdplaaDoor
