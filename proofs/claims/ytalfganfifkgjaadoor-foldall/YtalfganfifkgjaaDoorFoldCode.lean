/- The landed fold.Text: a range over the text's runes, each folded, into a strings.Builder. -/
import Derived.Test.YtalfganfifkgjaaDoorFoldLetter
import Derived.Test.YtalfganfifkgjaaDoorStrBuild
import Derived.Test.YtalfganfifkgjaaDoorUtfConv
import Derived.Test.YtalfganfifkgjaaDoorInfos
namespace Go.Proofs.YtalfganfifkgjaaDoor
open Go.RowKit
set_option linter.unusedVariables false

theorem rune_enc (r : Int) : Lib.encodeRuneZ r = encU r := by
  by_cases h0 : 0 ≤ r ∧ r ≤ 127
  · obtain ⟨n, rfl⟩ := Int.eq_ofNat_of_zero_le h0.1
    rw [Lib.encodeRuneZ_one h0.1 h0.2, encU, fixN, if_pos (by simp only [Utf8.valid, Bool.or_eq_true, Bool.and_eq_true, decide_eq_true_eq]; omega), encN, if_pos (by omega)]
    simp
  by_cases h1 : 128 ≤ r ∧ r ≤ 2047
  · obtain ⟨n, rfl⟩ := Int.eq_ofNat_of_zero_le (show 0 ≤ r by omega)
    rw [Lib.encodeRuneZ_two h1.1 h1.2, encU, fixN, if_pos (by simp only [Utf8.valid, Bool.or_eq_true, Bool.and_eq_true, decide_eq_true_eq]; omega), encN, if_neg (by omega), if_pos (by omega)]
    simp
  by_cases h2 : (2048 ≤ r ∧ r < 55296) ∨ (57343 < r ∧ r ≤ 65535)
  · obtain ⟨n, rfl⟩ := Int.eq_ofNat_of_zero_le (show 0 ≤ r by omega)
    rw [Lib.encodeRuneZ_three h2, encU, fixN, if_pos (by simp only [Utf8.valid, Bool.or_eq_true, Bool.and_eq_true, decide_eq_true_eq]; omega), encN, if_neg (by omega), if_neg (by omega), if_pos (by omega)]
    simp
  by_cases h3 : 65536 ≤ r ∧ r ≤ 1114111
  · obtain ⟨n, rfl⟩ := Int.eq_ofNat_of_zero_le (show 0 ≤ r by omega)
    rw [Lib.encodeRuneZ_four h3.1 h3.2, encU, fixN, if_pos (by simp only [Utf8.valid, Bool.or_eq_true, Bool.and_eq_true, decide_eq_true_eq]; omega), encN, if_neg (by omega), if_neg (by omega), if_neg (by omega)]
    simp
  · rw [Lib.encodeRuneZ_bad (by omega), encU, fixN, if_neg (by simp only [Utf8.valid, Bool.or_eq_true, Bool.and_eq_true, decide_eq_true_eq]; omega)]
    rfl
theorem rune_cells (r : Int) : Lib.runeCells r = (encU r).map (.int .u8) := by rw [← rune_enc]; rfl

theorem builder_later {T e : TypeId} {B b : Nat} {bs : List Value} {w w' : World} (h : Lib.IsBuilderF T e B b bs w) (hb : Below w.heap.size w w') : Lib.IsBuilderF T e B b bs w' := by
  have key : ∀ p, Lib.BuilderAtF T e B b p bs w → Lib.BuilderAtF T e B b p bs w' := by
    rintro p ⟨h1, v, h2, h3, h4⟩
    refine ⟨h1, v, ?_, ⟨h3.1, ?_⟩, h4⟩
    · rw [hb.block b (Array.getElem?_eq_some_iff.1 h2).1]; exact h2
    · rcases h3.2 with hn | ⟨g, cap, cur, fz, hv, hg, hc, rest⟩
      · exact .inl hn
      · refine .inr ⟨g, cap, cur, fz, hv, hg, ?_, rest⟩
        rw [hb.block g (Array.getElem?_eq_some_iff.1 hc).1]; exact hc
  exact h.imp (key _) (key _)

theorem cells_bytes (l : List Int) (h : isBytes l) : Lib.byteCells (l.map fun n => UInt8.ofNat n.toNat) = l.map (.int .u8) := by
  unfold Lib.byteCells
  rw [List.map_map]
  refine List.map_congr_left fun z hz => ?_
  have := h z hz
  have e : (UInt8.ofNat z.toNat).toNat = z.toNat := by rw [UInt8.toNat_ofNat']; omega
  show Value.int .u8 ((UInt8.ofNat z.toNat).toNat : Int) = Value.int .u8 z
  rw [e]; congr 1; omega

theorem iter_later {w w' : World} {k p : Nat} {s : ByteArray} (hk : w.heap[k]? = some (.stringIter s p)) (hb : Below w.heap.size w w') : w'.heap[k]? = some (.stringIter s p) := by
  rw [hb.block k (Array.getElem?_eq_some_iff.1 hk).1]; exact hk

set_option maxRecDepth 100000 in
set_option maxHeartbeats 4000000 in
theorem ftext_any (zs : List Int) (w : World) (h8 : isBytes zs) (hlen : zs.length ≤ 100000) (ht : Tabs w := by first | assumption | exact Tabs.grow (by assumption) (by assumption)) :
    Calls Tryd.prog 15 #[.string (strOfNums zs)] w fun e w' => e = .returned (.string (strOfNums (textF zs))) ∧ Below w.heap.size w w' := by
  generalize hl : zs.length = len at hlen
  go_enter Tryd.func15, Tryd.ntmps15
  go_wp2_with fail
  go_loopw [] (fun wr => ∃ (pos : Nat) (acc : List Int), pos ≤ len ∧ acc.length ≤ 4 * pos ∧ isBytes acc ∧ Lib.IsBuilderF 41 5 w.heap.size w.heap.size (acc.map (.int .u8)) wr ∧ Hid (wr.heap[w.heap.size + 1]? = some (.stringIter (strOfNums zs) pos)) ∧
      Hid (textF zs = acc ++ textU ((allU (zs.drop pos)).map foldF)) ∧ Below w.heap.size w wr) (fun wr => len - wr.iterPos (w.heap.size + 1))
  case atStart =>
    refine ⟨0, [], by omega, by simp, by simp [isBytes], (Lib.IsBuilderF.of (Lib.fresh_isBuilder 41 5 w)).alloc _, ?_, rfl, ((Below.refl _ w).alloc (Nat.le_refl _) _).alloc (by simp) _⟩
    show _ = _
    have := World.iter_heap (w.alloc (.cells #[.pointer none, .slice none 0 0] 41)) (strOfNums zs) 0
    simpa using this
  case round =>
    obtain ⟨pos, acc, hp, hal, h8a, hI, hit, hS, hb⟩ := hrel
    have hsz : w.heap.size + 1 < wr.heap.size := (Array.getElem?_eq_some_iff.1 hit.out).1
    have hss : (strOfNums zs).size = len := by rw [str_size, hl]
    by_cases hpos : pos < len
    · obtain ⟨r, hdec, hr1⟩ := decode_str zs h8 pos (by omega)
      have hrl := decode_le (strOfNums zs) pos
      rw [hdec] at hrl
      have hnx : ∀ ty, (Instr.next (.pointer (some ⟨w.heap.size + 1, 0, none⟩)) true ty).run Tryd.prog wr = .ok (.tuple #[.bool true, .int .i64 pos, .int .i32 r]) (wr.iterAt (w.heap.size + 1) (strOfNums zs) (pos + (oneU (zs.drop pos)).2)) := fun ty => by
        have := Lib.run_next_any_at (P := Tryd.prog) wr (w.heap.size + 1) (strOfNums zs) pos ty hit.out (by omega)
        rw [hdec] at this
        exact this
      have hne : zs.drop pos ≠ [] := by intro h; have := congrArg List.length h; simp at this; omega
      have ho1 := one_pos (zs.drop pos)
      have ho2 := one_le hne
      rw [List.length_drop, hl] at ho2
      have hS' : Hid (textF zs = (acc ++ encU (foldF r)) ++ textU ((allU (zs.drop (pos + (oneU (zs.drop pos)).2))).map foldF)) := by
        show _ = _
        rw [hS.out, all_step hne, hr1, List.drop_drop]; simp [textU]
      generalize (oneU (zs.drop pos)).2 = k at hnx ho1 ho2 hS'
      have hI1 := hI.iterAt hit.out (pos + k)
      have hit1 : Hid _ := Lib.iterAt_heap wr (w.heap.size + 1) (strOfNums zs) pos (pos + k) hit.out
      have hb1 := Lib.below_iterAt hb (k := w.heap.size + 1) (by omega) (strOfNums zs) (pos + k)
      have hpo : wr.iterPos (w.heap.size + 1) = pos := by simp only [World.iterPos, hit.out]
      have Hpo : Hid _ := hpo
      have hsz1 : w.heap.size + 1 < (wr.iterAt (w.heap.size + 1) (strOfNums zs) (pos + k)).heap.size := by rw [Lib.iterAt_size]; exact hsz
      have ht1 : Tabs (wr.iterAt (w.heap.size + 1) (strOfNums zs) (pos + k)) := ht.grow hb1
      clear hS hI hit hb hdec hr1 hne hss hpo hsz
      generalize wr.iterAt (w.heap.size + 1) (strOfNums zs) (pos + k) = wi at hnx hI1 hit1 hb1 hsz1 ht1
      have hfi := fold_i32 (r : Int) (by omega)
      go_wp2_with fail
      refine (ffold_any (r : Int) _ (by omega) ht1).mono ?_
      rintro e wf ⟨rfl, hbf⟩
      have hI2 := builder_later hI1 hbf
      have hit2 := iter_later hit1.out hbf
      have hszf := hbf.size
      have hb2 : Below w.heap.size w wf := hb1.trans (hbf.mono (by omega))
      generalize foldF (r : Int) = q at hfi hS'
      clear hnx ht1
      go_wp2_with fail
      refine (bwrite_any w.heap.size w.heap.size _ q hfi.1 hfi.2 _ hI2 (by rw [List.length_map]; omega) (by omega)).mono ?_
      rintro e wg ⟨rfl, hI3, hb3, hk3⟩
      have hit3 : Hid _ := hk3.iter hit2 (by omega)
      have hpo3 : Hid (wg.iterPos (w.heap.size + 1) = pos + k) := by show _ = _; simp only [World.iterPos, hit3.out]
      have hB3 := hb2.trans hb3
      have hq := Lib.runeCells_le q
      rw [rune_cells, List.length_map] at hq
      rw [rune_cells, ← List.map_append] at hI3
      have h8b := encU_bytes q
      go_wp2
      go_roundw
      case rel =>
        refine ⟨pos + k, acc ++ encU q, by omega, by rw [List.length_append]; omega, ?_, Or.inr hI3, hit3, hS', hB3⟩
        intro z hz
        rcases List.mem_append.1 hz with h | h
        · exact h8a z h
        · exact h8b z h
      case measure =>
        rw [hpo3.out, Hpo.out]
        omega
    · have hE : Hid (textF zs = acc) := by show _ = _; rw [hS.out, List.drop_of_length_le (by omega), all_nil]; simp [textU]
      have hnx : ∀ ty, (Instr.next (.pointer (some ⟨w.heap.size + 1, 0, none⟩)) true ty).run Tryd.prog wr = .ok (.tuple #[.bool false]) wr := fun ty => Lib.run_next_end_at wr (w.heap.size + 1) (strOfNums zs) pos ty hit.out (by omega)
      rw [← cells_bytes acc h8a] at hI
      clear hS hit
      go_wp2_with fail
      refine (bstring_any w.heap.size w.heap.size (acc.map fun n => UInt8.ofNat n.toNat) _ hI (by omega)).mono ?_
      rintro e wg ⟨rfl, _, hb3, _⟩
      go_wp2
      go_ret
      rw [hE.out]
      exact ⟨rfl, hb.trans hb3⟩
#print axioms ftext_any
end Go.Proofs.YtalfganfifkgjaaDoor
