/- The landed words: its small functions. -/
import Derived.Test.YtdhbbknjnbdplaaDoorRef06All
import Derived.Test.YtdhbbknjnbdplaaDoorFoldLetter
import Derived.Test.YtdhbbknjnbdplaaDoorLibSlices
import Derived.Test.YtdhbbknjnbdplaaDoorStepRow
import Derived.Deep.RegionHeld
import Derived.Deep.RegionWith
namespace Go.Proofs.YtdhbbknjnbdplaaDoor
open Go.RowKit
set_option linter.unusedVariables false
set_option linter.unusedSimpArgs false

/-- A slice literal is a row of the call's own. -/
theorem own_new (W : World) (xs : List Value) (e : TypeId) {base : Nat} (hb : base ≤ W.heap.size) (h : xs.length ≤ maxLen) :
    (W.alloc (.cells xs.toArray e)).ownsRow base e 1 (.slice (some ⟨W.heap.size, 0, none⟩) xs.length xs.length) xs.length xs :=
  ⟨by omega, .inr ⟨W.heap.size, xs.length, xs.toArray, rfl, hb, heap_alloc_new _ _, Nat.le_refl _, h, by simp, by simp⟩⟩
theorem own_new' (W : World) (x : Value) (e : TypeId) {base b : Nat} (he : b = W.heap.size) (hb : base ≤ W.heap.size) : (W.alloc (.cells #[x] e)).ownsRow base e 1 (.slice (some ⟨b, 0, none⟩) 1 1) 1 [x] := by
  subst he
  exact own_new W [x] e hb (by show 1 ≤ maxLen; decide)
theorem cell_later {w w' : World} {a : Addr} {v : Value} (h : w.cell? a = some v) (hb : Below w.heap.size w w') : w'.cell? a = some v := by
  rw [hb.cell (World.block_lt_of_cell? w _ h)]; exact h

/-- A block of three cells: what it holds, and what it holds behind a store of all three. -/
theorem blk3 {w : World} {b : Nat} {x y z : Value} {t : TypeId} (h : w.heap[b]? = some (.cells #[x, y, z] t (0, 0))) :
    w.cell? ⟨b, 0, none⟩ = some x ∧ w.cell? ⟨b, 1, none⟩ = some y ∧ w.cell? ⟨b, 2, none⟩ = some z ∧ w.frozen? ⟨b, 0, none⟩ = false ∧ w.frozen? ⟨b, 1, none⟩ = false ∧ w.frozen? ⟨b, 2, none⟩ = false := by
  refine ⟨?_, ?_, ?_, ?_, ?_, ?_⟩ <;> simp [World.cell?, World.frozen?, h]
theorem blk3_one {w : World} {b : Nat} {x y z : Value} {t : TypeId} (h : w.heap[b]? = some (.cells #[x, y, z] t (0, 0))) (i : Nat) (u : Value) :
    (w.setCell ⟨b, i, none⟩ u).heap[b]? = some (.cells (#[x, y, z].setIfInBounds i u) t (0, 0)) := by
  have hlt := lt_of_block h
  have h' : w.heap[b] = .cells #[x, y, z] t (0, 0) := by simpa [Array.getElem?_eq_getElem hlt] using h
  show (w.heap.modify b _)[b]? = _
  rw [Array.getElem?_eq_getElem (by simpa using hlt), Array.getElem_modify_self, h']
  rfl
theorem blk3_set {w : World} {b : Nat} {x y z : Value} {t : TypeId} (h : w.heap[b]? = some (.cells #[x, y, z] t (0, 0))) (x' y' z' : Value) :
    (((w.setCell ⟨b, 0, none⟩ x').setCell ⟨b, 1, none⟩ y').setCell ⟨b, 2, none⟩ z').heap[b]? = some (.cells #[x', y', z'] t (0, 0)) :=
  blk3_one (blk3_one (blk3_one h 0 x') 1 y') 2 z'

theorem own_set3 {w : World} {base e n b : Nat} {v : Value} {xs : List Value} (h : w.ownsRow base e 1 v n xs) (hb : v.ownBlock ≠ some b) (x y z : Value) : (((w.setCell ⟨b, 0, none⟩ x).setCell ⟨b, 1, none⟩ y).setCell ⟨b, 2, none⟩ z).ownsRow base e 1 v n xs :=
  ownsRow_setCell_other (ownsRow_setCell_other (ownsRow_setCell_other h hb x) hb y) hb z
theorem own_not {w : World} {base e n b : Nat} {v : Value} {xs : List Value} (h : w.ownsRow base e 1 v n xs) (hb : b < base) : v.ownBlock ≠ some b := fun hv => by have := (h.lt _ hv).1; omega
/-- A row does not lie in a block of another element's type. -/
theorem own_type {w : World} {base e n b t : Nat} {v : Value} {xs : List Value} {cs : Array Value} {fr : Nat × Nat} (h : w.ownsRow base e 1 v n xs) (hb : w.heap[b]? = some (.cells cs t fr)) (ht : e ≠ t) : v.ownBlock ≠ some b := fun hv => by
  rcases h.2 with ⟨rfl, _⟩ | ⟨g, cap, cur, rfl, _, hg, _⟩
  · simp [Value.ownBlock] at hv
  · simp only [Value.ownBlock, Option.some.injEq] at hv
    subst hv
    rw [hb] at hg
    simp at hg
    exact ht hg.2.1.symm

/-- A State that lies in a block, taken by value; and the end of a function whose result lies so. -/
theorem load_state {w : World} {b : Nat} {x y z : Value} {t : TypeId} (h : w.heap[b]? = some (.cells #[x, y, z] t (0, 0))) : (loadVar 32 ⟨b, 0, none⟩).run Tryd.prog w = .ok (.agg #[x, y, z]) w := by
  obtain ⟨h0, h1, h2, _, _, _⟩ := blk3 h
  simp [loadVar, Tryd.isAgg32, Tryd.sizeOf32, loadCells, loadCellsFrom, go_sem, h0, h1, h2]

set_option maxRecDepth 100000 in
theorem wbegun_any (ao : Option Addr) (len cap : Nat) (m l : Bool) (w : World) :
    Calls Tryd.prog 56 #[.agg #[.slice ao len cap, .bool m, .bool l]] w fun e w' => e = .returned (.bool (l || decide (0 < len))) ∧ Below w.heap.size w w' := by
  have hb : Below w.heap.size w (w.alloc (.cells #[.slice ao len cap, .bool m, .bool l] 32)) := (Below.refl _ _).alloc (Nat.le_refl _) _
  cases l <;>
  · go_enter Tryd.func56, Tryd.ntmps56
    go_wp2
    go_ret
    exact ⟨by simp, hb⟩
#print axioms wbegun_any
theorem wbegun_pos (ao : Option Addr) (len cap : Nat) (m l : Bool) (w : World) (h : l = true ∨ 0 < len) :
    Calls Tryd.prog 56 #[.agg #[.slice ao len cap, .bool m, .bool l]] w fun e w' => e = .returned (.bool true) ∧ Below w.heap.size w w' :=
  (wbegun_any ao len cap m l w).mono fun e w' ⟨he, hb⟩ => ⟨by rw [he]; rcases h with h | h <;> simp [h], hb⟩

set_option maxRecDepth 100000 in
theorem wended_any (ao : Option Addr) (len cap : Nat) (ws : List Int) (m l : Bool) (w : World) (hr : Reads w ao len cap (ws.map (.int .i32))) :
    Calls Tryd.prog 57 #[.agg #[.slice ao len cap, .bool m, .bool l]] w fun e w' => ∃ ag c k, e = .returned (.slice ag k c) ∧ k = (tellW ⟨ws, m, l⟩).length ∧
      w'.ownsRow w.heap.size 9 1 (.slice ag k c) k ((tellW ⟨ws, m, l⟩).map wordV) ∧ Below w.heap.size w w' := by
  have hl : ws.length = len := by simpa using hr.length
  have hb : Below w.heap.size w (w.alloc (.cells #[.slice ao len cap, .bool m, .bool l] 32)) := (Below.refl _ _).alloc (Nat.le_refl _) _
  by_cases h0 : len = 0
  · subst h0
    have : ws = [] := List.eq_nil_of_length_eq_zero hl
    subst this
    go_enter Tryd.func57, Tryd.ntmps57
    go_wp2
    go_ret
    exact ⟨none, 0, 0, rfl, rfl, World.ownsRow_nil _ _ _ _, hb⟩
  · have hne : ((len : Int) == 0) = false := by simp; omega
    have hT : Hid (tellW ⟨ws, m, l⟩ = [ws]) := by show _ = _; unfold tellW; rw [if_neg]; intro h; simp only at h; rw [h] at hl; simp at hl; omega
    have v1 := conv_runes Tryd.underlying9 Tryd.underlying28 Tryd.underlying21 (hr.later hb (Nat.le_refl _))
    clear h0
    go_enter Tryd.func57, Tryd.ntmps57
    go_wp2
    go_ret
    rw [hT.out]
    exact ⟨_, 1, 1, rfl, rfl, own_new' _ _ _ (by simp) hb.size, hb.alloc hb.size _⟩
#print axioms wended_any

set_option maxRecDepth 100000 in
theorem cloneR_any (ao : Option Addr) (len cap : Nat) (zs : List Int) (w : World) (hr : Reads w ao len cap (zs.map (.int .i32))) (hlen : len ≤ 10000000000000) :
    Calls Tryd.prog 62 #[.slice ao len cap] w fun e w' => ∃ ag c, e = .returned (.slice ag len c) ∧ w'.ownsRow w.heap.size 21 1 (.slice ag len c) len (zs.map (.int .i32)) ∧ Below w.heap.size w w' := by
  cases ao with
  | none =>
    obtain ⟨rfl, rfl⟩ := hr.bare rfl
    have : zs = [] := List.eq_nil_of_length_eq_zero (by simpa using hr.length)
    subst this
    have hnil := fun W => Lib.run_eql_slice_nil (P := Tryd.prog) W 28 21 none 0 0 0 0 Tryd.underlying28
    go_enter Tryd.func62, Tryd.ntmps62
    go_wp2
    go_ret
    exact ⟨none, 0, rfl, World.ownsRow_nil _ _ _ _, Below.refl _ _⟩
  | some ad =>
    have mx : len ≤ maxLen := by unfold maxLen; omega
    have hnil := fun W => Lib.run_eql_slice_nil (P := Tryd.prog) W 28 21 (some ad) len cap 0 0 Tryd.underlying28
    go_enter Tryd.func62, Tryd.ntmps62
    go_wp2_with (at_builtin; refine wpList_append_reads rfl (.tmp 5) (.tmp 6) 28 rfl w.heap.size 21 Tryd.infoRune rfl Tryd.underlying28 _ _ _ _ rfl (ownsRow_empty w 21) _ _ _ _ rfl (hr.later ((Below.refl w.heap.size w).alloc (Nat.le_refl _) _) (Nat.le_refl _)) (ints_oneCell _ _) (by omega) (by omega) (by simp) ?_)
    intro ag c2 wc hown2 hb3
    have hb2 : Below w.heap.size w wc := Below.trans ((Below.refl w.heap.size w).alloc (Nat.le_refl _) _) hb3
    clear hb3
    go_wp2
    go_ret
    exact ⟨ag, c2, by simp, by simpa using hown2, hb2⟩
#print axioms cloneR_any

set_option maxRecDepth 100000 in
set_option maxHeartbeats 1000000 in
theorem wsettled_any (ao : Option Addr) (len cap : Nat) (u : UnderW) (w : World) (hr : Reads w ao len cap (u.word.map (.int .i32))) (hok : OkW u) :
    Calls Tryd.prog 50 #[.agg #[.slice ao len cap, .bool u.mark, .bool u.long]] w fun e w' => ∃ bg d k, e = .returned (.agg #[.slice bg k d, .bool u.mark, .bool u.long]) ∧ k = u.word.length ∧
      w'.ownsRow w.heap.size 21 1 (.slice bg k d) k (u.word.map (.int .i32)) ∧ Below w.heap.size w w' := by
  have hl : u.word.length = len := by simpa using hr.length
  have hshort := hok.short
  cases hL : u.long with
  | true =>
    have hw := hok.long hL
    rw [hw]
    generalize hm : u.mark = mk
    have hb : Below w.heap.size w ((w.alloc (.cells #[.slice ao len cap, .bool mk, .bool true] 32)).alloc (.cells #[.slice none 0 0, .bool mk, .bool true] 32)) := ((Below.refl _ _).alloc (Nat.le_refl _) _).alloc (by simp) _
    go_enter Tryd.func50, Tryd.ntmps50
    go_wp2
    refine bodyPost_ret (v := .agg #[.slice none 0 0, .bool mk, .bool true]) ?_ rfl ⟨none, 0, 0, rfl, rfl, World.ownsRow_nil _ _ _ _, hb⟩
    rw [results_cell_one rfl]
    simp only [Array.getD_eq_getD_getElem?, List.getElem?_toArray, asAddr, Sem.run_pure, Result.andThen_ok]
    exact load_state (heap_alloc2_new _ _ _)
  | false =>
    have hle : decide (32 < (len : Int)) = false := by rw [decide_eq_false_iff_not]; omega
    cases hM : u.mark with
    | false =>
      have hbW : Below w.heap.size w ((w.alloc (.cells #[.slice ao len cap, .bool false, .bool false] 32)).alloc (.cells #[.slice none 0 0, .bool false, .bool false] 32)).drew := (((Below.refl _ _).alloc (Nat.le_refl _) _).alloc (by simp) _).drew
      have k0 := heap_alloc2_old w (.cells #[.slice ao len cap, .bool false, .bool false] 32) (.cells #[.slice none 0 0, .bool false, .bool false] 32)
      have k1 := heap_alloc2_new w (.cells #[.slice ao len cap, .bool false, .bool false] 32) (.cells #[.slice none 0 0, .bool false, .bool false] 32)
      go_enter Tryd.func50, Tryd.ntmps50
      go_wp2_with fail
      first | go_region_with (go_at_call 62; refine (cloneR_any _ _ _ u.word _ (hr.later hbW (Nat.le_refl _)) (by omega)).mono ?_; rintro e wc ⟨ag, c, rfl, hown, hbc⟩; have j0 := blk3 ((hbc.block _ (by simp; omega)).trans k0); have j1 := (hbc.block _ (by simp)).trans k1; have j2 := blk3 j1) | fail
      all_goals (
        have hbe : Below w.heap.size w (((wc.setCell ⟨w.heap.size + 1, 0, none⟩ (.slice ag len c)).setCell ⟨w.heap.size + 1, 1, none⟩ (.bool false)).setCell ⟨w.heap.size + 1, 2, none⟩ (.bool false)) := (((Below.trans hbW (hbc.mono (by simp; omega))).setCell (by simp) _).setCell (by simp) _).setCell (by simp) _
        have hoe := own_set3 (own_mono hown (show w.heap.size ≤ _ by simp; omega)) (b := w.heap.size + 1) (own_not hown (by simp)) (.slice ag len c) (.bool false) (.bool false)
        have hld := load_state (blk3_set j1 (.slice ag len c) (.bool false) (.bool false))
        clear hbW k0 k1 hbc j0 j1 j2 hown hr
        go_wp2
        refine bodyPost_ret (v := .agg #[.slice ag len c, .bool false, .bool false]) ?_ rfl ⟨ag, c, len, rfl, hl.symm, hoe, hbe⟩
        rw [results_cell_one rfl]
        simp only [Array.getD_eq_getD_getElem?, List.getElem?_toArray, asAddr, Sem.run_pure, Result.andThen_ok]
        exact hld)
    | true =>
      have hpos : false = true ∨ 0 < len := by
        rcases hok.mark hM with h | h
        · exact .inr (by rw [← hl]; exact List.length_pos_iff.2 h)
        · rw [hL] at h; cases h
      have hbW : Below w.heap.size w ((w.alloc (.cells #[.slice ao len cap, .bool true, .bool false] 32)).alloc (.cells #[.slice none 0 0, .bool false, .bool false] 32)).drew := (((Below.refl _ _).alloc (Nat.le_refl _) _).alloc (by simp) _).drew
      have k0 := heap_alloc2_old w (.cells #[.slice ao len cap, .bool true, .bool false] 32) (.cells #[.slice none 0 0, .bool false, .bool false] 32)
      have k1 := heap_alloc2_new w (.cells #[.slice ao len cap, .bool true, .bool false] 32) (.cells #[.slice none 0 0, .bool false, .bool false] 32)
      go_enter Tryd.func50, Tryd.ntmps50
      go_wp2_with fail
      first | go_region_with (first | (go_at_call 62; refine (cloneR_any _ _ _ u.word _ (hr.later hbW (Nat.le_refl _)) (by omega)).mono ?_; rintro e wc ⟨ag, c, rfl, hown, hbc⟩; have j0 := blk3 ((hbc.block _ (by simp; omega)).trans k0); have j1 := (hbc.block _ (by simp)).trans k1) | (go_at_call 56; refine (wbegun_pos _ _ _ _ _ _ hpos).mono ?_; rintro e wd ⟨rfl, hbd⟩; have i1 := (hbd.block _ (lt_of_block j1)).trans j1; have i2 := blk3 i1)) | fail
      all_goals (
        have hbe : Below w.heap.size w (((wd.setCell ⟨w.heap.size + 1, 0, none⟩ (.slice ag len c)).setCell ⟨w.heap.size + 1, 1, none⟩ (.bool true)).setCell ⟨w.heap.size + 1, 2, none⟩ (.bool false)) := (((Below.trans (Below.trans hbW (hbc.mono (by simp; omega))) (hbd.mono (Nat.le_trans hbW.size hbc.size))).setCell (by simp) _).setCell (by simp) _).setCell (by simp) _
        have hoe := own_set3 (own_later (own_mono hown (show w.heap.size ≤ _ by simp; omega)) hbd (Nat.le_refl _)) (b := w.heap.size + 1) (own_not hown (by simp)) (.slice ag len c) (.bool true) (.bool false)
        have hld := load_state (blk3_set i1 (.slice ag len c) (.bool true) (.bool false))
        clear hbW k0 k1 hbc j0 j1 i1 i2 hown hr hbd hpos
        go_wp2
        refine bodyPost_ret (v := .agg #[.slice ag len c, .bool true, .bool false]) ?_ rfl ⟨ag, c, len, rfl, hl.symm, hoe, hbe⟩
        rw [results_cell_one rfl]
        simp only [Array.getD_eq_getD_getElem?, List.getElem?_toArray, asAddr, Sem.run_pure, Result.andThen_ok]
        exact hld)
#print axioms wsettled_any

/-- All blocks but those of one element's type are as they were. -/
structure KeptBut (e : TypeId) (w w' : World) : Prop where
  size : w.heap.size ≤ w'.heap.size
  kept : ∀ (k : Nat) (cs : Array Value) (t : TypeId) (fr : Nat × Nat), w.heap[k]? = some (Obj.cells cs t fr) → t ≠ e → w'.heap[k]? = some (Obj.cells cs t fr)
theorem KeptBut.refl (e : TypeId) (w : World) : KeptBut e w w := ⟨Nat.le_refl _, fun _ _ _ _ h _ => h⟩
theorem KeptBut.trans {e : TypeId} {a b c : World} (h : KeptBut e a b) (k : KeptBut e b c) : KeptBut e a c := ⟨Nat.le_trans h.size k.size, fun i cs t fr hi ht => k.kept i cs t fr (h.kept i cs t fr hi ht) ht⟩
theorem KeptBut.below {e : TypeId} {w w' : World} (h : Below w.heap.size w w') : KeptBut e w w' := ⟨h.size, fun k cs t fr hk _ => by rw [h.block k (lt_of_block hk)]; exact hk⟩
theorem KeptBut.grown {e base n : Nat} {w w' : World} {v : Value} {xs : List Value} (h : w.ownsRow base e 1 v n xs) (hg : w.grownBy w' v.ownBlock) : KeptBut e w w' :=
  ⟨hg.size, fun k cs t fr hk ht => by rw [hg.block k (lt_of_block hk) (fun he => own_type h hk (Ne.symm ht) he.symm)]; exact hk⟩
theorem KeptBut.setCell {e : TypeId} {w w' : World} (h : KeptBut e w w') {a : Addr} (ha : w.heap.size ≤ a.block) (u : Value) : KeptBut e w (w'.setCell a u) :=
  ⟨by simpa using h.size, fun k cs t fr hk ht => by rw [Below.heap_setCell _ _ _ _ (by have := lt_of_block hk; omega)]; exact h.kept k cs t fr hk ht⟩
theorem own_kept {e base t n : Nat} {w w' : World} {v : Value} {xs : List Value} (h : w.ownsRow base t 1 v n xs) (hk : KeptBut e w w') (ht : t ≠ e) : w'.ownsRow base t 1 v n xs := by
  refine ⟨h.1, ?_⟩
  rcases h.2 with hn | ⟨g, cap, cur, hv, hb, hg, r⟩
  · exact .inl hn
  · exact .inr ⟨g, cap, cur, hv, hb, hk.kept _ _ _ _ hg ht, r⟩
end Go.Proofs.YtdhbbknjnbdplaaDoor
