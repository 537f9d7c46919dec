/- The closure that reads numbers off what is left of bytes (token.Get: next(most)), and token.getWord. -/
import Derived.Test.YtdhbbknjnbdplaaDoorTokenCode
import Derived.Test.YtdhbbknjnbdplaaDoorTokenGetL
import Derived.Laws.OwnMore
namespace Go.Proofs.YtdhbbknjnbdplaaDoor
open Go.RowKit
set_option linter.unusedVariables false
set_option linter.unusedSimpArgs false

/-- What is left, in the variable that the closure holds: a part of the bytes that came in. -/
def RestAt (w0 w : World) (Br : Nat) (rs : List Int) : Prop :=
  ∃ rg rl rc, w.heap[Br]? = some (Obj.cells #[.slice rg rl rc] 22 (0, 0)) ∧ Reads w0 rg rl rc (rs.map (.int .u8)) ∧ Below w0.heap.size w0 w ∧ w0.heap.size ≤ Br
theorem RestAt.later {w0 w w' : World} {Br B : Nat} {rs : List Int} (h : RestAt w0 w Br rs) (hb : Below B w w') (hB : w.heap.size ≤ B) : RestAt w0 w' Br rs := by
  obtain ⟨rg, rl, rc, hc, hr, hl, hBr⟩ := h
  exact ⟨rg, rl, rc, (hb.block _ (Nat.lt_of_lt_of_le (lt_of_block hc) hB)).trans hc, hr, Below.trans hl (hb.mono (Nat.le_trans hl.size hB)), hBr⟩
/-- A store into another block of one's own. -/
theorem RestAt.other {w0 w : World} {Br g j : Nat} {rs : List Int} (h : RestAt w0 w Br rs) (hne : Br ≠ g) (hg : w0.heap.size ≤ g) (u : Value) : RestAt w0 (w.setCell ⟨g, j, none⟩ u) Br rs := by
  obtain ⟨rg, rl, rc, hc, hr, hl, hBr⟩ := h
  exact ⟨rg, rl, rc, (Below.heap_setCell _ _ _ _ hne).trans hc, hr, hl.setCell hg _, hBr⟩
theorem RestAt.blk {w0 w : World} {Br : Nat} {rs : List Int} (h : RestAt w0 w Br rs) : ∃ v, w.heap[Br]? = some (Obj.cells #[v] 22 (0, 0)) := by
  obtain ⟨rg, rl, rc, hc, _⟩ := h
  exact ⟨_, hc⟩
theorem RestAt.grow {w0 w : World} {Br : Nat} {rs : List Int} (h : RestAt w0 w Br rs) : Below w0.heap.size w0 w := by
  obtain ⟨rg, rl, rc, hc, hr, hl, hBr⟩ := h
  exact hl

/-- What the closure tells: a number, and what is left goes on; or none, and nothing has turned. -/
def NextOut (w0 w : World) (Br : Nat) (rs : List Int) (most : Nat) (e : Ending) (w' : World) : Prop :=
  ((getL rs).2.2 = 0 ∧ (getL rs).1 ≤ most ∧ e = .returned (.tuple #[.int .i64 ((getL rs).1 : Nat), .bool true]) ∧ RestAt w0 w' Br (rs.drop (getL rs).2.1) ∧ KeptBut 22 w w' ∧ ∃ v, w' = w.setCell ⟨Br, 0, none⟩ v) ∨
  (¬ ((getL rs).2.2 = 0 ∧ (getL rs).1 ≤ most) ∧ e = .returned (.tuple #[.int .i64 0, .bool false]) ∧ w' = w)

set_option maxRecDepth 100000 in
set_option maxHeartbeats 1000000 in
theorem tnext_any (w0 : World) (Br : Nat) (rs : List Int) (most : Nat) (w : World) (h : RestAt w0 w Br rs) (h8 : isBytes rs) (hmost : most ≤ 140737488351232) :
    Calls Tryd.prog 26 #[.int .i64 most, .pointer (some ⟨Br, 0, none⟩)] w fun e w' => NextOut w0 w Br rs most e w' := by
  obtain ⟨rg, rl, rc, hc, hr, hb, hBr⟩ := h
  have hl : rs.length = rl := by simpa using hr.length
  have rd := hr.later hb (Nat.le_refl _)
  have cc := cell_of_one hc
  have cf := free_of_one hc
  have hmi : (most : Int) ≤ 140737488351232 := by omega
  have hm0 : (0 : Int) ≤ most := by omega
  obtain ⟨n, k, f, hg⟩ : ∃ n k f, getL rs = (n, k, f) := ⟨_, _, _, rfl⟩
  have Hg : Hid _ := hg
  clear hmost
  go_enter Tryd.func26, Tryd.ntmps26
  go_wp2_with fail
  refine (get_any _ _ _ rs w rd h8).mono ?_
  rintro e wa ⟨rfl, rfl⟩
  rw [hg]
  unfold getV
  by_cases hf : f = 0
  case neg =>
    have hf0 : ¬ (f : Int) = 0 := by omega
    clear hg
    go_wp2
    go_ret2
    unfold NextOut
    rw [Hg.out]
    exact .inr ⟨fun h => hf h.1, rfl, rfl⟩
  subst hf
  by_cases hn : most < n
  · have hni : (most : Int) < n := by omega
    clear hg
    go_wp2
    go_ret2
    unfold NextOut
    rw [Hg.out]
    exact .inr ⟨fun h => by have := h.2; simp only at this; omega, rfl, rfl⟩
  have hok := get_ok rs h8 n k hg
  obtain ⟨x, hs, hd⟩ := Reads.from (P := Tryd.prog) Tryd.underlying22 (size_of Tryd.infoByte) (ao := rg) (len := rl) (cap := rc) k (by omega)
  have hni : (n : Int) ≤ most := by omega
  have hni2 : (n : Int) ≤ 140737488351232 := by omega
  have hx := hd _ _ hr
  rw [← List.map_drop] at hx
  have hki : (k : Int) ≤ rl := by omega
  have hE : RestAt w0 (wa.setCell ⟨Br, 0, none⟩ (.slice x (rl - k) (rc - k))) Br (rs.drop k) := ⟨x, rl - k, rc - k, one_setCell hc, hx, hb.setCell hBr _, hBr⟩
  have hK : KeptBut 22 wa (wa.setCell ⟨Br, 0, none⟩ (.slice x (rl - k) (rc - k))) := (KeptBut.refl _ _).cell hc 0 _
  clear hg hd hx hn rd hb hc
  go_wp2
  go_ret2
  unfold NextOut
  rw [Hg.out]
  exact .inl ⟨rfl, by simp only; omega, rfl, hE, hK, _, rfl⟩
#print axioms tnext_any

/-- How many runes, and these: of what is left. -/
def wordT (rs : List Int) : Option (List Int × List Int) := if (getL rs).2.2 = 0 ∧ (getL rs).1 ≤ 32 then runesT (getL rs).1 (rs.drop (getL rs).2.1) else none
theorem getT2_word (p r : List Int) : getT2 p r = (wordT r).bind fun x => (flagT x.2).map fun f => ⟨p, x.1, f.1, f.2⟩ := by
  unfold getT2 wordT
  split <;> rfl
def WordOut (w0 w : World) (Br : Nat) (rs : List Int) (e : Ending) (w' : World) : Prop :=
  KeptBut 22 w w' ∧ ((∃ acc rest bg d k, wordT rs = some (acc, rest) ∧ e = .returned (.tuple #[.slice bg k d, .bool true]) ∧ k = acc.length ∧ w'.ownsRow w.heap.size 21 1 (.slice bg k d) k (acc.map (.int .i32)) ∧ RestAt w0 w' Br rest ∧ isBytes rest) ∨
    (wordT rs = none ∧ e = .returned (.tuple #[.slice none 0 0, .bool false]) ∧ ∃ rest, RestAt w0 w' Br rest))

theorem set_row (acc : List Int) (m j : Nat) (c : Int) (hl : acc.length = j) (hj : j < m) : (acc ++ List.replicate (m - j) 0).set j c = (acc ++ [c]) ++ List.replicate (m - (j + 1)) 0 := by
  obtain ⟨d, hd⟩ : ∃ d, m - j = d + 1 := ⟨m - j - 1, by omega⟩
  have hd2 : m - (j + 1) = d := by omega
  rw [hd, hd2, List.set_append_right _ _ (by omega), hl, Nat.sub_self, List.replicate_succ]
  simp
theorem runes_drop {b : List Int} (h8 : isBytes b) (k : Nat) : isBytes (b.drop k) := fun z hz => h8 z (List.mem_of_mem_drop hz)

set_option maxRecDepth 100000 in
set_option maxHeartbeats 4000000 in
theorem tword_any (w0 : World) (Br : Nat) (rs : List Int) (w : World) (h : RestAt w0 w Br rs) (h8 : isBytes rs) :
    Calls Tryd.prog 30 #[.func (.func 26) #[] #[.pointer (some ⟨Br, 0, none⟩)]] w fun e w' => WordOut w0 w Br rs e w' := by
  obtain ⟨i0, hi, hz0, hz1, hz2⟩ := info_parts Tryd.infoRune
  have hsz := h.grow.size
  go_enter Tryd.func30, Tryd.ntmps30
  go_wp2_with fail
  refine (tnext_any w0 Br rs 32 w h h8 (by decide)).mono ?_
  intro e wa hN
  unfold NextOut at hN
  obtain ⟨m, k, f, hg⟩ : ∃ m k f, getL rs = (m, k, f) := ⟨_, _, _, rfl⟩
  rw [hg] at hN
  have Hg : Hid _ := hg
  clear hg
  rcases hN with ⟨h1, h2, rfl, hR, hK, v, rfl⟩ | ⟨h1, rfl, rfl⟩
  case inr =>
    have hW : Hid (wordT rs = none) := by show _ = _; unfold wordT; rw [Hg.out, if_neg h1]
    clear h1
    go_wp2
    go_ret2
    unfold WordOut
    exact ⟨KeptBut.refl _ _, .inr ⟨hW.out, rfl, rs, h⟩⟩
  simp only at h1 h2
  subst h1
  have hW : Hid (wordT rs = runesT m (rs.drop k)) := by show _ = _; unfold wordT; rw [Hg.out, if_pos ⟨rfl, h2⟩]
  have b8 := runes_drop h8 k
  have hmi : (m : Int) ≤ 32 := by omega
  obtain ⟨u, hu⟩ := h.blk
  have hszb : (w.setCell ⟨Br, 0, none⟩ v).heap.size = w.heap.size := by simp
  generalize hwb : w.setCell ⟨Br, 0, none⟩ v = wb at hR hK hszb ⊢
  obtain ⟨wm, hrun, hown, hgm⟩ := run_make_full (P := Tryd.prog) wb w.heap.size 28 21 i0 (.int .i32 0) 1 Tryd.underlying28 hi hz0 hz1 .i64 .i64 m (by rw [hz2]; omega) (by unfold maxLen; omega) (by omega)
  have hcs : (madeCells (Value.int .i32 0).cells (m * 1)).toList = (List.replicate m (0 : Int)).map (Value.int .i32) := by
    rw [Nat.mul_one]
    exact (toList_madeCells_one _ _).trans (by simp)
  rw [hcs] at hown
  rw [hszb] at hrun hown
  have hbm : Below wb.heap.size wb wm := (Below.refl _ _).grown hgm (Nat.le_refl _) (fun k h => by cases h)
  have hRm := hR.later hbm (Nat.le_refl _)
  have hKm : KeptBut 22 w wm := KeptBut.trans hK (KeptBut.below hbm)
  have hI0 : Hid (wordT rs = (runesT (m - 0) (rs.drop k)).map fun x => ([] ++ x.1, x.2)) := by show _ = _; rw [hW.out, Nat.sub_zero, map_nil]
  clear hR hK hbm hgm hcs hwb hu hW hszb h
  go_wp2_with fail
  go_loopw [21] (fun i wr => ∃ (j : Nat) (acc rest : List Int), i = .int .i64 j ∧ j ≤ m ∧ Hid (acc.length = j) ∧ wr.ownsRow w.heap.size 21 1 (.slice (some ⟨w.heap.size, 0, none⟩) m m) m ((acc ++ List.replicate (m - j) 0).map (.int .i32)) ∧ RestAt w0 wr Br rest ∧ isBytes rest ∧ KeptBut 22 w wr ∧ Hid (wordT rs = (runesT (m - j) rest).map fun x => (acc ++ x.1, x.2))) (fun i _ => (m - intOf i).toNat)
  case atStart => exact ⟨0, [], rs.drop k, rfl, by omega, rfl, by simpa using hown, hRm, b8, hKm, hI0⟩
  case round =>
    obtain ⟨j, acc, rest, rfl, hj, hal, ho, hR, r8, hK, hI⟩ := hrel
    clear hown hRm hKm hI0 hrun b8
    by_cases hjm : j = m
    · subst hjm
      have hW : Hid (wordT rs = some (acc, rest)) := by show _ = _; rw [hI.out, Nat.sub_self]; simp [runesT]
      rw [Nat.sub_self, List.replicate_zero, List.append_nil] at ho
      clear hI
      go_wp2
      go_ret2
      unfold WordOut
      exact ⟨hK, .inl ⟨acc, rest, _, _, _, hW.out, rfl, hal.out.symm, ho, hR, r8⟩⟩
    have hjN : j < m := by omega
    have hji : (j : Int) < m := by omega
    have Hmj : Hid (m - j = m - (j + 1) + 1) := by show _ = _; omega
    clear hjm
    go_wp2_with fail
    refine (tnext_any w0 Br rest 1114111 wr hR r8 (by decide)).mono ?_
    intro e wx hN
    unfold NextOut at hN
    obtain ⟨c, k2, f2, hg2⟩ : ∃ c k2 f2, getL rest = (c, k2, f2) := ⟨_, _, _, rfl⟩
    rw [hg2] at hN
    have Hg2 : Hid _ := hg2
    clear hg2
    rcases hN with ⟨h1, h3, rfl, hR2, hK2, v2, rfl⟩ | ⟨h1, rfl, rfl⟩
    case inr =>
      have hW : Hid (wordT rs = none) := by show _ = _; rw [hI.out, Hmj.out, runes_bad Hg2.out (by simp only at h1; omega)]; rfl
      clear h1 hI
      go_wp2
      go_ret2
      unfold WordOut
      exact ⟨hK, .inr ⟨hW.out, rfl, rest, hR⟩⟩
    simp only at h1 h3
    subst h1
    have hci : (c : Int) ≤ 1114111 := by omega
    have hI' : Hid (wordT rs = (runesT (m - (j + 1)) (rest.drop k2)).map fun x => ((acc ++ [(c : Int)]) ++ x.1, x.2)) := by
      show _ = _
      rw [hI.out, Hmj.out, runes_step Hg2.out (by omega)]
      cases runesT (m - (j + 1)) (rest.drop k2) <;> simp
    obtain ⟨u, hu⟩ := hR.blk
    have ho2 := ownsRow_setCell_other (a := ⟨Br, 0, none⟩) ho (own_type ho hu (by decide)) v2
    generalize hwy : wr.setCell ⟨Br, 0, none⟩ v2 = wy at hR2 hK2 ho2 ⊢
    have hfz := ho2.frozenAt j
    have hc0 : wy.cell? ⟨w.heap.size, j, none⟩ = some (.int .i32 0) := by
      rw [ho2.cellAt j (by simp [hal.out]; omega), List.getElem?_map, List.getElem?_append_right (by rw [hal.out]; exact Nat.le_refl _), hal.out, Nat.sub_self, List.getElem?_replicate, if_pos (by omega)]
      rfl
    have hst := (ho2.stored j (.int .i32 (c : Int))).1
    rw [← List.map_set, set_row acc m j c hal.out hjN] at hst
    obtain ⟨u2, hu2⟩ := hR2.blk
    have hne : Br ≠ w.heap.size := fun he => own_type ho2 hu2 (by decide) (by rw [he]; rfl)
    have hR3 := hR2.other (g := w.heap.size) (j := j) hne hsz (.int .i32 (c : Int))
    have hK3 := (KeptBut.trans hK hK2).setCell (a := ⟨w.heap.size, j, none⟩) (Nat.le_refl _) (.int .i32 (c : Int))
    have hal' : Hid ((acc ++ [(c : Int)]).length = j + 1) := by show _ = _; rw [List.length_append, hal.out]; rfl
    have r8' := runes_drop r8 k2
    clear hI hK hK2 ho ho2 hR hR2 hu hu2 hne hwy h3
    go_wp2
    go_roundw
    case rel => exact ⟨j + 1, acc ++ [(c : Int)], rest.drop k2, by go_num, by omega, hal', hst, hR3, r8', hK3, hI'⟩
    case measure => simp [intOf]; omega
#print axioms tword_any
end Go.Proofs.YtdhbbknjnbdplaaDoor
