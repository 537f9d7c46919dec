/- The closure of the landed words.Feed: one rune more. -/
import Derived.Test.YtdhbbknjnbdplaaDoorWordsFeed
import Derived.Deep.RegionLaw
namespace Go.Proofs.YtdhbbknjnbdplaaDoor
open Go.RowKit
set_option linter.unusedVariables false
set_option linter.unusedSimpArgs false

/-- What lies in the two variables that the closure holds. -/
structure InvW (base : Nat) (w : World) (Bu Bt : Nat) (u : UnderW) (ts : List (List Int)) : Prop where
  bu : base ≤ Bu
  bt : base ≤ Bt
  under : ∃ bg d k, w.heap[Bu]? = some (Obj.cells #[.slice bg k d, .bool u.mark, .bool u.long] 32 (0, 0)) ∧ k = u.word.length ∧ w.ownsRow base 21 1 (.slice bg k d) k (u.word.map (.int .i32))
  told : ∃ ag c m, w.heap[Bt]? = some (Obj.cells #[.slice ag m c] 25 (0, 0)) ∧ m = ts.length ∧ w.ownsRow base 9 1 (.slice ag m c) m (ts.map wordV)

theorem blocks_ne {w : World} {a b : Nat} {x y : Array Value} {s t : TypeId} {f g : Nat × Nat} (ha : w.heap[a]? = some (Obj.cells x s f)) (hb : w.heap[b]? = some (Obj.cells y t g)) (h : s ≠ t) : a ≠ b := fun e => by
  subst e
  rw [ha] at hb
  simp at hb
  exact h hb.2.1
/-- Behind a store of a whole State. -/
theorem inv_set {base Bu Bt k d m c : Nat} {w : World} {u : UnderW} {ts : List (List Int)} {x0 y0 z0 : Value} {bg ag : Option Addr} {mk lg : Bool} (hbu : base ≤ Bu) (hbt : base ≤ Bt) (hu : w.heap[Bu]? = some (Obj.cells #[x0, y0, z0] 32 (0, 0)))
    (hv : w.heap[Bt]? = some (Obj.cells #[.slice ag m c] 25 (0, 0))) (hm : m = ts.length) (hot : w.ownsRow base 9 1 (.slice ag m c) m (ts.map wordV))
    (hk : k = u.word.length) (hou : w.ownsRow base 21 1 (.slice bg k d) k (u.word.map (.int .i32))) (hmk : mk = u.mark) (hlg : lg = u.long) :
    InvW base (((w.setCell ⟨Bu, 0, none⟩ (.slice bg k d)).setCell ⟨Bu, 1, none⟩ (.bool mk)).setCell ⟨Bu, 2, none⟩ (.bool lg)) Bu Bt u ts := by
  subst hmk; subst hlg
  have hne := blocks_ne hv hu (by decide)
  exact ⟨hbu, hbt, ⟨bg, d, k, blk3_set hu _ _ _, hk, own_set3 hou (own_type hou hu (by decide)) _ _ _⟩, ⟨ag, c, m, by rw [Below.heap_setCell _ _ _ _ hne, Below.heap_setCell _ _ _ _ hne, Below.heap_setCell _ _ _ _ hne]; exact hv, hm, own_set3 hot (own_type hot hu (by decide)) _ _ _⟩⟩
theorem below_set3 {base Bu : Nat} {w w' : World} (h : Below base w w') (hb : base ≤ Bu) (x y z : Value) : Below base w (((w'.setCell ⟨Bu, 0, none⟩ x).setCell ⟨Bu, 1, none⟩ y).setCell ⟨Bu, 2, none⟩ z) := ((h.setCell hb _).setCell hb _).setCell hb _
/-- Behind a store of the mark alone. -/
theorem inv_mark {base Bu Bt k d m c : Nat} {w : World} {u : UnderW} {ts : List (List Int)} {mk lg : Bool} {bg ag : Option Addr} (hbu : base ≤ Bu) (hbt : base ≤ Bt) (hu : w.heap[Bu]? = some (Obj.cells #[.slice bg k d, .bool mk, .bool lg] 32 (0, 0)))
    (hv : w.heap[Bt]? = some (Obj.cells #[.slice ag m c] 25 (0, 0))) (hm : m = ts.length) (hot : w.ownsRow base 9 1 (.slice ag m c) m (ts.map wordV))
    (hk : k = u.word.length) (hou : w.ownsRow base 21 1 (.slice bg k d) k (u.word.map (.int .i32))) (hlg : u.long = lg) :
    InvW base (w.setCell ⟨Bu, 1, none⟩ (.bool true)) Bu Bt ⟨u.word, true, u.long⟩ ts := by
  subst hlg
  have hne := blocks_ne hv hu (by decide)
  exact ⟨hbu, hbt, ⟨bg, d, k, blk3_one hu 1 _, hk, ownsRow_setCell_other hou (own_type hou hu (by decide)) _⟩, ⟨ag, c, m, by rw [Below.heap_setCell _ _ _ _ hne]; exact hv, hm, ownsRow_setCell_other hot (own_type hot hu (by decide)) _⟩⟩

theorem step_letter {u : UnderW} {c : Int} (h : letterF c = true) : stepW u c = ([], longW u (foldF c)) := by simp [stepW, h, longW, moreW]

theorem wlonger_v (base : Nat) (bg : Option Addr) (k d : Nat) (u : UnderW) (f : Int) (w : World) (mk lg : Bool) (hmk : u.mark = mk) (hlg : u.long = lg) (hown : w.ownsRow base 21 1 (.slice bg k d) k (u.word.map (.int .i32))) (hok : OkW u) (hbase : base ≤ w.heap.size) :
    Calls Tryd.prog 53 #[.agg #[.slice bg k d, .bool mk, .bool lg], .int .i32 f] w fun e w' => ∃ bg' d' k' lg', e = .returned (.agg #[.slice bg' k' d', .bool false, .bool lg']) ∧ lg' = (longW u f).long ∧ k' = (longW u f).word.length ∧
      w'.ownsRow base 21 1 (.slice bg' k' d') k' ((longW u f).word.map (.int .i32)) ∧ KeptBut 21 w w' ∧ Below base w w' := by
  subst hmk; subst hlg
  exact (wlonger_any base bg k d u f w hown hok hbase).mono fun e w' ⟨a, b, c, h1, h2⟩ => ⟨a, b, c, _, h1, rfl, h2⟩

set_option maxRecDepth 100000 in
set_option maxHeartbeats 2000000 in
theorem wstep_letter (base Bu Bt : Nat) (u : UnderW) (ts : List (List Int)) (c : Int) (w : World) (hi : InvW base w Bu Bt u ts) (hok : OkW u) (hc : -2147483648 ≤ c ∧ c ≤ 2147483647) (hbase : base ≤ w.heap.size) (hL : letterF c = true)
    (htb : Tabs w := by first | assumption | exact Tabs.grow (by assumption) (by assumption)) :
    Calls Tryd.prog 51 #[.int .i32 c, .pointer (some ⟨Bu, 0, none⟩), .pointer (some ⟨Bt, 0, none⟩)] w fun e w' => e = .returned (.tuple #[]) ∧ InvW base w' Bu Bt (stepW u c).2 (ts ++ (stepW u c).1) ∧ Below base w w' := by
  obtain ⟨hbu, hbt, ⟨bg, d, k, hu0, hk, hou0⟩, ⟨ag, cg, m, ht0, hm, hot0⟩⟩ := hi
  generalize hmk : u.mark = mk at hu0
  generalize hlg : u.long = lg at hu0
  have hS : Hid (stepW u c = ([], longW u (foldF c))) := step_letter hL
  go_enter Tryd.func51, Tryd.ntmps51
  go_wp2_with fail
  refine (fletter_any c w hc htb).mono ?_
  rintro e w1 ⟨rfl, hb1⟩
  rw [hL]
  have ht1 : Tabs w1 := Tabs.grow hb1 htb
  have hu1 := (hb1.block _ (lt_of_block hu0)).trans hu0
  have hot1 := own_later hot0 hb1 (Nat.le_refl _)
  have hou1 := own_later hou0 hb1 (Nat.le_refl _)
  have hv1 := (hb1.block _ (lt_of_block ht0)).trans ht0
  have cu1 := blk3 hu1
  have ht2 : Tabs w1.drew := ht1.later (Below.refl _ _).drew (Nat.le_refl _)
  have hbw : Below base w w1 := hb1.mono hbase
  clear hb1 hu0 hot0 hou0 ht0 htb hL ht1
  go_wp2_with fail
  have Hmk : Hid _ := hmk
  have Hlg : Hid _ := hlg
  have Hm : Hid _ := hm
  clear hmk hlg hk hm
  go_region_with (first | (go_at_call 54; go_loud (refine (ffold_any c _ hc ht2).mono ?_; rintro e w2 ⟨rfl, hb2⟩; have hu2 := (hb2.block _ (lt_of_block hu1)).trans hu1; have cu2 := blk3 hu2; have hou2 := own_later (World.ownsRow.drew hou1) hb2 (Nat.le_refl _); have hs2 : base ≤ w2.heap.size := Nat.le_trans hbase (Nat.le_trans hbw.size hb2.size))) | (go_at_call 53; go_loud (refine (wlonger_v base _ _ _ u _ w2 _ _ Hmk.out Hlg.out hou2 hok hs2).mono ?_; rintro e w3 ⟨bg3, d3, k3, lg3, rfl, hlg3, hk3, hou3, hkb, hb3⟩; have Hk3 : Hid _ := hk3; have Hlg3 : Hid _ := hlg3; clear hk3 hlg3; have hu3 := hkb.kept _ _ _ _ hu2 (by decide); have cu3 := blk3 hu3)))
  all_goals (
    have hv3 := hkb.kept _ _ _ _ ((hb2.block _ (lt_of_block hv1)).trans hv1) (by decide)
    have hot3 := own_kept (own_later (World.ownsRow.drew hot1) hb2 (Nat.le_refl _)) hkb (by decide)
    have hI := inv_set hbu hbt hu3 hv3 Hm.out hot3 Hk3.out hou3 (mk := false) (longW_mark u (foldF c)).symm Hlg3.out
    have hB := below_set3 (Below.trans (Below.trans hbw (Below.trans (Below.refl _ _).drew (hb2.mono (Nat.le_trans hbase hbw.size)))) hb3) hbu (.slice bg3 k3 d3) (.bool false) (.bool lg3)
    clear hu1 hot1 hou1 hv1 cu1 ht2 hbw hb2 hu2 cu2 hou2 hkb hb3 hu3 cu3 hv3 hot3 hou3 hs2
    go_wp2
    go_end0
    rw [hS.out]
    exact ⟨rfl, by simpa using hI, hB⟩)
#print axioms wstep_letter

theorem tell_le (u : UnderW) : (tellW u).length ≤ 1 := by unfold tellW; split <;> simp
theorem words_oneCell (ls : List (List Int)) : ∀ v ∈ ls.map wordV, v.oneCell' = true := by intro v hv; obtain ⟨l, _, rfl⟩ := List.mem_map.1 hv; rfl
/-- Behind the two stores with which a stretch ends. -/
theorem inv_zero {base Bu Bt m c : Nat} {w : World} {us : List (List Int)} {x0 y0 z0 v0 : Value} {ag : Option Addr} (hbu : base ≤ Bu) (hbt : base ≤ Bt) (hu : w.heap[Bu]? = some (Obj.cells #[x0, y0, z0] 32 (0, 0)))
    (hv : w.heap[Bt]? = some (Obj.cells #[v0] 25 (0, 0))) (hm : m = us.length) (hot : w.ownsRow base 9 1 (.slice ag m c) m (us.map wordV)) :
    InvW base ((((w.setCell ⟨Bt, 0, none⟩ (.slice ag m c)).setCell ⟨Bu, 0, none⟩ (.slice none 0 0)).setCell ⟨Bu, 1, none⟩ (.bool false)).setCell ⟨Bu, 2, none⟩ (.bool false)) Bu Bt zeroW us :=
  inv_set hbu hbt (by rw [Below.heap_setCell _ _ _ _ (blocks_ne hu hv (by decide))]; exact hu) (one_setCell hv) hm (ownsRow_setCell_other hot (own_type hot hv (by decide)) _) rfl (World.ownsRow_nil _ _ _ _) rfl rfl

set_option maxRecDepth 100000 in
set_option maxHeartbeats 4000000 in
theorem wstep_other (base Bu Bt : Nat) (u : UnderW) (ts : List (List Int)) (c : Int) (w : World) (hi : InvW base w Bu Bt u ts) (hok : OkW u) (hc : -2147483648 ≤ c ∧ c ≤ 2147483647) (hbase : base ≤ w.heap.size) (hts : ts.length ≤ 1000000000) (hL : letterF c = false)
    (htb : Tabs w := by first | assumption | exact Tabs.grow (by assumption) (by assumption)) :
    Calls Tryd.prog 51 #[.int .i32 c, .pointer (some ⟨Bu, 0, none⟩), .pointer (some ⟨Bt, 0, none⟩)] w fun e w' => e = .returned (.tuple #[]) ∧ InvW base w' Bu Bt (stepW u c).2 (ts ++ (stepW u c).1) ∧ Below base w w' := by
  obtain ⟨hbu, hbt, ⟨bg, d, k, hu0, hk, hou0⟩, ⟨ag, cg, m, ht0, hm, hot0⟩⟩ := hi
  generalize hmk : u.mark = mk at hu0
  generalize hlg : u.long = lg at hu0
  have hml : m ≤ 1000000000 := by omega
  have Hmk : Hid _ := hmk
  have Hlg : Hid _ := hlg
  have Hm : Hid _ := hm
  have Hk : Hid _ := hk
  have HL : Hid _ := hL
  clear hmk hlg hk hm hts
  go_enter Tryd.func51, Tryd.ntmps51
  go_wp2_with fail
  refine (fletter_any c w hc htb).mono ?_
  rintro e w1 ⟨rfl, hb1⟩
  rw [hL]
  clear hL htb
  go_wp2_with fail
  refine (fmark_any c w1 hc).mono ?_
  rintro e w2 ⟨rfl, hb2⟩
  have hB2 : Below w.heap.size w w2 := Below.trans hb1 (hb2.mono hb1.size)
  have hu2 := (hB2.block _ (lt_of_block hu0)).trans hu0
  have hv2 := (hB2.block _ (lt_of_block ht0)).trans ht0
  have hou2 := own_later hou0 hB2 (Nat.le_refl _)
  have hot2 := own_later hot0 hB2 (Nat.le_refl _)
  have hbw2 : Below base w w2 := hB2.mono hbase
  clear hb1 hb2 hB2 hu0 ht0 hou0 hot0
  cases hM : markF c with
  | false =>
    have hS : Hid (stepW u c = (tellW u, zeroW)) := by show _ = _; simp [stepW, HL.out, hM]
    clear hM
    have cux := blk3 hu2
    have ctx := cell_of_one hv2
    have ftx := free_of_one hv2
    have rdx : Reads w2.drew bg k d (u.word.map (.int .i32)) := Reads.own (World.ownsRow.drew hou2)
    have hsx : base ≤ w2.heap.size := Nat.le_trans hbase hbw2.size
    have hvd : w2.drew.heap[Bt]? = _ := hv2
    have hud : w2.drew.heap[Bu]? = _ := hu2
    have hotd := World.ownsRow.drew hot2
    go_wp2_with fail
    go_region_law (first | (refine step_append_grown rfl (.tmp 4) (.tmp 6) 25 rfl base 9 Tryd.infoStr rfl Tryd.underlying25 _ _ _ _ rfl hote _ _ _ _ rfl (Reads.own hoe) (words_oneCell _) (by unfold maxLen; omega) (by omega) hse ?_; intro ag4 c4 wz hown4 hg4 hb4; have hkz := KeptBut.grown hote hg4; have hvz := hkz.kept _ _ _ _ hve (by decide); have huz := hkz.kept _ _ _ _ hue (by decide); have ctz := cell_of_one hvz; have ftz := free_of_one hvz) | (go_simp; go_wp2_with (go_at_call 57; refine (wended_any _ _ _ u.word mk lg _ rdx).mono ?_; rintro e we ⟨ae, ce, ke, rfl, hke, hoe, hbe⟩; have hke1 : ke ≤ 1 := Nat.le_trans (Nat.le_of_eq hke) (tell_le _); have Hke : Hid _ := hke; clear hke; have hve := (hbe.block _ (lt_of_block hvd)).trans hvd; have hue := (hbe.block _ (lt_of_block hud)).trans hud; have cte := cell_of_one hve; have hote := own_later hotd hbe (Nat.le_refl _); have hse : base ≤ we.heap.size := Nat.le_trans hsx hbe.size)))
    all_goals (
      have hI := inv_zero hbu hbt huz hvz (us := ts ++ tellW u) (m := m + ke) (c := c4) (ag := ag4) (by rw [List.length_append, ← Hm.out, Hke.out]; rfl) (by rw [List.map_append]; exact hown4)
      have hBz : Below base w wz := Below.trans (Below.trans hbw2 (Below.trans (Below.refl _ _).drew (hbe.mono hsx))) hb4
      have hB := below_set3 (hBz.setCell (p := ⟨Bt, 0, none⟩) hbt (.slice ag4 (m + ke) c4)) hbu (.slice none 0 0) (.bool false) (.bool false)
      have huS : (wz.setCell ⟨Bt, 0, none⟩ (.slice ag4 (m + ke) c4)).heap[Bu]? = _ := (Below.heap_setCell _ _ _ _ (blocks_ne huz hvz (by decide))).trans huz
      have cuS := blk3 huS
      clear hu2 hv2 hou2 hot2 hbw2 cux ctx ftx rdx hsx hvd hud hotd hoe hbe hke1 hve hue cte hote hse hown4 hg4 hb4 hkz hvz huz ctz ftz hBz huS
      go_wp2
      go_end0
      rw [hS.out]
      exact ⟨rfl, hI, hB⟩)
  | true =>
    have cu2 := blk3 hu2
    go_wp2_with fail
    refine (wbegun_any _ _ _ _ _ w2).mono ?_
    rintro e w3 ⟨rfl, hb3⟩
    have hu3 := (hb3.block _ (lt_of_block hu2)).trans hu2
    have hv3 := (hb3.block _ (lt_of_block hv2)).trans hv2
    have hou3 := own_later hou2 hb3 (Nat.le_refl _)
    have hot3 := own_later hot2 hb3 (Nat.le_refl _)
    have hbw3 : Below base w w3 := Below.trans hbw2 (hb3.mono (Nat.le_trans hbase hbw2.size))
    clear hu2 hv2 hou2 hot2 hbw2 hb3 cu2
    cases hG : (lg || decide (0 < k)) with
    | false =>
      have hS : Hid (stepW u c = (tellW u, zeroW)) := by
        show _ = _
        simp only [stepW, HL.out, Bool.false_eq_true, if_false]
        rw [if_neg]
        rintro ⟨_, _, h | h⟩
        · simp only [Bool.or_eq_false_iff, decide_eq_false_iff_not] at hG
          have h0 : u.word.length = 0 := by have := Hk.out; omega
          exact h (List.eq_nil_of_length_eq_zero h0)
        · rw [Hlg.out] at h; simp [h] at hG
      clear hG hM
      have cux := blk3 hu3
      have ctx := cell_of_one hv3
      have ftx := free_of_one hv3
      have rdx : Reads w3.drew bg k d (u.word.map (.int .i32)) := Reads.own (World.ownsRow.drew hou3)
      have hsx : base ≤ w3.heap.size := Nat.le_trans hbase hbw3.size
      have hvd : w3.drew.heap[Bt]? = _ := hv3
      have hud : w3.drew.heap[Bu]? = _ := hu3
      have hotd := World.ownsRow.drew hot3
      go_wp2_with fail
      go_region_law (first | (refine step_append_grown rfl (.tmp 4) (.tmp 6) 25 rfl base 9 Tryd.infoStr rfl Tryd.underlying25 _ _ _ _ rfl hote _ _ _ _ rfl (Reads.own hoe) (words_oneCell _) (by unfold maxLen; omega) (by omega) hse ?_; intro ag4 c4 wz hown4 hg4 hb4; have hkz := KeptBut.grown hote hg4; have hvz := hkz.kept _ _ _ _ hve (by decide); have huz := hkz.kept _ _ _ _ hue (by decide); have ctz := cell_of_one hvz; have ftz := free_of_one hvz) | (go_simp; go_wp2_with (go_at_call 57; refine (wended_any _ _ _ u.word mk lg _ rdx).mono ?_; rintro e we ⟨ae, ce, ke, rfl, hke, hoe, hbe⟩; have hke1 : ke ≤ 1 := Nat.le_trans (Nat.le_of_eq hke) (tell_le _); have Hke : Hid _ := hke; clear hke; have hve := (hbe.block _ (lt_of_block hvd)).trans hvd; have hue := (hbe.block _ (lt_of_block hud)).trans hud; have cte := cell_of_one hve; have hote := own_later hotd hbe (Nat.le_refl _); have hse : base ≤ we.heap.size := Nat.le_trans hsx hbe.size)))
      all_goals (
        have hI := inv_zero hbu hbt huz hvz (us := ts ++ tellW u) (m := m + ke) (c := c4) (ag := ag4) (by rw [List.length_append, ← Hm.out, Hke.out]; rfl) (by rw [List.map_append]; exact hown4)
        have hBz : Below base w wz := Below.trans (Below.trans hbw3 (Below.trans (Below.refl _ _).drew (hbe.mono hsx))) hb4
        have hB := below_set3 (hBz.setCell (p := ⟨Bt, 0, none⟩) hbt (.slice ag4 (m + ke) c4)) hbu (.slice none 0 0) (.bool false) (.bool false)
        have huS : (wz.setCell ⟨Bt, 0, none⟩ (.slice ag4 (m + ke) c4)).heap[Bu]? = _ := (Below.heap_setCell _ _ _ _ (blocks_ne huz hvz (by decide))).trans huz
        have cuS := blk3 huS
        clear hu3 hv3 hou3 hot3 hbw3 cux ctx ftx rdx hsx hvd hud hotd hoe hbe hke1 hve hue cte hote hse hown4 hg4 hb4 hkz hvz huz ctz ftz hBz huS
        go_wp2
        go_end0
        rw [hS.out]
        exact ⟨rfl, hI, hB⟩)
    | true =>
      have cu3 := blk3 hu3
      cases mk with
      | true =>
        have hS : Hid (stepW u c = (tellW u, zeroW)) := by
          show _ = _
          simp only [stepW, HL.out, Bool.false_eq_true, if_false]
          rw [if_neg]
          rintro ⟨_, h, _⟩
          rw [Hmk.out] at h; cases h
        clear hG hM cu3
        have cux := blk3 hu3
        have ctx := cell_of_one hv3
        have ftx := free_of_one hv3
        have rdx : Reads w3.drew bg k d (u.word.map (.int .i32)) := Reads.own (World.ownsRow.drew hou3)
        have hsx : base ≤ w3.heap.size := Nat.le_trans hbase hbw3.size
        have hvd : w3.drew.heap[Bt]? = _ := hv3
        have hud : w3.drew.heap[Bu]? = _ := hu3
        have hotd := World.ownsRow.drew hot3
        go_wp2_with fail
        go_region_law (first | (refine step_append_grown rfl (.tmp 4) (.tmp 6) 25 rfl base 9 Tryd.infoStr rfl Tryd.underlying25 _ _ _ _ rfl hote _ _ _ _ rfl (Reads.own hoe) (words_oneCell _) (by unfold maxLen; omega) (by omega) hse ?_; intro ag4 c4 wz hown4 hg4 hb4; have hkz := KeptBut.grown hote hg4; have hvz := hkz.kept _ _ _ _ hve (by decide); have huz := hkz.kept _ _ _ _ hue (by decide); have ctz := cell_of_one hvz; have ftz := free_of_one hvz) | (go_simp; go_wp2_with (go_at_call 57; refine (wended_any _ _ _ u.word true lg _ rdx).mono ?_; rintro e we ⟨ae, ce, ke, rfl, hke, hoe, hbe⟩; have hke1 : ke ≤ 1 := Nat.le_trans (Nat.le_of_eq hke) (tell_le _); have Hke : Hid _ := hke; clear hke; have hve := (hbe.block _ (lt_of_block hvd)).trans hvd; have hue := (hbe.block _ (lt_of_block hud)).trans hud; have cte := cell_of_one hve; have hote := own_later hotd hbe (Nat.le_refl _); have hse : base ≤ we.heap.size := Nat.le_trans hsx hbe.size)))
        all_goals (
          have hI := inv_zero hbu hbt huz hvz (us := ts ++ tellW u) (m := m + ke) (c := c4) (ag := ag4) (by rw [List.length_append, ← Hm.out, Hke.out]; rfl) (by rw [List.map_append]; exact hown4)
          have hBz : Below base w wz := Below.trans (Below.trans hbw3 (Below.trans (Below.refl _ _).drew (hbe.mono hsx))) hb4
          have hB := below_set3 (hBz.setCell (p := ⟨Bt, 0, none⟩) hbt (.slice ag4 (m + ke) c4)) hbu (.slice none 0 0) (.bool false) (.bool false)
          have huS : (wz.setCell ⟨Bt, 0, none⟩ (.slice ag4 (m + ke) c4)).heap[Bu]? = _ := (Below.heap_setCell _ _ _ _ (blocks_ne huz hvz (by decide))).trans huz
          have cuS := blk3 huS
          clear hu3 hv3 hou3 hot3 hbw3 cux ctx ftx rdx hsx hvd hud hotd hoe hbe hke1 hve hue cte hote hse hown4 hg4 hb4 hkz hvz huz ctz ftz hBz huS
          go_wp2
          go_end0
          rw [hS.out]
          exact ⟨rfl, hI, hB⟩)
      | false =>
        have hS : Hid (stepW u c = ([], ⟨u.word, true, u.long⟩)) := by
          show _ = _
          simp only [stepW, HL.out, Bool.false_eq_true, if_false]
          rw [if_pos]
          refine ⟨hM, Hmk.out, ?_⟩
          simp only [Bool.or_eq_true, decide_eq_true_eq] at hG
          rcases hG with h | h
          · exact .inr (by rw [Hlg.out]; exact h)
          · exact .inl (fun h0 => by have := Hk.out; rw [h0] at this; simp at this; omega)
        have hI := inv_mark hbu hbt hu3 hv3 Hm.out hot3 Hk.out hou3 Hlg.out
        have hB : Below base w (w3.setCell ⟨Bu, 1, none⟩ (.bool true)) := hbw3.setCell hbu _
        clear hG hM hu3 hv3 hou3 hot3 hbw3
        go_wp2
        go_end0
        rw [hS.out]
        exact ⟨rfl, by simpa using hI, hB⟩
#print axioms wstep_other

theorem wstep_any (base Bu Bt : Nat) (u : UnderW) (ts : List (List Int)) (c : Int) (w : World) (hi : InvW base w Bu Bt u ts) (hok : OkW u) (hc : -2147483648 ≤ c ∧ c ≤ 2147483647) (hbase : base ≤ w.heap.size) (hts : ts.length ≤ 1000000000)
    (htb : Tabs w := by first | assumption | exact Tabs.grow (by assumption) (by assumption)) :
    Calls Tryd.prog 51 #[.int .i32 c, .pointer (some ⟨Bu, 0, none⟩), .pointer (some ⟨Bt, 0, none⟩)] w fun e w' => e = .returned (.tuple #[]) ∧ InvW base w' Bu Bt (stepW u c).2 (ts ++ (stepW u c).1) ∧ Below base w w' := by
  cases hL : letterF c with
  | true => exact wstep_letter base Bu Bt u ts c w hi hok hc hbase hL htb
  | false => exact wstep_other base Bu Bt u ts c w hi hok hc hbase hts hL htb
#print axioms wstep_any
end Go.Proofs.YtdhbbknjnbdplaaDoor
