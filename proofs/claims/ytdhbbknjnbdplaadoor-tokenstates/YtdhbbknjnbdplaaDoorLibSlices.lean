/- The contracts of slices.Grow (of nothing), slices.Concat and bytes.Clone, of bytes. -/
import Derived.Test.YtdhbbknjnbdplaaDoorOwn
import Derived.Test.YtdhbbknjnbdplaaDoorInfos
import Derived.Test.YtdhbbknjnbdplaaDoorRows2
import Derived.Deep.RegionHeld
import Derived.Lib.SliceRun
import Derived.Lib.AppendZeros
namespace Go.Proofs.YtdhbbknjnbdplaaDoor
open Go.RowKit
set_option linter.unusedVariables false

set_option maxRecDepth 100000 in
theorem clone_any (ao : Option Addr) (len cap : Nat) (zs : List Int) (w : World) (hr : Reads w ao len cap (zs.map (.int .u8))) (hlen : len ≤ 140737488351232) :
    Calls Tryd.prog 28 #[.slice ao len cap] w fun e w' => ∃ ag c, e = .returned (.slice ag len c) ∧ w'.ownsRow w.heap.size 5 1 (.slice ag len c) len (zs.map (.int .u8)) ∧ Below w.heap.size w w' := by
  cases ao with
  | none =>
    obtain ⟨rfl, rfl⟩ := hr.bare rfl
    have : zs = [] := List.eq_nil_of_length_eq_zero (by simpa using hr.length)
    subst this
    have hnil := fun W => Lib.run_eql_slice_nil (P := Tryd.prog) W 22 5 none 0 0 0 0 Tryd.underlying22
    go_enter Tryd.func28, Tryd.ntmps28
    go_wp2
    go_ret
    exact ⟨none, 0, rfl, World.ownsRow_nil _ _ _ _, Below.refl _ _⟩
  | some ad =>
    have mx : len ≤ maxLen := by unfold maxLen; omega
    have hnil := fun W => Lib.run_eql_slice_nil (P := Tryd.prog) W 22 5 (some ad) len cap 0 0 Tryd.underlying22
    go_enter Tryd.func28, Tryd.ntmps28
    go_wp2_with (at_builtin; refine wpList_append_reads rfl (.tmp 5) (.tmp 6) 22 rfl w.heap.size 5 Tryd.infoByte rfl Tryd.underlying22 _ _ _ _ rfl (ownsRow_empty w 5) _ _ _ _ rfl (hr.later ((Below.refl w.heap.size w).alloc (Nat.le_refl _) _) (Nat.le_refl _)) (ints_oneCell _ _) (by omega) (by omega) (by simp) ?_)
    intro ag c2 wc hown2 hb3
    have hb2 : Below w.heap.size w wc := Below.trans ((Below.refl w.heap.size w).alloc (Nat.le_refl _) _) hb3
    clear hb3
    go_wp2
    go_ret
    exact ⟨ag, c2, by simp, by simpa using hown2, hb2⟩
#print axioms clone_any

set_option maxRecDepth 100000 in
set_option maxHeartbeats 400000 in
/-- Room for so many bytes, where nothing was. -/
theorem grow_any (n : Nat) (w : World) (hn : n ≤ 100000000000000) :
    Calls Tryd.prog 61 #[.slice none 0 0, .int .i64 n] w fun e w' => ∃ ag c, e = .returned (.slice ag 0 c) ∧ w'.ownsRow w.heap.size 5 1 (.slice ag 0 c) 0 [] ∧ Below w.heap.size w w' := by
  have hn0 : (0 : Int) ≤ n := by omega
  by_cases h0 : n = 0
  · subst h0
    clear hn hn0
    go_enter Tryd.func61, Tryd.ntmps61
    go_wp2
    go_ret
    exact ⟨none, 0, rfl, World.ownsRow_nil _ _ _ _, Below.refl _ _⟩
  have hp : (0 : Int) < n := by omega
  obtain ⟨i, hi, hz0, hz1, hz2⟩ := info_parts Tryd.infoByte
  have hrz : ∀ ty, _ := fun ty => Lib.run_append_nil_zeros (P := Tryd.prog) w 22 3 ty 5 i (.int .u8 0) .i64 .i64 Tryd.underlying22 Tryd.underlying3 hi hz0 n (by omega) (by omega) (by omega) (by rw [hz2]; omega)
  have hG1 := grownCap_ge w n 0 5
  have hG2 := grownCap_le_maxLen w n 0 5 (by unfold maxLen; omega)
  generalize hG : grownCap w n 0 5 = G at hrz hG1 hG2
  have hGi : (G : Int) ≤ 9223372036854775807 := by unfold maxLen at hG2; omega
  have hown : (w.drew.alloc (.cells (Builtin.zeroCells (Value.int .u8 0).cells n ++ Builtin.zeroCells (Value.int .u8 0).cells (G - n)) 5)).ownsRow w.heap.size 5 1 (.slice (some ⟨w.heap.size, 0, none⟩) 0 G) 0 [] := by
    refine ⟨rfl, Or.inr ⟨w.heap.size, G, Builtin.zeroCells (Value.int .u8 0).cells n ++ Builtin.zeroCells (Value.int .u8 0).cells (G - n), rfl, Nat.le_refl _, ?_, by omega, hG2, ?_, by simp⟩⟩
    · show (w.heap.push _)[w.heap.size]? = _
      simp
    · simp [Builtin.zeroCells, Value.cells]; omega
  have hb : Below w.heap.size w (w.drew.alloc (.cells (Builtin.zeroCells (Value.int .u8 0).cells n ++ Builtin.zeroCells (Value.int .u8 0).cells (G - n)) 5)) := (Below.drew (Below.refl _ _)).alloc (Nat.le_refl _) _
  have hGn : (n : Int) ≤ G := by omega
  clear hG hi hz0 hz1 hz2
  generalize w.drew.alloc (.cells (Builtin.zeroCells (Value.int .u8 0).cells n ++ Builtin.zeroCells (Value.int .u8 0).cells (G - n)) 5) = wz at hrz hown hb
  go_enter Tryd.func61, Tryd.ntmps61
  go_wp2_with (at_builtin; refine Lib.wpList_append_run _ rfl _ _ _ _ rfl _ _ rfl rfl _ _ (hrz _) ?_)
  all_goals
    go_ret
    exact ⟨_, G, rfl, hown, hb⟩
#print axioms grow_any

theorem cat_step (ls : List (List Int)) (j : Nat) (h : j < ls.length) : (ls.take (j + 1)).flatten = (ls.take j).flatten ++ ls.getD j [] := by
  have e : ls.take (j + 1) = ls.take j ++ [ls.getD j []] := by rw [List.take_add_one, List.getD, List.getElem?_eq_getElem h]; rfl
  rw [e]; simp
theorem cat_le (ls : List (List Int)) (j : Nat) : (ls.take j).flatten.length ≤ ls.flatten.length := by
  have h := congrArg (fun l => l.flatten.length) (List.take_append_drop j ls)
  simp only [List.flatten_append, List.length_append] at h
  omega

set_option maxRecDepth 100000 in
set_option maxHeartbeats 400000 in
theorem concat_any (ao : Option Addr) (n cap : Nat) (ls : List (List Int)) (w : World) (hr : ReadsRows w ao n cap ls) (hn : n ≤ 1000000) (htot : ls.flatten.length ≤ 1000000000000) :
    Calls Tryd.prog 48 #[.slice ao n cap] w fun e w' => ∃ ag c m, e = .returned (.slice ag m c) ∧ m = ls.flatten.length ∧ w'.ownsRow w.heap.size 5 1 (.slice ag m c) m (ls.flatten.map (.int .u8)) ∧ Below w.heap.size w w' := by
  have hl := hr.length
  have Hcl : Hid (∀ j, (ls.take j).flatten.length ≤ ls.flatten.length) := cat_le ls
  have Hst : Hid (∀ j, j < n → (ls.take (j + 1)).flatten = (ls.take j).flatten ++ ls.getD j []) := fun j hj => cat_step ls j (by omega)
  have Hall : Hid ((ls.take n).flatten = ls.flatten) := by show _ = _; rw [List.take_of_length_le (by omega)]
  generalize hT : ls.flatten.length = T at htot Hcl
  have HT : Hid _ := hT
  clear hT
  go_enter Tryd.func48, Tryd.ntmps48
  go_wp2_with fail
  go_loop [3, 11] (fun v i => ∃ j s : Nat, v = .int .i64 s ∧ i = .int .i64 j ∧ j ≤ n ∧ Hid (s = (ls.take j).flatten.length)) (fun _ i => (n - intOf i).toNat)
  case atStart => exact ⟨0, 0, rfl, rfl, by omega, by show _ = _; simp⟩
  case round =>
    obtain ⟨j, s, rfl, rfl, hj, hs⟩ := hrel
    have hsT : s ≤ T := by rw [hs.out]; exact Hcl.out j
    by_cases hd : j = n
    case neg =>
      have hd' : (j : Int) < n := by omega
      obtain ⟨b, off, rfl, hblt, hat⟩ := hr.at (by omega)
      obtain ⟨ai, li, ci, hc, rd⟩ := hat j (by omega)
      have hli : (ls.getD j []).length = li := by simpa using rd.length
      have hs' : Hid (s + li = (ls.take (j + 1)).flatten.length) := by show _ = _; rw [Hst.out j (by omega), List.length_append, hs.out, hli]
      have hsT' : s + li ≤ T := by rw [hs'.out]; exact Hcl.out (j + 1)
      have hsi : (s : Int) + li ≤ 1000000000000 := by omega
      have hsn : (0 : Int) ≤ (s : Int) + li := by omega
      clear hat rd hs hd hli hr
      go_wp2
      go_round
      case rel => exact ⟨j + 1, s + li, by go_num, by go_num, by omega, hs'⟩
      case measure => simp [intOf]; omega
    subst hd
    have hsi : (s : Int) ≤ 1000000000000 := by omega
    go_wp2_with fail
    refine (grow_any s w (by omega)).mono ?_
    rintro e wa ⟨ag, c, rfl, hown, hb⟩
    clear hs hsT hsi
    go_wp2_with fail
    go_loopw [6, 27] (fun v i wr => ∃ (t m : Nat) (ag : Option Addr) (c : Nat), v = .slice ag m c ∧ i = .int .i64 t ∧ t ≤ j ∧ Hid (m = (ls.take t).flatten.length) ∧ wr.ownsRow w.heap.size 5 1 (.slice ag m c) m ((ls.take t).flatten.map (.int .u8)) ∧ Below w.heap.size w wr) (fun _ i _ => (j - intOf i).toNat)
    case atStart => exact ⟨0, 0, ag, c, rfl, rfl, by omega, by show _ = _; simp, by simpa using hown, hb⟩
    case round =>
      clear hown hb
      obtain ⟨t, m, ag, c, rfl, rfl, ht, hm, hown, hbr⟩ := hrel
      have hmT : m ≤ T := by rw [hm.out]; exact Hcl.out t
      by_cases hd : t = j
      · subst hd
        have Hm : Hid (m = T) := by show _ = _; rw [hm.out, Hall.out, HT.out]
        rw [Hall.out] at hown
        clear hm hr
        go_wp2
        go_ret
        exact ⟨ag, c, m, rfl, by rw [Hm.out], hown, hbr⟩
      have hd' : (t : Int) < j := by omega
      obtain ⟨b, off, rfl, hblt, hat⟩ := hr.at (by omega)
      obtain ⟨ai, li, ci, hc, rd⟩ := hat t (by omega)
      have hli : (ls.getD t []).length = li := by simpa using rd.length
      have hm' : Hid (m + li = (ls.take (t + 1)).flatten.length) := by show _ = _; rw [Hst.out t (by omega), List.length_append, hm.out, hli]
      have hmT' : m + li ≤ T := by rw [hm'.out]; exact Hcl.out (t + 1)
      have hc' : wr.cell? ⟨b, off + t, none⟩ = some (.slice ai li ci) := by rw [hbr.cell hblt]; exact hc
      have rd' := rd.later hbr (Nat.le_refl _)
      have hszr := hbr.size
      have mx : m + li ≤ maxLen := by unfold maxLen; omega
      have Hs1 : Hid _ := Hst.out t (by omega)
      clear hat rd hd hli hr hc hm
      generalize (ls.take t).flatten = X at hown Hs1
      generalize ls.getD t [] = Y at rd' Hs1
      go_wp2_with (at_builtin; refine wpList_append_reads rfl (.tmp 31) (.tmp 32) 22 rfl w.heap.size 5 Tryd.infoByte rfl Tryd.underlying22 _ _ _ _ rfl hown _ _ _ _ rfl rd' (ints_oneCell _ _) (by omega) (by omega) hszr ?_)
      intro ag2 c2 w2 hown2 hb2
      have hB2 : Below w.heap.size w w2 := hbr.trans hb2
      rw [← List.map_append, ← Hs1.out] at hown2
      clear hb2 hbr hown rd' hc' hszr
      go_wp2
      go_roundw
      case rel => exact ⟨t + 1, m + li, ag2, c2, rfl, by go_num, by omega, hm', hown2, hB2⟩
      case measure => simp [intOf]; omega
#print axioms concat_any
end Go.Proofs.YtdhbbknjnbdplaaDoor
