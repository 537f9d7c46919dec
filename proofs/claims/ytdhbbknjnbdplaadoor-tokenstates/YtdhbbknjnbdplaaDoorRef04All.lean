/- The contracts of the document's own answers for runes: All, Feed, Same. -/
import Derived.Test.YtdhbbknjnbdplaaDoorRef04One
namespace Go.Proofs.YtdhbbknjnbdplaaDoor
open Go.RowKit

theorem grow_drewN (w : World) (n : Nat) : Below w.heap.size w (w.drewN n) := ⟨rfl, rfl, rfl, Nat.le_refl _, fun _ _ => rfl⟩

set_option maxRecDepth 100000 in
set_option maxHeartbeats 400000 in
theorem rall_any (ao : Option Addr) (len cap : Nat) (zs : List Int) (w : World) (hr : Reads w ao len cap (zs.map (.int .u8))) (h8 : isBytes zs) (hlen : len ≤ 1000000000000) :
    Calls Tryd.prog 25 #[.slice ao len cap] w fun e w' => ∃ ag c m, e = .returned (.slice ag m c) ∧ m = (allU zs).length ∧
      w'.ownsRow w.heap.size 21 1 (.slice ag m c) m ((allU zs).map (.int .i32)) ∧ Below w.heap.size w w' := by
  have hl : zs.length = len := by simpa using hr.length
  go_enter Tryd.func25, Tryd.ntmps25
  go_wp2_with fail
  go_loopw [3, 4] (fun v i wr => ∃ (t : Nat) (ag : Option Addr) (c m : Nat) (ls : List Int), v = .slice ag m c ∧ i = .int .i64 t ∧ t ≤ len ∧ m ≤ t ∧ wr.ownsRow w.heap.size 21 1 (.slice ag m c) m (ls.map (.int .i32)) ∧ Hid (allU zs = ls ++ allU (zs.drop t)) ∧ Below w.heap.size w wr) (fun _ i _ => (len - intOf i).toNat)
  case atStart => exact ⟨0, none, 0, 0, [], rfl, rfl, by omega, by omega, World.ownsRow_nil _ _ _ _, by show _ = _; simp, Below.refl _ _⟩
  case round =>
    obtain ⟨t, ag, c, m, ls, rfl, rfl, ht, hm, hown, hS, hb⟩ := hrel
    have hsz := hb.size
    by_cases hd : t = len
    · subst hd
      have hE : Hid (allU zs = ls) := by show _ = _; rw [hS.out, List.drop_of_length_le (by omega), all_nil, List.append_nil]
      have hml : ls.length = m := by have := hown.1; simpa using this
      go_wp2
      go_ret
      rw [hE.out]
      exact ⟨ag, c, m, rfl, hml.symm, hown, hb⟩
    have hd' : (t : Int) < len := by omega
    obtain ⟨a1, hs1, hd1⟩ := Reads.from (P := Tryd.prog) Tryd.underlying22 (size_of Tryd.infoByte) (ao := ao) (len := len) (cap := cap) t ht
    have rd1 : Reads wr a1 (len - t) (cap - t) ((zs.drop t).map (.int .u8)) := by have := hd1 wr _ (hr.later hb (Nat.le_refl _)); simpa using this
    have b1 : isBytes (zs.drop t) := fun z hz => h8 z (List.mem_of_mem_drop hz)
    have hne : zs.drop t ≠ [] := by intro h; have := congrArg List.length h; simp at this; omega
    have ho1 := one_pos (zs.drop t)
    have ho2 := one_le hne
    simp only [List.length_drop] at ho2
    have hS' : Hid (allU zs = (ls ++ [(oneU (zs.drop t)).1]) ++ allU (zs.drop (t + (oneU (zs.drop t)).2))) := by
      show _ = _
      rw [hS.out, all_step hne, List.drop_drop]; simp
    clear hd1 hd hne
    go_wp2_with fail
    refine (rone_any a1 (len - t) (cap - t) (zs.drop t) wr rd1 b1 (by omega)).mono ?_
    rintro e wb ⟨rfl, q, rfl⟩
    clear rd1 b1
    rcases ho : oneU (zs.drop t) with ⟨r, k⟩
    rw [ho] at ho1 ho2 hS'
    clear ho
    have hownb := own_later hown (grow_drewN wr q) (Nat.le_refl _)
    have hB := Grow.trans hb (grow_drewN wr q)
    have mx : m + 20 ≤ maxLen := by unfold maxLen; omega
    have hkk : (t : Int) + k ≤ 1000000000000 := by simp only at ho2; omega
    have ho1' : 1 ≤ k := ho1
    have ho2' : t + k ≤ len := by simp only at ho2; omega
    clear hown hb ho1 ho2
    generalize wr.drewN q = wb at hownb hB
    have hszb := hB.size
    go_wp2_with (at_builtin; refine wpList_append_grown rfl (.tmp 18) (.tmp 20) 28 rfl w.heap.size 21 Tryd.infoRune rfl Tryd.underlying28 _ _ _ _ rfl (hownb.alloc _) _ _ _ _ rfl (reads_one _ _ _) (ints_oneCell .i32 [r]) (by omega) (by omega) (by simp; omega) ?_)
    intro ag3 c3 w3 hown3 hg3 hb3
    have hb3' : Below w.heap.size w w3 := (hB.alloc hszb _).trans hb3
    clear hb3 hg3 hownb hS
    go_wp2
    go_roundw
    case rel => exact ⟨t + k, ag3, c3, m + 1, ls ++ [r], rfl, by go_num, by omega, by omega, by simpa using hown3, hS', hb3'⟩
    case measure => simp [intOf]; omega
#print axioms rall_any

set_option maxRecDepth 100000 in
set_option maxHeartbeats 400000 in
theorem same_any (ao : Option Addr) (len cap : Nat) (xs : List Int) (bo : Option Addr) (blen bcap : Nat) (ys : List Int) (w : World) (hr : Reads w ao len cap (xs.map (.int .i32))) (hk : Reads w bo blen bcap (ys.map (.int .i32))) :
    Calls Tryd.prog 36 #[.slice ao len cap, .slice bo blen bcap] w fun e w' => e = .returned (.bool (decide (xs = ys))) ∧ ∃ m, w' = w.drewN m := by
  have hl : xs.length = len := by simpa using hr.length
  have hl2 : ys.length = blen := by simpa using hk.length
  have hnn := hr.nn
  have hnn2 := hk.nn
  by_cases hlb : len = blen
  case neg =>
    have hE : Hid (decide (xs = ys) = false) := by show _ = _; simp; intro h; rw [h] at hl; omega
    have hne : ((len : Int) == blen) = false := by simp; omega
    go_enter Tryd.func36, Tryd.ntmps36
    go_wp2
    go_ret
    exact ⟨by rw [hE.out]; rfl, 0, rfl⟩
  subst hlb
  go_enter Tryd.func36, Tryd.ntmps36
  go_wp2_with fail
  go_loopw [5] (fun i wr => ∃ j : Nat, i = .int .i64 j ∧ j ≤ len ∧ Hid (xs.take j = ys.take j) ∧ ∃ m, wr = w.drewN m) (fun i _ => (len - intOf i).toNat)
  case atStart => exact ⟨0, rfl, by omega, rfl, 0, rfl⟩
  case round =>
    obtain ⟨j, rfl, hj, hT, md, hw⟩ := hrel
    have Hw : Hid _ := hw
    clear hw
    by_cases hjl : j = len
    · subst hjl
      have hE : Hid (decide (xs = ys) = true) := by show _ = _; simp only [decide_eq_true_eq]; have := hT.out; rwa [List.take_of_length_le (by omega), List.take_of_length_le (by omega)] at this
      go_wp2
      go_ret
      exact ⟨by rw [hE.out]; rfl, md, Hw.out⟩
    · have hlt : (j : Int) < len := by omega
      have hltN : j < len := by omega
      obtain ⟨b1, o1, rfl, hb1, hat1⟩ := hr.at (by omega)
      obtain ⟨b2, o2, rfl, hb2, hat2⟩ := hk.at (by omega)
      have hc1 : wr.cell? ⟨b1, o1 + j, none⟩ = some (.int .i32 (xs.getD j 0)) := by rw [Hw.out]; exact hat1 j hltN
      have hc2 : wr.cell? ⟨b2, o2 + j, none⟩ = some (.int .i32 (ys.getD j 0)) := by rw [Hw.out]; exact hat2 j hltN
      have t1 : xs.take (j + 1) = xs.take j ++ [xs.getD j 0] := by rw [List.take_add_one, List.getD, List.getElem?_eq_getElem (by omega)]; rfl
      have t2 : ys.take (j + 1) = ys.take j ++ [ys.getD j 0] := by rw [List.take_add_one, List.getD, List.getElem?_eq_getElem (by omega)]; rfl
      have hne : Hid (xs.getD j 0 ≠ ys.getD j 0 → decide (xs = ys) = false) := by show _ → _; intro h; simp only [decide_eq_false_iff_not]; intro h'; exact h (by rw [h'])
      generalize xs.getD j 0 = x at hc1 t1 hne
      generalize ys.getD j 0 = y at hc2 t2 hne
      by_cases hq : x = y
      · subst hq
        have hT' : Hid (xs.take (j + 1) = ys.take (j + 1)) := by show _ = _; rw [t1, t2, hT.out]
        clear t1 t2 hat1 hat2 hjl
        go_wp2_with fail
        go_quiet (fail)
        go_wp2
        go_roundw
        case rel => exact ⟨j + 1, by go_num, by omega, hT', md + nq, by rw [Hw.out, World.drewN_drewN]⟩
        case measure => simp [intOf]; omega
      · have hqd : (x == y) = false := by simpa using hq
        have hE : Hid (decide (xs = ys) = false) := hne.out hq
        clear t1 t2 hat1 hat2 hjl hq
        go_wp2_with fail
        go_quiet (fail)
        go_wp2
        go_ret
        exact ⟨by rw [hE.out]; rfl, md + nq, by rw [Hw.out, World.drewN_drewN]⟩
#print axioms same_any
end Go.Proofs.YtdhbbknjnbdplaaDoor
