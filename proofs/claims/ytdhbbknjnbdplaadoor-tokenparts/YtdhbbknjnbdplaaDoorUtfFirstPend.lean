/- The contracts of package utf: Pending, All, End, firstPending. -/
import Derived.Test.YtdhbbknjnbdplaaDoorUtfFull
import Derived.Test.YtdhbbknjnbdplaaDoorUtfAll
import Derived.Test.YtdhbbknjnbdplaaDoorLibSlices
namespace Go.Proofs.YtdhbbknjnbdplaaDoor
open Go.RowKit
set_option linter.unusedVariables false

set_option maxRecDepth 100000 in
theorem upending_any (ao : Option Addr) (len cap : Nat) (zs : List Int) (w : World) (hr : Reads w ao len cap (zs.map (.int .u8))) (h8 : isBytes zs) (hlen : len ≤ 140737488351232)
    (ht : Tabs w := by first | assumption | exact Tabs.grow (by assumption) (by assumption)) :
    Calls Tryd.prog 29 #[.slice ao len cap] w fun e w' => e = .returned (.bool (decide (pendU zs))) ∧ Below w.heap.size w w' := by
  have hl : zs.length = len := by simpa using hr.length
  by_cases h0 : len = 0
  · subst h0
    obtain rfl : zs = [] := List.eq_nil_of_length_eq_zero hl
    have hP : Hid (decide (pendU []) = false) := by show _ = _; decide
    clear hr hl hlen
    go_enter Tryd.func29, Tryd.ntmps29
    go_wp2
    go_ret
    exact ⟨by rw [hP.out]; rfl, Below.refl _ _⟩
  have hp : (0 : Int) < len := by omega
  go_enter Tryd.func29, Tryd.ntmps29
  go_wp2_with fail
  refine (full_any ao len cap zs w hr h8 (by omega) ht).mono ?_
  rintro e wa ⟨rfl, hb⟩
  obtain ⟨d, hd⟩ : ∃ d : Bool, Hid (decide (pendU zs) = d) := ⟨_, rfl⟩
  rw [hd.out]
  clear hr h0 hl
  go_wp2
  go_ret
  exact ⟨by rw [hd.out]; cases d <;> rfl, hb⟩
#print axioms upending_any

theorem uall_any (ao : Option Addr) (len cap : Nat) (zs : List Int) (w : World) (hr : Reads w ao len cap (zs.map (.int .u8))) (h8 : isBytes zs) (hlen : len ≤ 100000) :
    Calls Tryd.prog 23 #[.slice ao len cap] w fun e w' => ∃ ag c m, e = .returned (.slice ag m c) ∧ m = (allU zs).length ∧ Reads w' ag m c ((allU zs).map (.int .i32)) ∧ Below w.heap.size w w' :=
  (uall_own ao len cap zs w hr h8 (by omega)).mono fun e w' ⟨ag, c, m, h1, h2, h3, h4⟩ => ⟨ag, c, m, h1, h2, Reads.own h3, h4⟩

set_option maxRecDepth 100000 in
theorem uend_any (ao : Option Addr) (len cap : Nat) (zs : List Int) (w : World) (hr : Reads w ao len cap (zs.map (.int .u8))) (h8 : isBytes zs) (hlen : len ≤ 100000) :
    Calls Tryd.prog 39 #[.slice ao len cap] w fun e w' => ∃ ag c m, e = .returned (.slice ag m c) ∧ m = (allU zs).length ∧ Reads w' ag m c ((allU zs).map (.int .i32)) ∧ Below w.heap.size w w' := by
  go_enter Tryd.func39, Tryd.ntmps39
  go_wp2_with fail
  refine (uall_any ao len cap zs w hr h8 hlen).mono ?_
  rintro e wa ⟨ag, c, m, rfl, hm, h1, h2⟩
  have Hm : Hid _ := hm
  clear hm
  go_wp2
  go_ret
  exact ⟨ag, c, m, rfl, Hm.out, h1, h2⟩

set_option maxRecDepth 100000 in
set_option maxHeartbeats 400000 in
theorem ufirst_any (ao : Option Addr) (len cap : Nat) (zs : List Int) (w : World) (hr : Reads w ao len cap (zs.map (.int .u8))) (h8 : isBytes zs) (hlen : len ≤ 10000000) (ht : Tabs w) :
    Calls Tryd.prog 49 #[.slice ao len cap] w fun e w' => ∃ j : Nat, e = .returned (.int .i64 j) ∧ j ≤ len ∧ feedU zs = (allU (zs.take j), zs.drop j) ∧ Below w.heap.size w w' := by
  have hl : zs.length = len := by simpa using hr.length
  have hli : (len : Int) ≤ 10000000 := by omega
  go_enter Tryd.func49, Tryd.ntmps49
  go_wp2_with fail
  go_loopw [3] (fun v wr => ∃ t : Nat, v = .int .i64 t ∧ t ≤ len ∧ Hid (∀ i, zs.length - 3 ≤ i → i < t → ¬ pendU (zs.drop i)) ∧ Below w.heap.size w wr) (fun v _ => (len - intOf v).toNat)
  case atStart => exact ⟨len - 3, by congr 1; omega, by omega, by show ∀ i, _; intro i h1 h2; omega, Below.refl _ _⟩
  case round =>
    obtain ⟨t, rfl, htl, hN, hb⟩ := hrel
    by_cases hd : t = len
    · subst hd
      have hE : Hid (feedU zs = (allU (zs.take t), zs.drop t)) := feed_first (by omega) hN.out (.inl (by omega))
      clear hN hr hl
      go_wp2
      go_ret
      exact ⟨t, rfl, Nat.le_refl _, hE.out, hb⟩
    have hd' : (t : Int) < len := by omega
    have rr := hr.later hb (Nat.le_refl _)
    have htr := ht.later hb (Nat.le_refl _)
    obtain ⟨a1, hs1, hd1⟩ := Reads.from (P := Tryd.prog) Tryd.underlying22 (size_of Tryd.infoByte) (ao := ao) (len := len) (cap := cap) t htl
    have rd1 : Reads wr a1 (len - t) (cap - t) ((zs.drop t).map (.int .u8)) := by have := hd1 wr _ rr; simpa using this
    have b1 : isBytes (zs.drop t) := fun z hz => h8 z (List.mem_of_mem_drop hz)
    clear hd1 hd rr
    go_wp2_with fail
    refine (upending_any a1 (len - t) (cap - t) (zs.drop t) wr rd1 b1 (by omega) htr).mono ?_
    rintro e wb ⟨rfl, hb2⟩
    have hB := Grow.trans hb hb2
    clear hb hb2 rd1 htr hs1
    by_cases hp : pendU (zs.drop t)
    · have hE : Hid (feedU zs = (allU (zs.take t), zs.drop t)) := feed_first (by omega) hN.out (.inr hp)
      simp only [hp, decide_true]
      clear hN hr hl hp
      go_wp2
      go_ret
      exact ⟨t, rfl, htl, hE.out, hB⟩
    · have hN' : Hid (∀ i, zs.length - 3 ≤ i → i < t + 1 → ¬ pendU (zs.drop i)) := by
        show ∀ i, _
        intro i h1 h2
        rcases Nat.lt_or_ge i t with h | h
        · exact hN.out i h1 h
        · obtain rfl : i = t := by omega
          exact hp
      simp only [hp, decide_false]
      clear hN hp
      go_wp2
      go_roundw
      case rel => exact ⟨t + 1, by go_num, by omega, hN', hB⟩
      case measure => simp [intOf]; omega
#print axioms ufirst_any

end Go.Proofs.YtdhbbknjnbdplaaDoor
