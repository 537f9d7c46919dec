/- The landed fold.Letter, fold.Mark, fold.Fold. -/
import Derived.Test.YtdhbbknjnbdplaaDoorFoldTabs
import Derived.Test.YtdhbbknjnbdplaaDoorOwn
import Derived.Test.YtdhbbknjnbdplaaDoorArr
namespace Go.Proofs.YtdhbbknjnbdplaaDoor
open Go.RowKit
set_option linter.unusedVariables false

/-- An array of structs, taken by value: its element. -/
theorem part_at {P : Program} (W : World) (t e : TypeId) (n m : Nat) (cs r : List Value) (j : Nat) (ht : P.underlying t = some (.array n e)) (hz : ∀ w, (Go.sizeOf e).run P w = .ok m w) (ha : ∀ w, (isAgg e).run P w = .ok true w) (hj : j < n)
    (hr : (cs.drop (j * m)).take m = r) : (Instr.index t (.agg cs.toArray) (.int .i64 j)).run P W = .ok (.agg r.toArray) W := by
  have hn : (0 : Int) ≤ j ∧ (j : Int) < n := by omega
  simp [Instr.index, run_underlying ht, asIntOf, hn, hj, go_sem, hz, part, ha]
  rw [← hr]

theorem letter_rows : ∀ j, j < 8 → ((cellsR letterRows).drop (j * 2)).take 2 = [.int .i32 ((letterRows.getD j []).getD 0 0), .int .i32 ((letterRows.getD j []).getD 1 0)] := by
  intro j hj
  have : j = 0 ∨ j = 1 ∨ j = 2 ∨ j = 3 ∨ j = 4 ∨ j = 5 ∨ j = 6 ∨ j = 7 := by omega
  rcases this with rfl | rfl | rfl | rfl | rfl | rfl | rfl | rfl <;> rfl
theorem great_rows : ∀ j, j < 14 → ((cellsR greatRows).drop (j * 4)).take 4 = [.int .i32 ((greatRows.getD j []).getD 0 0), .int .i32 ((greatRows.getD j []).getD 1 0), .int .i32 ((greatRows.getD j []).getD 2 0), .int .i32 ((greatRows.getD j []).getD 3 0)] := by
  intro j hj
  have : j = 0 ∨ j = 1 ∨ j = 2 ∨ j = 3 ∨ j = 4 ∨ j = 5 ∨ j = 6 ∨ j = 7 ∨ j = 8 ∨ j = 9 ∨ j = 10 ∨ j = 11 ∨ j = 12 ∨ j = 13 := by omega
  rcases this with rfl | rfl | rfl | rfl | rfl | rfl | rfl | rfl | rfl | rfl | rfl | rfl | rfl | rfl <;> rfl

def inL (c : Int) (j : Nat) : Prop := (letterRows.getD j []).getD 0 0 ≤ c ∧ c ≤ (letterRows.getD j []).getD 1 0
theorem letter_in (c : Int) (j : Nat) (hj : j < 8) (h : inL c j) : letterF c = true := by
  unfold inL at h
  unfold letterF
  rw [decide_eq_true_eq]
  have : j = 0 ∨ j = 1 ∨ j = 2 ∨ j = 3 ∨ j = 4 ∨ j = 5 ∨ j = 6 ∨ j = 7 := by omega
  rcases this with rfl | rfl | rfl | rfl | rfl | rfl | rfl | rfl <;> simp [letterRows] at h <;> omega
theorem letter_out (c : Int) (h : ∀ j, j < 8 → ¬ inL c j) : letterF c = false := by
  unfold letterF
  rw [decide_eq_false_iff_not]
  have h0 := h 0 (by omega); have h1 := h 1 (by omega); have h2 := h 2 (by omega); have h3 := h 3 (by omega)
  have h4 := h 4 (by omega); have h5 := h 5 (by omega); have h6 := h 6 (by omega); have h7 := h 7 (by omega)
  simp [inL, letterRows] at h0 h1 h2 h3 h4 h5 h6 h7
  omega

set_option maxRecDepth 100000 in
set_option maxHeartbeats 4000000 in
theorem fletter_any (c : Int) (w : World) (h : -2147483648 ≤ c ∧ c ≤ 2147483647) (ht : Tabs w := by first | assumption | exact Tabs.grow (by assumption) (by assumption)) :
    Calls Tryd.prog 52 #[.int .i32 c] w fun e w' => e = .returned (.bool (letterF c)) ∧ Below w.heap.size w w' := by
  have HT : Hid (w.rangeAt 2 0 (cellsR letterRows)) := ht.letters
  have HI : Hid ((Tryd.prog.info? 94).map (·.size) = some (cellsR letterRows).length) := by show _ = _; kernel_rfl
  have hix : Hid (∀ j : Nat, j < 8 → ∀ W, (Instr.index 94 (.agg (cellsR letterRows).toArray) (.int .i64 j)).run Tryd.prog W = .ok (.agg #[.int .i32 ((letterRows.getD j []).getD 0 0), .int .i32 ((letterRows.getD j []).getD 1 0)]) W) := fun j hj W => part_at W 94 93 8 2 _ _ j Tryd.underlying94 Tryd.sizeOf93 Tryd.isAgg93 hj (letter_rows j hj)
  generalize cellsR letterRows = cs at HT HI hix
  clear ht
  go_enter Tryd.func52, Tryd.ntmps52
  go_wp2_with (refine wpList_load_mid rfl 94 (.global 2) rfl _ 0 rfl cs _ HT.out Tryd.underlying94 rfl HI.out ?_)
  go_loopw [6] (fun i wr => ∃ j : Nat, i = .int .i64 j ∧ j ≤ 8 ∧ (∀ k, k < j → ¬ inL c k) ∧ Below w.heap.size w wr) (fun i _ => (8 - intOf i).toNat)
  case atStart => exact ⟨0, rfl, by omega, by omega, Below.refl _ _⟩
  case round =>
    obtain ⟨j, rfl, hj, hno, hb⟩ := hrel
    have hsz := hb.size
    by_cases hj8 : j = 8
    · subst hj8
      go_wp2
      go_ret
      exact ⟨by rw [letter_out c hno]; rfl, hb⟩
    have hj' : (j : Int) ≤ 7 := by omega
    have hx := hix.out j (by omega)
    have hin : Hid (inL c j → letterF c = true) := letter_in c j (by omega)
    have hi2 : Hid (inL c j ↔ (letterRows.getD j []).getD 0 0 ≤ c ∧ c ≤ (letterRows.getD j []).getD 1 0) := Iff.rfl
    generalize (letterRows.getD j []).getD 0 0 = lo at hx hi2
    generalize (letterRows.getD j []).getD 1 0 = hi at hx hi2
    by_cases h1 : lo ≤ c
    · by_cases h2 : c ≤ hi
      · go_wp2
        go_ret
        exact ⟨by rw [hin.out (hi2.out.2 ⟨h1, h2⟩)]; rfl, hb.alloc hsz _⟩
      · go_wp2
        go_roundw
        case rel =>
          refine ⟨j + 1, by go_num, by omega, ?_, hb.alloc hsz _⟩
          intro k hk
          by_cases e : k = j
          · subst e; rw [hi2.out]; exact fun x => h2 x.2
          · exact hno k (by omega)
        case measure => simp [intOf]; omega
    · go_wp2
      go_roundw
      case rel =>
        refine ⟨j + 1, by go_num, by omega, ?_, hb.alloc hsz _⟩
        intro k hk
        by_cases e : k = j
        · subst e; rw [hi2.out]; exact fun x => h1 x.1
        · exact hno k (by omega)
      case measure => simp [intOf]; omega


theorem fmark_any (c : Int) (w : World) (h : -2147483648 ≤ c ∧ c ≤ 2147483647) : Calls Tryd.prog 55 #[.int .i32 c] w fun e w' => e = .returned (.bool (markF c)) ∧ Below w.heap.size w w' := by
  by_cases h1 : c = 39
  · subst h1
    go_enter Tryd.func55, Tryd.ntmps55
    go_wp2
    go_ret
    exact ⟨rfl, Below.refl _ _⟩
  · have n1 : (c == 39) = false := by rw [beq_eq_false_iff_ne]; exact h1
    by_cases h2 : c = 8217
    · subst h2
      go_enter Tryd.func55, Tryd.ntmps55
      go_wp2
      go_ret
      exact ⟨rfl, Below.refl _ _⟩
    · have n2 : (c == 8217) = false := by rw [beq_eq_false_iff_ne]; exact h2
      have hE : Hid (markF c = false) := by show _ = _; unfold markF; rw [decide_eq_false_iff_not]; omega
      clear h1 h2
      go_enter Tryd.func55, Tryd.ntmps55
      go_wp2
      go_ret
      exact ⟨by rw [hE.out]; rfl, Below.refl _ _⟩

def gAt (j k : Nat) : Int := (greatRows.getD j []).getD k 0
def inG (c : Int) (j : Nat) : Prop := gAt j 0 ≤ c ∧ c ≤ gAt j 1 ∧ (c - gAt j 0) % gAt j 2 = 0
theorem great_cases {j : Nat} (hj : j < 14) : j = 0 ∨ j = 1 ∨ j = 2 ∨ j = 3 ∨ j = 4 ∨ j = 5 ∨ j = 6 ∨ j = 7 ∨ j = 8 ∨ j = 9 ∨ j = 10 ∨ j = 11 ∨ j = 12 ∨ j = 13 := by omega
theorem great_bounds (j : Nat) (hj : j < 14) : 0 ≤ gAt j 0 ∧ gAt j 1 ≤ 2000 ∧ (gAt j 2 = 1 ∨ gAt j 2 = 2) ∧ -200 ≤ gAt j 3 ∧ gAt j 3 ≤ 100 := by
  rcases great_cases hj with rfl | rfl | rfl | rfl | rfl | rfl | rfl | rfl | rfl | rfl | rfl | rfl | rfl | rfl <;> decide
theorem great_in (c : Int) (j : Nat) (hj : j < 14) (h : inG c j) : foldF c = c + gAt j 3 := by
  unfold inG at h
  unfold foldF twentyF oneMoreF
  rcases great_cases hj with rfl | rfl | rfl | rfl | rfl | rfl | rfl | rfl | rfl | rfl | rfl | rfl | rfl | rfl <;> simp [gAt, greatRows] at h ⊢ <;> (repeat' split) <;> omega
theorem great_out (c : Int) (h : ∀ j, j < 14 → ¬ inG c j) : foldF c = c := by
  have h0 := h 0 (by omega); have h1 := h 1 (by omega); have h2 := h 2 (by omega); have h3 := h 3 (by omega)
  have h4 := h 4 (by omega); have h5 := h 5 (by omega); have h6 := h 6 (by omega); have h7 := h 7 (by omega)
  have h8 := h 8 (by omega); have h9 := h 9 (by omega); have h10 := h 10 (by omega); have h11 := h 11 (by omega)
  have h12 := h 12 (by omega); have h13 := h 13 (by omega)
  simp [inG, gAt, greatRows] at h0 h1 h2 h3 h4 h5 h6 h7 h8 h9 h10 h11 h12 h13
  clear h
  unfold foldF
  rw [if_neg (by unfold twentyF; omega), if_neg (by unfold oneMoreF; omega), if_neg (by omega), if_neg (by omega)]

set_option maxRecDepth 100000 in
set_option maxHeartbeats 4000000 in
theorem ffold_any (c : Int) (w : World) (h : -2147483648 ≤ c ∧ c ≤ 2147483647) (ht : Tabs w := by first | assumption | exact Tabs.grow (by assumption) (by assumption)) :
    Calls Tryd.prog 54 #[.int .i32 c] w fun e w' => e = .returned (.int .i32 (foldF c)) ∧ Below w.heap.size w w' := by
  have HT : Hid (w.rangeAt 3 0 (cellsR greatRows)) := ht.greats
  have HI : Hid ((Tryd.prog.info? 97).map (·.size) = some (cellsR greatRows).length) := by show _ = _; kernel_rfl
  have hix : Hid (∀ j : Nat, j < 14 → ∀ W, (Instr.index 97 (.agg (cellsR greatRows).toArray) (.int .i64 j)).run Tryd.prog W = .ok (.agg #[.int .i32 (gAt j 0), .int .i32 (gAt j 1), .int .i32 (gAt j 2), .int .i32 (gAt j 3)]) W) := fun j hj W => part_at W 97 96 14 4 _ _ j Tryd.underlying97 Tryd.sizeOf96 Tryd.isAgg96 hj (great_rows j hj)
  generalize cellsR greatRows = cs at HT HI hix
  clear ht
  go_enter Tryd.func54, Tryd.ntmps54
  go_wp2_with (refine wpList_load_mid rfl 97 (.global 3) rfl _ 0 rfl cs _ HT.out Tryd.underlying97 rfl HI.out ?_)
  go_loopw [6] (fun i wr => ∃ j : Nat, i = .int .i64 j ∧ j ≤ 14 ∧ (∀ k, k < j → ¬ inG c k) ∧ Below w.heap.size w wr) (fun i _ => (14 - intOf i).toNat)
  case atStart => exact ⟨0, rfl, by omega, by omega, Below.refl _ _⟩
  case round =>
    obtain ⟨j, rfl, hj, hno, hb⟩ := hrel
    have hsz := hb.size
    by_cases hj8 : j = 14
    · subst hj8
      have hE := great_out c hno
      go_wp2
      go_ret
      exact ⟨by rw [hE]; rfl, hb⟩
    have hj' : (j : Int) ≤ 13 := by omega
    have hx := hix.out j (by omega)
    have hin : Hid (inG c j → foldF c = c + gAt j 3) := great_in c j (by omega)
    have hi2 : Hid (inG c j ↔ gAt j 0 ≤ c ∧ c ≤ gAt j 1 ∧ (c - gAt j 0) % gAt j 2 = 0) := Iff.rfl
    have hbd := great_bounds j (by omega)
    generalize gAt j 0 = lo at hx hi2 hbd
    generalize gAt j 1 = hi at hx hi2 hbd
    generalize gAt j 2 = st at hx hi2 hbd
    generalize gAt j 3 = mo at hx hin hbd
    obtain ⟨b0, b1, b2, b3, b4⟩ := hbd
    by_cases h1 : lo ≤ c
    · by_cases h2 : c ≤ hi
      · have hw : IntKind.i32.wrap (c - lo) = c - lo := by rw [IntKind.wrap_i32]; omega
        have hw2 : IntKind.i32.wrap (c + mo) = c + mo := by rw [IntKind.wrap_i32]; omega
        rcases b2 with rfl | rfl
        · have hm : (c - lo) % 1 = 0 := by omega
          have hE := hin.out (hi2.out.2 ⟨h1, h2, hm⟩)
          go_wp2
          go_ret
          exact ⟨by rw [hE]; rfl, hb.alloc hsz _⟩
        · by_cases hm : (c - lo) % 2 = 0
          · have hE := hin.out (hi2.out.2 ⟨h1, h2, hm⟩)
            have ht : Int.tmod (c - lo) 2 = 0 := by rw [Int.tmod_eq_emod_of_nonneg (by omega)]; exact hm
            go_wp2
            go_ret
            exact ⟨by rw [hE]; rfl, hb.alloc hsz _⟩
          · have ht : (Int.tmod (c - lo) 2 == 0) = false := by rw [Int.tmod_eq_emod_of_nonneg (by omega), beq_eq_false_iff_ne]; exact hm
            go_wp2
            go_roundw
            case rel =>
              refine ⟨j + 1, by go_num, by omega, ?_, hb.alloc hsz _⟩
              intro k hk
              by_cases e : k = j
              · subst e; rw [hi2.out]; exact fun x => hm x.2.2
              · exact hno k (by omega)
            case measure => simp [intOf]; omega
      · go_wp2
        go_roundw
        case rel =>
          refine ⟨j + 1, by go_num, by omega, ?_, hb.alloc hsz _⟩
          intro k hk
          by_cases e : k = j
          · subst e; rw [hi2.out]; exact fun x => h2 x.2.1
          · exact hno k (by omega)
        case measure => simp [intOf]; omega
    · go_wp2
      go_roundw
      case rel =>
        refine ⟨j + 1, by go_num, by omega, ?_, hb.alloc hsz _⟩
        intro k hk
        by_cases e : k = j
        · subst e; rw [hi2.out]; exact fun x => h1 x.1
        · exact hno k (by omega)
      case measure => simp [intOf]; omega
#print axioms ffold_any
#print axioms fletter_any
end Go.Proofs.YtdhbbknjnbdplaaDoor
