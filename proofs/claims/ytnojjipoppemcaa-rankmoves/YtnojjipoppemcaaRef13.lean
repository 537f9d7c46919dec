/- The document's own Prune, Half and Ints. -/
import Derived.Test.YtnojjipoppemcaaRankMath
import Derived.Deep.QuietTactic
import Derived.BigQuiet
namespace Go.Proofs.Ytnojjipoppemcaa
open Go.RowKit
set_option linter.unusedVariables false
set_option linter.unusedSimpArgs false

set_option maxRecDepth 100000 in
set_option maxHeartbeats 4000000 in
theorem rprune_any {w : World} {ao : Option Addr} {len cap : Nat} {es : List En} (h : ReadsE w ao len cap (cellsE es)) (hl : len ≤ 1000000) (a : Nat) (ha : a ≤ 18446744073709551615) (hb : ∀ e ∈ es, e.2 ≤ 18446744073709551615) :
    Calls Try.prog 11 #[.slice ao len cap, .int .u64 (a : Nat)] w fun e w' => ∃ ag c m, e = .returned (.slice ag m c) ∧ m = (pruneL es a).length ∧ w'.ownsRow w.heap.size 35 2 (.slice ag m c) m (cellsE (pruneL es a)) ∧ Below w.heap.size w w' := by
  have Hlx : Hid _ := h.count
  have H : Hid _ := h
  have Hb : Hid _ := hb
  clear h hb
  go_enter Try.func11, Try.ntmps11
  go_wp2_with fail
  go_loopw [5, 6] (fun v i wr => ∃ (j m : Nat) (ag : Option Addr) (cc : Nat), v = .slice ag m cc ∧ i = .int .i64 (j : Nat) ∧ j ≤ len ∧ m ≤ j ∧ Hid (m = (pruneL (es.take j) a).length) ∧
    Hid (wr.ownsRow w.heap.size 35 2 (.slice ag m cc) m (cellsE (pruneL (es.take j) a))) ∧ Hid (Below w.heap.size w wr)) (fun _ i _ => (len - intOf i).toNat)
  case atStart => exact ⟨0, 0, none, 0, rfl, rfl, Nat.zero_le _, Nat.le_refl _, (rfl : 0 = _), World.ownsRow_nil _ _ _ _, Below.refl _ _⟩
  case round =>
    obtain ⟨j, m, ag, cc, rfl, rfl, hj, hmj, hm, hrow, hB⟩ := hrel
    have hsz := hB.out.size
    by_cases hjl : j < len
    · have hji : (j : Int) < len := by omega
      obtain ⟨b, off, rfl, hbl, hc⟩ := (H.out.later hB.out (Nat.le_refl _)).at (by omega)
      obtain ⟨e, he⟩ : ∃ e, es[j]? = some e := ⟨_, List.getElem?_eq_getElem (by rw [Hlx.out]; exact hjl)⟩
      obtain ⟨c1, c2⟩ := hc j e he
      have hstep := prune_step (a := a) he
      have heb := Hb.out e (List.mem_of_getElem? he)
      obtain ⟨x, n⟩ := e
      simp only at c1 c2 hstep heb
      by_cases hn : a ≤ n
      · rw [if_pos hn] at hstep
        have q1 : (a : Int) ≤ n := by omega
        have hone : ∀ u ∈ [strV x, Value.int .u64 (n : Nat)], u.oneCell' = true := by simp [Value.oneCell', strV]
        have hm1 : m + 1 ≤ maxLen := by unfold maxLen; omega
        have hm2 : (m + 1) * 24 ≤ 140737488355328 := by omega
        have HS : Hid _ := hstep
        have Hm : Hid _ := hm.out
        have hrw := hrow.out
        clear hstep hc he hn hm hrow hbl
        go_wp2_with (at_builtin; refine wpList_append_en rfl _ _ rfl w.heap.size _ _ _ _ rfl (hrw.alloc _) _ _ _ _ rfl (reads_lit _ _ _ _) hone hm1 hm2 (Nat.le_trans hsz (by simp)) ?_; intro ag2 c2 w2 hr2 hg2 hb2 hw2)
        have HB2 : Hid _ := (hB.out.alloc hsz _).trans hb2
        have HR2 : Hid (w2.ownsRow w.heap.size 35 2 (.slice ag2 (m + 1) c2) (m + 1) (cellsE (pruneL (es.take (j + 1)) a))) := by
          show World.ownsRow _ _ _ _ _ _ _
          rw [HS.out, cells_app]; exact hr2
        have HM2 : Hid (m + 1 = (pruneL (es.take (j + 1)) a).length) := by show _ = _; rw [HS.out, List.length_append, ← Hm.out]; rfl
        clear hr2 hg2 hb2 hw2 hrw
        go_wp2
        go_roundw
        case rel => exact ⟨j + 1, m + 1, ag2, c2, rfl, by go_num, by omega, by omega, HM2, HR2, HB2⟩
        case measure => simp [intOf]; omega
      · rw [if_neg hn, List.append_nil] at hstep
        have q1 : ¬ (a : Int) ≤ n := by omega
        have HR2 : Hid (wr.ownsRow w.heap.size 35 2 (.slice ag m cc) m (cellsE (pruneL (es.take (j + 1)) a))) := by show World.ownsRow _ _ _ _ _ _ _; rw [hstep]; exact hrow.out
        have HM2 : Hid (m = (pruneL (es.take (j + 1)) a).length) := by show _ = _; rw [hstep]; exact hm.out
        clear hstep hc he hn hm hrow hbl
        go_wp2
        go_roundw
        case rel => exact ⟨j + 1, m, ag, cc, rfl, by go_num, by omega, by omega, HM2, HR2, hB⟩
        case measure => simp [intOf]; omega
    · have hji : ¬ (j : Int) < len := by omega
      have ht : es.take j = es := List.take_of_length_le (by have := Hlx.out; omega)
      rw [ht] at hm hrow
      have Hm : Hid _ := hm.out
      clear hm ht
      go_wp2
      go_ret
      exact ⟨ag, cc, m, rfl, Hm.out, hrow.out, hB.out⟩
#print axioms rprune_any

set_option maxRecDepth 100000 in
set_option maxHeartbeats 4000000 in
theorem rhalf_any : ∀ (n : Nat) (w : World), n ≤ 18446744073709551615 → Calls Try.prog 16 #[.int .u64 (n : Nat)] w fun e w' => e = .returned (.int .i64 (halfs n : Nat)) ∧ w' = w := by
  intro n
  induction n using Nat.strongRecOn with
  | ind n ih =>
    intro w hn
    by_cases h0 : n = 0
    · subst h0
      clear ih
      go_enter Try.func16, Try.ntmps16
      go_wp2
      go_ret
      exact ⟨rfl, rfl⟩
    · have i1 : ((n : Int) == 0) = false := by rw [beq_eq_false_iff_ne]; omega
      have i2 : ¬ (n : Int) = 0 := by omega
      have p := ih (n / 2) (by omega) w (by omega)
      have hq : (n : Int) / 2 = ((n / 2 : Nat) : Int) := rfl
      have hE : Hid (((halfs n : Nat) : Int) = 1 + (halfs (n / 2) : Nat)) := by show _ = _; rw [half_next h0]; push_cast; rfl
      have hm := half_most 64 (n / 2) (by omega)
      generalize n / 2 = q at *
      generalize halfs q = r at *
      clear ih h0
      go_enter Try.func16, Try.ntmps16
      go_wp2_with fail
      refine p.mono ?_
      rintro e w' ⟨rfl, rfl⟩
      clear p
      go_wp2
      go_ret
      exact ⟨by rw [hE.out]; rfl, rfl⟩
#print axioms rhalf_any
end Go.Proofs.Ytnojjipoppemcaa
