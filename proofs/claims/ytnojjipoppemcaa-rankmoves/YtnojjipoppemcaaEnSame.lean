/- manteletref08.Same: two lists of entries. -/
import Derived.Test.YtnojjipoppemcaaEnAll
import Derived.Laws.StructEq
import Derived.Deep.QuietTactic
import Derived.BigQuiet
namespace Go.Proofs.Ytnojjipoppemcaa
open Go.RowKit
set_option linter.unusedVariables false
set_option linter.unusedSimpArgs false
theorem beq_en (a b : Wd) (m n : Nat) : ((a == b) && ((m : Int) == n)) = decide ((a, m) = (b, n)) := by
  by_cases h1 : a = b
  · by_cases h2 : m = n
    · simp [h1, h2]
    · have : ((m : Int) == n) = false := by rw [beq_eq_false_iff_ne]; omega
      rw [this]; simp [h1, h2]
  · simp [h1]
theorem en_neq (a b : Wd) (m n : Nat) (W : World) : (binOp .neq 35 (.agg #[strV a, .int .u64 m]) (.agg #[strV b, .int .u64 n])).run Try.prog W = .ok (.bool (!decide ((a, m) = (b, n)))) W := by
  have hu : Try.prog.underlying 35 = some (.struct (Try.prog.fieldsOf 35)) := by rw [Try.underlying35]; kernel_rfl
  rw [run_neq_struct, run_equalIn_agg W 9999 35 _ _ hu (by kernel_rfl), ← beq_en]
  rw [show (Try.prog.fieldsOf 35).toList = _ from by simp only [Program.fieldsOf, Try.underlying35]; rfl]
  simp [Op.eqFields, part, sizeOf, Try.isAgg9, Try.isAgg23, run_equalIn_string W 9998 9 _ _ Try.underlying9, run_equalIn_int W 9998 23 .u64 .u64 _ _ Try.underlying23]
  by_cases h1 : a = b <;> by_cases h2 : (m : Int) = n <;> simp [h1, h2]
set_option maxRecDepth 100000 in
set_option maxHeartbeats 2000000 in
theorem rsameE_any {w : World} {ao bo : Option Addr} {len cap blen bcap : Nat} {x y : List En} (h : ReadsE w ao len cap (cellsE x)) (k : ReadsE w bo blen bcap (cellsE y)) :
    Calls Try.prog 9 #[.slice ao len cap, .slice bo blen bcap] w fun e w' => e = .returned (.bool (decide (x = y))) ∧ ∃ m, w' = w.drewN m := by
  have hm := Nat.le_trans h.le h.most
  unfold maxLen at hm
  have hlx := h.count
  have hly := k.count
  subst hlx hly
  have hmi : (x.length : Int) ≤ 9223372036854775807 := by omega
  clear hm
  by_cases hlb : x.length = y.length
  case neg =>
    have hE : Hid (decide (x = y) = false) := by show _ = _; rw [decide_eq_false_iff_not]; intro h; rw [h] at hlb; exact hlb rfl
    have hne : ((x.length : Int) == y.length) = false := by rw [beq_eq_false_iff_ne]; omega
    go_enter Try.func9, Try.ntmps9
    go_wp2
    go_ret
    exact ⟨by rw [hE.out]; rfl, 0, rfl⟩
  have Hlb : Hid _ := hlb
  rw [← hlb] at k ⊢
  generalize hn : x.length = n at *
  have Hn : Hid _ := hn
  clear hn hlb
  go_enter Try.func9, Try.ntmps9
  go_wp2_with fail
  go_loopw [5] (fun i wr => ∃ j : Nat, i = .int .i64 j ∧ j ≤ n ∧ Hid (x.take j = y.take j) ∧ ∃ m, wr = w.drewN m) (fun i _ => (n - intOf i).toNat)
  case atStart => exact ⟨0, rfl, by omega, rfl, 0, rfl⟩
  case round =>
    obtain ⟨j, rfl, hj, hT, md, hw⟩ := hrel
    have Hw : Hid _ := hw
    clear hw
    by_cases hjl : j = n
    · subst hjl
      have hE : Hid (decide (x = y) = true) := by show _ = _; simp only [decide_eq_true_eq]; have := hT.out; rwa [List.take_of_length_le (by rw [Hn.out]; exact Nat.le_refl _), List.take_of_length_le (by rw [← Hlb.out]; exact Nat.le_refl _)] at this
      go_wp2
      go_ret
      exact ⟨by rw [hE.out]; rfl, md, Hw.out⟩
    have hlt : (j : Int) < n := by omega
    have hltN : j < n := by omega
    obtain ⟨g, og, rfl, q1, hc1⟩ := h.at (by omega)
    obtain ⟨g2, og2, rfl, q2, hc2⟩ := k.at (by omega)
    clear q1 q2
    obtain ⟨p, e1⟩ : ∃ p, x[j]? = some p := ⟨_, List.getElem?_eq_getElem (by rw [Hn.out]; exact hltN)⟩
    obtain ⟨q, e2⟩ : ∃ q, y[j]? = some q := ⟨_, List.getElem?_eq_getElem (by rw [← Hlb.out]; exact hltN)⟩
    have t1 : x.take (j + 1) = x.take j ++ [p] := by rw [List.take_add_one, e1]; rfl
    have t2 : y.take (j + 1) = y.take j ++ [q] := by rw [List.take_add_one, e2]; rfl
    have a1 : wr.cell? ⟨g, og + j * 2, none⟩ = some (strV p.1) := by rw [Hw.out]; exact (hc1 j _ e1).1
    have a2 : wr.cell? ⟨g, og + j * 2 + 1, none⟩ = some (.int .u64 p.2) := by rw [Hw.out]; exact (hc1 j _ e1).2
    have b1 : wr.cell? ⟨g2, og2 + j * 2, none⟩ = some (strV q.1) := by rw [Hw.out]; exact (hc2 j _ e2).1
    have b2 : wr.cell? ⟨g2, og2 + j * 2 + 1, none⟩ = some (.int .u64 q.2) := by rw [Hw.out]; exact (hc2 j _ e2).2
    have hne : Hid (p ≠ q → decide (x = y) = false) := by
      show _ → _; intro h; simp only [decide_eq_false_iff_not]; intro h'
      subst h'; exact h (Option.some.inj (e1.symm.trans e2))
    have T1 : Hid _ := t1
    have T2 : Hid _ := t2
    clear hc1 hc2 e1 e2 t1 t2 h k hjl
    obtain ⟨pk, pn⟩ := p
    obtain ⟨qk, qn⟩ := q
    have hrun : ∀ W, (binOp .neq 35 (.agg #[strV pk, .int .u64 pn]) (.agg #[strV qk, .int .u64 qn])).run Try.prog W = .ok (.bool (!decide ((pk, pn) = (qk, qn)))) W := fun W => en_neq pk qk pn qn W
    by_cases hq : (pk, pn) = (qk, qn)
    · simp only [hq, decide_true, Bool.not_true] at hrun
      have hT' : Hid (x.take (j + 1) = y.take (j + 1)) := by show _ = _; rw [T1.out, T2.out, hT.out, hq]
      clear hne hT T1 T2 hq
      go_wp2_with fail
      go_quiet (fail)
      go_wp2
      go_roundw
      case rel => exact ⟨j + 1, by go_num, by omega, hT', md + nq, by rw [Hw.out, World.drewN_drewN]⟩
      case measure => simp [intOf]; omega
    · simp only [hq, decide_false, Bool.not_false] at hrun
      have hE : Hid _ := hne.out hq
      clear hne hT T1 T2 hq
      go_wp2_with fail
      go_quiet (fail)
      go_wp2
      go_ret
      exact ⟨by rw [hE.out]; rfl, md + nq, by rw [Hw.out, World.drewN_drewN]⟩
#print axioms rsameE_any
theorem rsame_any {w : World} {v u : Value} {x y : List En} (h : w.ownsRow 0 35 2 v x.length (cellsE x)) (k : w.ownsRow 0 35 2 u y.length (cellsE y)) :
    Calls Try.prog 9 #[v, u] w fun e w' => e = .returned (.bool (decide (x = y))) ∧ ∃ m, w' = w.drewN m := by
  obtain ⟨ao, cap, rfl⟩ := own2_slice h
  obtain ⟨bo, bcap, rfl⟩ := own2_slice k
  exact rsameE_any (ReadsE.own h) (ReadsE.own k)
end Go.Proofs.Ytnojjipoppemcaa
