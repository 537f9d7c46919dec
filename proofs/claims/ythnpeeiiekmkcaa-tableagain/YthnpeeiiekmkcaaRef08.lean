/- The document's own answers for the table: Same, At, Get. -/
import Derived.Test.YthnpeeiiekmkcaaTabGet
import Derived.Laws.StructEq
import Derived.Deep.QuietTactic
import Derived.BigQuiet
namespace Go.Proofs.Ythnpeeiiekmkcaa
open Go.RowKit
set_option linter.unusedVariables false
set_option linter.unusedSimpArgs false

theorem own2_at {w : World} {base : Nat} {v : Value} {es : List En} (h : w.ownsRow base 44 2 v es.length (cellsE es)) (hp : 0 < es.length) :
    ∃ g cap, v = .slice (some ⟨g, 0, none⟩) es.length cap ∧ es.length ≤ cap ∧ cap ≤ maxLen ∧ g < w.heap.size ∧ (∀ i e, es[i]? = some e → w.cell? ⟨g, i * 2, none⟩ = some (strV e.1) ∧ w.cell? ⟨g, i * 2 + 1, none⟩ = some (.int .u64 e.2)) ∧ ∀ i, w.frozen? ⟨g, i, none⟩ = false := by
  rcases h.2 with ⟨h1, h2⟩ | ⟨g, cap, cur, h1, h2, h3, h4, h5, h6, h7⟩
  · omega
  · have hc := h.cells (g := g) (by rw [h1]; rfl)
    refine ⟨g, cap, h1, h4, h5, (Array.getElem?_eq_some_iff.1 h3).1, fun i e he => ?_, fun i => by simp [World.frozen?, h3]⟩
    have h8 := cells_at he
    have h9 := hc _ _ h8.1
    have h10 := hc _ _ h8.2
    simp only [Addr.add_lit, Nat.zero_add] at h9 h10
    exact ⟨h9, h10⟩
theorem own2_most {w : World} {base e n : Nat} {v : Value} {xs : List Value} (h : w.ownsRow base e 2 v n xs) : n ≤ maxLen := by
  rcases h.2 with ⟨h1, h2⟩ | ⟨g, cap, cur, h1, h2, h3, h4, h5, h6, h7⟩
  · omega
  · omega
theorem own2_mono {w : World} {base base' e n : Nat} {v : Value} {xs : List Value} (h : w.ownsRow base e 2 v n xs) (hb : base' ≤ base) : w.ownsRow base' e 2 v n xs := by
  refine ⟨h.1, ?_⟩
  rcases h.2 with h' | ⟨g, cap, cur, h1, h2, h3⟩
  · exact .inl h'
  · exact .inr ⟨g, cap, cur, h1, by omega, h3⟩

theorem at_stop : ∀ (x : List En) (k : Wd) {e : En}, x[atE x k]? = some e → lessB e.1 k = false
  | [], k, e, h => by simp [atE] at h
  | a :: x, k, e, h => by
    unfold atE at h
    rw [List.takeWhile_cons] at h
    split at h
    · rw [List.length_cons, List.getElem?_cons_succ] at h
      exact at_stop x k h
    · rename_i hn
      simp only [List.length_nil, List.getElem?_cons_zero, Option.some.injEq] at h
      subst h; simpa using hn
theorem at_more {x : List En} {k : Wd} {j : Nat} {e : En} (hj : j ≤ atE x k) (he : x[j]? = some e) (hl : lessB e.1 k = true) : j + 1 ≤ atE x k := by
  rcases Nat.lt_or_eq_of_le hj with h | h
  · omega
  · subst h; rw [at_stop x k he] at hl; cases hl
theorem at_here {x : List En} {k : Wd} {j : Nat} {e : En} (hj : j ≤ atE x k) (he : x[j]? = some e) (hl : lessB e.1 k = false) : atE x k = j := by
  rcases Nat.lt_or_eq_of_le hj with h | h
  · have : e ∈ x.take (atE x k) := List.mem_of_getElem? (i := j) (by rw [List.getElem?_take_of_lt h]; exact he)
    rw [at_below this] at hl; cases hl
  · exact h.symm

set_option maxRecDepth 100000 in
set_option maxHeartbeats 2000000 in
theorem rat_any {w : World} {v : Value} {x : List En} (h : w.ownsRow 0 44 2 v x.length (cellsE x)) (k : Wd) :
    Calls Try.prog 24 #[v, strV k] w fun e w' => e = .returned (.int .i64 (atE x k : Nat)) ∧ w' = w := by
  have hm := own2_most h
  unfold maxLen at hm
  have hmi : (x.length : Int) ≤ 9223372036854775807 := by omega
  obtain ⟨ao, cap, rfl⟩ := own2_slice h
  have hal := at_le x k
  clear hm
  go_enter Try.func24, Try.ntmps24
  go_wp2_with fail
  go_loop [5] (fun i => ∃ j : Nat, i = .int .i64 j ∧ j ≤ atE x k) (fun i => (x.length - intOf i).toNat)
  case atStart => exact ⟨0, rfl, Nat.zero_le _⟩
  case round =>
    obtain ⟨j, rfl, hj⟩ := hrel
    by_cases hjl : j = x.length
    · have hE : Hid (atE x k = j) := by show _ = _; omega
      have hlt : ¬ (j : Int) < x.length := by omega
      clear hj hal hjl
      go_wp2
      go_ret
      exact ⟨by rw [hE.out]; rfl, rfl⟩
    have hjN : j < x.length := by omega
    have hji : (j : Int) < x.length := by omega
    have he : x[j]? = some x[j] := List.getElem?_eq_getElem hjN
    obtain ⟨g, cap', hv, _, _, _, hc, _⟩ := own2_at h (by omega)
    simp only [Value.slice.injEq, true_and] at hv
    obtain ⟨rfl, rfl⟩ := hv
    have hcc := (hc j _ he).1
    have hmore := fun hl => at_more hj he hl
    have hhere := fun hl => at_here hj he hl
    generalize x[j] = e at hcc hmore hhere
    clear hc he hj hjl hal h
    cases hl : lessB e.1 k with
    | true =>
      have hM : Hid _ := hmore hl
      clear hmore hhere
      go_wp2
      go_round
      case rel => exact ⟨j + 1, by go_num, hM.out⟩
      case measure => simp [intOf]; omega
    | false =>
      have hE : Hid _ := hhere hl
      clear hmore hhere
      go_wp2
      go_ret
      exact ⟨by rw [hE.out]; rfl, rfl⟩
#print axioms rat_any

set_option maxRecDepth 100000 in
set_option maxHeartbeats 2000000 in
theorem rget_any {w : World} {v : Value} {x : List En} (h : w.ownsRow 0 44 2 v x.length (cellsE x)) (k : Wd) :
    Calls Try.prog 16 #[v, strV k] w fun e w' => e = .returned (.int .u64 (getR x k : Nat)) ∧ w' = w := by
  have hat := rat_any h k
  have hal := at_le x k
  have hgr : getR x k = match x[atE x k]? with | some e => if e.1 = k then e.2 else 0 | none => 0 := rfl
  by_cases hl : atE x k = x.length
  · have hE : Hid (getR x k = 0) := by show _ = _; rw [hgr, hl, List.getElem?_eq_none (Nat.le_refl _)]
    have hni : ¬ (atE x k : Int) < x.length := by omega
    obtain ⟨ao, cap, rfl⟩ := own2_slice h
    clear hgr hl hal h
    go_enter Try.func16, Try.ntmps16
    go_wp2_with (go_at_call 24; refine hat.mono ?_; rintro e w' ⟨rfl, rfl⟩)
    go_ret
    exact ⟨by rw [hE.out]; rfl, rfl⟩
  have hlN : atE x k < x.length := by omega
  have hli : (atE x k : Int) < x.length := by omega
  have he : x[atE x k]? = some x[atE x k] := List.getElem?_eq_getElem hlN
  rw [he] at hgr
  obtain ⟨g, cap', rfl, _, _, _, hc, _⟩ := own2_at h (by omega)
  have hc1 := (hc _ _ he).1
  have hc2 := (hc _ _ he).2
  generalize x[atE x k] = e at *
  generalize atE x k = j at *
  have Hgr : Hid _ := hgr
  clear hc he hgr hl hal h
  obtain ⟨ek, en⟩ := e
  by_cases hq : ek = k
  · subst hq
    have hE : Hid (getR x ek = en) := by show _ = _; rw [Hgr.out]; simp
    go_enter Try.func16, Try.ntmps16
    go_wp2_with (go_at_call 24; refine hat.mono ?_; rintro e w' ⟨rfl, rfl⟩)
    go_ret
    exact ⟨by rw [hE.out]; rfl, rfl⟩
  · have hE : Hid (getR x k = 0) := by show _ = _; rw [Hgr.out]; simp [hq]
    have hqb : (ek == k) = false := by rw [beq_eq_false_iff_ne]; exact hq
    go_enter Try.func16, Try.ntmps16
    go_wp2_with (go_at_call 24; refine hat.mono ?_; rintro e w' ⟨rfl, rfl⟩)
    go_ret
    exact ⟨by rw [hE.out]; rfl, rfl⟩
#print axioms rget_any

theorem Try.fieldsEn : (Try.prog.fieldsOf 44).toList.map (fun f => (f.name == "_", f.type, f.offset)) = [(false, 9, 0), (false, 29, 1)] := by kernel_rfl
theorem beq_en (a b : Wd) (m n : Nat) : ((a == b) && ((m : Int) == n)) = decide ((a, m) = (b, n)) := by
  by_cases h1 : a = b
  · by_cases h2 : m = n
    · simp [h1, h2]
    · have : ((m : Int) == n) = false := by rw [beq_eq_false_iff_ne]; omega
      rw [this]; simp [h1, h2]
  · simp [h1]
theorem en_neq (a b : Wd) (m n : Nat) (W : World) : (binOp .neq 44 (.agg #[strV a, .int .u64 m]) (.agg #[strV b, .int .u64 n])).run Try.prog W = .ok (.bool (!decide ((a, m) = (b, n)))) W := by
  have hu : Try.prog.underlying 44 = some (.struct (Try.prog.fieldsOf 44)) := by rw [Try.underlying44]; kernel_rfl
  rw [run_neq_struct, run_equalIn_agg W 9999 44 _ _ hu (by kernel_rfl), ← beq_en]
  rw [show (Try.prog.fieldsOf 44).toList = _ from by simp only [Program.fieldsOf, Try.underlying44]; rfl]
  simp [Op.eqFields, part, sizeOf, Try.isAgg9, Try.isAgg29, run_equalIn_string W 9998 9 _ _ Try.underlying9, run_equalIn_int W 9998 29 .u64 .u64 _ _ Try.underlying29]
  by_cases h1 : a = b <;> by_cases h2 : (m : Int) = n <;> simp [h1, h2]
set_option maxRecDepth 100000 in
set_option maxHeartbeats 2000000 in
theorem rsame_any {w : World} {v u : Value} {x y : List En} (h : w.ownsRow 0 44 2 v x.length (cellsE x)) (k : w.ownsRow 0 44 2 u y.length (cellsE y)) :
    Calls Try.prog 11 #[v, u] w fun e w' => e = .returned (.bool (decide (x = y))) ∧ ∃ m, w' = w.drewN m := by
  have hm := own2_most h
  unfold maxLen at hm
  have hmi : (x.length : Int) ≤ 9223372036854775807 := by omega
  obtain ⟨ao, cap, rfl⟩ := own2_slice h
  obtain ⟨bo, bcap, rfl⟩ := own2_slice k
  clear hm
  by_cases hlb : x.length = y.length
  case neg =>
    have hE : Hid (decide (x = y) = false) := by show _ = _; rw [decide_eq_false_iff_not]; intro h; rw [h] at hlb; exact hlb rfl
    have hne : ((x.length : Int) == y.length) = false := by rw [beq_eq_false_iff_ne]; omega
    go_enter Try.func11, Try.ntmps11
    go_wp2
    go_ret
    exact ⟨by rw [hE.out]; rfl, 0, rfl⟩
  have Hlb : Hid _ := hlb
  rw [← hlb] at k ⊢
  generalize hn : x.length = n at *
  have Hn : Hid _ := hn
  clear hn hlb
  go_enter Try.func11, Try.ntmps11
  go_wp2_with fail
  go_loopw [5] (fun i wr => ∃ j : Nat, i = .int .i64 j ∧ j ≤ n ∧ Hid (x.take j = y.take j) ∧ ∃ m, wr = w.drewN m) (fun i _ => (n - intOf i).toNat)
  case atStart => exact ⟨0, rfl, by omega, rfl, 0, rfl⟩
  case round =>
    obtain ⟨j, rfl, hj, hT, md, hw⟩ := hrel
    have Hw : Hid _ := hw
    clear hw
    by_cases hjl : j = n
    · subst hjl
      have hE : Hid (decide (x = y) = true) := by show _ = _; simp only [decide_eq_true_eq]; have := hT.out; rwa [List.take_of_length_le (by rw [Hn.out]; exact Nat.le_refl _), List.take_of_length_le (by rw [← Hlb.out]; exact Nat.le_refl _)] at this
      go_wp2
      go_ret
      exact ⟨by rw [hE.out]; rfl, md, Hw.out⟩
    have hlt : (j : Int) < n := by omega
    have hltN : j < n := by omega
    obtain ⟨g, cap1, hv, q1, q2, q3, hc1, q4⟩ := own2_at (es := x) (by rw [Hn.out]; exact h) (by rw [Hn.out]; omega)
    obtain ⟨g2, cap2, hv2, q5, q6, q7, hc2, q8⟩ := own2_at (es := y) (by rw [← Hlb.out]; exact k) (by rw [← Hlb.out]; omega)
    simp only [Value.slice.injEq] at hv hv2
    obtain ⟨rfl, q9, rfl⟩ := hv
    obtain ⟨rfl, q10, rfl⟩ := hv2
    clear q1 q2 q3 q4 q5 q6 q7 q8 q9 q10
    obtain ⟨p, e1⟩ : ∃ p, x[j]? = some p := ⟨_, List.getElem?_eq_getElem (by rw [Hn.out]; exact hltN)⟩
    obtain ⟨q, e2⟩ : ∃ q, y[j]? = some q := ⟨_, List.getElem?_eq_getElem (by rw [← Hlb.out]; exact hltN)⟩
    have t1 : x.take (j + 1) = x.take j ++ [p] := by rw [List.take_add_one, e1]; rfl
    have t2 : y.take (j + 1) = y.take j ++ [q] := by rw [List.take_add_one, e2]; rfl
    have a1 : wr.cell? ⟨g, j * 2, none⟩ = some (strV p.1) := by rw [Hw.out]; exact (hc1 j _ e1).1
    have a2 : wr.cell? ⟨g, j * 2 + 1, none⟩ = some (.int .u64 p.2) := by rw [Hw.out]; exact (hc1 j _ e1).2
    have b1 : wr.cell? ⟨g2, j * 2, none⟩ = some (strV q.1) := by rw [Hw.out]; exact (hc2 j _ e2).1
    have b2 : wr.cell? ⟨g2, j * 2 + 1, none⟩ = some (.int .u64 q.2) := by rw [Hw.out]; exact (hc2 j _ e2).2
    have hne : Hid (p ≠ q → decide (x = y) = false) := by
      show _ → _; intro h; simp only [decide_eq_false_iff_not]; intro h'
      subst h'; exact h (Option.some.inj (e1.symm.trans e2))
    have T1 : Hid _ := t1
    have T2 : Hid _ := t2
    clear hc1 hc2 e1 e2 t1 t2 h k hjl
    obtain ⟨pk, pn⟩ := p
    obtain ⟨qk, qn⟩ := q
    have hrun : ∀ W, (binOp .neq 44 (.agg #[strV pk, .int .u64 pn]) (.agg #[strV qk, .int .u64 qn])).run Try.prog W = .ok (.bool (!decide ((pk, pn) = (qk, qn)))) W := fun W => en_neq pk qk pn qn W
    by_cases hq : (pk, pn) = (qk, qn)
    · simp only [hq, decide_true, Bool.not_true] at hrun
      have hT' : Hid (x.take (j + 1) = y.take (j + 1)) := by show _ = _; rw [T1.out, T2.out, hT.out, hq]
      clear hne hT T1 T2 hq
      go_wp2_with fail
      go_quiet (fail)
      go_wp2
      go_roundw
      case rel => exact ⟨j + 1, by go_num, by omega, hT', md + nq, by rw [Hw.out, World.drewN_drewN]⟩
      case measure => simp [intOf]; omega
    · simp only [hq, decide_false, Bool.not_false] at hrun
      have hE : Hid _ := hne.out hq
      clear hne hT T1 T2 hq
      go_wp2_with fail
      go_quiet (fail)
      go_wp2
      go_ret
      exact ⟨by rw [hE.out]; rfl, md + nq, by rw [Hw.out, World.drewN_drewN]⟩
#print axioms rsame_any
end Go.Proofs.Ythnpeeiiekmkcaa
