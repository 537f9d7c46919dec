/- The document's own Same of automata. -/
import Derived.Test.YtmcpiikcgimhpaaStates
import Derived.ChangeKeysEq
import Derived.Laws.StructEq
import Derived.Deep.QuietTactic
import Derived.BigQuiet
namespace Go.Proofs.Ytmcpiikcgimhpaa
open Go.RowKit
set_option linter.unusedVariables false
set_option linter.unusedSimpArgs false

theorem beq_ed (a b : UInt8) (m n : Int) : (((a.toNat : Int) == b.toNat) && (m == n)) = decide ((a, m) = (b, n)) := by
  by_cases h1 : a = b
  · by_cases h2 : m = n
    · simp [h1, h2]
    · simp [h1, h2]
  · have : ((a.toNat : Int) == b.toNat) = false := by
      rw [beq_eq_false_iff_ne]; intro h; exact h1 (UInt8.toNat_inj.1 (by omega))
    rw [this]; simp [h1]
theorem ed_neq (a b : UInt8) (m n : Int) (W : World) : (binOp .neq 39 (.agg #[.int .u8 (a.toNat : Nat), .int .i64 m]) (.agg #[.int .u8 (b.toNat : Nat), .int .i64 n])).run Try.prog W = .ok (.bool (!decide ((a, m) = (b, n)))) W := by
  have hu : Try.prog.underlying 39 = some (.struct (Try.prog.fieldsOf 39)) := by rw [Try.underlying39]; kernel_rfl
  rw [run_neq_struct, run_equalIn_agg W 9999 39 _ _ hu (by kernel_rfl), ← beq_ed]
  rw [show (Try.prog.fieldsOf 39).toList = _ from by simp only [Program.fieldsOf, Try.underlying39]; rfl]
  simp [Op.eqFields, part, sizeOf, Try.isAgg5, Try.isAgg3, run_equalIn_int W 9998 5 .u8 .u8 _ _ Try.underlying5, run_equalIn_int W 9998 3 .i64 .i64 _ _ Try.underlying3]
  by_cases h1 : (a.toNat : Int) = b.toNat <;> by_cases h2 : m = n <;> simp [h1, h2]

set_option maxRecDepth 100000 in
set_option maxHeartbeats 4000000 in
theorem rsameA_any {w : World} {ao bo : Option Addr} {len cap blen bcap : Nat} {x y : List StZ} (h : ReadsA w ao len cap x) (k : ReadsA w bo blen bcap y) :
    Calls Try.prog 14 #[.slice ao len cap, .slice bo blen bcap] w fun e w' => e = .returned (.bool (decide (x = y))) ∧ ∃ m, w' = w.drewN m := by
  have hm := Nat.le_trans h.le.1 h.le.2
  unfold maxLen at hm
  have hlx := h.count
  have hly := k.count
  subst hlx hly
  have hmi : (x.length : Int) ≤ 9223372036854775807 := by omega
  clear hm
  by_cases hlb : x.length = y.length
  case neg =>
    have hE : Hid (decide (x = y) = false) := by show _ = _; rw [decide_eq_false_iff_not]; intro h; rw [h] at hlb; exact hlb rfl
    have hne : ((x.length : Int) == y.length) = false := by rw [beq_eq_false_iff_ne]; omega
    go_enter Try.func14, Try.ntmps14
    go_wp2
    go_ret
    exact ⟨by rw [hE.out]; rfl, 0, rfl⟩
  have Hlb : Hid _ := hlb
  rw [← hlb] at k ⊢
  generalize hn : x.length = n at *
  have Hn : Hid _ := hn
  clear hn hlb
  go_enter Try.func14, Try.ntmps14
  go_wp2_with fail
  go_loopw [5] (fun i wr => ∃ j : Nat, i = .int .i64 j ∧ j ≤ n ∧ Hid (x.take j = y.take j) ∧ ∃ m, wr = w.drewN m) (fun i _ => (n - intOf i).toNat)
  case atStart => exact ⟨0, rfl, by omega, rfl, 0, rfl⟩
  case round =>
    obtain ⟨j, rfl, hj, hT, md, hw⟩ := hrel
    have Hw : Hid _ := hw
    clear hw
    by_cases hjl : j = n
    · subst hjl
      have hE : Hid (decide (x = y) = true) := by show _ = _; simp only [decide_eq_true_eq]; have := hT.out; rwa [List.take_of_length_le (by rw [Hn.out]; exact Nat.le_refl _), List.take_of_length_le (by rw [← Hlb.out]; exact Nat.le_refl _)] at this
      go_wp2
      go_ret
      exact ⟨by rw [hE.out]; rfl, md, Hw.out⟩
    have hlt : (j : Int) < n := by omega
    have hltN : j < n := by omega
    obtain ⟨g, og, rfl, _, hc1⟩ := h.at (by omega)
    obtain ⟨g2, og2, rfl, _, hc2⟩ := k.at (by omega)
    obtain ⟨⟨pf, pe⟩, e1⟩ : ∃ p, x[j]? = some p := ⟨_, List.getElem?_eq_getElem (by rw [Hn.out]; exact hltN)⟩
    obtain ⟨⟨qf, qe⟩, e2⟩ : ∃ q, y[j]? = some q := ⟨_, List.getElem?_eq_getElem (by rw [← Hlb.out]; exact hltN)⟩
    have t1 : x.take (j + 1) = x.take j ++ [(pf, pe)] := by rw [List.take_add_one, e1]; rfl
    have t2 : y.take (j + 1) = y.take j ++ [(qf, qe)] := by rw [List.take_add_one, e2]; rfl
    obtain ⟨eg, ec, a1', a2', ar⟩ := hc1 j _ e1
    obtain ⟨fg, fc, b1', b2', br⟩ := hc2 j _ e2
    have hne : Hid ((pf, pe) ≠ (qf, qe) → decide (x = y) = false) := by
      show _ → _; intro h; simp only [decide_eq_false_iff_not]; intro h'
      subst h'; exact h (Option.some.inj (e1.symm.trans e2))
    have T1 : Hid _ := t1
    have T2 : Hid _ := t2
    have A1 : Hid _ := a1'
    have A2 : Hid _ := a2'
    have B1 : Hid _ := b1'
    have B2 : Hid _ := b2'
    have hml : (pe.length : Int) ≤ 9223372036854775807 := by have := Nat.le_trans ar.le ar.most; unfold maxLen at this; simp only at this; omega
    have hml2 : (qe.length : Int) ≤ 9223372036854775807 := by have := Nat.le_trans br.le br.most; unfold maxLen at this; simp only at this; omega
    have a1 : wr.cell? ⟨g, og + j * 2, none⟩ = some (.bool pf) := by rw [Hw.out]; exact A1.out
    have a2 : wr.cell? ⟨g, og + j * 2 + 1, none⟩ = some (.slice eg pe.length ec) := by rw [Hw.out]; exact A2.out
    have b1 : wr.cell? ⟨g2, og2 + j * 2, none⟩ = some (.bool qf) := by rw [Hw.out]; exact B1.out
    have b2 : wr.cell? ⟨g2, og2 + j * 2 + 1, none⟩ = some (.slice fg qe.length fc) := by rw [Hw.out]; exact B2.out
    simp only at ar br
    clear hc1 hc2 e1 e2 t1 t2 hjl a1' a2' b1' b2'
    by_cases hf : pf = qf
    case neg =>
      have hE : Hid _ := hne.out fun h => hf (by cases h; rfl)
      have hff : (pf != qf) = true := by cases pf <;> cases qf <;> simp_all
      clear hne hT T1 T2 hf A1 A2 B1 B2 ar br
      cases pf <;> cases qf <;> first | (simp at hff; done) | skip
      all_goals
        clear hff
        go_wp2_with fail
        go_quiet (fail)
        go_wp2
        go_ret
        exact ⟨by rw [hE.out]; rfl, md + nq, by rw [Hw.out, World.drewN_drewN]⟩
    subst hf
    have hff : (pf != pf) = false := by cases pf <;> rfl
    by_cases hl : pe.length = qe.length
    case neg =>
      have hE : Hid _ := hne.out fun h => hl (by cases h; rfl)
      have hll : ((pe.length : Int) == qe.length) = false := by rw [beq_eq_false_iff_ne]; omega
      have hl2 : (pe.length == qe.length) = false := by rw [beq_eq_false_iff_ne]; exact hl
      clear hne hT T1 T2 hl A1 A2 B1 B2 ar br
      go_wp2_with fail
      go_quiet (fail)
      go_wp2
      go_ret
      exact ⟨by rw [hE.out]; rfl, md + nq, by rw [Hw.out, World.drewN_drewN]⟩
    obtain ⟨m, hm⟩ : ∃ m, m = pe.length := ⟨_, rfl⟩
    rw [← hl, ← hm] at b2
    rw [← hm] at a2
    rw [← hl, ← hm] at br B2
    rw [← hm] at ar A2 hml
    have hll : ((m : Int) == m) = true := by simp
    have Hm : Hid (pe.length = m) := hm.symm
    have Hm2 : Hid (qe.length = m) := by show _ = _; rw [← hl]; exact hm.symm
    have AR : Hid _ := ar
    have BR : Hid _ := br
    clear hl hm ar br hml2
    go_wp2_with fail
    go_quiet (fail)
    have Hw2 : Hid (wr.drewN nq = w.drewN (md + nq)) := by show _ = _; rw [Hw.out, World.drewN_drewN]
    obtain ⟨wo, hwo⟩ : ∃ wo, wo = wr.drewN nq := ⟨_, rfl⟩
    rw [← hwo] at Hw2 ⊢
    clear hwo a1 a2 b1 b2 Hw
    go_wp2_with fail
    go_loopw [6] (fun i w2 => ∃ t : Nat, i = .int .i64 t ∧ t ≤ m ∧ Hid (pe.take t = qe.take t) ∧ ∃ q, w2 = w.drewN q) (fun i _ => (m - intOf i).toNat)
    case atStart => exact ⟨0, rfl, Nat.zero_le _, rfl, _, Hw2.out⟩
    case round =>
      obtain ⟨t, rfl, ht, hU, mq, hw⟩ := hrel
      have Hw : Hid _ := hw
      clear hw Hw2
      have a2 : wr.cell? ⟨g, og + j * 2 + 1, none⟩ = some (.slice eg m ec) := by rw [Hw.out]; exact A2.out
      have b2 : wr.cell? ⟨g2, og2 + j * 2 + 1, none⟩ = some (.slice fg m fc) := by rw [Hw.out]; exact B2.out
      by_cases htm : t < m
      · have q1 : (t : Int) < m := by omega
        obtain ⟨u1, o1, rfl, _, hd1⟩ := AR.out.edge (by omega)
        obtain ⟨u2, o2, rfl, _, hd2⟩ := BR.out.edge (by omega)
        obtain ⟨⟨c1, n1⟩, f1⟩ : ∃ e, pe[t]? = some e := ⟨_, List.getElem?_eq_getElem (by rw [Hm.out]; exact htm)⟩
        obtain ⟨⟨c2, n2⟩, f2⟩ : ∃ e, qe[t]? = some e := ⟨_, List.getElem?_eq_getElem (by rw [Hm2.out]; exact htm)⟩
        have x1 : wr.cell? ⟨u1, o1 + t * 2, none⟩ = some (.int .u8 (c1.toNat : Nat)) := by rw [Hw.out]; exact (hd1 t _ f1).1
        have x2 : wr.cell? ⟨u1, o1 + t * 2 + 1, none⟩ = some (.int .i64 n1) := by rw [Hw.out]; exact (hd1 t _ f1).2
        have y1 : wr.cell? ⟨u2, o2 + t * 2, none⟩ = some (.int .u8 (c2.toNat : Nat)) := by rw [Hw.out]; exact (hd2 t _ f2).1
        have y2 : wr.cell? ⟨u2, o2 + t * 2 + 1, none⟩ = some (.int .i64 n2) := by rw [Hw.out]; exact (hd2 t _ f2).2
        have hrun : ∀ W, (binOp .neq 39 (.agg #[.int .u8 (c1.toNat : Nat), .int .i64 n1]) (.agg #[.int .u8 (c2.toNat : Nat), .int .i64 n2])).run Try.prog W = .ok (.bool (!decide ((c1, n1) = (c2, n2)))) W := fun W => ed_neq c1 c2 n1 n2 W
        have s1 : pe.take (t + 1) = pe.take t ++ [(c1, n1)] := by rw [List.take_add_one, f1]; rfl
        have s2 : qe.take (t + 1) = qe.take t ++ [(c2, n2)] := by rw [List.take_add_one, f2]; rfl
        have hne2 : (c1, n1) ≠ (c2, n2) → pe ≠ qe := fun h h' => by subst h'; exact h (Option.some.inj (f1.symm.trans f2))
        have Hne2 : Hid _ := hne2
        have S1 : Hid _ := s1
        have S2 : Hid _ := s2
        clear hd1 hd2 f1 f2 s1 s2 hne2 htm
        by_cases hq : (c1, n1) = (c2, n2)
        · simp only [hq, decide_true, Bool.not_true] at hrun
          have hU' : Hid (pe.take (t + 1) = qe.take (t + 1)) := by show _ = _; rw [S1.out, S2.out, hU.out, hq]
          clear Hne2 hU S1 S2 hq
          go_wp2_with fail
          go_quiet (fail)
          go_wp2
          go_roundw
          case rel => exact ⟨t + 1, by go_num, by omega, hU', mq + nq, by rw [Hw.out, World.drewN_drewN]⟩
          case measure => simp [intOf]; omega
        · simp only [hq, decide_false, Bool.not_false] at hrun
          have hE : Hid _ := hne.out fun h => Hne2.out hq (by cases h; rfl)
          clear Hne2 hU S1 S2 hq hne
          go_wp2_with fail
          go_quiet (fail)
          go_wp2
          go_ret
          exact ⟨by rw [hE.out]; rfl, mq + nq, by rw [Hw.out, World.drewN_drewN]⟩
      · have q1 : ¬ (t : Int) < m := by omega
        have hte : t = m := by omega
        have hpe : pe = qe := by
          have := hU.out
          rwa [List.take_of_length_le (by rw [Hm.out]; omega), List.take_of_length_le (by rw [Hm2.out]; omega)] at this
        have hT' : Hid (x.take (j + 1) = y.take (j + 1)) := by show _ = _; rw [T1.out, T2.out, hT.out, hpe]
        clear hU hT T1 T2 hpe hne hte htm
        go_wp2
        go_roundw
        case rel => exact ⟨j + 1, by go_num, by omega, hT', mq, Hw.out⟩
        case measure => simp [intOf]; omega
#print axioms rsameA_any
end Go.Proofs.Ytmcpiikcgimhpaa
