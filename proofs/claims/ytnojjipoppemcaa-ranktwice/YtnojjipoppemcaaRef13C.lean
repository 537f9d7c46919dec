/- The document's own Ints, first, and the laws' counts. -/
import Derived.Test.YtnojjipoppemcaaRef13
namespace Go.Proofs.Ytnojjipoppemcaa
open Go.RowKit
set_option linter.unusedVariables false
set_option linter.unusedSimpArgs false

set_option maxRecDepth 100000 in
set_option maxHeartbeats 4000000 in
theorem rints_any {w : World} {ao bo : Option Addr} {len cap blen bcap : Nat} {x y : List Int} (h : Reads w ao len cap (x.map (.int .i64))) (k : Reads w bo blen bcap (y.map (.int .i64))) :
    Calls Try.prog 12 #[.slice ao len cap, .slice bo blen bcap] w fun e w' => e = .returned (.bool (decide (x = y))) ∧ ∃ m, w' = w.drewN m := by
  have hm := Nat.le_trans h.le h.most
  have hm2 := Nat.le_trans k.le k.most
  unfold maxLen at hm hm2
  have hlx : x.length = len := by have := h.length; simpa using this
  have hly : y.length = blen := by have := k.length; simpa using this
  subst hlx hly
  have hmi : (x.length : Int) ≤ 9223372036854775807 := by omega
  clear hm
  by_cases hlb : x.length = y.length
  case neg =>
    have hE : Hid (decide (x = y) = false) := by show _ = _; rw [decide_eq_false_iff_not]; intro h; rw [h] at hlb; exact hlb rfl
    have hne : ((x.length : Int) == y.length) = false := by rw [beq_eq_false_iff_ne]; omega
    go_enter Try.func12, Try.ntmps12
    go_wp2
    go_ret
    exact ⟨by rw [hE.out]; rfl, 0, rfl⟩
  have Hlb : Hid _ := hlb
  rw [← hlb] at k ⊢
  generalize hn : x.length = n at *
  have Hn : Hid _ := hn
  clear hn hlb hm2
  go_enter Try.func12, Try.ntmps12
  go_wp2_with fail
  go_loopw [5] (fun i wr => ∃ j : Nat, i = .int .i64 j ∧ j ≤ n ∧ Hid (x.take j = y.take j) ∧ ∃ m, wr = w.drewN m) (fun i _ => (n - intOf i).toNat)
  case atStart => exact ⟨0, rfl, by omega, rfl, 0, rfl⟩
  case round =>
    obtain ⟨j, rfl, hj, hT, md, hw⟩ := hrel
    have Hw : Hid _ := hw
    clear hw
    by_cases hjl : j = n
    · subst hjl
      have hE : Hid (decide (x = y) = true) := by show _ = _; simp only [decide_eq_true_eq]; have := hT.out; rwa [List.take_of_length_le (by rw [Hn.out]; exact Nat.le_refl _), List.take_of_length_le (by rw [← Hlb.out]; exact Nat.le_refl _)] at this
      go_wp2
      go_ret
      exact ⟨by rw [hE.out]; rfl, md, Hw.out⟩
    have hlt : (j : Int) < n := by omega
    have hltN : j < n := by omega
    obtain ⟨g, og, rfl, q1, hc1⟩ := h.at (by omega)
    obtain ⟨g2, og2, rfl, q2, hc2⟩ := k.at (by omega)
    clear q1 q2
    obtain ⟨p, e1⟩ : ∃ p, x[j]? = some p := ⟨_, List.getElem?_eq_getElem (by rw [Hn.out]; exact hltN)⟩
    obtain ⟨q, e2⟩ : ∃ q, y[j]? = some q := ⟨_, List.getElem?_eq_getElem (by rw [← Hlb.out]; exact hltN)⟩
    have t1 : x.take (j + 1) = x.take j ++ [p] := by rw [List.take_add_one, e1]; rfl
    have t2 : y.take (j + 1) = y.take j ++ [q] := by rw [List.take_add_one, e2]; rfl
    have a1 : wr.cell? ⟨g, og + j, none⟩ = some (.int .i64 p) := by rw [Hw.out]; have := hc1 j hltN; rwa [show x.getD j 0 = p by simp [List.getD_eq_getElem?_getD, e1]] at this
    have b1 : wr.cell? ⟨g2, og2 + j, none⟩ = some (.int .i64 q) := by rw [Hw.out]; have := hc2 j hltN; rwa [show y.getD j 0 = q by simp [List.getD_eq_getElem?_getD, e2]] at this
    have hne : Hid (p ≠ q → decide (x = y) = false) := by
      show _ → _; intro h; simp only [decide_eq_false_iff_not]; intro h'
      subst h'; exact h (Option.some.inj (e1.symm.trans e2))
    have T1 : Hid _ := t1
    have T2 : Hid _ := t2
    clear hc1 hc2 e1 e2 t1 t2 h k hjl
    by_cases hq : p = q
    · subst hq
      have hT' : Hid (x.take (j + 1) = y.take (j + 1)) := by show _ = _; rw [T1.out, T2.out, hT.out]
      have hpp : (p == p) = true := by simp
      clear hne hT T1 T2
      go_wp2_with fail
      go_quiet (fail)
      go_wp2
      go_roundw
      case rel => exact ⟨j + 1, by go_num, by omega, hT', md + nq, by rw [Hw.out, World.drewN_drewN]⟩
      case measure => simp [intOf]; omega
    · have hE : Hid _ := hne.out hq
      have hpq : (p == q) = false := by rw [beq_eq_false_iff_ne]; exact hq
      clear hne hT T1 T2 hq
      go_wp2_with fail
      go_quiet (fail)
      go_wp2
      go_ret
      exact ⟨by rw [hE.out]; rfl, md + nq, by rw [Hw.out, World.drewN_drewN]⟩
#print axioms rints_any

/-- Is a count at a place there for the first time? -/
def firstB (cs : List Nat) (k : Nat) : Bool := decide (cs.getD k 0 ∉ cs.take k)
set_option maxRecDepth 100000 in
set_option maxHeartbeats 4000000 in
theorem rfirst_any {w : World} {ao : Option Addr} {len cap : Nat} {es : List En} (h : ReadsE w ao len cap (cellsE es)) (k : Nat) (hk : k < len) :
    Calls Try.prog 19 #[.slice ao len cap, .int .i64 (k : Nat)] w fun e w' => e = .returned (.bool (firstB (es.map (·.2)) k)) ∧ ∃ m, w' = w.drewN m := by
  have hlx := h.count
  have hlm : len ≤ 9223372036854775807 := by have := Nat.le_trans h.le h.most; unfold maxLen at this; omega
  obtain ⟨b, off, rfl, hbl, hc⟩ := h.at (by omega)
  obtain ⟨ek, hek⟩ : ∃ e, es[k]? = some e := ⟨_, List.getElem?_eq_getElem (by omega)⟩
  have d2 := (hc k ek hek).2
  obtain ⟨ck, hck⟩ : ∃ c, c = ek.2 := ⟨_, rfl⟩
  rw [← hck] at d2
  have HF : Hid (firstB (es.map (·.2)) k = decide (∀ i, i < k → ∀ e, es[i]? = some e → e.2 ≠ ck)) := by
    show _ = _
    unfold firstB
    apply decide_eq_decide.2
    rw [show (es.map (·.2)).getD k 0 = ck by simp [List.getD_eq_getElem?_getD, hek, hck]]
    constructor
    · intro hn i hi e he hh
      apply hn
      rw [List.mem_take_iff_getElem]
      obtain ⟨hil, hie⟩ := List.getElem?_eq_some_iff.1 he
      exact ⟨i, by simp; omega, by simp [hie, hh]⟩
    · intro hall hm
      rw [List.mem_take_iff_getElem] at hm
      obtain ⟨i, hi, he⟩ := hm
      simp at hi he
      exact hall i (by omega) es[i] (by simp) he
  have Hc : Hid _ := hc
  have Hlx : Hid _ := hlx
  clear h hc hbl hek hck hlx
  go_enter Try.func19, Try.ntmps19
  go_wp2_with fail
  go_loopw [5] (fun i wr => ∃ j : Nat, i = .int .i64 j ∧ j ≤ k ∧ Hid (∀ i, i < j → ∀ e, es[i]? = some e → e.2 ≠ ck) ∧ ∃ m, wr = w.drewN m) (fun i _ => (k - intOf i).toNat)
  case atStart => exact ⟨0, rfl, by omega, (fun i hi => by omega), 0, rfl⟩
  case round =>
    obtain ⟨j, rfl, hj, hT, md, hw⟩ := hrel
    have Hw : Hid _ := hw
    clear hw
    by_cases hjl : j = k
    · subst hjl
      have hE : Hid (decide (∀ i, i < j → ∀ e, es[i]? = some e → e.2 ≠ ck) = true) := decide_eq_true hT.out
      have hi : ¬ (j : Int) < j := by omega
      go_wp2
      go_ret
      exact ⟨by rw [HF.out, hE.out]; rfl, md, Hw.out⟩
    have hlt : (j : Int) < k := by omega
    have hltN : j < k := by omega
    have hjn : (j : Int) < len := by omega
    have hkn : (k : Int) < len := by omega
    obtain ⟨e, he⟩ : ∃ e, es[j]? = some e := ⟨_, List.getElem?_eq_getElem (by have := Hlx.out; omega)⟩
    have a2 : wr.cell? ⟨b, off + j * 2 + 1, none⟩ = some (.int .u64 (e.2 : Nat)) := by rw [Hw.out]; exact (Hc.out j e he).2
    have b2 : wr.cell? ⟨b, off + k * 2 + 1, none⟩ = some (.int .u64 (ck : Nat)) := by rw [Hw.out]; exact d2
    have He : Hid _ := he
    clear he hjl
    obtain ⟨x, n⟩ := e
    simp only at a2
    by_cases hq : n = ck
    · subst hq
      have hE : Hid (decide (∀ i, i < k → ∀ e, es[i]? = some e → e.2 ≠ n) = false) := decide_eq_false fun hh => hh j hltN _ He.out rfl
      have hpp : ((n : Int) == n) = true := by simp
      clear hT He
      go_wp2_with fail
      go_quiet (fail)
      go_wp2
      go_ret
      exact ⟨by rw [HF.out, hE.out]; rfl, md + nq, by rw [Hw.out, World.drewN_drewN]⟩
    · have hpq : ((n : Int) == ck) = false := by rw [beq_eq_false_iff_ne]; omega
      have hT' : Hid (∀ i, i < j + 1 → ∀ e, es[i]? = some e → e.2 ≠ ck) := by
        show ∀ i, _
        intro i hi e he
        by_cases h2 : i = j
        · subst h2; have h3 := Option.some.inj (He.out.symm.trans he); subst h3; exact hq
        · exact hT.out i (by omega) e he
      clear hT He hq
      go_wp2_with fail
      go_quiet (fail)
      go_wp2
      go_roundw
      case rel => exact ⟨j + 1, by go_num, by omega, hT', md + nq, by rw [Hw.out, World.drewN_drewN]⟩
      case measure => simp [intOf]; omega
#print axioms rfirst_any

/-- Entries of counts. -/
def entsL (zs : List Int) : List En := zs.map fun z => ([97], z.toNat)
theorem ents_len (zs : List Int) : (entsL zs).length = zs.length := by simp [entsL]
theorem ents_counts (zs : List Int) : (entsL zs).map (·.2) = zs.map Int.toNat := by simp [entsL]
theorem strA : strV [97] = Value.string ⟨#[97]⟩ := rfl
set_option maxRecDepth 100000 in
set_option maxHeartbeats 4000000 in
theorem counts_any {w : World} {ao : Option Addr} {len cap : Nat} {zs : List Int} (h : Reads w ao len cap (zs.map (.int .u64))) (hz : ∀ z ∈ zs, 0 ≤ z) :
    Calls Try.prog 17 #[.slice ao len cap] w fun e w' => ∃ ag c m, e = .returned (.slice ag m c) ∧ m = (zs.take 400).length ∧ w'.ownsRow w.heap.size 35 2 (.slice ag m c) m (cellsE (entsL (zs.take 400))) ∧ Below w.heap.size w w' := by
  have hlx : zs.length = len := by have := h.length; simpa using this
  have hlm : len ≤ 9223372036854775807 := by have := Nat.le_trans h.le h.most; unfold maxLen at this; omega
  have H : Hid _ := h
  have Hlx : Hid _ := hlx
  have Hz : Hid _ := hz
  clear h hlx hz
  go_enter Try.func17, Try.ntmps17
  go_wp2_with fail
  go_loopw [3, 4] (fun v i wr => ∃ (j : Nat) (ag : Option Addr) (cc : Nat), v = .slice ag j cc ∧ i = .int .i64 (j : Nat) ∧ j ≤ len ∧ j ≤ 400 ∧ Hid (wr.ownsRow w.heap.size 35 2 (.slice ag j cc) j (cellsE (entsL (zs.take j)))) ∧ Hid (Below w.heap.size w wr)) (fun _ i _ => (len - intOf i).toNat)
  case atStart => exact ⟨0, none, 0, rfl, rfl, Nat.zero_le _, by omega, World.ownsRow_nil _ _ _ _, Below.refl _ _⟩
  case round =>
    obtain ⟨j, ag, cc, rfl, rfl, hj, hj4, hrow, hB⟩ := hrel
    have hsz := hB.out.size
    by_cases hjl : j < len ∧ j < 400
    · obtain ⟨hj1, hj2⟩ := hjl
      have q1 : (j : Int) < len := by omega
      have q2 : (j : Int) < 400 := by omega
      obtain ⟨b, off, rfl, hbl, hc⟩ := (H.out.later hB.out (Nat.le_refl _)).at (by omega)
      have c1 := hc j hj1
      obtain ⟨z, he⟩ : ∃ z, zs[j]? = some z := ⟨_, List.getElem?_eq_getElem (by rw [Hlx.out]; exact hj1)⟩
      rw [show zs.getD j 0 = z by simp [List.getD_eq_getElem?_getD, he]] at c1
      have hz0 := Hz.out z (List.mem_of_getElem? he)
      obtain ⟨n, hn⟩ := Int.eq_ofNat_of_zero_le hz0
      subst hn
      have HS : Hid (cellsE (entsL (zs.take (j + 1))) = cellsE (entsL (zs.take j)) ++ [strV [97], .int .u64 (n : Nat)]) := by
        show _ = _
        rw [List.take_add_one, he]
        unfold entsL
        rw [List.map_append, cells_app]; rfl
      have hone : ∀ u ∈ [Value.string ⟨#[97]⟩, Value.int .u64 (n : Nat)], u.oneCell' = true := by simp [Value.oneCell']
      have hm1 : j + 1 ≤ maxLen := by unfold maxLen; omega
      have hm2 : (j + 1) * 24 ≤ 140737488355328 := by omega
      have hrw := hrow.out
      clear hc he hrow hbl hz0
      go_wp2_with (at_builtin; refine wpList_append_en rfl _ _ rfl w.heap.size _ _ _ _ rfl (hrw.alloc _) _ _ _ _ rfl (reads_lit _ _ _ _) hone hm1 hm2 (Nat.le_trans hsz (by simp)) ?_; intro ag2 c2 w2 hr2 hg2 hb2 hw2)
      have HB2 : Hid _ := (hB.out.alloc hsz _).trans hb2
      have HR2 : Hid (w2.ownsRow w.heap.size 35 2 (.slice ag2 (j + 1) c2) (j + 1) (cellsE (entsL (zs.take (j + 1))))) := by
        show World.ownsRow _ _ _ _ _ _ _
        rw [HS.out, strA]; exact hr2
      clear hr2 hg2 hb2 hw2 hrw
      go_wp2
      go_roundw
      case rel => exact ⟨j + 1, ag2, c2, rfl, by go_num, by omega, by omega, HR2, HB2⟩
      case measure => simp [intOf]; omega
    · have hsp : ¬ (j : Int) < len ∨ ((j : Int) < len ∧ ¬ (j : Int) < 400) := by omega
      have ht : zs.take j = zs.take 400 := by
        by_cases h4 : j = 400
        · rw [h4]
        · rw [List.take_of_length_le (by have := Hlx.out; omega), List.take_of_length_le (by have := Hlx.out; omega)]
      have HM : Hid (j = (zs.take 400).length) := by show _ = _; rw [← ht, List.length_take, Hlx.out]; omega
      rw [ht] at hrow
      clear ht hjl
      rcases hsp with q1 | ⟨q1, q2⟩
      all_goals go_wp2
      all_goals go_ret
      all_goals exact ⟨ag, cc, j, rfl, (by have := HM.out; rwa [List.length_take] at this), hrow.out, hB.out⟩
#print axioms counts_any
end Go.Proofs.Ytnojjipoppemcaa
