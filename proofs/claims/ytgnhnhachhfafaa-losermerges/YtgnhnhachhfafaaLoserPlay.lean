/- The landed play: what it holds; one match. -/
import Derived.Test.YtgnhnhachhfafaaLoserRows
import Derived.Test.YtgnhnhachhfafaaLoserTree
import Derived.Deep.QuietTactic
import Derived.BigQuiet
namespace Go.Proofs.Ytgnhnhachhfafaa
open Go.RowKit
set_option linter.unusedVariables false
set_option linter.unusedSimpArgs false

/-- Numbers as values. -/
def numsV (L : List Nat) : List Value := L.map fun (x : Nat) => .int .i64 (x : Int)
/-- A play: its block, its lists' and its losers' blocks; each list lies below B, each block not. -/
structure PlayAt (B : Nat) (W : World) (pb lb ob : Nat) (ls : List (List En)) (L : List Nat) (vs : List Value) : Prop where
  blk : W.heap[pb]? = some (.cells #[.slice (some ⟨lb, 0, none⟩) L.length L.length, .slice (some ⟨ob, 0, none⟩) L.length L.length] 64 (0, 0))
  left : W.heap[lb]? = some (.cells vs.toArray 25 (0, 0))
  los : W.heap[ob]? = some (.cells (numsV L).toArray 3 (0, 0))
  vals : ListVals B W vs ls
  len : ls.length = L.length
  most : L.length ≤ 1000000
  base : B ≤ pb ∧ B ≤ lb ∧ B ≤ ob
theorem PlayAt.c0 {B : Nat} {W : World} {pb lb ob : Nat} {ls : List (List En)} {L : List Nat} {vs : List Value} (h : PlayAt B W pb lb ob ls L vs) : W.cell? ⟨pb, 0, none⟩ = some (.slice (some ⟨lb, 0, none⟩) L.length L.length) := by simp [World.cell?, h.blk]
theorem PlayAt.c1 {B : Nat} {W : World} {pb lb ob : Nat} {ls : List (List En)} {L : List Nat} {vs : List Value} (h : PlayAt B W pb lb ob ls L vs) : W.cell? ⟨pb, 1, none⟩ = some (.slice (some ⟨ob, 0, none⟩) L.length L.length) := by simp [World.cell?, h.blk]
theorem PlayAt.cl {B : Nat} {W : World} {pb lb ob : Nat} {ls : List (List En)} {L : List Nat} {vs : List Value} (h : PlayAt B W pb lb ob ls L vs) {i : Nat} {v : Value} (hv : vs[i]? = some v) : W.cell? ⟨lb, i, none⟩ = some v := by simp [World.cell?, h.left, hv]
theorem PlayAt.co {B : Nat} {W : World} {pb lb ob : Nat} {ls : List (List En)} {L : List Nat} {vs : List Value} (h : PlayAt B W pb lb ob ls L vs) {i : Nat} (hi : i < L.length) : W.cell? ⟨ob, i, none⟩ = some (.int .i64 (L.getD i 0 : Nat)) := by
  have : (numsV L)[i]? = some (.int .i64 (L.getD i 0 : Nat)) := by simp [numsV, List.getD_eq_getElem?_getD, List.getElem?_eq_getElem hi]
  simp [World.cell?, h.los, this]
theorem PlayAt.fl {B : Nat} {W : World} {pb lb ob : Nat} {ls : List (List En)} {L : List Nat} {vs : List Value} (h : PlayAt B W pb lb ob ls L vs) (i : Nat) : W.frozen? ⟨lb, i, none⟩ = false := by simp [World.frozen?, h.left]
theorem PlayAt.fo {B : Nat} {W : World} {pb lb ob : Nat} {ls : List (List En)} {L : List Nat} {vs : List Value} (h : PlayAt B W pb lb ob ls L vs) (i : Nat) : W.frozen? ⟨ob, i, none⟩ = false := by simp [World.frozen?, h.los]
theorem PlayAt.kept {B : Nat} {W W' : World} {pb lb ob : Nat} {ls : List (List En)} {L : List Nat} {vs : List Value} (h : PlayAt B W pb lb ob ls L vs) (hp : W'.heap[pb]? = W.heap[pb]?) (hl : W'.heap[lb]? = W.heap[lb]?) (ho : W'.heap[ob]? = W.heap[ob]?) (hb : ∀ k, k < B → k < W.heap.size → W'.heap[k]? = W.heap[k]?) : PlayAt B W' pb lb ob ls L vs :=
  ⟨hp.trans h.blk, hl.trans h.left, ho.trans h.los, h.vals.kept hb, h.len, h.most, h.base⟩
theorem PlayAt.lt {B : Nat} {W : World} {pb lb ob : Nat} {ls : List (List En)} {L : List Nat} {vs : List Value} (h : PlayAt B W pb lb ob ls L vs) : pb < W.heap.size ∧ lb < W.heap.size ∧ ob < W.heap.size :=
  ⟨(Array.getElem?_eq_some_iff.1 h.blk).1, (Array.getElem?_eq_some_iff.1 h.left).1, (Array.getElem?_eq_some_iff.1 h.los).1⟩
theorem PlayAt.later {B C : Nat} {W W' : World} {pb lb ob : Nat} {ls : List (List En)} {L : List Nat} {vs : List Value} (h : PlayAt B W pb lb ob ls L vs) (hb : Below C W W') (hC : W.heap.size ≤ C) : PlayAt B W' pb lb ob ls L vs := by
  obtain ⟨h1, h2, h3⟩ := h.lt
  exact h.kept (hb.block _ (by omega)) (hb.block _ (by omega)) (hb.block _ (by omega)) fun k _ hk => hb.block _ (by omega)
theorem PlayAt.apart {B : Nat} {W : World} {pb lb ob : Nat} {ls : List (List En)} {L : List Nat} {vs : List Value} (h : PlayAt B W pb lb ob ls L vs) : pb ≠ lb ∧ pb ≠ ob ∧ lb ≠ ob := by
  refine ⟨fun e => ?_, fun e => ?_, fun e => ?_⟩
  · have h1 := h.blk
    rw [e, h.left] at h1; simp at h1
  · have h1 := h.blk
    rw [e, h.los] at h1; simp at h1
  · have h1 := h.left
    rw [e, h.los] at h1; simp at h1
theorem nums_set (L : List Nat) (i v : Nat) : (numsV L).set i (.int .i64 (v : Int)) = numsV (L.set i v) := by simp [numsV, List.map_set]
/-- Another loser. -/
theorem PlayAt.setL {B : Nat} {W : World} {pb lb ob : Nat} {ls : List (List En)} {L : List Nat} {vs : List Value} (h : PlayAt B W pb lb ob ls L vs) (i v : Nat) : PlayAt B (W.setCell ⟨ob, i, none⟩ (.int .i64 (v : Nat))) pb lb ob ls (L.set i v) vs := by
  obtain ⟨a1, a2, a3⟩ := h.apart
  obtain ⟨b1, b2, b3⟩ := h.base
  refine ⟨?_, ?_, ?_, h.vals.kept fun k hk _ => Below.heap_setCell _ _ _ _ (show k ≠ ob by omega), by rw [h.len, List.length_set], by rw [List.length_set]; exact h.most, h.base⟩
  · rw [Below.heap_setCell _ _ _ _ a2, h.blk, List.length_set]
  · rw [Below.heap_setCell _ _ _ _ a3, h.left]
  · rw [heap_setCell_same W ob i _ _ _ h.los]
    simp [← nums_set]
/-- A list is cut. -/
theorem PlayAt.setV {B : Nat} {W : World} {pb lb ob : Nat} {ls : List (List En)} {L : List Nat} {vs : List Value} (h : PlayAt B W pb lb ob ls L vs) (i : Nat) {ai : Option Addr} {ci : Nat} {l : List En} (hr : ReadsE W ai l.length ci (cellsE l)) (hB : ∀ a, ai = some a → 0 < l.length → a.block < B) :
    PlayAt B (W.setCell ⟨lb, i, none⟩ (.slice ai l.length ci)) pb lb ob (ls.set i l) L (vs.set i (.slice ai l.length ci)) := by
  obtain ⟨a1, a2, a3⟩ := h.apart
  obtain ⟨b1, b2, b3⟩ := h.base
  refine ⟨?_, ?_, ?_, (h.vals.set i hr hB).kept fun k hk _ => Below.heap_setCell _ _ _ _ (show k ≠ lb by omega), by rw [List.length_set]; exact h.len, h.most, h.base⟩
  · rw [Below.heap_setCell _ _ _ _ a1, h.blk]
  · rw [heap_setCell_same W lb i _ _ _ h.left]; simp
  · rw [Below.heap_setCell _ _ _ _ (fun e => a3 e.symm), h.los]

theorem at_getD {ls : List (List En)} {a : Nat} {l : List En} (h : ls[a]? = some l) : ls.getD a [] = l := by simp [List.getD_eq_getElem?_getD, h]
set_option maxRecDepth 100000 in
set_option maxHeartbeats 4000000 in
theorem match_any {B : Nat} {w : World} {pb lb ob : Nat} {ls : List (List En)} {L : List Nat} {vs : List Value} (h : PlayAt B w pb lb ob ls L vs) (a b : Nat) (ha : a < L.length) (hb : b < L.length) :
    Calls Try.prog 29 #[.pointer (some ⟨pb, 0, none⟩), .int .i64 (a : Nat), .int .i64 (b : Nat)] w fun e w' => e = .returned (.tuple #[.int .i64 ((matchF ls a b).1 : Nat), .int .i64 ((matchF ls a b).2 : Nat)]) ∧ ∃ m, w' = w.drewN m := by
  obtain ⟨la, aa, ca, hla, hva, hra, _⟩ := h.vals.at (i := a) (by rw [h.len]; exact ha)
  obtain ⟨lc, ab, cb, hlb, hvb, hrb, _⟩ := h.vals.at (i := b) (by rw [h.len]; exact hb)
  have c0 := h.c0
  have ca' := h.cl hva
  have cb' := h.cl hvb
  have hM : matchF ls a b = if losesL la lc then (b, a) else (a, b) := by unfold matchF; rw [at_getD hla, at_getD hlb]
  have ha0 : (0 : Int) ≤ a := by omega
  have hb0 : (0 : Int) ≤ b := by omega
  have hai : (a : Int) < L.length := by omega
  have hbi : (b : Int) < L.length := by omega
  generalize L.length = n at *
  clear hla hva hlb hvb h ha hb
  have HM : Hid _ := hM
  clear hM
  cases la with
  | nil =>
    have hE : Hid (matchF ls a b = (b, a)) := by show _ = _; rw [HM.out]; rfl
    clear HM hra hrb
    go_enter Try.func29, Try.ntmps29
    go_wp2_with fail
    go_quiet (fail)
    go_wp2_with fail
    go_quiet (fail)
    go_wp2
    go_ret2
    exact ⟨by rw [hE.out]; rfl, _, by rw [World.drewN_drewN]⟩
  | cons x la =>
    obtain ⟨xk, xn⟩ := x
    obtain ⟨b1, o1, rfl, _, hc1⟩ := hra.at (by simp)
    have d1 := (hc1 0 (xk, xn) rfl).1
    simp only [Nat.zero_mul, Nat.add_zero] at d1
    have n1 : decide ((((xk, xn) :: la).length : Int) = 0) = false := by simp; omega
    have n1b : ((((xk, xn) :: la).length : Int) == 0) = false := by rw [beq_eq_false_iff_ne]; simp; omega
    have n1' : (0 : Int) < ((xk, xn) :: la).length := by simp
    clear hc1 hra
    cases lc with
    | nil =>
      have hE : Hid (matchF ls a b = (a, b)) := by show _ = _; rw [HM.out]; rfl
      generalize ((xk, xn) :: la).length = m at *
      clear HM hrb
      go_enter Try.func29, Try.ntmps29
      go_wp2_with fail
      go_quiet (fail)
      go_wp2_with fail
      go_quiet (fail)
      go_wp2
      go_ret2
      exact ⟨by rw [hE.out]; rfl, _, by rw [World.drewN_drewN]⟩
    | cons y lc =>
      obtain ⟨yk, yn⟩ := y
      obtain ⟨b2, o2, rfl, _, hc2⟩ := hrb.at (by simp)
      have d2 := (hc2 0 (yk, yn) rfl).1
      simp only [Nat.zero_mul, Nat.add_zero] at d2
      have n2 : decide ((0 : Int) < (((yk, yn) :: lc).length : Int)) = true := by simp
      have n2b : decide (0 < ((yk, yn) :: lc).length) = true := by simp
      have n2' : (0 : Int) < ((yk, yn) :: lc).length := by simp
      clear hc2 hrb
      cases hl : lessB yk xk with
      | true =>
        have hE : Hid (matchF ls a b = (b, a)) := by show _ = _; rw [HM.out]; unfold losesL; simp only [hl, if_true]
        generalize ((xk, xn) :: la).length = m at *
        generalize ((yk, yn) :: lc).length = m' at *
        clear HM
        go_enter Try.func29, Try.ntmps29
        go_wp2_with fail
        go_quiet (fail)
        go_wp2_with fail
        go_quiet (fail)
        go_wp2
        go_ret2
        exact ⟨by rw [hE.out]; rfl, _, by rw [World.drewN_drewN]⟩
      | false =>
        have hE : Hid (matchF ls a b = (a, b)) := by show _ = _; rw [HM.out]; unfold losesL; simp only [hl, Bool.false_eq_true, if_false]
        generalize ((xk, xn) :: la).length = m at *
        generalize ((yk, yn) :: lc).length = m' at *
        clear HM
        go_enter Try.func29, Try.ntmps29
        go_wp2_with fail
        go_quiet (fail)
        go_wp2_with fail
        go_quiet (fail)
        go_wp2
        go_ret2
        exact ⟨by rw [hE.out]; rfl, _, by rw [World.drewN_drewN]⟩
#print axioms match_any
end Go.Proofs.Ytgnhnhachhfafaa
