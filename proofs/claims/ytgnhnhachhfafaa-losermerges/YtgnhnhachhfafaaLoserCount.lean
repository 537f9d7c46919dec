/- The landed count: an entry behind others, or its count to the last one's. -/
import Derived.Test.YtgnhnhachhfafaaLoserNext
import Derived.Test.YtgnhnhachhfafaaNumAdd
namespace Go.Proofs.Ytgnhnhachhfafaa
open Go.RowKit
set_option linter.unusedVariables false
set_option linter.unusedSimpArgs false

/-- What count leaves of an own row. -/
def CountAt (base : Nat) (w : World) (v : Value) (out : List En) (e : Ending) (w' : World) : Prop :=
  ∃ v', e = .returned (.tuple #[v', .bool true]) ∧ w'.ownsRow base 44 2 v' out.length (cellsE out) ∧ w.grownBy w' v.ownBlock
theorem grow_grown {w w1 w2 : World} {r : Option Nat} (h : Grow w w1) (k : w1.grownBy w2 r) : w.grownBy w2 r :=
  ⟨k.os.trans h.os, k.tape.trans h.tape, k.output.trans h.output, Nat.le_trans h.size k.size, fun i hi hr => (k.block i (by have := h.size; omega) hr).trans (h.block i hi)⟩
set_option maxRecDepth 100000 in
set_option maxHeartbeats 4000000 in
theorem count_put {base : Nat} {w : World} {v : Value} {out : List En} (h : w.ownsRow base 44 2 v out.length (cellsE out)) (hb : base ≤ w.heap.size) (k : Wd) (n : Nat) (hn : ∀ z, out.getLast? = some z → z.1 ≠ k) (hl : out.length ≤ 1000000) :
    Calls Try.prog 20 #[v, .agg #[strV k, .int .u64 (n : Nat)]] w fun e w' => CountAt base w v (out ++ [(k, n)]) e w' := by
  obtain ⟨ao, cap, rfl⟩ := own2_slice h
  have hB0 : Grow w (w.alloc (.cells #[strV k, .int .u64 (n : Nat)] 44)) := (Below.refl _ _).alloc (Nat.le_refl _) _
  have k0 : (w.alloc (.cells #[strV k, .int .u64 (n : Nat)] 44)).heap[w.heap.size]? = some (.cells #[strV k, .int .u64 (n : Nat)] 44 (0, 0)) := Array.getElem?_push_size
  have h0 := own2_later h hB0 (Nat.le_refl _)
  have hs0 := hB0.size
  generalize hw0 : w.alloc (.cells #[strV k, .int .u64 (n : Nat)] 44) = w0 at hB0 k0 h0 hs0
  have cz := blk2 k0
  have HW0 : Hid _ := hw0
  clear hw0
  have hm1 : out.length + 1 ≤ maxLen := by unfold maxLen; omega
  have hm2 : (out.length + 1) * 24 ≤ 140737488355328 := by omega
  have hone : ∀ u ∈ [strV k, Value.int .u64 (n : Int)], u.oneCell' = true := by simp [Value.oneCell']
  rcases Nat.eq_zero_or_pos out.length with hz | hz
  · obtain rfl : out = [] := List.eq_nil_of_length_eq_zero hz
    go_enter Try.func20, Try.ntmps20
    go_upto_region 1 with (fail)
    rw [HW0.out]
    go_wp2_with fail
    go_quiet (fail)
    have h1 := own2_later h0 (below_drewN (Below.refl _ _) nq) (Nat.le_refl _)
    have cz1 := cz
    simp only [List.length_nil] at h1 hm1 hm2
    have hbz : base ≤ w0.heap.size := Nat.le_trans hb hs0
    clear h h0 hn hl hz
    go_wp2_with (at_builtin; refine wpList_append_en rfl _ _ rfl base _ _ _ _ rfl (h1.alloc _) _ _ _ _ rfl (reads_lit _ _ _ _) hone hm1 hm2 (Nat.le_trans hbz (by simp)) ?_; intro ag1 c1 w1 hr1 hg1 hb1 hw1)
    go_ret2
    have hg0 : Grow w ((w0.drewN nq).alloc (.cells #[strV k, .int .u64 (n : Nat)] 44)) := Grow.trans (Grow.trans hB0 (below_drewN (Below.refl _ _) nq)) ((Below.refl _ _).alloc (Nat.le_refl _) _)
    exact ⟨_, rfl, hr1, grow_grown hg0 hg1⟩
  · obtain ⟨m, hm⟩ : ∃ m, out.length = m + 1 := ⟨out.length - 1, by omega⟩
    obtain ⟨⟨zk, zn⟩, hzl⟩ : ∃ z, out.getLast? = some z := by
      cases hq : out.getLast? with
      | none => rw [List.getLast?_eq_none_iff] at hq; subst hq; simp at hz
      | some z => exact ⟨z, rfl⟩
    have hze : out[m]? = some (zk, zn) := by rw [List.getLast?_eq_getElem?, hm] at hzl; exact hzl
    have hne := hn _ hzl
    obtain ⟨g, cap', hv, q1, q2, q3, hc, q4⟩ := own2_at h0 hz
    obtain ⟨rfl, rfl⟩ := slice_inj hv
    have c1 := (hc m _ hze).1
    simp only at c1 hne
    have hqb : (zk == k) = false := by rw [beq_eq_false_iff_ne]; exact hne
    rw [hm] at h0 hm1 hm2
    rw [hm]
    have i1 : decide ((m : Int) < 0) = false := by simp
    have i2 : (m : Int) < (m : Int) + 1 := by omega
    have i3 : (0 : Int) ≤ m := by omega
    have i4 : (m : Int) < ((m + 1 : Nat) : Int) := by omega
    have hbz : base ≤ w0.heap.size := Nat.le_trans hb hs0
    have Hm : Hid _ := hm
    clear h hn hl hz hm hzl hze hne hc hv q1 q2 q3 q4
    go_enter Try.func20, Try.ntmps20
    go_upto_region 1 with (fail)
    rw [HW0.out]
    go_wp2_with fail
    go_quiet (fail)
    have h1 := own2_later h0 (below_drewN (Below.refl _ _) nq) (Nat.le_refl _)
    clear h0 c1
    go_wp2_with (at_builtin; refine wpList_append_en rfl _ _ rfl base _ _ _ _ rfl (h1.alloc _) _ _ _ _ rfl (reads_lit _ _ _ _) hone hm1 hm2 (Nat.le_trans hbz (by simp)) ?_; intro ag1 c1 w1 hr1 hg1 hb1 hw1)
    go_ret2
    have hg0 : Grow w ((w0.drewN nq).alloc (.cells #[strV k, .int .u64 (n : Nat)] 44)) := Grow.trans (Grow.trans hB0 (below_drewN (Below.refl _ _) nq)) ((Below.refl _ _).alloc (Nat.le_refl _) _)
    exact ⟨_, rfl, by rw [List.length_append, Hm.out, cells_app]; exact hr1, grow_grown hg0 hg1⟩
#print axioms count_put

set_option maxRecDepth 100000 in
set_option maxHeartbeats 4000000 in
theorem count_more {base : Nat} {w : World} {v : Value} {out : List En} (h : w.ownsRow base 44 2 v out.length (cellsE out)) (hb : base ≤ w.heap.size) (k : Wd) (n zn : Nat) (hzl : out.getLast? = some (k, zn)) (hs : zn + n ≤ 4611686018427387904) (hl : out.length ≤ 1000000) :
    Calls Try.prog 20 #[v, .agg #[strV k, .int .u64 (n : Nat)]] w fun e w' => CountAt base w v (out.set (out.length - 1) (k, zn + n)) e w' := by
  obtain ⟨ao, cap, rfl⟩ := own2_slice h
  have hB0 : Grow w (w.alloc (.cells #[strV k, .int .u64 (n : Nat)] 44)) := (Below.refl _ _).alloc (Nat.le_refl _) _
  have k0 : (w.alloc (.cells #[strV k, .int .u64 (n : Nat)] 44)).heap[w.heap.size]? = some (.cells #[strV k, .int .u64 (n : Nat)] 44 (0, 0)) := Array.getElem?_push_size
  have h0 := own2_later h hB0 (Nat.le_refl _)
  have hs0 := hB0.size
  generalize hw0 : w.alloc (.cells #[strV k, .int .u64 (n : Nat)] 44) = w0 at hB0 k0 h0 hs0
  have cz := blk2 k0
  have HW0 : Hid _ := hw0
  clear hw0
  have hz : 0 < out.length := by
    cases out with
    | nil => simp at hzl
    | cons => simp
  obtain ⟨m, hm⟩ : ∃ m, out.length = m + 1 := ⟨out.length - 1, by omega⟩
  have hze : out[m]? = some (k, zn) := by rw [List.getLast?_eq_getElem?, hm] at hzl; exact hzl
  obtain ⟨g, cap', hv, q1, q2, q3, hc, q4⟩ := own2_at h0 hz
  obtain ⟨rfl, rfl⟩ := slice_inj hv
  have c1 := (hc m _ hze).1
  have c2 := (hc m _ hze).2
  simp only at c1 c2
  have f2 := q4 (m * 2 + 1)
  have hset : ∀ W : World, W.ownsRow base 44 2 (.slice (some ⟨g, 0, none⟩) out.length cap) out.length (cellsE out) → (W.setCell ⟨g, m * 2 + 1, none⟩ (.int .u64 ((zn + n : Nat) : Int))).ownsRow base 44 2 (.slice (some ⟨g, 0, none⟩) out.length cap) out.length (cellsE (out.set m (k, zn + n))) := fun W hW => by
    have := own2_set hW (j := m * 2 + 1) (by omega) (.int .u64 ((zn + n : Nat) : Int))
    rw [cells_set out m _ (zn + n) hze] at this
    exact this
  have hadd := fun W => add_any (zn : Nat) (n : Nat) W (by omega) (by omega) (by omega) (by omega)
  have e1 : addN (zn : Nat) (n : Nat) = ((zn + n : Nat) : Int) := by unfold addN; rw [if_pos (by omega)]; omega
  have e2 : addB (zn : Nat) (n : Nat) = true := by simp [addB]; omega
  rw [e1, e2] at hadd
  have hol : (out.set (out.length - 1) (k, zn + n)) = out.set m (k, zn + n) := by rw [hm]; rfl
  have hol2 : (out.set m (k, zn + n)).length = m + 1 := by rw [List.length_set]; exact hm
  rw [hm] at hset
  rw [hm] at h0
  rw [hm]
  have i1 : decide ((m : Int) < 0) = false := by simp
  have i2 : (m : Int) < (m : Int) + 1 := by omega
  have i3 : (0 : Int) ≤ m := by omega
  have i4 : (m : Int) < ((m + 1 : Nat) : Int) := by omega
  have i5 : m ≤ 1000000 := by omega
  have Hm : Hid _ := hm
  have Hset : Hid _ := hset
  have Hol : Hid _ := hol
  have Hol2 : Hid _ := hol2
  clear h hz hm hzl hze hc hv q1 q2 q3 q4 e1 e2 hset hol hol2
  generalize zn + n = sum at *
  go_enter Try.func20, Try.ntmps20
  go_upto_region 1 with (fail)
  rw [HW0.out]
  go_wp2_with fail
  go_quiet (fail)
  obtain ⟨w1, hw1⟩ : ∃ w1, w1 = w0.drewN nq := ⟨_, rfl⟩
  rw [← hw1]
  have h1 : w1.ownsRow base 44 2 (.slice (some ⟨g, 0, none⟩) (m + 1) cap) (m + 1) (cellsE out) := by rw [hw1]; exact own2_later h0 (below_drewN (Below.refl _ _) nq) (Nat.le_refl _)
  have d2 : w1.cell? ⟨g, m * 2 + 1, none⟩ = some (.int .u64 (zn : Nat)) := by rw [hw1]; exact c2
  have e2 : w1.frozen? ⟨g, m * 2 + 1, none⟩ = false := by rw [hw1]; exact f2
  have dz : w1.cell? ⟨w.heap.size, 1, none⟩ = some (.int .u64 (n : Nat)) := by rw [hw1]; exact cz.2.1
  have hB1 : Grow w w1 := by rw [hw1]; exact Grow.trans hB0 (below_drewN (Below.refl _ _) nq)
  clear hw1 h0 c1 c2 f2 cz k0 hB0
  go_wp2_with fail
  go_quiet (exact Calls.quiet_of_same (hadd _))
  have h2 := own2_later h1 (below_drewN (Below.refl _ _) nq) (Nat.le_refl _)
  have h3 := Hset.out _ h2
  have hgz : w.grownBy ((w1.drewN nq).setCell ⟨g, m * 2 + 1, none⟩ (.int .u64 (sum : Nat))) (Value.ownBlock (.slice (some ⟨g, 0, none⟩) (m + 1) cap)) := grow_grown hB1 (grown_set (World.grownBy.refl _ _) nq (m * 2 + 1) _)
  have H3 : Hid _ := h3
  have HGZ : Hid _ := hgz
  clear h1 h2 h3 hgz hadd Hset
  go_wp2
  go_ret2
  rw [Nat.add_sub_cancel]
  exact ⟨_, rfl, by rw [Hol2.out]; exact H3.out, HGZ.out⟩
#print axioms count_more
set_option maxRecDepth 100000 in
set_option maxHeartbeats 4000000 in
theorem count_over {base : Nat} {w : World} {v : Value} {out : List En} (h : w.ownsRow base 44 2 v out.length (cellsE out)) (hb : base ≤ w.heap.size) (k : Wd) (n zn : Nat) (hzl : out.getLast? = some (k, zn)) (hs : 4611686018427387904 < zn + n) (hz1 : zn ≤ 4611686018427387904) (hn1 : n ≤ 4611686018427387904) (hl : out.length ≤ 1000000) :
    Calls Try.prog 20 #[v, .agg #[strV k, .int .u64 (n : Nat)]] w fun e w' => e = .returned (.tuple #[.slice none 0 0, .bool false]) ∧ Grow w w' := by
  obtain ⟨ao, cap, rfl⟩ := own2_slice h
  have hB0 : Grow w (w.alloc (.cells #[strV k, .int .u64 (n : Nat)] 44)) := (Below.refl _ _).alloc (Nat.le_refl _) _
  have k0 : (w.alloc (.cells #[strV k, .int .u64 (n : Nat)] 44)).heap[w.heap.size]? = some (.cells #[strV k, .int .u64 (n : Nat)] 44 (0, 0)) := Array.getElem?_push_size
  have h0 := own2_later h hB0 (Nat.le_refl _)
  have hs0 := hB0.size
  generalize hw0 : w.alloc (.cells #[strV k, .int .u64 (n : Nat)] 44) = w0 at hB0 k0 h0 hs0
  have cz := blk2 k0
  have HW0 : Hid _ := hw0
  clear hw0
  have hz : 0 < out.length := by
    cases out with
    | nil => simp at hzl
    | cons => simp
  obtain ⟨m, hm⟩ : ∃ m, out.length = m + 1 := ⟨out.length - 1, by omega⟩
  have hze : out[m]? = some (k, zn) := by rw [List.getLast?_eq_getElem?, hm] at hzl; exact hzl
  obtain ⟨g, cap', hv, q1, q2, q3, hc, q4⟩ := own2_at h0 hz
  obtain ⟨rfl, rfl⟩ := slice_inj hv
  have c1 := (hc m _ hze).1
  have c2 := (hc m _ hze).2
  simp only at c1 c2
  have f2 := q4 (m * 2 + 1)
  have hadd := fun W => add_any (zn : Nat) (n : Nat) W (by omega) (by omega) (by omega) (by omega)
  have e1 : addN (zn : Nat) (n : Nat) = 0 := by unfold addN; rw [if_neg (by omega)]
  have e2 : addB (zn : Nat) (n : Nat) = false := by simp [addB]; omega
  rw [e1, e2] at hadd
  rw [hm] at h0
  rw [hm]
  have i1 : decide ((m : Int) < 0) = false := by simp
  have i2 : (m : Int) < (m : Int) + 1 := by omega
  have i3 : (0 : Int) ≤ m := by omega
  have i4 : (m : Int) < ((m + 1 : Nat) : Int) := by omega
  have i5 : m ≤ 1000000 := by omega
  have Hm : Hid _ := hm
  clear h hz hm hzl hze hc hv q1 q2 q3 q4 e1 e2
  go_enter Try.func20, Try.ntmps20
  go_upto_region 1 with (fail)
  rw [HW0.out]
  go_wp2_with fail
  go_quiet (fail)
  obtain ⟨w1, hw1⟩ : ∃ w1, w1 = w0.drewN nq := ⟨_, rfl⟩
  rw [← hw1]
  have h1 : w1.ownsRow base 44 2 (.slice (some ⟨g, 0, none⟩) (m + 1) cap) (m + 1) (cellsE out) := by rw [hw1]; exact own2_later h0 (below_drewN (Below.refl _ _) nq) (Nat.le_refl _)
  have d2 : w1.cell? ⟨g, m * 2 + 1, none⟩ = some (.int .u64 (zn : Nat)) := by rw [hw1]; exact c2
  have e2 : w1.frozen? ⟨g, m * 2 + 1, none⟩ = false := by rw [hw1]; exact f2
  have dz : w1.cell? ⟨w.heap.size, 1, none⟩ = some (.int .u64 (n : Nat)) := by rw [hw1]; exact cz.2.1
  have hB1 : Grow w w1 := by rw [hw1]; exact Grow.trans hB0 (below_drewN (Below.refl _ _) nq)
  clear hw1 h0 c1 c2 f2 cz k0 hB0
  go_wp2_with fail
  go_quiet (exact Calls.quiet_of_same (hadd _))
  have hgz : Grow w (w1.drewN nq) := Grow.trans hB1 (below_drewN (Below.refl _ _) nq)
  have HGZ : Hid _ := hgz
  clear h1 hgz hadd
  go_wp2
  go_ret2
  exact ⟨rfl, HGZ.out⟩
#print axioms count_over
end Go.Proofs.Ytgnhnhachhfafaa
