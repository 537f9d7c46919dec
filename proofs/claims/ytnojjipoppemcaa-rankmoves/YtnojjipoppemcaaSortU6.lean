/- slices.Sort of uint64s: order2Ordered, medianOrdered, medianAdjacentOrdered, choosePivotOrdered. -/
import Derived.Test.YtnojjipoppemcaaSortU
import Derived.Sort.WalkD1
import Derived.Sort.Walk13
namespace Go.Proofs.Ytnojjipoppemcaa
open Go.RowKit Go.Sort
set_option linter.unusedVariables false
set_option linter.unusedSimpArgs false

/-- A counter of the call's own, at block c, holds s. -/
structure CU (w0 : World) (blk off n : Nat) (d : Array Int) (c s : Nat) (w : World) : Prop where
  su : SU w0 blk off n d w
  cell : w.cell? ⟨c, 0, none⟩ = some (.int .i64 s)
  frozen : w.frozen? ⟨c, 0, none⟩ = false
  hc : w0.heap.size ≤ c
theorem CU.drewN {w0 w : World} {blk off n c s : Nat} {d : Array Int} (S : CU w0 blk off n d c s w) (q : Nat) : CU w0 blk off n d c s (w.drewN q) := ⟨S.su.drewN q, S.cell, S.frozen, S.hc⟩
theorem CU.bump {w0 w : World} {blk off n c s : Nat} {d : Array Int} (S : CU w0 blk off n d c s w) (t : Nat) : CU w0 blk off n d c t (w.setCell ⟨c, 0, none⟩ (.int .i64 t)) :=
  ⟨S.su.setNew c 0 _ S.hc, World.cell?_setCell_same' _ _ _ (by rw [S.cell]; rfl), by rw [World.frozen?_setCell]; exact S.frozen, S.hc⟩

set_option maxRecDepth 1000000 in
set_option maxHeartbeats 16000000 in
theorem order2_any {w0 w : World} {blk off n c s : Nat} {d : Array Int} (S : CU w0 blk off n d c s w) (cap a b : Nat) (ha : a < n) (hb : b < n) (hs : s ≤ 100) (hn : n < 4611686018427387904) :
    Calls Try.prog 45 #[.slice (some ⟨blk, off, none⟩) n cap, .int .i64 a, .int .i64 b, .pointer (some ⟨c, 0, none⟩)] w fun e w' => e = .returned (.tuple #[.int .i64 (order2 ltInt d a b s).1, .int .i64 (order2 ltInt d a b s).2.1]) ∧ CU w0 blk off n d c (order2 ltInt d a b s).2.2 w' := by
  have HS : Hid _ := S
  obtain ⟨G, hG⟩ : ∃ G : Nat → Int, ∀ t, G t = d[t]! := ⟨fun t => d[t]!, fun _ => rfl⟩
  have HG : Hid (∀ t, G t = d[t]!) := hG
  have hcw : ∀ t, t < n → w.cell? ⟨blk, off + t, none⟩ = some (.int .u64 (G t)) := fun t ht => by rw [hG]; exact S.su.cell t ht
  have hfw : ∀ t, t < n → w.frozen? ⟨blk, off + t, none⟩ = false := S.su.frozen
  have hcc := S.cell
  have hcf := S.frozen
  clear S hG
  cases hlv : ltInt (G b) (G a) with
  | true =>
    have HE : Hid (order2 ltInt d a b s = (b, a, s + 1)) := by show _ = _; rw [HG.out, HG.out] at hlv; unfold order2; rw [if_pos hlv]
    have hl : ∀ W, Calls Try.prog 35 #[.int .u64 (G b), .int .u64 (G a)] W fun e w' => e = .returned (.bool true) ∧ w' = W := fun W => by have := less_any (G b) (G a) W; rw [hlv] at this; exact this
    clear hlv
    go_enter Try.func45, Try.ntmps45
    go_wp2_with fail
    go_quiet (first | (go_at_call 35; refine Calls.quiet_of_same (hl _)))
    go_wp2_with fail
    go_ret2
    exact ⟨by rw [HE.out]; rfl, by rw [HE.out]; exact (HS.out.drewN _).bump _⟩
  | false =>
    have HE : Hid (order2 ltInt d a b s = (a, b, s)) := by show _ = _; rw [HG.out, HG.out] at hlv; unfold order2; rw [if_neg (by rw [hlv]; exact Bool.false_ne_true)]
    have hl : ∀ W, Calls Try.prog 35 #[.int .u64 (G b), .int .u64 (G a)] W fun e w' => e = .returned (.bool false) ∧ w' = W := fun W => by have := less_any (G b) (G a) W; rw [hlv] at this; exact this
    clear hlv
    go_enter Try.func45, Try.ntmps45
    go_wp2_with fail
    go_quiet (first | (go_at_call 35; refine Calls.quiet_of_same (hl _)))
    go_wp2_with fail
    go_ret2
    exact ⟨by rw [HE.out]; rfl, by rw [HE.out]; exact HS.out.drewN _⟩

set_option maxRecDepth 1000000 in
set_option maxHeartbeats 16000000 in
theorem median_any {w0 w : World} {blk off n c s : Nat} {d : Array Int} (S : CU w0 blk off n d c s w) (cap x y z : Nat) (hx : x < n) (hy : y < n) (hz : z < n) (hs : s ≤ 50) (hn : n < 4611686018427387904) :
    Calls Try.prog 43 #[.slice (some ⟨blk, off, none⟩) n cap, .int .i64 x, .int .i64 y, .int .i64 z, .pointer (some ⟨c, 0, none⟩)] w fun e w' => e = .returned (.int .i64 (median ltInt d x y z s).1) ∧ CU w0 blk off n d c (median ltInt d x y z s).2 w' ∧ (median ltInt d x y z s).1 < n ∧ (median ltInt d x y z s).2 ≤ s + 3 := by
  obtain ⟨⟨x1, y1, s1⟩, h1⟩ : ∃ r, r = order2 ltInt d x y s := ⟨_, rfl⟩
  have l1 := order2_lt d s hx hy
  have m1 := order2_swaps d x y s
  have p1 := order2_any S cap x y hx hy (by omega) hn
  rw [← h1] at l1 m1 p1
  simp only at l1 m1 p1
  obtain ⟨⟨y2, z2, s2⟩, h2⟩ : ∃ r, r = order2 ltInt d y1 z s1 := ⟨_, rfl⟩
  have l2 := order2_lt d s1 l1.2 hz
  have m2 := order2_swaps d y1 z s1
  have p2 : ∀ w, CU w0 blk off n d c s1 w → _ := fun w S => order2_any S cap y1 z l1.2 hz (by omega) hn
  rw [← h2] at l2 m2 p2
  simp only at l2 m2 p2
  obtain ⟨⟨x3, y3, s3⟩, h3⟩ : ∃ r, r = order2 ltInt d x1 y2 s2 := ⟨_, rfl⟩
  have l3 := order2_lt d s2 l1.1 l2.1
  have m3 := order2_swaps d x1 y2 s2
  have p3 : ∀ w, CU w0 blk off n d c s2 w → _ := fun w S => order2_any S cap x1 y2 l1.1 l2.1 (by omega) hn
  rw [← h3] at l3 m3 p3
  simp only at l3 m3 p3
  have HE : Hid (median ltInt d x y z s = (y3, s3)) := by
    show _ = _
    unfold median
    simp only [← h1, ← h2, ← h3]
  rw [HE.out]
  have HB : Hid (y3 < n ∧ s3 ≤ s + 3) := ⟨l3.2, by omega⟩
  have P2 : Hid _ := p2
  have P3 : Hid _ := p3
  clear h1 h2 h3 l1 l2 l3 m1 m2 m3 HE S p2 p3
  go_enter Try.func43, Try.ntmps43
  go_wp2_with fail
  refine p1.mono ?_
  rintro e wa ⟨rfl, hS⟩
  have p2 := P2.out _ hS
  clear hS p1 P2
  go_wp2_with fail
  refine p2.mono ?_
  rintro e wb ⟨rfl, hS⟩
  have p3 := P3.out _ hS
  clear hS p2 P3
  go_wp2_with fail
  refine p3.mono ?_
  rintro e wd ⟨rfl, hS⟩
  have HS : Hid _ := hS
  clear hS p3
  go_wp2_with fail
  go_ret
  exact ⟨rfl, HS.out, HB.out⟩

set_option maxRecDepth 1000000 in
set_option maxHeartbeats 16000000 in
theorem medianAdj_any {w0 w : World} {blk off n c s : Nat} {d : Array Int} (S : CU w0 blk off n d c s w) (cap x : Nat) (hx : x + 1 < n) (hx1 : 1 ≤ x) (hs : s ≤ 50) (hn : n < 4611686018427387904) :
    Calls Try.prog 42 #[.slice (some ⟨blk, off, none⟩) n cap, .int .i64 x, .pointer (some ⟨c, 0, none⟩)] w fun e w' => e = .returned (.int .i64 (medianAdjacent ltInt d x s).1) ∧ CU w0 blk off n d c (medianAdjacent ltInt d x s).2 w' ∧ (medianAdjacent ltInt d x s).1 < n ∧ (medianAdjacent ltInt d x s).2 ≤ s + 3 := by
  have p1 := median_any S cap (x - 1) x (x + 1) (by omega) (by omega) (by omega) hs hn
  have e1 : ((x - 1 : Nat) : Int) = (x : Int) - 1 := by omega
  have e2 : ((x + 1 : Nat) : Int) = (x : Int) + 1 := by omega
  rw [e1, e2] at p1
  have HE : Hid (medianAdjacent ltInt d x s = median ltInt d (x - 1) x (x + 1) s) := rfl
  rw [HE.out]
  generalize median ltInt d (x - 1) x (x + 1) s = r at p1 ⊢
  clear S e1 e2 HE
  go_enter Try.func42, Try.ntmps42
  go_wp2_with fail
  refine p1.mono ?_
  rintro e wa ⟨rfl, hS⟩
  have HS : Hid _ := hS
  clear hS p1
  go_wp2_with fail
  go_ret
  exact ⟨rfl, HS.out⟩
end Go.Proofs.Ytnojjipoppemcaa
