/- What stands at the head of the statements on rank. -/
import Derived.Test.YtnojjipoppemcaaRankCount
import Derived.Test.YtnojjipoppemcaaEnSame
namespace Go.Proofs.Ytnojjipoppemcaa
open Go.RowKit
set_option linter.unusedVariables false
set_option linter.unusedSimpArgs false

/-- Cells of a row of values. -/
theorem Reads.at13 {w : World} {ao : Option Addr} {len cap : Nat} {vs : List Value} (h : Reads w ao len cap vs) (hp : 0 < len) :
    ∃ b off, ao = some ⟨b, off, none⟩ ∧ b < w.heap.size ∧ ∀ (j : Nat) v, vs[j]? = some v → w.cell? ⟨b, off + j, none⟩ = some v := by
  have hl := h.length
  cases ao with
  | none => have := h.bare rfl; omega
  | some a =>
    obtain ⟨b, off, rfl⟩ := h.plain hp
    refine ⟨b, off, rfl, ?_, fun j v hv => ?_⟩
    · have := World.block_lt_of_cell? w _ (h.cell _ rfl 0 vs[0] (List.getElem?_eq_getElem (by omega)))
      simpa [Addr.add_lit] using this
    · have := h.cell _ rfl j v hv
      simpa [Addr.add_lit] using this

theorem ents_fit {zs : List Int} (h : ∀ z ∈ zs, z ≤ 18446744073709551615) : ∀ e ∈ entsL zs, e.2 ≤ 18446744073709551615 := by
  intro e he
  obtain ⟨z, hz, rfl⟩ := List.mem_map.1 he
  have := h z hz
  simp only
  omega

set_option maxRecDepth 100000 in
set_option maxHeartbeats 4000000 in
theorem shown_any (w : World) : Calls Try.prog 8 #[] w fun e w' => e = .returned (.bool true) ∧ Below w.heap.size w w' := by
  have p1 := fun (W : World) => counts_any (zs := [5, 9, 5, 1]) (reads_new W [.int .u64 5, .int .u64 9, .int .u64 5, .int .u64 1] 23 (by decide)) (by simp)
  have P1 : Hid _ := p1
  clear p1
  go_enter Try.func8, Try.ntmps8
  go_wp2_with fail
  refine (P1.out _).mono ?_
  rintro e w1 ⟨ag, c, m, rfl, hm, ho, hB⟩
  have hB1 : Below w.heap.size w w1 := ((Below.refl _ _).alloc (Nat.le_refl _) _).trans (hB.mono (by simp))
  have hm4 : m = 4 := hm
  subst hm4
  have hr1 := ReadsE.own ho
  have p2 := classes_any hr1 (by omega) (ents_fit (by simp))
  rw [show classesI ((entsL (([5, 9, 5, 1] : List Int).take 400)).map (·.2)) = [1, 0, 1, 2] by decide] at p2
  have H1 : Hid _ := hr1
  have HB1 : Hid _ := hB1
  clear ho hB hm P1 hr1 hB1
  go_wp2_with fail
  refine p2.mono ?_
  rintro e w2 ⟨a2, c2, m2, rfl, hm2, ho2, hB2⟩
  subst hm2
  have hr2 := Reads.own ho2
  have HB2 : Hid _ := HB1.out.trans (hB2.mono HB1.out.size)
  have hR2 := H1.out.later hB2 (Nat.le_refl _)
  have hG : Below w2.heap.size w2 (w2.alloc (.cells #[.int .i64 1, .int .i64 0, .int .i64 1, .int .i64 2] 3)) := (Below.refl _ _).alloc (Nat.le_refl _) _
  have p3 := rints_any (hr2.later hG (Nat.le_refl _)) (y := [1, 0, 1, 2]) (reads_new w2 [.int .i64 1, .int .i64 0, .int .i64 1, .int .i64 2] 3 (by decide))
  rw [show decide (([1, 0, 1, 2] : List Int) = [1, 0, 1, 2]) = true by decide] at p3
  have HG : Hid _ := hG
  have HR2 : Hid _ := hR2
  clear p2 ho2 hB2 H1 HB1 hr2 hR2 hG
  go_wp2_with fail
  refine p3.mono ?_
  rintro e w3 ⟨rfl, q, hw3⟩
  have hB3 : Below w2.heap.size w2 w3 := by rw [hw3]; exact below_drewN HG.out q
  have hR3 := HR2.out.later hB3 (Nat.le_refl _)
  have HB3 : Hid _ := HB2.out.trans (hB3.mono HB2.out.size)
  have p4 := prune_any hR3 (by omega) 5 (by omega) (ents_fit (by simp))
  rw [show pruneL (entsL (([5, 9, 5, 1] : List Int).take 400)) 5 = [([97], 5), ([97], 9), ([97], 5)] by decide] at p4
  clear p3 hw3 hB3 HG HR2 HB2 hR3
  go_wp2_with fail
  refine p4.mono ?_
  rintro e w4 ⟨a4, c4, m4, rfl, hm4, _, hB4⟩
  have hm5 : m4 = 3 := hm4
  subst hm5
  have HB4 : Hid _ := HB3.out.trans (hB4.mono HB3.out.size)
  have p5 := half_any 9 w4 (by omega)
  rw [show halfs 9 = 4 by decide] at p5
  clear p4 hm4 hB4 HB3
  go_wp2_with fail
  refine p5.mono ?_
  rintro e w5 ⟨rfl, hw5⟩
  have HB5 : Hid (Below w.heap.size w w5) := by show Below _ _ _; rw [hw5]; exact HB4.out
  clear p5 hw5 HB4
  go_wp2
  go_ret
  exact ⟨rfl, HB5.out⟩
#print axioms shown_any
end Go.Proofs.Ytnojjipoppemcaa
