/- The contract of the head of all statements: the document's examples hold. -/
import Derived.Test.YtnlgghfiddmfkaaRef
import Derived.Deep.RegionWith
import Derived.Deep.RegionHeld3
import Derived.Laws.BytesArg
namespace Go.Proofs.Ytnlgghfiddmfkaa
open Go.RowKit

theorem bcell {W w1 : World} (hb : Below W.heap.size W w1) : (∀ b o, b < W.heap.size → w1.cell? ⟨b, o, none⟩ = W.cell? ⟨b, o, none⟩) ∧ (∀ b o, b < W.heap.size → w1.frozen? ⟨b, o, none⟩ = W.frozen? ⟨b, o, none⟩) :=
  ⟨fun b o h => hb.cell (p := ⟨b, o, none⟩) h, fun b o h => hb.frozen (p := ⟨b, o, none⟩) h⟩

/-- 'string(b)'. -/
theorem conv_any {W : World} {ao : Option Addr} {len cap : Nat} {zs : List Int} (h : Reads W ao len cap (zs.map (.int .u8))) :
    (convert 22 9 (.slice ao len cap)).run Try.prog W = .ok (.string (strOfNums zs)) W := by
  have hl := h.length
  simp only [List.length_map] at hl
  rcases Nat.eq_zero_or_pos len with h0 | h0
  · subst h0
    obtain rfl : zs = [] := List.eq_nil_of_length_eq_zero hl
    cases ao with
    | none => rw [run_convert_bytes_nil W 22 5 Try.underlying22 Try.underlying5 0 cap 9 Try.underlying9]; rfl
    | some a =>
      rw [run_convert_bytes_string W 22 9 5 _ 0 cap Try.underlying22 Try.underlying5 Try.underlying9]
      have hz := run_loadCells_list (P := Try.prog) W a [] (fun j v hj => by simp at hj)
      rw [run_bytesToString W a 0 cap [] (by simpa using hz)]
      rfl
  · obtain ⟨b, off, rfl, _, hc⟩ := h.at h0
    exact run_convert_bytes_arg W 22 5 Try.underlying22 Try.underlying5 b off len cap zs hl hc 9 Try.underlying9

theorem two_new (W : World) (x y : Value) (t : TypeId) : ∀ j u, [x, y][j]? = some u → (W.alloc (.cells #[x, y] t)).cell? ((⟨W.heap.size, 0, none⟩ : Addr).add j) = some u := by
  intro j u hj
  match j, hj with
  | 0, hj => simp at hj; subst hj; simp [Addr.add]
  | 1, hj => simp at hj; subst hj; simp [Addr.add]

theorem reads_two (W : World) (x y : Int) (t : TypeId) : Reads (W.alloc (.cells #[.int .u8 x, .int .u8 y] t)) (some ⟨W.heap.size, 0, none⟩) 2 2 (([x, y] : List Int).map (.int .u8)) :=
  ⟨rfl, Nat.le_refl _, by decide, fun h => (by cases h), fun a ha j u hu => by cases ha; exact two_new W _ _ t j u hu⟩

set_option maxRecDepth 100000 in
set_option maxHeartbeats 4000000 in
theorem shown_any (w : World) : Calls Try.prog 10 #[] w fun e w' => e = .returned (.bool true) ∧ Below w.heap.size w w' := by
  go_enter Try.func10, Try.ntmps10
  go_wp2_with fail
  refine (get_any _ 2 2 [128, 0] _ (reads_two w 128 0 5) (by simp [isBytes])).mono ?_
  rintro e w1 ⟨rfl, rfl⟩
  rw [show getV (getL [128, 0]) = .tuple #[.int .u64 0, .int .i64 0, .int .i64 2] from rfl]
  go_wp2_with fail
  have hcv : ∀ (W : World) (x : Nat), W.cell? ⟨x, 0, none⟩ = some (.int .u8 172) → W.cell? ⟨x, 1, none⟩ = some (.int .u8 2) → (convert 22 9 (.slice (some ⟨x, 0, none⟩) 2 2)).run Try.prog W = .ok (.string (strOfNums [172, 2])) W := by
    intro W x h0 h1
    refine conv_any (zs := [172, 2]) ⟨rfl, Nat.le_refl _, by decide, fun h => (by cases h), fun a ha j u hu => ?_⟩
    cases ha
    match j, hu with
    | 0, hu => simp at hu; subst hu; simpa [Addr.add] using h0
    | 1, hu => simp at hu; subst hu; simpa [Addr.add] using h1
  go_region_with (go_at_call 15; refine (put_any none 0 0 [] 300 _ (Reads.nil _) (by decide) (by decide)).mono ?_; rintro e w' ⟨g, c, m, hm, rfl, hown, hb⟩; obtain rfl : m = 2 := hm; have hbc := (bcell hb).1; have hbs := hb.size; have hcv0 : ∀ W, Below w'.heap.size w' W → (convert 22 9 (.slice (some ⟨g, 0, none⟩) 2 c)).run Try.prog W = .ok (.string (strOfNums [172, 2])) W := (fun W hW => conv_any (zs := [172, 2]) ((Reads.owned hown).later hW (Nat.le_refl _))); have hcv1 := hcv0 _ (Below.refl _ _); have hcv2 := fun o => hcv0 _ ((Below.refl w'.heap.size w').alloc (Nat.le_refl _) o); clear hcv0; have hbw : Below w.heap.size w w' := Below.trans (by repeat (first | exact Below.refl _ _ | apply Below.drew | refine Below.alloc ?_ (by simp) _)) (hb.mono (by simp; try omega)))
  all_goals
    go_wp2
    go_ret
    refine ⟨rfl, ?_⟩
    first | exact hbw | exact hbw.alloc hbw.size _
#print axioms shown_any
end Go.Proofs.Ytnlgghfiddmfkaa
