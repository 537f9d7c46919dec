/- What stands at the head of the statements on automata. -/
import Derived.Test.YtmcpiikcgimhpaaDawCode
import Derived.Test.YtmcpiikcgimhpaaFew14
import Derived.Test.YtmcpiikcgimhpaaRef14
namespace Go.Proofs.Ytmcpiikcgimhpaa
open Go.RowKit
set_option linter.unusedVariables false
set_option linter.unusedSimpArgs false

theorem readsE_new (W : World) (xs : List Value) (t : TypeId) (n : Nat) (hx : xs.length = n * 2) (hn : n ≤ maxLen) : ReadsE (W.alloc (.cells xs.toArray t)) (some ⟨W.heap.size, 0, none⟩) n n xs :=
  ⟨hx, Nat.le_refl _, hn, (fun h => by cases h), fun a ha j u hu => by
    cases ha
    rw [Addr.add_lit, World.cell?_alloc_at _ _ _ _ rfl]
    simpa using hu⟩
theorem readsE_nil (W : World) : ReadsE W none 0 0 [] := ⟨rfl, Nat.le_refl _, Nat.zero_le _, fun _ => ⟨rfl, rfl⟩, fun a ha => by cases ha⟩
/-- The example's states, as they are laid. -/
theorem lit_states (W : World) : ReadsA (((W.alloc (.cells #[.int .u8 98, .int .i64 0] 39)).alloc (.cells #[.int .u8 97, .int .i64 1, .int .u8 99, .int .i64 1] 39)).alloc (.cells #[.bool true, .slice none 0 0, .bool false, .slice (some ⟨W.heap.size, 0, none⟩) 1 1, .bool false, .slice (some ⟨W.heap.size + 1, 0, none⟩) 2 2] 37))
    (some ⟨W.heap.size + 2, 0, none⟩) 3 3 [(true, []), (false, [(98, 0)]), (false, [(97, 1), (99, 1)])] := by
  have g1 : Below W.heap.size W (W.alloc (.cells #[.int .u8 98, .int .i64 0] 39)) := (Below.refl _ _).alloc (Nat.le_refl _) _
  have r1 := readsE_new W [.int .u8 98, .int .i64 0] 39 1 rfl (by decide)
  have r2 := readsE_new (W.alloc (.cells #[.int .u8 98, .int .i64 0] 39)) [.int .u8 97, .int .i64 1, .int .u8 99, .int .i64 1] 39 2 rfl (by decide)
  have r3 := readsE_new ((W.alloc (.cells #[.int .u8 98, .int .i64 0] 39)).alloc (.cells #[.int .u8 97, .int .i64 1, .int .u8 99, .int .i64 1] 39)) [.bool true, .slice none 0 0, .bool false, .slice (some ⟨W.heap.size, 0, none⟩) 1 1, .bool false, .slice (some ⟨W.heap.size + 1, 0, none⟩) 2 2] 37 3 rfl (by decide)
  have s1 : (W.alloc (.cells #[.int .u8 98, .int .i64 0] 39)).heap.size = W.heap.size + 1 := by simp
  have s2 : ((W.alloc (.cells #[.int .u8 98, .int .i64 0] 39)).alloc (.cells #[.int .u8 97, .int .i64 1, .int .u8 99, .int .i64 1] 39)).heap.size = W.heap.size + 2 := by simp
  rw [s1] at r2
  rw [s2] at r3
  have h12 := r1.later (w' := ((W.alloc (.cells #[.int .u8 98, .int .i64 0] 39)).alloc (.cells #[.int .u8 97, .int .i64 1, .int .u8 99, .int .i64 1] 39))) ((Below.refl _ _).alloc (Nat.le_refl _) _) (Nat.le_refl _)
  have h13 := h12.later (w' := (((W.alloc (.cells #[.int .u8 98, .int .i64 0] 39)).alloc (.cells #[.int .u8 97, .int .i64 1, .int .u8 99, .int .i64 1] 39)).alloc (.cells #[.bool true, .slice none 0 0, .bool false, .slice (some ⟨W.heap.size, 0, none⟩) 1 1, .bool false, .slice (some ⟨W.heap.size + 1, 0, none⟩) 2 2] 37))) ((Below.refl _ _).alloc (Nat.le_refl _) _) (Nat.le_refl _)
  have h23 := r2.later (w' := (((W.alloc (.cells #[.int .u8 98, .int .i64 0] 39)).alloc (.cells #[.int .u8 97, .int .i64 1, .int .u8 99, .int .i64 1] 39)).alloc (.cells #[.bool true, .slice none 0 0, .bool false, .slice (some ⟨W.heap.size, 0, none⟩) 1 1, .bool false, .slice (some ⟨W.heap.size + 1, 0, none⟩) 2 2] 37))) ((Below.refl _ _).alloc (Nat.le_refl _) _) (Nat.le_refl _)
  refine ⟨[(true, .slice none 0 0), (false, .slice (some ⟨W.heap.size, 0, none⟩) 1 1), (false, .slice (some ⟨W.heap.size + 1, 0, none⟩) 2 2)], rfl, r3, ?_⟩
  intro i p s hp hs
  match i, hp, hs with
  | 0, hp, hs => cases hp; cases hs; exact ⟨rfl, none, 0, rfl, readsE_nil _⟩
  | 1, hp, hs => cases hp; cases hs; exact ⟨rfl, _, 1, rfl, h13⟩
  | 2, hp, hs => cases hp; cases hs; exact ⟨rfl, _, 2, rfl, h23⟩
#print axioms lit_states

set_option maxRecDepth 100000 in
set_option maxHeartbeats 4000000 in
theorem shown_any (w : World) : Calls Try.prog 7 #[] w fun e w' => e = .returned (.bool true) ∧ Below w.heap.size w w' := by
  have p1 := build_any (zs := [[97, 98], [99, 98]]) (reads_new w [strV [97, 98], strV [99, 98]] 9 (by decide)) (by decide) (by decide)
  rw [show buildR [[97, 98], [99, 98]] = ([(true, []), (false, [(98, 0)]), (false, [(97, 1), (99, 1)])], 0) by decide] at p1
  go_enter Try.func7, Try.ntmps7
  go_wp2_with fail
  refine p1.mono ?_
  rintro e w1 ⟨ag, m, c, rfl, hr, hB⟩
  have HB1 : Hid (Below w.heap.size w w1) := ((Below.refl _ _).alloc (Nat.le_refl _) _).trans (hB.mono (by simp))
  have hm3 : m = 3 := hr.count.symm
  subst hm3
  have HR : Hid _ := hr
  clear p1 hr hB
  have hB4 : Below w1.heap.size w1 (((w1.alloc (.cells #[.int .u8 98, .int .i64 0] 39)).alloc (.cells #[.int .u8 97, .int .i64 1, .int .u8 99, .int .i64 1] 39)).alloc (.cells #[.bool true, .slice none 0 0, .bool false, .slice (some ⟨w1.heap.size, 0, none⟩) 1 1, .bool false, .slice (some ⟨w1.heap.size + 1, 0, none⟩) 2 2] 37)) :=
    (((Below.refl _ _).alloc (Nat.le_refl _) _).alloc (by simp) _).alloc (by simp; omega) _
  have p2 := rsameA_any (HR.out.later hB4 (Nat.le_refl _)) (lit_states w1)
  rw [show decide (([(true, []), (false, [(98, 0)]), (false, [(97, 1), (99, 1)])] : List StZ) = [(true, []), (false, [(98, 0)]), (false, [(97, 1), (99, 1)])]) = true by decide] at p2
  have HB4 : Hid _ := HB1.out.trans (hB4.mono HB1.out.size)
  clear hB4 HB1 HR
  go_wp2_with fail
  refine p2.mono ?_
  rintro e w2 ⟨rfl, q, hw⟩
  have HB5 : Hid (Below w.heap.size w w2) := by show Below _ _ _; rw [hw]; exact below_drewN HB4.out q
  clear hw HB4 p2
  go_wp2
  go_ret
  exact ⟨rfl, HB5.out⟩
#print axioms shown_any
end Go.Proofs.Ytmcpiikcgimhpaa
