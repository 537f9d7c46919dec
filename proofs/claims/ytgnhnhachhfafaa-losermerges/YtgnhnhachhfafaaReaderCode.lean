/- The landed reader: Open, Left, Peek, Next. -/
import Derived.Test.YtgnhnhachhfafaaRunLaw
namespace Go.Proofs.Ytgnhnhachhfafaa
open Go.RowKit
set_option linter.unusedVariables false
set_option linter.unusedSimpArgs false

/-- A reader's entries, where it stands. -/
def RdAt (B : Nat) (W : World) (rb : Nat) (es : List En) : Prop := ∃ ao cap, W.heap[rb]? = some (.cells #[.slice ao es.length cap] 72 (0, 0)) ∧ ReadsE W ao es.length cap (cellsE es) ∧
  ∀ a, ao = some a → 0 < es.length → a.block < B ∧ ∃ cur, W.heap[a.block]? = some (.cells cur 44 (0, 0))
theorem add_block (a : Addr) (j : Nat) : (a.add j).block = a.block := by unfold Addr.add; split <;> rfl
theorem readsE_type {w w' : World} {ao : Option Addr} {n cap : Nat} {es : List En} (h : ReadsE w ao n cap (cellsE es)) (hb : ∀ a, ao = some a → 0 < n → w'.heap[a.block]? = w.heap[a.block]?) : ReadsE w' ao n cap (cellsE es) :=
  ⟨h.length, h.le, h.most, h.bare, fun a ha j u hu => by
    have hc := h.cell a ha j u hu
    have hp : 0 < n := by have := (List.getElem?_eq_some_iff.1 hu).1; have := h.length; omega
    rw [World.cell?_of_block (w := w) (by rw [add_block]; exact hb a ha hp)]; exact hc⟩
/-- What another block's turn leaves of a reader. -/
theorem RdAt.by_block {B : Nat} {W W' : World} {rb : Nat} {es : List En} (h : RdAt B W rb es) (hr : W'.heap[rb]? = W.heap[rb]?) (hb : ∀ k cur, k < B → W.heap[k]? = some (.cells cur 44 (0, 0)) → W'.heap[k]? = W.heap[k]?) : RdAt B W' rb es := by
  obtain ⟨ao, cap, h1, h2, h3⟩ := h
  have key : ∀ a, ao = some a → 0 < es.length → W'.heap[a.block]? = W.heap[a.block]? := fun a ha hp => by
    obtain ⟨hl, cur, hc⟩ := h3 a ha hp
    exact hb _ cur hl hc
  refine ⟨ao, cap, hr.trans h1, readsE_type h2 key, fun a ha hp => ?_⟩
  obtain ⟨hl, cur, hc⟩ := h3 a ha hp
  exact ⟨hl, cur, (key a ha hp).trans hc⟩
theorem RdAt.rb_lt {B : Nat} {W : World} {rb : Nat} {es : List En} (h : RdAt B W rb es) : rb < W.heap.size := by
  obtain ⟨_, _, h1, _⟩ := h; exact (Array.getElem?_eq_some_iff.1 h1).1
theorem RdAt.kept {B : Nat} {W W' : World} {rb : Nat} {es : List En} {row : Option Nat} (h : RdAt B W rb es) (hg : W.grownBy W' row) (hr : row ≠ some rb) (ht : ∀ k cur, row = some k → k < B → W.heap[k]? ≠ some (.cells cur 44 (0, 0))) : RdAt B W' rb es :=
  h.by_block (hg.block _ h.rb_lt (fun e => hr e.symm)) fun k cur hk hc => hg.block _ (Array.getElem?_eq_some_iff.1 hc).1 (fun e => ht _ cur e.symm hk hc)
theorem RdAt.later {B : Nat} {W W' : World} {rb : Nat} {es : List En} (h : RdAt B W rb es) (hg : Grow W W') : RdAt B W' rb es := h.kept (row := none) ⟨hg.os, hg.tape, hg.output, hg.size, fun k hk _ => hg.block k hk⟩ (by simp) (fun k cur e => by cases e)

def peekV : List En → Value
  | [] => .tuple #[.agg #[strV [], .int .u64 0], .bool false]
  | e :: _ => .tuple #[.agg #[strV e.1, .int .u64 (e.2 : Nat)], .bool true]

theorem left_nil (w : World) : Calls Try.prog 34 #[.pointer none] w fun e w' => e = .returned (.int .i64 0) ∧ w' = w := by
  go_enter Try.func34, Try.ntmps34
  go_wp2
  go_ret
  exact ⟨rfl, rfl⟩
theorem left_any {B : Nat} {w : World} {rb : Nat} {es : List En} (h : RdAt B w rb es) : Calls Try.prog 34 #[.pointer (some ⟨rb, 0, none⟩)] w fun e w' => e = .returned (.int .i64 (es.length : Nat)) ∧ w' = w := by
  obtain ⟨ao, cap, h1, h2, h3⟩ := h
  have c0 : w.cell? ⟨rb, 0, none⟩ = some (.slice ao es.length cap) := by simp [World.cell?, h1]
  go_enter Try.func34, Try.ntmps34
  go_wp2
  go_ret
  exact ⟨rfl, rfl⟩
#print axioms left_any

set_option maxRecDepth 100000 in
set_option maxHeartbeats 2000000 in
theorem peek_nil (w : World) : Calls Try.prog 48 #[.pointer none] w fun e w' => e = .returned (peekV []) ∧ Grow w w' := by
  obtain ⟨W0, hW0⟩ : ∃ W0, W0 = w.alloc (.cells #[.string ⟨#[]⟩, .int .u64 0] 44) := ⟨_, rfl⟩
  have hB0 : Below w.heap.size w W0 := by rw [hW0]; exact (Below.refl _ _).alloc (Nat.le_refl _) _
  have k0 : W0.heap[w.heap.size]? = some (.cells #[.string ⟨#[]⟩, .int .u64 0] 44 (0, 0)) := by rw [hW0]; exact Array.getElem?_push_size
  have HW0 : Hid _ := hW0
  clear hW0
  have hBz := below_set2 (b := w.heap.size) hB0 (Nat.le_refl _) (.string ⟨#[]⟩) (.int .u64 0)
  have hldz := load_en (blk2_set k0 (.string ⟨#[]⟩) (.int .u64 0))
  have cz0 := blk2 k0
  go_enter Try.func48, Try.ntmps48
  go_wp2_with fail
  rw [← HW0.out]
  refine (left_nil W0).mono ?_
  rintro e w' ⟨rfl, rfl⟩
  go_wp2
  refine bodyPost_ret (res_cell_tmp rfl _ _ _ (x := ⟨w.heap.size, 0, none⟩) rfl hldz) rfl ?_
  exact ⟨rfl, hBz⟩
set_option maxRecDepth 100000 in
set_option maxHeartbeats 2000000 in
theorem peek_any {B : Nat} {w : World} {rb : Nat} {es : List En} (h : RdAt B w rb es) : Calls Try.prog 48 #[.pointer (some ⟨rb, 0, none⟩)] w fun e w' => e = .returned (peekV es) ∧ Grow w w' := by
  obtain ⟨W0, hW0⟩ : ∃ W0, W0 = w.alloc (.cells #[.string ⟨#[]⟩, .int .u64 0] 44) := ⟨_, rfl⟩
  have hB0 : Below w.heap.size w W0 := by rw [hW0]; exact (Below.refl _ _).alloc (Nat.le_refl _) _
  have k0 : W0.heap[w.heap.size]? = some (.cells #[.string ⟨#[]⟩, .int .u64 0] 44 (0, 0)) := by rw [hW0]; exact Array.getElem?_push_size
  have h0 := h.later hB0
  have HW0 : Hid _ := hW0
  clear hW0
  have cz0 := blk2 k0
  have pl := left_any h0
  obtain ⟨ao, cap, h1, h2, h3⟩ := h0
  have c0 : W0.cell? ⟨rb, 0, none⟩ = some (.slice ao es.length cap) := by simp [World.cell?, h1]
  go_enter Try.func48, Try.ntmps48
  go_wp2_with fail
  rw [← HW0.out]
  refine pl.mono ?_
  rintro e w' ⟨rfl, rfl⟩
  clear pl h1 h3
  cases es with
  | nil =>
    have hBz := below_set2 (b := w.heap.size) hB0 (Nat.le_refl _) (.string ⟨#[]⟩) (.int .u64 0)
    have hldz := load_en (blk2_set k0 (.string ⟨#[]⟩) (.int .u64 0))
    clear h2 h
    go_wp2
    refine bodyPost_ret (res_cell_tmp rfl _ _ _ (x := ⟨w.heap.size, 0, none⟩) rfl hldz) rfl ?_
    exact ⟨rfl, hBz⟩
  | cons x es =>
    obtain ⟨ek, en⟩ := x
    have hBz := below_set2 (b := w.heap.size) hB0 (Nat.le_refl _) (strV ek) (.int .u64 (en : Nat))
    have hldz := load_en (blk2_set k0 (strV ek) (.int .u64 (en : Nat)))
    obtain ⟨b, off, rfl, _, hc⟩ := h2.at (by simp)
    obtain ⟨d1, d2⟩ := hc 0 (ek, en) rfl
    simp only [Nat.zero_mul, Nat.add_zero] at d1 d2
    have hl0 : ¬ (((es.length + 1 : Nat) : Int)) = 0 := by omega
    have hl1 : (0 : Int) < ((es.length + 1 : Nat) : Int) := by omega
    simp only [List.length_cons] at c0 ⊢
    generalize es.length + 1 = L at *
    clear h2 h hc
    go_wp2
    refine bodyPost_ret (res_cell_tmp rfl _ _ _ (x := ⟨w.heap.size, 0, none⟩) rfl hldz) rfl ?_
    exact ⟨rfl, hBz⟩
#print axioms peek_any

set_option maxRecDepth 100000 in
set_option maxHeartbeats 2000000 in
theorem open_any {w : World} {ao : Option Addr} {len cap : Nat} {zs : List Int} (h : Reads w ao len cap (zs.map (.int .u8))) (h8 : isBytes zs) (hl : len ≤ 100000) :
    Calls Try.prog 23 #[.slice ao len cap] w fun e w' => Grow w w' ∧ ∃ r, e = .returned (.tuple #[.pointer r, .int .i64 ((decL zs).2 : Nat)]) ∧
      (((decL zs).2 ≠ 0 ∧ r = none) ∨ ((decL zs).2 = 0 ∧ ∃ rb, r = some ⟨rb, 0, none⟩ ∧ w.heap.size ≤ rb ∧ RdAt w'.heap.size w' rb (decL zs).1)) := by
  have p := decode_any h h8 hl
  unfold DecOut at p
  rcases hD : decL zs with ⟨L, d⟩
  rw [hD] at p
  go_enter Try.func23, Try.ntmps23
  go_wp2_with fail
  refine p.mono ?_
  rintro e w1 ⟨ag, c, m, rfl, hm, ho, hG⟩
  have hmL : m = L.length := hm
  clear p hD hm
  by_cases hd : d = 0
  · subst hd
    have hr : RdAt (w1.alloc (.cells #[.slice ag m c] 72)).heap.size (w1.alloc (.cells #[.slice ag m c] 72)) w1.heap.size L := by
      have hga : Grow w1 (w1.alloc (.cells #[.slice ag m c] 72)) := (Below.refl _ _).alloc (Nat.le_refl _) _
      refine ⟨ag, c, by rw [← hmL]; exact Array.getElem?_push_size, by rw [← hmL]; exact (ReadsE.own ho).later hga (Nat.le_refl _), fun a ha hp => ?_⟩
      obtain ⟨cur, hc⟩ := own2_type ho (k := a.block) (by
        rcases ho.2 with ⟨h1, h2⟩ | ⟨g, cap', cur, h1, _⟩
        · rw [ha] at h1; cases h1
        · simp only [Value.slice.injEq] at h1
          rw [ha] at h1
          simp only [Option.some.injEq] at h1
          rw [ha, h1.1]; rfl)
      exact ⟨by have := (Array.getElem?_eq_some_iff.1 hc).1; simp; omega, cur, cells_later hc hga⟩
    have hs := hG.size
    have hBz := hG.alloc hs (.cells #[.slice ag m c] 72)
    have Hr : Hid _ := hr
    clear hr ho hmL
    go_wp2
    go_ret2
    first | exact ⟨hBz, _, rfl, .inr ⟨rfl, _, rfl, hs, Hr.out⟩⟩ | exact ⟨hBz, _, rfl, _, rfl, hs, Hr.out⟩
  · have hdi : ¬ (d : Int) = 0 := by omega
    clear ho hmL
    have Hd : Hid (d ≠ 0) := hd
    clear hd
    go_wp2
    go_ret2
    exact ⟨hG, none, rfl, .inl ⟨Hd.out, rfl⟩⟩
#print axioms open_any
end Go.Proofs.Ytgnhnhachhfafaa
