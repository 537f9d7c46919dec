/- The landed reader: Open, Left, Peek, Next. The landed reader: Next. -/
import Derived.Test.YtknfjonaepggnaaRunRead
namespace Go.Proofs.Ytknfjonaepggnaa
open Go.RowKit
set_option linter.unusedVariables false
set_option linter.unusedSimpArgs false

/-- A reader's entries, where it stands. -/
def RdAt (B : Nat) (W : World) (rb : Nat) (es : List En) : Prop := ∃ ao cap, W.heap[rb]? = some (.cells #[.slice ao es.length cap] 60 (0, 0)) ∧ ReadsE W ao es.length cap (cellsE es) ∧
  ∀ a, ao = some a → 0 < es.length → a.block < B ∧ ∃ cur, W.heap[a.block]? = some (.cells cur 64 (0, 0))
theorem add_block (a : Addr) (j : Nat) : (a.add j).block = a.block := by unfold Addr.add; split <;> rfl
theorem readsE_type {w w' : World} {ao : Option Addr} {n cap : Nat} {es : List En} (h : ReadsE w ao n cap (cellsE es)) (hb : ∀ a, ao = some a → 0 < n → w'.heap[a.block]? = w.heap[a.block]?) : ReadsE w' ao n cap (cellsE es) :=
  ⟨h.length, h.le, h.most, h.bare, fun a ha j u hu => by
    have hc := h.cell a ha j u hu
    have hp : 0 < n := by have := (List.getElem?_eq_some_iff.1 hu).1; have := h.length; omega
    rw [World.cell?_of_block (w := w) (by rw [add_block]; exact hb a ha hp)]; exact hc⟩
/-- What another block's turn leaves of a reader. -/
theorem RdAt.by_block {B : Nat} {W W' : World} {rb : Nat} {es : List En} (h : RdAt B W rb es) (hr : W'.heap[rb]? = W.heap[rb]?) (hb : ∀ k cur, k < B → W.heap[k]? = some (.cells cur 64 (0, 0)) → W'.heap[k]? = W.heap[k]?) : RdAt B W' rb es := by
  obtain ⟨ao, cap, h1, h2, h3⟩ := h
  have key : ∀ a, ao = some a → 0 < es.length → W'.heap[a.block]? = W.heap[a.block]? := fun a ha hp => by
    obtain ⟨hl, cur, hc⟩ := h3 a ha hp
    exact hb _ cur hl hc
  refine ⟨ao, cap, hr.trans h1, readsE_type h2 key, fun a ha hp => ?_⟩
  obtain ⟨hl, cur, hc⟩ := h3 a ha hp
  exact ⟨hl, cur, (key a ha hp).trans hc⟩
theorem RdAt.rb_lt {B : Nat} {W : World} {rb : Nat} {es : List En} (h : RdAt B W rb es) : rb < W.heap.size := by
  obtain ⟨_, _, h1, _⟩ := h; exact (Array.getElem?_eq_some_iff.1 h1).1
theorem RdAt.kept {B : Nat} {W W' : World} {rb : Nat} {es : List En} {row : Option Nat} (h : RdAt B W rb es) (hg : W.grownBy W' row) (hr : row ≠ some rb) (ht : ∀ k cur, row = some k → k < B → W.heap[k]? ≠ some (.cells cur 64 (0, 0))) : RdAt B W' rb es :=
  h.by_block (hg.block _ h.rb_lt (fun e => hr e.symm)) fun k cur hk hc => hg.block _ (Array.getElem?_eq_some_iff.1 hc).1 (fun e => ht _ cur e.symm hk hc)
theorem RdAt.later {B : Nat} {W W' : World} {rb : Nat} {es : List En} (h : RdAt B W rb es) (hg : Grow W W') : RdAt B W' rb es := h.kept (row := none) ⟨hg.os, hg.tape, hg.output, hg.size, fun k hk _ => hg.block k hk⟩ (by simp) (fun k cur e => by cases e)

def peekV : List En → Value
  | [] => .tuple #[.agg #[strV [], .int .u64 0], .bool false]
  | e :: _ => .tuple #[.agg #[strV e.1, .int .u64 (e.2 : Nat)], .bool true]

theorem left_nil (w : World) : Calls Try.prog 28 #[.pointer none] w fun e w' => e = .returned (.int .i64 0) ∧ w' = w := by
  go_enter Try.func28, Try.ntmps28
  go_wp2
  go_ret
  exact ⟨rfl, rfl⟩
theorem left_any {B : Nat} {w : World} {rb : Nat} {es : List En} (h : RdAt B w rb es) : Calls Try.prog 28 #[.pointer (some ⟨rb, 0, none⟩)] w fun e w' => e = .returned (.int .i64 (es.length : Nat)) ∧ w' = w := by
  obtain ⟨ao, cap, h1, h2, h3⟩ := h
  have c0 : w.cell? ⟨rb, 0, none⟩ = some (.slice ao es.length cap) := by simp [World.cell?, h1]
  go_enter Try.func28, Try.ntmps28
  go_wp2
  go_ret
  exact ⟨rfl, rfl⟩
#print axioms left_any

set_option maxRecDepth 100000 in
set_option maxHeartbeats 2000000 in
theorem peek_nil (w : World) : Calls Try.prog 48 #[.pointer none] w fun e w' => e = .returned (peekV []) ∧ Grow w w' := by
  obtain ⟨W0, hW0⟩ : ∃ W0, W0 = w.alloc (.cells #[.string ⟨#[]⟩, .int .u64 0] 64) := ⟨_, rfl⟩
  have hB0 : Below w.heap.size w W0 := by rw [hW0]; exact (Below.refl _ _).alloc (Nat.le_refl _) _
  have k0 : W0.heap[w.heap.size]? = some (.cells #[.string ⟨#[]⟩, .int .u64 0] 64 (0, 0)) := by rw [hW0]; exact Array.getElem?_push_size
  have HW0 : Hid _ := hW0
  clear hW0
  have hBz := below_set2 (b := w.heap.size) hB0 (Nat.le_refl _) (.string ⟨#[]⟩) (.int .u64 0)
  have hldz := load_en (blk2_set k0 (.string ⟨#[]⟩) (.int .u64 0))
  have cz0 := blk2 k0
  go_enter Try.func48, Try.ntmps48
  go_wp2_with fail
  rw [← HW0.out]
  refine (left_nil W0).mono ?_
  rintro e w' ⟨rfl, rfl⟩
  go_wp2
  refine bodyPost_ret (res_cell_tmp rfl _ _ _ (x := ⟨w.heap.size, 0, none⟩) rfl hldz) rfl ?_
  exact ⟨rfl, hBz⟩
set_option maxRecDepth 100000 in
set_option maxHeartbeats 2000000 in
theorem peek_any {B : Nat} {w : World} {rb : Nat} {es : List En} (h : RdAt B w rb es) : Calls Try.prog 48 #[.pointer (some ⟨rb, 0, none⟩)] w fun e w' => e = .returned (peekV es) ∧ Grow w w' := by
  obtain ⟨W0, hW0⟩ : ∃ W0, W0 = w.alloc (.cells #[.string ⟨#[]⟩, .int .u64 0] 64) := ⟨_, rfl⟩
  have hB0 : Below w.heap.size w W0 := by rw [hW0]; exact (Below.refl _ _).alloc (Nat.le_refl _) _
  have k0 : W0.heap[w.heap.size]? = some (.cells #[.string ⟨#[]⟩, .int .u64 0] 64 (0, 0)) := by rw [hW0]; exact Array.getElem?_push_size
  have h0 := h.later hB0
  have HW0 : Hid _ := hW0
  clear hW0
  have cz0 := blk2 k0
  have pl := left_any h0
  obtain ⟨ao, cap, h1, h2, h3⟩ := h0
  have c0 : W0.cell? ⟨rb, 0, none⟩ = some (.slice ao es.length cap) := by simp [World.cell?, h1]
  go_enter Try.func48, Try.ntmps48
  go_wp2_with fail
  rw [← HW0.out]
  refine pl.mono ?_
  rintro e w' ⟨rfl, rfl⟩
  clear pl h1 h3
  cases es with
  | nil =>
    have hBz := below_set2 (b := w.heap.size) hB0 (Nat.le_refl _) (.string ⟨#[]⟩) (.int .u64 0)
    have hldz := load_en (blk2_set k0 (.string ⟨#[]⟩) (.int .u64 0))
    clear h2 h
    go_wp2
    refine bodyPost_ret (res_cell_tmp rfl _ _ _ (x := ⟨w.heap.size, 0, none⟩) rfl hldz) rfl ?_
    exact ⟨rfl, hBz⟩
  | cons x es =>
    obtain ⟨ek, en⟩ := x
    have hBz := below_set2 (b := w.heap.size) hB0 (Nat.le_refl _) (strV ek) (.int .u64 (en : Nat))
    have hldz := load_en (blk2_set k0 (strV ek) (.int .u64 (en : Nat)))
    obtain ⟨b, off, rfl, _, hc⟩ := h2.at (by simp)
    obtain ⟨d1, d2⟩ := hc 0 (ek, en) rfl
    simp only [Nat.zero_mul, Nat.add_zero] at d1 d2
    have hl0 : ¬ (((es.length + 1 : Nat) : Int)) = 0 := by omega
    have hl1 : (0 : Int) < ((es.length + 1 : Nat) : Int) := by omega
    simp only [List.length_cons] at c0 ⊢
    generalize es.length + 1 = L at *
    clear h2 h hc
    go_wp2
    refine bodyPost_ret (res_cell_tmp rfl _ _ _ (x := ⟨w.heap.size, 0, none⟩) rfl hldz) rfl ?_
    exact ⟨rfl, hBz⟩
#print axioms peek_any

set_option maxRecDepth 100000 in
set_option maxHeartbeats 2000000 in
theorem open_any {w : World} {ao : Option Addr} {len cap : Nat} {zs : List Int} (h : Reads w ao len cap (zs.map (.int .u8))) (h8 : isBytes zs) (hl : len ≤ 100000000) :
    Calls Try.prog 20 #[.slice ao len cap] w fun e w' => Grow w w' ∧ ∃ r, e = .returned (.tuple #[.pointer r, .int .i64 ((decL zs).2 : Nat)]) ∧
      (((decL zs).2 ≠ 0 ∧ r = none) ∨ ((decL zs).2 = 0 ∧ ∃ rb, r = some ⟨rb, 0, none⟩ ∧ w.heap.size ≤ rb ∧ RdAt w'.heap.size w' rb (decL zs).1)) := by
  have p := decode_any h h8 hl
  unfold DecOut at p
  rcases hD : decL zs with ⟨L, d⟩
  rw [hD] at p
  go_enter Try.func20, Try.ntmps20
  go_wp2_with fail
  refine p.mono ?_
  rintro e w1 ⟨ag, c, m, rfl, hm, ho, hG⟩
  have hmL : m = L.length := hm
  clear p hD hm
  by_cases hd : d = 0
  · subst hd
    have hr : RdAt (w1.alloc (.cells #[.slice ag m c] 60)).heap.size (w1.alloc (.cells #[.slice ag m c] 60)) w1.heap.size L := by
      have hga : Grow w1 (w1.alloc (.cells #[.slice ag m c] 60)) := (Below.refl _ _).alloc (Nat.le_refl _) _
      refine ⟨ag, c, by rw [← hmL]; exact Array.getElem?_push_size, by rw [← hmL]; exact (ReadsE.own ho).later hga (Nat.le_refl _), fun a ha hp => ?_⟩
      obtain ⟨cur, hc⟩ := own2_type ho (k := a.block) (by
        rcases ho.2 with ⟨h1, h2⟩ | ⟨g, cap', cur, h1, _⟩
        · rw [ha] at h1; cases h1
        · simp only [Value.slice.injEq] at h1
          rw [ha] at h1
          simp only [Option.some.injEq] at h1
          rw [ha, h1.1]; rfl)
      exact ⟨by have := (Array.getElem?_eq_some_iff.1 hc).1; simp; omega, cur, cells_later hc hga⟩
    have hs := hG.size
    have hBz := hG.alloc hs (.cells #[.slice ag m c] 60)
    have Hr : Hid _ := hr
    clear hr ho hmL
    go_wp2
    go_ret2
    first | exact ⟨hBz, _, rfl, .inr ⟨rfl, _, rfl, hs, Hr.out⟩⟩ | exact ⟨hBz, _, rfl, _, rfl, hs, Hr.out⟩
  · have hdi : ¬ (d : Int) = 0 := by omega
    clear ho hmL
    have Hd : Hid (d ≠ 0) := hd
    clear hd
    go_wp2
    go_ret2
    exact ⟨hG, none, rfl, .inl ⟨Hd.out, rfl⟩⟩
#print axioms open_any
end Go.Proofs.Ytknfjonaepggnaa

namespace Go.Proofs.Ytknfjonaepggnaa
open Go.RowKit
set_option linter.unusedVariables false
set_option linter.unusedSimpArgs false

/-- 's[1:len:len]' of entries. -/
theorem cut_one {ao : Option Addr} {n cap : Nat} (hn : 1 ≤ n) (hc : n ≤ cap) : ∃ ao', (∀ W, (Instr.slice 49 (.slice ao n cap) (some (.int .i64 1)) (some (.int .i64 (n : Nat))) (some (.int .i64 (n : Nat)))).run Try.prog W = .ok (.slice ao' (n - 1) (n - 1)) W) ∧
    (∀ W xs, ReadsE W ao n cap xs → ReadsE W ao' (n - 1) (n - 1) (xs.drop 2)) ∧ ∀ a', ao' = some a' → ∃ a, ao = some a ∧ a'.block = a.block := by
  have ht' : Try.prog.underlying 49 = some (.slice (Try.prog.elem 49)) := by simp [Program.elem, Try.underlying49]
  have he : Try.prog.elem 49 = 64 := by simp [Program.elem, Try.underlying49]
  refine ⟨if n = 1 then ao else ao.map (·.add (1 * 2)), fun W => ?_, fun W xs h => ⟨?_, Nat.le_refl _, ?_, ?_, ?_⟩, ?_⟩
  · rw [run_slice_lhm (P := Try.prog) W 49 ao n cap ht' .i64 .i64 .i64 1 n n (by omega) (by omega) (by omega) (by omega), he, Try.sizeEn2]
    simp [Result.andThen, sliced]
  · have := h.length; simp; omega
  · have := h.most; omega
  · intro hn'
    split at hn'
    · have := h.bare hn'; omega
    · simp only [Option.map_eq_none_iff] at hn'
      have := h.bare hn'; omega
  · intro a ha j u hu
    have hj : 2 + j < xs.length := by
      have := (List.getElem?_eq_some_iff.1 hu).1
      simp at this; omega
    have := h.length
    rw [if_neg (by omega)] at ha
    cases ao with
    | none => simp at ha
    | some x =>
      simp only [Option.map_some, Option.some.injEq] at ha
      subst ha
      obtain ⟨b, off, rfl⟩ := h.plain (by omega)
      have hcc := h.cell _ rfl (2 + j) u (by simpa using hu)
      rw [Addr.add_lit, Addr.add_lit, Nat.add_assoc]
      rw [Addr.add_lit] at hcc
      exact hcc
  · intro a' ha'
    split at ha'
    · exact ⟨a', ha', rfl⟩
    · cases ao with
      | none => simp at ha'
      | some x =>
        simp only [Option.map_some, Option.some.injEq] at ha'
        exact ⟨x, rfl, by rw [← ha', add_block]⟩

set_option maxRecDepth 100000 in
set_option maxHeartbeats 4000000 in
theorem next_nil (w : World) : Calls Try.prog 29 #[.pointer none] w fun e w' => e = .returned (peekV []) ∧ Grow w w' := by
  obtain ⟨W0, hW0⟩ : ∃ W0, W0 = w.alloc (.cells #[.string ⟨#[]⟩, .int .u64 0] 64) := ⟨_, rfl⟩
  have hB0 : Below w.heap.size w W0 := by rw [hW0]; exact (Below.refl _ _).alloc (Nat.le_refl _) _
  have k0 : W0.heap[w.heap.size]? = some (.cells #[.string ⟨#[]⟩, .int .u64 0] 64 (0, 0)) := by rw [hW0]; exact Array.getElem?_push_size
  have HW0 : Hid _ := hW0
  clear hW0
  have pp := peek_nil W0
  unfold peekV at pp
  go_enter Try.func29, Try.ntmps29
  go_wp2_with fail
  rw [← HW0.out]
  refine pp.mono ?_
  rintro e w1 ⟨rfl, hG1⟩
  have hB1 := hB0.trans (hG1.mono hB0.size)
  have hB2 := hB1.alloc hB1.size (.cells #[.string ⟨#[]⟩, .int .u64 0] 64)
  have k2 := cells_later (cells_later k0 hG1) ((Below.refl _ w1).alloc (Nat.le_refl _) (.cells #[.string ⟨#[]⟩, .int .u64 0] 64))
  have k3 : (w1.alloc (.cells #[.string ⟨#[]⟩, .int .u64 0] 64)).heap[w1.heap.size]? = some (.cells #[.string ⟨#[]⟩, .int .u64 0] 64 (0, 0)) := Array.getElem?_push_size
  have hBz := below_set2 (b := w.heap.size) hB2 (Nat.le_refl _) (.string ⟨#[]⟩) (.int .u64 0)
  have hldz := load_en (blk2_set k2 (.string ⟨#[]⟩) (.int .u64 0))
  have cz2 := blk2 k2
  have cz3 := blk2 k3
  clear pp hB1 hB2 k0 hG1 k2 k3
  go_wp2
  refine bodyPost_ret (res_cell_tmp rfl _ _ _ (x := ⟨w.heap.size, 0, none⟩) rfl hldz) rfl ?_
  exact ⟨rfl, hBz⟩
#print axioms next_nil

/-- What Next leaves behind it. -/
def NextAt (B : Nat) (w : World) (rb : Nat) (es : List En) (e : Ending) (w' : World) : Prop := e = .returned (peekV es) ∧ w.grownBy w' (some rb) ∧ RdAt B w' rb es.tail
set_option maxRecDepth 100000 in
set_option maxHeartbeats 4000000 in
theorem next_any {B : Nat} {w : World} {rb : Nat} {es : List En} (h : RdAt B w rb es) : Calls Try.prog 29 #[.pointer (some ⟨rb, 0, none⟩)] w fun e w' => NextAt B w rb es e w' := by
  obtain ⟨W0, hW0⟩ : ∃ W0, W0 = w.alloc (.cells #[.string ⟨#[]⟩, .int .u64 0] 64) := ⟨_, rfl⟩
  have hB0 : Below w.heap.size w W0 := by rw [hW0]; exact (Below.refl _ _).alloc (Nat.le_refl _) _
  have k0 : W0.heap[w.heap.size]? = some (.cells #[.string ⟨#[]⟩, .int .u64 0] 64 (0, 0)) := by rw [hW0]; exact Array.getElem?_push_size
  have hrb : rb < w.heap.size := by obtain ⟨_, _, h1, _⟩ := h; exact (Array.getElem?_eq_some_iff.1 h1).1
  have HW0 : Hid _ := hW0
  clear hW0
  have h0 := h.later hB0
  have pp := peek_any h0
  cases es with
  | nil =>
    unfold peekV at pp
    go_enter Try.func29, Try.ntmps29
    go_wp2_with fail
    rw [← HW0.out]
    refine pp.mono ?_
    rintro e w1 ⟨rfl, hG1⟩
    have hB1 := hB0.trans (hG1.mono hB0.size)
    have hB2 := hB1.alloc hB1.size (.cells #[.string ⟨#[]⟩, .int .u64 0] 64)
    have k2 := cells_later (cells_later k0 hG1) ((Below.refl _ w1).alloc (Nat.le_refl _) (.cells #[.string ⟨#[]⟩, .int .u64 0] 64))
    have k3 : (w1.alloc (.cells #[.string ⟨#[]⟩, .int .u64 0] 64)).heap[w1.heap.size]? = some (.cells #[.string ⟨#[]⟩, .int .u64 0] 64 (0, 0)) := Array.getElem?_push_size
    have hBz := below_set2 (b := w.heap.size) hB2 (Nat.le_refl _) (.string ⟨#[]⟩) (.int .u64 0)
    have hldz := load_en (blk2_set k2 (.string ⟨#[]⟩) (.int .u64 0))
    have cz2 := blk2 k2
    have cz3 := blk2 k3
    clear pp hB1 hB2 k0 hG1 k2 k3 h0
    have HH : Hid _ := h
    clear h
    go_wp2
    refine bodyPost_ret (res_cell_tmp rfl _ _ _ (x := ⟨w.heap.size, 0, none⟩) rfl hldz) rfl ?_
    exact ⟨rfl, Grow.grown hBz _, RdAt.later HH.out hBz⟩
  | cons x es =>
    obtain ⟨ek, en⟩ := x
    unfold peekV at pp
    simp only at pp
    obtain ⟨ao, cap, g1, g2, g3⟩ := h
    have h1 := cells_later g1 hB0
    have h2 := g2.later hB0 (Nat.le_refl _)
    have h3 : ∀ a, ao = some a → 0 < ((ek, en) :: es).length → ∃ cur, W0.heap[a.block]? = some (.cells cur 64 (0, 0)) := fun a ha hp => by
      obtain ⟨_, cur, hc⟩ := g3 a ha hp
      exact ⟨cur, cells_later hc hB0⟩
    have h9 : ∀ a, ao = some a → a.block < w.heap.size ∧ a.block < B := fun a ha => by
      obtain ⟨hl, cur, hc⟩ := g3 a ha (by simp)
      exact ⟨(Array.getElem?_eq_some_iff.1 hc).1, hl⟩
    clear g1 g2 g3 h0
    have hcn := h2.le
    obtain ⟨L, hL⟩ : ∃ L, L = ((ek, en) :: es).length := ⟨_, rfl⟩
    have hLe : L = es.length + 1 := by rw [hL]; rfl
    rw [← hL] at h1 h2 h3 hcn
    obtain ⟨x1, hs1, hd1, hb1⟩ := cut_one (ao := ao) (n := L) (cap := cap) (by omega) hcn
    clear hL
    have HLe : Hid _ := hLe
    have hLi : (1 : Int) ≤ L := by omega
    clear hLe
    have H9 : Hid (∀ a, x1 = some a → a.block < w.heap.size ∧ a.block < B) := fun a ha => by
      obtain ⟨a0, ha0, hbl⟩ := hb1 a ha
      rw [hbl]; exact h9 a0 ha0
    clear h9
    go_enter Try.func29, Try.ntmps29
    go_wp2_with fail
    rw [← HW0.out]
    refine pp.mono ?_
    rintro e w1 ⟨rfl, hG1⟩
    have hB1 := hB0.trans (hG1.mono hB0.size)
    obtain ⟨W2, hW2⟩ : ∃ W2, W2 = w1.alloc (.cells #[strV ek, .int .u64 (en : Nat)] 64) := ⟨_, rfl⟩
    have hG2 : Grow w1 W2 := by rw [hW2]; exact (Below.refl _ _).alloc (Nat.le_refl _) _
    have k2 := cells_later (cells_later k0 hG1) hG2
    have k3 : W2.heap[w1.heap.size]? = some (.cells #[strV ek, .int .u64 (en : Nat)] 64 (0, 0)) := by rw [hW2]; exact Array.getElem?_push_size
    have hB2 := hB1.trans (hG2.mono hB1.size)
    have h12 := cells_later (cells_later h1 hG1) hG2
    have HW2 : Hid _ := hW2
    have cD : W2.drew.cell? ⟨rb, 0, none⟩ = some (.slice ao L cap) := by simp [World.cell?, show W2.drew.heap[rb]? = _ from h12]
    have fD : W2.drew.frozen? ⟨rb, 0, none⟩ = false := by simp [World.frozen?, show W2.drew.heap[rb]? = _ from h12]
    have c2 : W2.cell? ⟨rb, 0, none⟩ = some (.slice ao L cap) := by simp [World.cell?, show W2.heap[rb]? = _ from h12]
    clear pp hW2 hB0 hB1
    go_wp2_with fail
    rw [← HW2.out]
    obtain ⟨W3, hW3⟩ : ∃ W3, W3 = (W2.setCell ⟨rb, 0, none⟩ (.slice x1 (L - 1) (L - 1))).drew := ⟨_, rfl⟩
    have hlt1 : rb ≠ w.heap.size := by omega
    have hG01 : w.heap.size + 1 ≤ w1.heap.size := by have := hG1.size; have := (Array.getElem?_eq_some_iff.1 k0).1; omega
    have hlt2 : rb ≠ w1.heap.size := by omega
    have kk2 : W3.heap[w.heap.size]? = some (.cells #[.string ⟨#[]⟩, .int .u64 0] 64 (0, 0)) := by rw [hW3]; exact (Below.heap_setCell _ _ _ _ (fun e => hlt1 e.symm)).trans k2
    have kk3 : W3.heap[w1.heap.size]? = some (.cells #[strV ek, .int .u64 (en : Nat)] 64 (0, 0)) := by rw [hW3]; exact (Below.heap_setCell _ _ _ _ (fun e => hlt2 e.symm)).trans k3
    have b12 : Boxed W2 rb 60 (.slice ao L cap) := h12
    have kr : W3.heap[rb]? = some (.cells #[.slice x1 (L - 1) (L - 1)] 60 (0, 0)) := by rw [hW3]; exact b12.set _
    have hg3 : W2.grownBy W3 (some rb) := by
      rw [hW3]
      have := grownBy_setCell' W2 rb (.slice x1 (L - 1) (L - 1))
      exact ⟨this.os, this.tape, this.output, this.size, fun k hk hr => this.block k hk hr⟩
    have r3 : ReadsE W3 x1 (L - 1) (L - 1) (cellsE es) ∧ ∀ a, x1 = some a → 0 < L - 1 → ∃ cur, W3.heap[a.block]? = some (.cells cur 64 (0, 0)) := by
      have hr2 := hd1 _ _ ((h2.later hG1 (Nat.le_refl _)).later hG2 (Nat.le_refl _))
      have e2 : (cellsE ((ek, en) :: es)).drop 2 = cellsE es := rfl
      rw [e2] at hr2
      have key : ∀ a, x1 = some a → 0 < L - 1 → ∃ cur, W2.heap[a.block]? = some (.cells cur 64 (0, 0)) := fun a ha hp => by
        obtain ⟨a0, ha0, hbl⟩ := hb1 a ha
        obtain ⟨cur, hc⟩ := h3 a0 ha0 (by omega)
        exact ⟨cur, by rw [hbl]; exact cells_later (cells_later hc hG1) hG2⟩
      have key2 : ∀ a, x1 = some a → 0 < L - 1 → W3.heap[a.block]? = W2.heap[a.block]? := fun a ha hp => by
        obtain ⟨cur, hc⟩ := key a ha hp
        refine hg3.block _ (Array.getElem?_eq_some_iff.1 hc).1 (fun e => ?_)
        cases e
        rw [h12] at hc
        simp at hc
      refine ⟨readsE_type hr2 key2, fun a ha hp => ?_⟩
      obtain ⟨cur, hc⟩ := key a ha hp
      exact ⟨cur, (key2 a ha hp).trans hc⟩
    have Hr3 : Hid _ := r3
    have HW3 : Hid _ := hW3
    have hg03 : w.grownBy W3 (some rb) := ⟨hg3.os.trans hB2.os, hg3.tape.trans hB2.tape, hg3.output.trans hB2.output, Nat.le_trans hB2.size hg3.size, fun k hk hr => (hg3.block k (by have := hB2.size; omega) hr).trans (hB2.block k hk)⟩
    have Hg03 : Hid _ := hg03
    clear r3 hg3 h3 hd1 hb1 h2 hB2 k0 hG1 hG2 h1 hW3 hg03 b12
    go_region
    rw [← HW3.out]
    have cz2 := blk2 kk2
    have cz3 := blk2 kk3
    have kz := blk2_set kk2 (strV ek) (.int .u64 (en : Nat))
    have hldz := load_en kz
    have k4 : ((W3.setCell ⟨w.heap.size, 0, none⟩ (strV ek)).setCell ⟨w.heap.size, 1, none⟩ (.int .u64 (en : Nat))).heap[rb]? = some (.cells #[.slice x1 (L - 1) (L - 1)] 60 (0, 0)) := (Below.heap_setCell _ _ _ _ hlt1).trans ((Below.heap_setCell _ _ _ _ hlt1).trans kr)
    have K4 : Hid _ := k4
    clear cD fD c2 h12 k2 k3 hs1 kr k4 kk2 kk3 HW3
    go_wp2
    refine bodyPost_ret (res_cell_tmp rfl _ _ _ (x := ⟨w.heap.size, 0, none⟩) rfl hldz) rfl ?_
    have hL1 : L - 1 = es.length := by have := HLe.out; omega
    have hge : ∀ k, k < w.heap.size → ((W3.setCell ⟨w.heap.size, 0, none⟩ (strV ek)).setCell ⟨w.heap.size, 1, none⟩ (.int .u64 (en : Nat))).heap[k]? = W3.heap[k]? := fun k hk => (Below.heap_setCell _ _ _ _ (show k ≠ w.heap.size by omega)).trans (Below.heap_setCell _ _ _ _ (show k ≠ w.heap.size by omega))
    refine ⟨rfl, ⟨Hg03.out.os, Hg03.out.tape, Hg03.out.output, ?_, fun k hk hr => (hge k hk).trans (Hg03.out.block k hk hr)⟩, x1, L - 1, ?_, ?_, ?_⟩
    · have := Hg03.out.size
      simpa [World.setCell] using this
    · rw [K4.out, hL1]; rfl
    · have r := Hr3.out.1
      rw [hL1] at r
      have := readsE_type (w' := (W3.setCell ⟨w.heap.size, 0, none⟩ (strV ek)).setCell ⟨w.heap.size, 1, none⟩ (.int .u64 (en : Nat))) r fun a ha _ => hge _ (H9.out a ha).1
      rw [hL1]
      exact this
    · intro a ha hp
      obtain ⟨cur, hc⟩ := Hr3.out.2 a ha (by rw [hL1]; exact hp)
      exact ⟨(H9.out a ha).2, cur, (hge _ (H9.out a ha).1).trans hc⟩
#print axioms next_any
end Go.Proofs.Ytknfjonaepggnaa
