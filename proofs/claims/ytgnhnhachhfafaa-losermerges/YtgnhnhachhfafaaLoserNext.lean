/- The landed play: the entry that wins. -/
import Derived.Test.YtgnhnhachhfafaaLoserAgain
import Derived.Test.YtgnhnhachhfafaaReaderCode
import Derived.Test.YtgnhnhachhfafaaReaderNext
import Derived.Deep.Cut
namespace Go.Proofs.Ytgnhnhachhfafaa
open Go.RowKit
set_option linter.unusedVariables false
set_option linter.unusedSimpArgs false

/-- 's[1:]' of entries. -/
theorem cut_tail {ao : Option Addr} {n cap : Nat} (hn : 1 ≤ n) (hc : n ≤ cap) : ∃ ao', (∀ W, (Instr.slice 25 (.slice ao n cap) (some (.int .i64 1)) none none).run Try.prog W = .ok (.slice ao' (n - 1) (cap - 1)) W) ∧
    (∀ W xs, ReadsE W ao n cap xs → ReadsE W ao' (n - 1) (cap - 1) (xs.drop 2)) ∧ ∀ a', ao' = some a' → ∃ a, ao = some a ∧ a'.block = a.block := by
  have ht' : Try.prog.underlying 25 = some (.slice (Try.prog.elem 25)) := by simp [Program.elem, Try.underlying25]
  have he : Try.prog.elem 25 = 44 := by simp [Program.elem, Try.underlying25]
  refine ⟨if cap = 1 then ao else ao.map (·.add (1 * 2)), fun W => ?_, fun W xs h => ⟨?_, by omega, ?_, ?_, ?_⟩, ?_⟩
  · have := run_slice_l (P := Try.prog) W 25 ao n cap ht' .i64 1 (by omega) (by omega)
    rw [he, Try.sizeEn2] at this
    simpa [Result.andThen, sliced] using this
  · have := h.length; simp; omega
  · have := h.most; omega
  · intro hn'
    split at hn'
    · have := h.bare hn'; omega
    · simp only [Option.map_eq_none_iff] at hn'
      have := h.bare hn'; omega
  · intro a ha j u hu
    have hj : 2 + j < xs.length := by
      have := (List.getElem?_eq_some_iff.1 hu).1
      simp at this; omega
    have := h.length
    rw [if_neg (by omega)] at ha
    cases ao with
    | none => simp at ha
    | some x =>
      simp only [Option.map_some, Option.some.injEq] at ha
      subst ha
      obtain ⟨b, off, rfl⟩ := h.plain (by omega)
      have hcc := h.cell _ rfl (2 + j) u (by simpa using hu)
      rw [Addr.add_lit, Addr.add_lit, Nat.add_assoc]
      rw [Addr.add_lit] at hcc
      exact hcc
  · intro a' ha'
    split at ha'
    · exact ⟨a', ha', rfl⟩
    · cases ao with
      | none => simp at ha'
      | some x =>
        simp only [Option.map_some, Option.some.injEq] at ha'
        exact ⟨x, rfl, by rw [← ha', add_block]⟩

/-- What two blocks' turn leaves. -/
structure Kept2 (w w' : World) (b c : Nat) : Prop where
  os : w'.os = w.os
  tape : w'.tape = w.tape
  output : w'.output = w.output
  size : w.heap.size ≤ w'.heap.size
  block : ∀ k, k < w.heap.size → k ≠ b → k ≠ c → w'.heap[k]? = w.heap[k]?
theorem Kept2.grow {w w' : World} (h : Grow w w') (b c : Nat) : Kept2 w w' b c := ⟨h.os, h.tape, h.output, h.size, fun k hk _ _ => h.block k hk⟩
theorem Kept2.trans {w w1 w2 : World} {b c : Nat} (h : Kept2 w w1 b c) (k : Kept2 w1 w2 b c) : Kept2 w w2 b c :=
  ⟨k.os.trans h.os, k.tape.trans h.tape, k.output.trans h.output, Nat.le_trans h.size k.size, fun i hi hb hc => (k.block i (by have := h.size; omega) hb hc).trans (h.block i hi hb hc)⟩
theorem Kept2.of1 {w w' : World} {b : Nat} (h : w.grownBy w' (some b)) (c : Nat) : Kept2 w w' b c := ⟨h.os, h.tape, h.output, h.size, fun k hk hb _ => h.block k hk (fun e => hb (by simpa using e))⟩
theorem Kept2.of2 {w w' : World} {c : Nat} (b : Nat) (h : w.grownBy w' (some c)) : Kept2 w w' b c := ⟨h.os, h.tape, h.output, h.size, fun k hk _ hc => h.block k hk (fun e => hc (by simpa using e))⟩
theorem Kept2.below {w0 w w' : World} {b c B : Nat} (h : Kept2 w w' b c) (hb : Below B w0 w) (h1 : B ≤ b) (h2 : B ≤ c) (hB : B ≤ w.heap.size) : Below B w0 w' :=
  ⟨h.os.trans hb.os, h.tape.trans hb.tape, h.output.trans hb.output, Nat.le_trans hb.size h.size, fun k hk => (h.block k (by omega) (by omega) (by omega)).trans (hb.block k hk)⟩

set_option maxRecDepth 100000 in
set_option maxHeartbeats 4000000 in
theorem pnext_nil {B : Nat} {w : World} {pb lb ob : Nat} {ls : List (List En)} {L : List Nat} {vs : List Value} {n i : Nat} (h : PlayAt B w pb lb ob ls L vs) (hn : L.length = n) (hi : i < n) (hw : L.getD 0 0 = i) (hl : ls[i]? = some []) :
    Calls Try.prog 19 #[.pointer (some ⟨pb, 0, none⟩)] w fun e w' => e = .returned (peekV []) ∧ Grow w w' := by
  obtain ⟨W0, hW0⟩ : ∃ W0, W0 = w.alloc (.cells #[.string ⟨#[]⟩, .int .u64 0] 44) := ⟨_, rfl⟩
  have hB0 : Below w.heap.size w W0 := by rw [hW0]; exact (Below.refl _ _).alloc (Nat.le_refl _) _
  have k0 : W0.heap[w.heap.size]? = some (.cells #[.string ⟨#[]⟩, .int .u64 0] 44 (0, 0)) := by rw [hW0]; exact Array.getElem?_push_size
  have h0 := h.later hB0 (Nat.le_refl _)
  have HW0 : Hid _ := hW0
  clear hW0
  obtain ⟨l, ai, ci, hl', hv, hr, _⟩ := h0.vals.at (i := i) (by rw [h0.len, hn]; exact hi)
  rw [hl] at hl'
  cases hl'
  have c0 := h0.c0
  have c1 := h0.c1
  have co := h0.co (i := 0) (by omega)
  have cl := h0.cl hv
  rw [hn] at c0 c1
  rw [hw] at co
  have hi0 : (0 : Int) ≤ i := by omega
  have hin : (i : Int) < n := by omega
  have hn0 : (0 : Int) < n := by omega
  have hBz := below_set2 (b := w.heap.size) hB0 (Nat.le_refl _) (.string ⟨#[]⟩) (.int .u64 0)
  have hldz := load_en (blk2_set k0 (.string ⟨#[]⟩) (.int .u64 0))
  have cz0 := blk2 k0
  clear h h0 hr hv hl hw hn
  go_enter Try.func19, Try.ntmps19
  go_upto_region 1 with (fail)
  rw [← HW0.out]
  go_wp2
  refine bodyPost_ret (res_cell_tmp rfl _ _ _ (x := ⟨w.heap.size, 0, none⟩) rfl hldz) rfl ?_
  exact ⟨rfl, hBz⟩
#print axioms pnext_nil

/-- What a list's turn leaves of a play. -/
def PNext (B : Nat) (w : World) (pb lb ob : Nat) (ls : List (List En)) (n : Nat) (e0 : En) (e : Ending) (w' : World) : Prop :=
  e = .returned (peekV [e0]) ∧ Kept2 w w' lb ob ∧ ∃ L' W' vs', PlayAt B w' pb lb ob ls L' vs' ∧ L'.length = n ∧ Tree ls L' W' n ∧ L'.getD 0 0 = W' 1
set_option maxRecDepth 100000 in
set_option maxHeartbeats 4000000 in
theorem pnext_any {B : Nat} {w : World} {pb lb ob : Nat} {ls : List (List En)} {L : List Nat} {vs : List Value} {W : Nat → Nat} {n i : Nat} {x : En} {r : List En} (h : PlayAt B w pb lb ob ls L vs) (hn : L.length = n) (hi : i < n) (hT : Tree ls L W n) (hw : L.getD 0 0 = W 1) (hW : W 1 = i) (hl : ls[i]? = some (x :: r)) :
    Calls Try.prog 19 #[.pointer (some ⟨pb, 0, none⟩)] w fun e w' => PNext B w pb lb ob (ls.set i r) n x e w' := by
  obtain ⟨W0, hW0⟩ : ∃ W0, W0 = w.alloc (.cells #[.string ⟨#[]⟩, .int .u64 0] 44) := ⟨_, rfl⟩
  have hB0 : Below w.heap.size w W0 := by rw [hW0]; exact (Below.refl _ _).alloc (Nat.le_refl _) _
  have k0 : W0.heap[w.heap.size]? = some (.cells #[.string ⟨#[]⟩, .int .u64 0] 44 (0, 0)) := by rw [hW0]; exact Array.getElem?_push_size
  have h0 := h.later hB0 (Nat.le_refl _)
  have HW0 : Hid _ := hW0
  obtain ⟨l1, l2, l3⟩ := h.lt
  obtain ⟨g1, g2, g3⟩ := h.base
  clear hW0
  obtain ⟨l, ai, ci, hl', hv, hr, hbl⟩ := h0.vals.at (i := i) (by rw [h0.len, hn]; exact hi)
  rw [hl] at hl'
  cases hl'
  obtain ⟨xk, xn⟩ := x
  obtain ⟨b1, o1, rfl, _, hc1⟩ := hr.at (by simp)
  obtain ⟨d1, d2⟩ := hc1 0 (xk, xn) rfl
  simp only [Nat.zero_mul, Nat.add_zero] at d1 d2
  have hb1 : b1 < B := hbl _ rfl (by simp)
  obtain ⟨x1, hs1, hd1, hx1⟩ := cut_tail (ao := some ⟨b1, o1, none⟩) (n := ((xk, xn) :: r).length) (cap := ci) (by simp) hr.le
  have hr1 := hd1 _ _ hr
  have e2 : (cellsE ((xk, xn) :: r)).drop 2 = cellsE r := rfl
  have e3 : ((xk, xn) :: r).length - 1 = r.length := by simp
  rw [e2, e3] at hr1
  rw [e3] at hs1
  have hx2 : ∀ a, x1 = some a → 0 < r.length → a.block < B := fun a ha _ => by
    obtain ⟨a0, ha0, hbb⟩ := hx1 a ha
    cases ha0; rw [hbb]; exact hb1
  have c0 := h0.c0
  have c1 := h0.c1
  have co := h0.co (i := 0) (by omega)
  have cl := h0.cl hv
  have fl := h0.fl i
  have cD0 : W0.drew.cell? ⟨pb, 0, none⟩ = _ := c0
  have cDl : W0.drew.cell? ⟨lb, i, none⟩ = _ := cl
  have fDl : W0.drew.frozen? ⟨lb, i, none⟩ = false := fl
  rw [hn] at c0 c1 cD0
  rw [hw, hW] at co
  have hi0 : (0 : Int) ≤ i := by omega
  have hin : (i : Int) < n := by omega
  have hn0 : (0 : Int) < n := by omega
  -- behind the cut
  obtain ⟨W1, hW1⟩ : ∃ W1, W1 = (W0.setCell ⟨lb, i, none⟩ (.slice x1 r.length (ci - 1))).drew := ⟨_, rfl⟩
  have h1 : PlayAt B W1 pb lb ob (ls.set i r) L (vs.set i (.slice x1 r.length (ci - 1))) := by
    rw [hW1]
    exact (h0.setV i hr1 hx2).later ((Below.refl _ _).drew) (Nat.le_refl _)
  have hlw : lb ≠ w.heap.size := by omega
  have how : ob ≠ w.heap.size := by omega
  have hpw : pb ≠ w.heap.size := by omega
  have kk1 : W1.heap[w.heap.size]? = some (.cells #[.string ⟨#[]⟩, .int .u64 0] 44 (0, 0)) := by rw [hW1]; exact (Below.heap_setCell _ _ _ _ (fun e => hlw e.symm)).trans k0
  have hK1 : Kept2 w W1 lb ob := by
    refine (Kept2.grow hB0 lb ob).trans ?_
    rw [hW1]
    have := grownBy_setCell_at W0 lb i (.slice x1 r.length (ci - 1))
    exact ⟨this.os, this.tape, this.output, this.size, fun k hk h1 _ => this.block k hk (fun e => h1 (by simpa using e))⟩
  have q1 : W1.cell? ⟨b1, o1, none⟩ = some (strV xk) ∧ W1.cell? ⟨b1, o1 + 1, none⟩ = some (.int .u64 (xn : Nat)) := by
    have hne : b1 ≠ lb := by omega
    rw [hW1]
    exact ⟨(show (W0.setCell ⟨lb, i, none⟩ (.slice x1 r.length (ci - 1))).cell? ⟨b1, o1, none⟩ = _ from by rw [World.cell?_of_block (w := W0) (Below.heap_setCell _ _ _ _ hne)]; exact d1), (show (W0.setCell ⟨lb, i, none⟩ (.slice x1 r.length (ci - 1))).cell? ⟨b1, o1 + 1, none⟩ = _ from by rw [World.cell?_of_block (w := W0) (Below.heap_setCell _ _ _ _ hne)]; exact d2)⟩
  have pa := again_any h1 hn hi (hT.again hi hW r)
  have n0 : ¬ ((((xk, xn) :: r).length : Nat) : Int) = 0 := by simp; omega
  have n1 : (0 : Int) < (((xk, xn) :: r).length : Nat) := by simp
  have n2 : (1 : Int) ≤ (((xk, xn) :: r).length : Nat) := by simp; omega
  generalize ((xk, xn) :: r).length = len at *
  have HW1 : Hid _ := hW1
  have HK1 : Hid _ := hK1
  clear hK1 hW1 hr hr1 hd1 hx1 hx2 h h0 hv hl hw hn hT hW hc1 hbl h1 e2 e3
  go_enter Try.func19, Try.ntmps19
  go_upto_region 1 with (fail)
  rw [← HW0.out]
  go_wp2_with fail
  go_region
  rw [← HW1.out]
  clear c0 c1 co cl fl cD0 cDl fDl d1 d2 hs1 HW1 HW0 hB0 k0
  go_wp2_with fail
  refine pa.mono ?_
  rintro e w2 ⟨rfl, hG, L', W', hp, hL', hT', hw'⟩
  have hs01 := HK1.out.size
  have hs12 := hG.size
  have hb1w : b1 < W1.heap.size := World.block_lt_of_cell? W1 ⟨b1, o1, none⟩ q1.1
  have hne1 : b1 ≠ ob := by omega
  have t1 : w2.cell? ⟨b1, o1, none⟩ = some (strV xk) := hG.cell q1.1 (fun e => hne1 (by simpa using e))
  have t2 : w2.cell? ⟨b1, o1 + 1, none⟩ = some (.int .u64 (xn : Nat)) := hG.cell q1.2 (fun e => hne1 (by simpa using e))
  have hww : w.heap.size < W1.heap.size := (Array.getElem?_eq_some_iff.1 kk1).1
  have kk2 := (hG.block _ hww (fun e => how (by simpa using e.symm))).trans kk1
  have cz := blk2 kk2
  have hldz := load_en (blk2_set kk2 (strV xk) (.int .u64 (xn : Nat)))
  have hge : ∀ k, k ≠ w.heap.size → ((w2.setCell ⟨w.heap.size, 0, none⟩ (strV xk)).setCell ⟨w.heap.size, 1, none⟩ (.int .u64 (xn : Nat))).heap[k]? = w2.heap[k]? := fun k hk => (Below.heap_setCell _ _ _ _ hk).trans (Below.heap_setCell _ _ _ _ hk)
  have hp3 := hp.kept (hge pb hpw) (hge lb hlw) (hge ob how) fun k hk _ => hge k (by omega)
  have hK3 : Kept2 w ((w2.setCell ⟨w.heap.size, 0, none⟩ (strV xk)).setCell ⟨w.heap.size, 1, none⟩ (.int .u64 (xn : Nat))) lb ob := by
    have hK2 := HK1.out.trans (Kept2.of2 lb hG)
    exact ⟨hK2.os, hK2.tape, hK2.output, by simpa [World.setCell] using hK2.size, fun k hk h1 h2 => (hge k (by omega)).trans (hK2.block k hk h1 h2)⟩
  have HE : Hid _ := (⟨hK3, L', W', _, hp3, hL', hT', hw'⟩ : Kept2 w _ lb ob ∧ ∃ L' W' vs', PlayAt B _ pb lb ob (ls.set i r) L' vs' ∧ L'.length = n ∧ Tree (ls.set i r) L' W' n ∧ L'.getD 0 0 = W' 1)
  clear pa hp hG kk1 kk2 q1 hge hp3 hK3 HK1 hL' hT' hw' hs01 hs12 hb1w hne1 hww
  go_wp2
  refine bodyPost_ret (res_cell_tmp rfl _ _ _ (x := ⟨w.heap.size, 0, none⟩) rfl hldz) rfl ?_
  exact ⟨rfl, HE.out⟩
#print axioms pnext_any
end Go.Proofs.Ytgnhnhachhfafaa
