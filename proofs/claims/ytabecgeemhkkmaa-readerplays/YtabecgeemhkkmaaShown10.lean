/- What stands at the head of the readers' statements. -/
import Derived.Test.YtabecgeemhkkmaaReaderNext
namespace Go.Proofs.Ytabecgeemhkkmaa
open Go.RowKit
set_option linter.unusedVariables false
set_option linter.unusedSimpArgs false

theorem en_eql (a b : Wd) (m n : Nat) (W : World) : (binOp .eql 44 (.agg #[strV a, .int .u64 m]) (.agg #[strV b, .int .u64 n])).run Try.prog W = .ok (.bool (decide ((a, m) = (b, n)))) W := by
  have hu : Try.prog.underlying 44 = some (.struct (Try.prog.fieldsOf 44)) := by rw [Try.underlying44]; kernel_rfl
  rw [run_eql_struct, run_equalIn_agg W 9999 44 _ _ hu (by kernel_rfl), ← beq_en]
  rw [show (Try.prog.fieldsOf 44).toList = _ from by simp only [Program.fieldsOf, Try.underlying44]; rfl]
  simp [Op.eqFields, part, sizeOf, Try.isAgg9, Try.isAgg42, run_equalIn_string W 9998 9 _ _ Try.underlying9, run_equalIn_int W 9998 42 .u64 .u64 _ _ Try.underlying42]
  by_cases h1 : a = b <;> by_cases h2 : (m : Int) = n <;> simp [h1, h2]
theorem en_same (a : Wd) (m : Nat) (W : World) : (binOp .eql 44 (.agg #[strV a, .int .u64 m]) (.agg #[strV a, .int .u64 m])).run Try.prog W = .ok (.bool true) W := by rw [en_eql, decide_eq_true rfl]
theorem en_diff (a : Wd) (m : Nat) (W : World) : (binOp .neq 44 (.agg #[strV a, .int .u64 m]) (.agg #[strV a, .int .u64 m])).run Try.prog W = .ok (.bool false) W := by rw [en_neq, decide_eq_true rfl]; rfl

/-- A block that isn't the reader's, behind Next. -/
theorem NextAt.block {B : Nat} {w w' : World} {rb k : Nat} {es : List En} {e : Ending} {o : Obj} (h : NextAt B w rb es e w') (hk : w.heap[k]? = some o) (hne : k ≠ rb) : w'.heap[k]? = some o := (h.2.1.block k (Array.getElem?_eq_some_iff.1 hk).1 (fun e => hne (by cases e; rfl))).trans hk
theorem NextAt.below {Q : Nat} {w0 w w' : World} {rb B : Nat} {es : List En} {e : Ending} (h : NextAt Q w rb es e w') (hb : Below B w0 w) (hB : B ≤ w.heap.size) (hr : B ≤ rb) : Below B w0 w' := hb.grown h.2.1 hB (fun k e => by cases e; exact hr)
theorem RdAt.lt {B : Nat} {w : World} {rb : Nat} {es : List En} (h : RdAt B w rb es) : ∃ v, w.heap[rb]? = some (.cells #[v] 86 (0, 0)) := by obtain ⟨_, _, h1, _⟩ := h; exact ⟨_, h1⟩

abbrev ex10 : List En := [([97], 1)]
theorem ex10_enc : encR ex10 1 = (runL ex10 1, 0) := enc_is (by decide)
theorem ex10_dec : decL (runL ex10 1) = (ex10, 0) := dec_back (by decide) (by decide)
theorem ex10_bytes : isBytes (runL ex10 1) := recs_bytes _ (run_rows (run_ok (by decide) (by decide)))
theorem ex10_len : (runL ex10 1).length ≤ 1000 := by have := run_len_le (l := ex10) (s := 1) (run_ok (by decide) (by decide)); exact Nat.le_trans this (by decide)

set_option maxRecDepth 100000 in
set_option maxHeartbeats 4000000 in
theorem shown10_any (w : World) : Calls Try.prog 23 #[] w fun e w' => e = .returned (.bool true) ∧ Below w.heap.size w w' := by
  obtain ⟨W0, hW0⟩ : ∃ W0, W0 = w.alloc (.cells #[.string ⟨#[97]⟩, .int .u64 1] 44) := ⟨_, rfl⟩
  have hB0 : Below w.heap.size w W0 := by rw [hW0]; exact (Below.refl _ _).alloc (Nat.le_refl _) _
  have hr0 : ReadsE W0 (some ⟨w.heap.size, 0, none⟩) 1 1 (cellsE ex10) := by rw [hW0]; exact ReadsE.own (own2_lit w ex10 (by decide))
  have p1 := encode_any hr0 (by decide) (by decide) (by decide) 1 1 (.inl rfl) (by decide)
  rw [ex10_enc] at p1
  unfold EncOut at p1
  have HW0 : Hid _ := hW0
  clear hW0
  go_enter Try.func23, Try.ntmps23
  go_wp2_with fail
  rw [← HW0.out]
  refine p1.mono ?_
  rintro e w1 ⟨ag, c, m, rfl, hm, ho1, hG1⟩
  have hm' : m ≤ 1000 := by rw [hm]; exact ex10_len
  have p2 := open_any (Reads.own ho1) ex10_bytes (by omega)
  rw [ex10_dec] at p2
  have hB1 := hB0.trans (hG1.mono hB0.size)
  clear p1 hr0 hm ho1 hG1
  go_wp2_with fail
  refine p2.mono ?_
  rintro e w2 ⟨hG2, r, rfl, ⟨hbad, _⟩ | ⟨_, rb, rfl, hrb, hat⟩⟩
  · exact (hbad rfl).elim
  have hB2 := hB1.trans (hG2.mono hB1.size)
  have hrbw : w.heap.size ≤ rb := Nat.le_trans hB1.size hrb
  have p3 := peek_any hat
  unfold peekV at p3
  simp only at p3
  clear p2 hG2 hrb hB1
  go_wp2_with fail
  refine p3.mono ?_
  rintro e w3 ⟨rfl, hG3⟩
  obtain ⟨W3, hW3⟩ : ∃ W3, W3 = w3.alloc (.cells #[strV [97], .int .u64 1] 44) := ⟨_, rfl⟩
  have hG3' : Grow w3 W3 := by rw [hW3]; exact (Below.refl _ _).alloc (Nat.le_refl _) _
  have kx : W3.heap[w3.heap.size]? = some (.cells #[strV [97], .int .u64 1] 44 (0, 0)) := by rw [hW3]; exact Array.getElem?_push_size
  have hat3 := (hat.later hG3).later hG3'
  have hB3 := (hB2.trans (hG3.mono hB2.size)).trans (hG3'.mono (Nat.le_trans hB2.size hG3.size))
  have hxr : w3.heap.size ≠ rb := by obtain ⟨v, hv⟩ := (hat.later hG3).lt; have := (Array.getElem?_eq_some_iff.1 hv).1; omega
  have p4 := next_any hat3
  have HW3 : Hid _ := hW3
  clear p3 hG3 hG3' hB2 hat hW3
  go_wp2_with fail
  rw [← HW3.out]
  refine p4.mono ?_
  rintro e w4 hn4
  have he4 : e = .returned (peekV ex10) := hn4.1
  subst he4
  have kx4 := hn4.block kx hxr
  have hB4 := hn4.below hB3 hB3.size hrbw
  obtain ⟨W4, hW4⟩ : ∃ W4, W4 = w4.alloc (.cells #[strV [97], .int .u64 1] 44) := ⟨_, rfl⟩
  have hG4 : Grow w4 W4 := by rw [hW4]; exact (Below.refl _ _).alloc (Nat.le_refl _) _
  have ky : W4.heap[w4.heap.size]? = some (.cells #[strV [97], .int .u64 1] 44 (0, 0)) := by rw [hW4]; exact Array.getElem?_push_size
  have kx4' := cells_later kx4 hG4
  have hB4' := hB4.trans (hG4.mono hB4.size)
  have hat4 : RdAt w2.heap.size w4 rb [] := hn4.2.2
  have hyr : w4.heap.size ≠ rb := by obtain ⟨v, hv⟩ := hat4.lt; have := (Array.getElem?_eq_some_iff.1 hv).1; omega
  have p5 := next_any (hat4.later hG4)
  have HW4 : Hid _ := hW4
  unfold peekV
  clear p4 hn4 hG4 hB4 hat3 hB3 kx kx4 hW4 HW3
  go_wp2_with fail
  rw [← HW4.out]
  refine p5.mono ?_
  rintro e w5 hn5
  have he5 : e = .returned (peekV []) := hn5.1
  subst he5
  have kx5 := hn5.block kx4' hxr
  have ky5 := hn5.block ky hyr
  have hB5 := hn5.below hB4' hB4'.size hrbw
  obtain ⟨W5, hW5⟩ : ∃ W5, W5 = w5.alloc (.cells #[strV [], .int .u64 0] 44) := ⟨_, rfl⟩
  have hG5 : Grow w5 W5 := by rw [hW5]; exact (Below.refl _ _).alloc (Nat.le_refl _) _
  have kx6 := load_en (cells_later kx5 hG5)
  have ky6 := load_en (cells_later ky5 hG5)
  have cx6 := blk2 (cells_later kx5 hG5)
  have cy6 := blk2 (cells_later ky5 hG5)
  have hB6 := hB5.trans (hG5.mono hB5.size)
  have hsm := en_same [97] 1
  rw [hW5] at cx6 cy6 hB6
  unfold peekV
  clear p5 hn5 hG5 hB5 hB4' kx5 ky5 kx4' ky hW5 HW4 hat4 kx6 ky6
  go_wp2
  go_ret
  exact ⟨rfl, hB6⟩
#print axioms shown10_any
end Go.Proofs.Ytabecgeemhkkmaa
