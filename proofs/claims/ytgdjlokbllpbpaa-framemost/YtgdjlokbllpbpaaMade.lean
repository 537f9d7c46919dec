/- 'make([]byte, n)': as many bytes 0, read at once or later. -/
import Derived.Test.YtgdjlokbllpbpaaNumPut
import Derived.Test.YtgdjlokbllpbpaaArr
import Derived.Laws.MakeOwn
namespace Go.Proofs.Ytgdjlokbllpbpaa
open Go.RowKit

theorem zeros_bytes (n : Nat) : isBytes (List.replicate n 0) := fun z hz => by rw [List.eq_of_mem_replicate hz]; decide

theorem made (n : Nat) (h : n ≤ 140737488351232) : ∃ C : Array Value,
    (∀ W : World, (Instr.makeSlice 22 (.int .i64 (n : Int)) (.int .i64 (n : Int))).run Try.prog W = .ok (.slice (some ⟨W.heap.size, 0, none⟩) n n) (W.alloc (.cells C 5))) ∧
    (∀ W : World, Reads (W.alloc (.cells C 5)) (some ⟨W.heap.size, 0, none⟩) n n ((List.replicate n (0 : Int)).map (.int .u8))) ∧
    (∀ (W : World) (o : Obj), Reads ((W.alloc o).alloc (.cells C 5)) (some ⟨W.heap.size + 1, 0, none⟩) n n ((List.replicate n (0 : Int)).map (.int .u8))) := by
  obtain ⟨i0, hi, hz0, hz1, hz2⟩ := info_parts Try.info5
  have hC : madeCells (Value.int .u8 0).cells (n * i0.size) = ((List.replicate n (0 : Int)).map (Value.int .u8)).toArray := by
    rw [hz1, Nat.mul_one]
    apply Array.ext
    · simp [madeCells]
    · intro j h1 h2
      simp [madeCells, Value.cells, Nat.mod_one]
  refine ⟨madeCells (Value.int .u8 0).cells (n * i0.size), fun W => ?_, fun W => ?_, fun W o => ?_⟩
  · have := run_make (P := Try.prog) W 22 5 i0 (.int .u8 0) Try.underlying22 hi hz0 .i64 .i64 n n (by omega) (Int.le_refl _) (by rw [hz2]; omega) (by omega)
    simpa using this
  · rw [hC]
    have := reads_new W ((List.replicate n (0 : Int)).map (Value.int .u8)) 5 (by simp [maxLen]; omega)
    simpa using this
  · rw [hC]
    have := reads_new (W.alloc o) ((List.replicate n (0 : Int)).map (Value.int .u8)) 5 (by simp [maxLen]; omega)
    simpa using this

/-- The same, the bytes as a letter. -/
theorem made_letter (n : Nat) (h : n ≤ 140737488351232) : ∃ (C : Array Value) (zs : List Int), zs.length = n ∧ isBytes zs ∧
    (∀ W : World, (Instr.makeSlice 22 (.int .i64 (n : Int)) (.int .i64 (n : Int))).run Try.prog W = .ok (.slice (some ⟨W.heap.size, 0, none⟩) n n) (W.alloc (.cells C 5))) ∧
    (∀ W : World, Reads (W.alloc (.cells C 5)) (some ⟨W.heap.size, 0, none⟩) n n (zs.map (.int .u8))) := by
  obtain ⟨C, h1, h2, _⟩ := made n h
  exact ⟨C, List.replicate n 0, by simp, zeros_bytes n, h1, h2⟩
#print axioms made_letter
end Go.Proofs.Ytgdjlokbllpbpaa
