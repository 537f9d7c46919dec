/- New blocks and own rows: where they lie, what keeps them. -/
import Derived.Test.YtkcledkfgmdcgaaStable
namespace Go.Proofs.Ytkcledkfgmdcgaa
open Go.RowKit
set_option linter.unusedVariables false
set_option linter.unusedSimpArgs false

theorem byte_eq (a b : UInt8) : ((a.toNat : Int) == b.toNat) = decide (a = b) := by
  by_cases h : a = b
  · subst h; simp
  · rw [decide_eq_false h, beq_eq_false_iff_ne]
    intro h2
    exact h (UInt8.toNat_inj.1 (by omega))
theorem str_at (P : Program) (t : TypeId) (hu : P.underlying t = some .string) {k : Wd} {i : Nat} {c : UInt8} (hc : k[i]? = some c) (W : World) : (Instr.index t (strV k) (.int .i64 (i : Nat))).run P W = .ok (.int .u8 (c.toNat : Nat)) W := by
  obtain ⟨h1, h2⟩ := List.getElem?_eq_some_iff.1 hc
  have hs : (⟨k.toArray⟩ : ByteArray).size = k.length := by simp [ByteArray.size]
  rw [run_index_string (P := P) W t ⟨k.toArray⟩ .i64 i hu, dif_pos ⟨by omega, by rw [hs]; omega⟩]
  subst h2
  rfl
theorem own_block {w : World} {base e g n cap : Nat} {cur : Array Value} {xs : List Value} (hb : base ≤ g) (h : w.heap[g]? = some (.cells cur e (0, 0))) (hn : n ≤ cap) (hm : cap ≤ maxLen) (hs : cur.size = cap * 1) (hl : xs.length = n * 1) (ht : cur.toList.take (n * 1) = xs) :
    w.ownsRow base e 1 (.slice (some ⟨g, 0, none⟩) n cap) n xs := ⟨hl, .inr ⟨g, cap, cur, rfl, hb, h, hn, hm, hs, ht⟩⟩
theorem two_new (w : World) (o1 o2 : Obj) : ((w.alloc o1).alloc o2).heap[w.heap.size]? = some o1 ∧ ((w.alloc o1).alloc o2).heap[w.heap.size + 1]? = some o2 := by
  refine ⟨?_, ?_⟩
  · rw [heap_alloc_old _ _ (by simp)]; exact heap_alloc_new _ _
  · rw [show w.heap.size + 1 = (w.alloc o1).heap.size by simp]; exact heap_alloc_new _ _
theorem cell_of {w : World} {b : Nat} {cs : Array Value} {t : TypeId} (h : w.heap[b]? = some (.cells cs t (0, 0))) (i : Nat) : w.cell? ⟨b, i, none⟩ = cs[i]? := by simp [World.cell?, h]
theorem keep_two {W1 w2 : World} {k : Nat} {cs : Array Value} {t : TypeId} {o : Obj} {ob : Option Nat} (h : W1.heap[k]? = some (.cells cs t (0, 0))) (hg : (W1.alloc o).grownBy w2 ob) (hne : ob ≠ some k) (i : Nat) : w2.cell? ⟨k, i, none⟩ = cs[i]? := by
  have hk := lt_of_block h
  rw [cell_agree (hg.block k (by simp; omega) (Ne.symm hne)), cell_agree (heap_alloc_old _ _ hk)]
  exact cell_of h i
theorem two_new_old (w : World) (o1 o2 o3 : Obj) : (((w.alloc o1).alloc o2).alloc o3).heap[w.heap.size]? = some o1 ∧ (((w.alloc o1).alloc o2).alloc o3).heap[w.heap.size + 1]? = some o2 ∧ (((w.alloc o1).alloc o2).alloc o3).heap[w.heap.size + 2]? = some o3 := by
  obtain ⟨h1, h2⟩ := two_new w o1 o2
  refine ⟨?_, ?_, ?_⟩
  · rw [heap_alloc_old _ _ (by simp; omega)]; exact h1
  · rw [heap_alloc_old _ _ (by simp)]; exact h2
  · rw [show w.heap.size + 2 = ((w.alloc o1).alloc o2).heap.size by simp]; exact heap_alloc_new _ _
theorem four_new (w : World) (o1 o2 o3 o4 : Obj) : ((((w.alloc o1).alloc o2).alloc o3).alloc o4).heap[w.heap.size]? = some o1 ∧ ((((w.alloc o1).alloc o2).alloc o3).alloc o4).heap[w.heap.size + 1]? = some o2 ∧ ((((w.alloc o1).alloc o2).alloc o3).alloc o4).heap[w.heap.size + 2]? = some o3 ∧ ((((w.alloc o1).alloc o2).alloc o3).alloc o4).heap[w.heap.size + 3]? = some o4 := by
  obtain ⟨h1, h2, h3⟩ := two_new_old w o1 o2 o3
  refine ⟨?_, ?_, ?_, ?_⟩
  · rw [heap_alloc_old _ _ (by simp; omega)]; exact h1
  · rw [heap_alloc_old _ _ (by simp)]; exact h2
  · rw [heap_alloc_old _ _ (by simp)]; exact h3
  · rw [show w.heap.size + 3 = (((w.alloc o1).alloc o2).alloc o3).heap.size by simp]; exact heap_alloc_new _ _
theorem own_blk {w w' : World} {base e size n : Nat} {v : Value} {xs : List Value} (h : w.ownsRow base e size v n xs) (hb : ∀ k, v.ownBlock = some k → w'.heap[k]? = w.heap[k]?) : w'.ownsRow base e size v n xs := by
  refine ⟨h.1, ?_⟩
  rcases h.2 with h' | ⟨g, cap, cur, h1, h2, h3, h4⟩
  · exact .inl h'
  · exact .inr ⟨g, cap, cur, h1, h2, (hb g (by rw [h1]; rfl)).trans h3, h4⟩
theorem own_set_off {w : World} {base e size n b i : Nat} {v : Value} {xs : List Value} (h : w.ownsRow base e size v n xs) (hb : b < base) (u : Value) : (w.setCell ⟨b, i, none⟩ u).ownsRow base e size v n xs := by
  refine own_blk h fun k hk => blk_ne ?_ _
  rcases h.2 with ⟨h1, _⟩ | ⟨g, cap, cur, h1, h2, _⟩
  · rw [h1] at hk; cases hk
  · rw [h1] at hk
    simp only [Value.ownBlock, Option.some.injEq] at hk
    omega
theorem own_cut {P : Program} {t e : TypeId} (ht : P.underlying t = some (.slice e)) (hs : ∀ W, (sizeOf e).run P W = .ok 1 W) {w : World} {base n c : Nat} {ag : Option Addr} {xs : List Value} {x : Value} (h : w.ownsRow base e 1 (.slice ag (n + 1) c) (n + 1) (xs ++ [x])) :
    (∀ W, (Instr.slice t (.slice ag (n + 1) c) none (some (.int .i64 (n : Nat))) none).run P W = .ok (.slice ag n c) W) ∧ w.ownsRow base e 1 (.slice ag n c) n xs := by
  obtain ⟨h1, h2⟩ := h
  rcases h2 with ⟨h3, h4⟩ | ⟨g, cap, cur, h3, h4, h5, h6, h7, h8, h9⟩
  · omega
  simp only [Value.slice.injEq, true_and] at h3
  obtain ⟨rfl, rfl⟩ := h3
  have ht' : P.underlying t = some (.slice (P.elem t)) := by simp [Program.elem, ht]
  have he : P.elem t = e := by simp [Program.elem, ht]
  constructor
  · intro W
    rw [run_slice_h (P := P) W t _ _ _ ht' .i64 n (by omega) (by omega), he, hs]
    have hc : ¬ c = 0 := by omega
    simp [Result.andThen, sliced, hc, Addr.add]
  · refine ⟨by simp at h1; omega, .inr ⟨g, c, cur, rfl, h4, h5, by omega, h7, h8, ?_⟩⟩
    simp only [List.length_append, List.length_singleton, Nat.mul_one] at h1 h9 ⊢
    have h10 : xs.length = n := by omega
    have := congrArg (List.take n) h9
    rw [List.take_take, Nat.min_eq_left (by omega)] at this
    rw [this, ← h10, List.take_left]
end Go.Proofs.Ytkcledkfgmdcgaa
