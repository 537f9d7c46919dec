/- Runs merged: what is told; lists whose blocks bear the entries' type. -/
import Derived.Test.YtknfjonaepggnaaLoserMem
import Derived.Test.YtknfjonaepggnaaRunRead
import Derived.Test.YtknfjonaepggnaaReaderAll
namespace Go.Proofs.Ytknfjonaepggnaa
open Go.RowKit
set_option linter.unusedVariables false
set_option linter.unusedSimpArgs false

def decAll (rs : List (List Int)) : List (List En) := rs.map fun r => (decL r).1
def runsM (rs : List (List Int)) (s : Nat) : List Int × Nat :=
  if rs.all (fun r => decide ((decL r).2 = 0)) = true then (if (mergeL (decAll rs)).2 = 0 then encR (mergeL (decAll rs)).1 s else ([], (mergeL (decAll rs)).2)) else ([], 2)
theorem runs_bad {rs : List (List Int)} {s : Nat} {r : List Int} (h : r ∈ rs) (hd : (decL r).2 ≠ 0) : runsM rs s = ([], 2) := by
  unfold runsM
  rw [if_neg]
  intro hh
  have := List.all_eq_true.1 hh r h
  exact hd (by simpa using this)
theorem runs_ok {rs : List (List Int)} {s : Nat} (h : ∀ r ∈ rs, (decL r).2 = 0) : runsM rs s = if (mergeL (decAll rs)).2 = 0 then encR (mergeL (decAll rs)).1 s else ([], (mergeL (decAll rs)).2) := by
  unfold runsM
  rw [if_pos (List.all_eq_true.2 fun r hr => by simpa using h r hr)]
theorem dec_may (r : List Int) : mayE (decL r).1 = 0 := by
  rcases dec_cases r with ⟨l, s, _, _, h3, _, h5⟩ | h
  · rw [h5]; exact h3
  · rw [h]; decide
theorem dec_len (r : List Int) : (decL r).1.length ≤ r.length := by
  rcases dec_cases r with ⟨l, s, h1, _, _, h4, h5⟩ | h
  · rw [h5, h4]; exact run_len h1
  · rw [h]; exact Nat.zero_le _
theorem dec_flat : ∀ rs : List (List Int), (decAll rs).flatten.length ≤ rs.flatten.length
  | [] => by simp [decAll]
  | r :: rs => by
    have h1 := dec_flat rs
    have h2 := dec_len r
    simp only [decAll, List.map_cons, List.flatten_cons, List.length_append] at h1 ⊢
    omega
theorem dec_small {rs : List (List Int)} : ∀ l ∈ decAll rs, ∀ z ∈ l, z.1.length ≤ 140737488351232 ∧ z.2 ≤ 18446744073709551615 := fun l hl => by
  obtain ⟨r, _, rfl⟩ := List.mem_map.1 hl
  exact may_small (dec_may r)
theorem dec_two {r : List Int} (h : (decL r).2 ≠ 0) : (decL r).2 = 2 := by rw [dec_err h]
theorem merge_all (ls : List (List En)) : mayE (mergeL ls).1 = 0 ∧ (mergeL ls).1.length ≤ totL ls := by
  have h0 : mayE [] = 0 := by decide
  by_cases hl : ls.length ≤ 256
  · by_cases h : (mergeL ls).2 = 0
    · obtain ⟨_, _, _, h4, h5⟩ := merge_ok hl h
      exact ⟨h4, h5⟩
    · rw [merge_err hl h]; exact ⟨h0, Nat.zero_le _⟩
  · have : mergeL ls = ([], 6) := by unfold mergeL; rw [if_pos (by omega)]
    rw [this]; exact ⟨h0, Nat.zero_le _⟩

/-- Lists in blocks of entries. -/
structure ListsT (W : World) (vs : List Value) (ls : List (List En)) : Prop where
  vals : ListVals W.heap.size W vs ls
  typ : ∀ v ∈ vs, ∀ (k : Nat), v.ownBlock = some k → ∃ cur : Array Value, W.heap[k]? = some (.cells cur 64 (0, 0))
theorem ListsT.nil (W : World) : ListsT W [] [] := ⟨ListVals.nil _ _, fun v hv => by cases hv⟩
theorem ListsT.kept {W W' : World} {vs : List Value} {ls : List (List En)} (h : ListsT W vs ls) (hs : W.heap.size ≤ W'.heap.size) (hg : ∀ (k : Nat) (cur : Array Value), W.heap[k]? = some (.cells cur 64 (0, 0)) → W'.heap[k]? = W.heap[k]?) : ListsT W' vs ls := by
  refine ⟨⟨h.vals.length, fun i v l hv hl => ?_⟩, fun v hv k hk => ?_⟩
  · obtain ⟨ai, ci, rfl, hr, hB⟩ := h.vals.row i v l hv hl
    refine ⟨ai, ci, rfl, ?_, fun a ha hp => Nat.lt_of_lt_of_le (hB a ha hp) hs⟩
    refine ⟨hr.length, hr.le, hr.most, hr.bare, fun a ha j u hu => ?_⟩
    have hc := hr.cell a ha j u hu
    obtain ⟨cur, hk⟩ := h.typ _ (List.mem_of_getElem? hv) a.block (by subst ha; rfl)
    rw [World.cell?_of_block (w := W) (by rw [add_block]; exact hg _ cur hk)]; exact hc
  · obtain ⟨cur, hc⟩ := h.typ v hv k hk
    exact ⟨cur, by rw [hg k cur hc]; exact hc⟩
theorem ListsT.grow {W W' : World} {vs : List Value} {ls : List (List En)} (h : ListsT W vs ls) (hg : Grow W W') : ListsT W' vs ls := h.kept hg.size fun k cur hk => hg.block k (Array.getElem?_eq_some_iff.1 hk).1
theorem ListsT.row {W W' : World} {vs : List Value} {ls : List (List En)} {row : Option Nat} (h : ListsT W vs ls) (hg : W.grownBy W' row) (hr : ∀ (k : Nat), row = some k → ∃ (cur : Array Value) (t : TypeId), t ≠ 64 ∧ W.heap[k]? = some (.cells cur t (0, 0))) : ListsT W' vs ls :=
  h.kept hg.size fun k cur hk => hg.block k (Array.getElem?_eq_some_iff.1 hk).1 (fun e => by
    obtain ⟨cur', t, ht, hc⟩ := hr k e.symm
    rw [hk] at hc
    simp at hc
    exact ht hc.2.symm)
theorem ListsT.snoc {W : World} {vs : List Value} {ls : List (List En)} {base n c : Nat} {ag : Option Addr} {l : List En} (h : ListsT W vs ls) (ho : W.ownsRow base 64 2 (.slice ag n c) n (cellsE l)) : ListsT W (vs ++ [.slice ag n c]) (ls ++ [l]) :=
  ⟨h.vals.append (vals_own ho), fun v hv k hk => by
    rcases List.mem_append.1 hv with hv | hv
    · exact h.typ v hv k hk
    · simp at hv; subst hv; exact own2_type ho hk⟩
theorem own1_type {w : World} {base e n : Nat} {v : Value} {xs : List Value} (h : w.ownsRow base e 1 v n xs) {k : Nat} (hk : v.ownBlock = some k) : ∃ cur, w.heap[k]? = some (.cells cur e (0, 0)) := by
  rcases h.2 with h' | ⟨g, cap, cur, h1, h2, h3, h4⟩
  · rw [h'.1] at hk; cases hk
  · rw [h1] at hk; cases hk; exact ⟨cur, h3⟩
theorem decAll_next {rs : List (List Int)} {j : Nat} {r : List Int} (h : rs[j]? = some r) : decAll (rs.take (j + 1)) = decAll (rs.take j) ++ [(decL r).1] := by
  rw [List.take_add_one, h]; simp [decAll]
end Go.Proofs.Ytknfjonaepggnaa
