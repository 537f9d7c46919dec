/- A map from words to whole numbers in memory: the places of words; how many unlike ones there are. -/
import Derived.Test.YtkcledkfgmdcgaaTwo
import Derived.Maps.Own
import Derived.Maps.OwnOps
import Derived.Maps.OwnSet
import Derived.Maps.Views
namespace Go.Proofs.Ytkcledkfgmdcgaa
open Go.RowKit Go.Maps Go.MapKept Go.WideShapes Go.ChangeMaps
set_option linter.unusedVariables false
set_option linter.unusedSimpArgs false

theorem keyedS : Keyed Try.prog 9 := string_keyed Try.underlying9
theorem key_str (k : Wd) (h : k.length ≤ maxLen) : keyOf Try.prog 9 (strV k) = some (.string k) := by
  have := WideMaps.keyOf_string_mk (s := ⟨k.toArray⟩) Try.underlying9 (by simpa [ByteArray.size] using h)
  simpa using this
/-- A map of words' places. -/
def NumsAt (w : World) (bm : Nat) (ks : List Wd) : Prop := ∃ D : DataW Unit, w.ownsMap Try.prog 9 (plainElem Try.prog 3) bm ks.length D ∧
  (∀ (i : Nat) (k : Wd), ks[i]? = some k → Maps.has D (.string k) = true ∧ D.atKey (.string k) (.lit (.int .i64 0)) = .lit (.int .i64 i)) ∧ ∀ k : Wd, k ∉ ks → Maps.has D (.string k) = false
theorem nums_kept {w w' : World} {bm : Nat} {ks : List Wd} (h : NumsAt w bm ks) (hb : w'.heap[bm]? = w.heap[bm]?) : NumsAt w' bm ks := by
  obtain ⟨D, ⟨xs, clock, h1, h2⟩, h3⟩ := h
  exact ⟨D, ⟨xs, clock, hb.trans h1, h2⟩, h3⟩
theorem nums_blk {w : World} {bm : Nat} {ks : List Wd} (h : NumsAt w bm ks) : ∃ xs c, w.heap[bm]? = some (.map xs c) := by
  obtain ⟨D, ⟨xs, clock, h1, h2⟩, h3⟩ := h
  exact ⟨xs, clock, h1⟩
theorem nums_in {w : World} {bm : Nat} {ks : List Wd} (h : NumsAt w bm ks) {i : Nat} {k : Wd} (he : ks[i]? = some k) (hl : k.length ≤ maxLen) :
    (Instr.lookup 69 (.map (some bm)) (strV k) true).run Try.prog w = .ok (.tuple #[.int .i64 i, .bool true]) w := by
  obtain ⟨D, h1, h2, h3⟩ := h
  obtain ⟨v, ps, hrun, hv⟩ := h1.look_ok keyedS Try.underlying69 (Try.zeroValue3 w) (plainElem_int Try.underlying3 (by decide)) (key_str k hl)
  rw [(h2 i k he).1] at hrun
  rw [(h2 i k he).2] at hv
  obtain ⟨c, rfl, hc, _⟩ := plainElem_int_inv Try.underlying3 hv
  simp only [Prod.mk.injEq, DataW.lit.injEq, Lit.int.injEq, true_and] at hc
  rw [hrun, ← hc.1]
theorem nums_out {w : World} {bm : Nat} {ks : List Wd} (h : NumsAt w bm ks) {k : Wd} (he : k ∉ ks) (hl : k.length ≤ maxLen) :
    (Instr.lookup 69 (.map (some bm)) (strV k) true).run Try.prog w = .ok (.tuple #[.int .i64 0, .bool false]) w := by
  obtain ⟨D, h1, h2, h3⟩ := h
  obtain ⟨v, ps, hrun, hv⟩ := h1.look_ok keyedS Try.underlying69 (Try.zeroValue3 w) (plainElem_int Try.underlying3 (by decide)) (key_str k hl)
  rw [h3 k he] at hrun
  rw [Maps.atKey_of_not_has (h3 k he)] at hv
  obtain ⟨c, rfl, hc, _⟩ := plainElem_int_inv Try.underlying3 hv
  simp only [Prod.mk.injEq, DataW.lit.injEq, Lit.int.injEq, true_and] at hc
  rw [hrun, ← hc.1]
theorem nums_put {w : World} {bm : Nat} {ks : List Wd} (h : NumsAt w bm ks) {k : Wd} (he : k ∉ ks) (hl : k.length ≤ maxLen) (hm : ks.length ≤ 100000000000) :
    ∃ w', (Instr.mapUpdate 69 (.map (some bm)) (strV k) (.int .i64 ks.length)).run Try.prog w = .ok () w' ∧ NumsAt w' bm (ks ++ [k]) ∧ w.mapTurned w' bm := by
  obtain ⟨D, h1, h2, h3⟩ := h
  obtain ⟨w', hrun, ho, ht⟩ := h1.store keyedS Try.underlying69 (by unfold maxLen; omega) (key_str k hl) (plainElem_int Try.underlying3 (a := ks.length) (WalkArith.wf_i64 (by omega)))
  refine ⟨w', hrun, ⟨_, by simpa using ho, fun i e hi => ?_, fun k' hk' => ?_⟩, ht⟩
  · by_cases hlt : i < ks.length
    · rw [List.getElem?_append_left hlt] at hi
      have hne : (Lit.string e) ≠ .string k := fun e' => he (by cases e'; exact List.mem_of_getElem? hi)
      rw [Maps.has_put_other hne, Maps.atKey_put_other hne]
      exact h2 i e hi
    · have hi' := hi
      rw [List.getElem?_append_right (by omega)] at hi
      have h0 : i - ks.length = 0 := by
        have := (List.getElem?_eq_some_iff.1 hi).1; simp at this; omega
      rw [h0] at hi
      simp only [List.getElem?_cons_zero, Option.some.injEq] at hi
      subst hi
      have e1 : i = ks.length := by omega
      subst e1
      have hkl : WideAt.IsKeyLit (Lit.string k) := trivial
      exact ⟨Maps.has_put_same h1.isMap hkl _, Maps.atKey_put_same h1.isMap hkl _ _⟩
  · have hne : (Lit.string k') ≠ .string k := fun e' => hk' (by cases e'; simp)
    rw [Maps.has_put_other hne]
    exact h3 k' fun e => hk' (by simp [e])
theorem nums_made (w : World) : NumsAt (w.alloc (.map #[] 0)) w.heap.size [] :=
  ⟨.map [], World.ownsMap_made _ _ _ _, fun i e h => by simp at h, fun k _ => rfl⟩
/-- A map of unlike words. -/
def UnlikeAt (w : World) (bm : Nat) (ks : List Wd) : Prop := ∃ (l : List (Lit × DataW Unit)), w.ownsMap Try.prog 9 (plainElem Try.prog 3) bm ks.length (.map l) ∧ (l.map Prod.fst).Perm (ks.map Lit.string) ∧ ks.Nodup
theorem unlike_kept {w w' : World} {bm : Nat} {ks : List Wd} (h : UnlikeAt w bm ks) (hb : w'.heap[bm]? = w.heap[bm]?) : UnlikeAt w' bm ks := by
  obtain ⟨D, ⟨xs, clock, h1, h2⟩, h3⟩ := h
  exact ⟨D, ⟨xs, clock, hb.trans h1, h2⟩, h3⟩
theorem unlike_made (w : World) : UnlikeAt (w.alloc (.map #[] 0)) w.heap.size [] := ⟨[], World.ownsMap_made _ _ _ _, .nil, List.nodup_nil⟩
theorem unlike_blk {w : World} {bm : Nat} {ks : List Wd} (h : UnlikeAt w bm ks) : ∃ xs c, w.heap[bm]? = some (.map xs c) ∧ xs.size = ks.length := by
  obtain ⟨l, ⟨xs, clock, h1, h2, h3, h4⟩, hp, _⟩ := h
  refine ⟨xs, clock, h1, ?_⟩
  simp only [DataW.map.injEq] at h4
  have e1 := congrArg List.length h4
  rw [length_sorted] at e1
  have e2 := hp.length_eq
  simp at e1 e2
  omega
theorem same_str (a b : Wd) : (Lit.string a).sameKey (.string b) = decide (a = b) := by
  simp only [Lit.sameKey]
  by_cases h : a = b <;> simp [h]
theorem perm_other {ks : List Wd} {k : Wd} (hn : ks.Nodup) (hk : k ∈ ks) : (k :: ks.filter (fun x => decide (x ≠ k))).Perm ks := by
  have h1 : (ks.filter (fun x => decide (x ≠ k))) = ks.erase k := by
    rw [hn.erase_eq_filter]
    apply List.filter_congr
    intro x _
    by_cases h : x = k <;> simp [h]
  rw [h1]
  exact (List.perm_cons_erase hk).symm
theorem filter_out {ks : List Wd} {k : Wd} (hk : k ∉ ks) : ks.filter (fun x => decide (x ≠ k)) = ks :=
  List.filter_eq_self.2 fun x hx => decide_eq_true fun e => hk (e ▸ hx)
theorem unlike_put {w : World} {bm : Nat} {ks : List Wd} (h : UnlikeAt w bm ks) (k : Wd) (i : Nat) (hl : k.length ≤ maxLen) (hm : ks.length ≤ 10000000000000) (hi : i ≤ 10000000000000) :
    ∃ w', (Instr.mapUpdate 69 (.map (some bm)) (strV k) (.int .i64 i)).run Try.prog w = .ok () w' ∧ UnlikeAt w' bm (if k ∈ ks then ks else ks ++ [k]) ∧ w.mapTurned w' bm := by
  obtain ⟨l, h1, hp, hn⟩ := h
  obtain ⟨w', hrun, ho, ht⟩ := h1.store keyedS Try.underlying69 (by unfold maxLen; omega) (key_str k hl) (plainElem_int Try.underlying3 (a := i) (WalkArith.wf_i64 (by omega)))
  refine ⟨w', hrun, ?_, ht⟩
  have hstr : ∀ p ∈ l, ∃ s, p.1 = Lit.string s ∧ s ∈ ks := fun p hpm => by
    obtain ⟨s, hs, he⟩ := List.mem_map.1 (hp.mem_iff.1 (List.mem_map.2 ⟨p, hpm, rfl⟩))
    exact ⟨s, he.symm, hs⟩
  obtain ⟨l', hl'⟩ : ∃ l', l' = DataW.insert (Lit.string k, DataW.lit (.int .i64 i)) (l.filter fun p => !p.1.sameKey (.string k)) := ⟨_, rfl⟩
  have hD : (DataW.map l).put (.string k) (.lit (.int .i64 i)) = .map l' := by rw [hl']; rfl
  rw [hD] at ho
  have hpl : (l'.map Prod.fst).Perm (Lit.string k :: (ks.filter fun x => decide (x ≠ k)).map Lit.string) := by
    rw [hl']
    refine ((insert_perm _ _).map _).trans ?_
    simp only [List.map_cons]
    refine .cons _ ?_
    have e1 : (l.filter fun p => !p.1.sameKey (.string k)).map Prod.fst = (l.map Prod.fst).filter fun q => !q.sameKey (.string k) := by rw [List.filter_map]; rfl
    rw [e1]
    refine (hp.filter _).trans ?_
    rw [List.filter_map]
    have e2 : ks.filter ((fun q => !q.sameKey (.string k)) ∘ Lit.string) = ks.filter fun x => decide (x ≠ k) := by
      apply List.filter_congr
      intro x _
      simp only [Function.comp, same_str]
      by_cases h : x = k <;> simp [h]
    rw [e2]
  have hsz : l'.length = if k ∈ ks then ks.length else ks.length + 1 := by
    have e1 := hpl.length_eq
    simp only [List.length_map, List.length_cons] at e1
    split
    · rename_i hk
      have e2 := (perm_other hn hk).length_eq
      simp only [List.length_cons] at e2
      omega
    · rename_i hk
      rw [filter_out hk] at e1
      exact e1
  obtain ⟨xs, clock, g1, g2, g3, g4⟩ := ho
  have hxs : xs.size = l'.length := by
    simp only [DataW.map.injEq] at g4
    have e1 := congrArg List.length g4
    rw [length_sorted] at e1
    simp at e1
    omega
  split
  · rename_i hk
    rw [if_pos hk] at hsz
    exact ⟨l', ⟨xs, clock, g1, g2, by omega, g4⟩, hpl.trans ((perm_other hn hk).map Lit.string), hn⟩
  · rename_i hk
    rw [if_neg hk] at hsz
    refine ⟨l', ⟨xs, clock, g1, g2, by simp; omega, g4⟩, ?_, ?_⟩
    · rw [filter_out hk] at hpl
      refine hpl.trans ?_
      rw [List.map_append]
      exact (List.perm_append_singleton _ _).symm
    · exact List.nodup_append.2 ⟨hn, by simp, fun a ha b hb e => hk (by simp at hb; rw [← hb, ← e]; exact ha)⟩
theorem unlike_len {w : World} {bm : Nat} {ks : List Wd} (h : UnlikeAt w bm ks) (ty : TypeId) : (Builtin.len_ #[69] ty #[.map (some bm)]).run Try.prog w = .ok (.int .i64 ks.length) w := by
  obtain ⟨xs, c, h1, h2⟩ := unlike_blk h
  rw [← h2]
  exact run_len_map (w := w) 69 ty bm xs c (by simp [Program.mapKeyOf, Program.mapElemOf, Try.underlying69]) h1
end Go.Proofs.Ytkcledkfgmdcgaa
