/- Runs: bytes as entries. -/
import Derived.Test.YtgnhnhachhfafaaRunRows
namespace Go.Proofs.Ytgnhnhachhfafaa
open Go.RowKit
set_option linter.unusedVariables false
set_option linter.unusedSimpArgs false

/-- The entries of rows, each of which says how many. -/
def candE : List (List Int) → Option (List En)
  | [] => some []
  | r :: rs => if (getL r).2.2 = 0 ∧ (getL r).1 ≤ 255 then
      (match takesE (getL r).1 [] (r.drop (getL r).2.1) with
      | none => none
      | some l => (candE rs).map (l ++ ·)) else none
/-- The size and the entries that bytes could be a run of. -/
def candR (rows : List (List Int)) : Option (List En × Nat) :=
  if 2 ≤ rows.length ∧ (getL (rows.getD 0 [])).2.2 = 0 ∧ (getL (rows.getD 0 [])).1 ≤ 255 then (candE (rows.drop 1).dropLast).map fun l => (l, (getL (rows.getD 0 [])).1) else none
/-- Encode. -/
def encR (l : List En) (s : Nat) : List Int × Nat := if 1 ≤ s ∧ s ≤ 255 then (if mayE l = 0 then (runL l s, 0) else ([], mayE l)) else ([], 1)
/-- Decode. -/
def decL (b : List Int) : List En × Nat := match candR (scanR b).1 with
  | none => ([], 2)
  | some (l, s) => if (encR l s).2 = 0 ∧ (encR l s).1 = b then (l, 0) else ([], 2)
theorem enc_ok {l : List En} {s : Nat} : (encR l s).2 = 0 ↔ 1 ≤ s ∧ s ≤ 255 ∧ mayE l = 0 := by
  unfold encR
  by_cases h : 1 ≤ s ∧ s ≤ 255
  · by_cases k : mayE l = 0
    · simp [h, k]
    · simp [h, k]
  · rw [if_neg h]; simp; omega
theorem enc_is {l : List En} {s : Nat} (h : 1 ≤ s ∧ s ≤ 255 ∧ mayE l = 0) : encR l s = (runL l s, 0) := by
  unfold encR
  rw [if_pos ⟨h.1, h.2.1⟩, if_pos h.2.2]
theorem may_all {l : List En} (h : mayE l = 0) : ∀ e ∈ l, oneE e = true := by
  have := (may_zero.1 h).1
  intro e he
  exact List.all_eq_true.1 this e he
theorem run_ok {l : List En} {s : Nat} (h : 1 ≤ s ∧ s ≤ 255 ∧ mayE l = 0) (hl : l.length < 18446744073709551616) : RunOk l s := ⟨h.1, h.2.1, may_all h.2.2, hl⟩
theorem cand_blocks : ∀ (cs : List (List En)), (∀ c ∈ cs, c.length ≤ 255 ∧ ∀ e ∈ c, oneE e = true) → candE (cs.map blockL) = some cs.flatten
  | [], _ => rfl
  | c :: cs, h => by
    obtain ⟨h1, h2⟩ := h c (by simp)
    have g := get_back c.length (entsL [] c) (by omega)
    rw [List.map_cons, candE]
    have gb : getL (blockL c) = (c.length, (encode c.length).length, 0) := g
    rw [gb]
    have hd : (blockL c).drop (encode c.length).length = entsL [] c ++ [] := by unfold blockL; rw [List.drop_left, List.append_nil]
    simp only
    rw [if_pos ⟨trivial, h1⟩, hd, takes_ents c [] [] h2 (by simp), cand_blocks cs fun x hx => h x (by simp [hx])]
    rfl
/-- What was encoded is decoded. -/
theorem dec_back {l : List En} {s : Nat} (h : 1 ≤ s ∧ s ≤ 255 ∧ mayE l = 0) (hl : l.length < 18446744073709551616) : decL (runL l s) = (l, 0) := by
  have ho := run_ok h hl
  have hs : scanR (runL l s) = (runRows l s, (runL l s).length) := by
    have := scan_recs (runRows l s) [] (run_rows ho) get_nil
    simpa [runL] using this
  have hc : candR (runRows l s) = some (l, s) := by
    unfold candR
    have g0 : getL ((runRows l s).getD 0 []) = (s, (encode s).length, 0) := by
      have := get_back s [] (by omega)
      simpa [runRows] using this
    have g1 : ((runRows l s).drop 1).dropLast = (chunksE s l).map blockL := by simp [runRows]
    unfold chunksE at g1
    rw [g0, g1, if_pos ⟨by simp [runRows], rfl, h.2.1⟩, cand_blocks _ fun c hc => (chunks_blocks _ s l h.1 h.2.1 ho.2.2.1 c hc).2]
    rw [chunks_join _ s l h.1 (Nat.le_refl _)]; rfl
  unfold decL
  rw [hs]
  simp only [hc, enc_is h]
  rw [if_pos ⟨trivial, trivial⟩]
/-- What is decoded is a run, and of these bytes. -/
theorem dec_ok {b : List Int} (h : (decL b).2 = 0) : ∃ s, 1 ≤ s ∧ s ≤ 255 ∧ mayE (decL b).1 = 0 ∧ b = runL (decL b).1 s := by
  unfold decL at h ⊢
  cases hc : candR (scanR b).1 with
  | none => rw [hc] at h; simp at h
  | some x =>
    obtain ⟨l, s⟩ := x
    rw [hc] at h
    simp only at h ⊢
    by_cases hk : (encR l s).2 = 0 ∧ (encR l s).1 = b
    · rw [if_pos hk]
      have h1 := enc_ok.1 hk.1
      refine ⟨s, h1.1, h1.2.1, h1.2.2, ?_⟩
      rw [← hk.2, enc_is h1]
    · rw [if_neg hk] at h; simp at h
theorem dec_err {b : List Int} (h : (decL b).2 ≠ 0) : decL b = ([], 2) := by
  unfold decL at h ⊢
  cases hc : candR (scanR b).1 with
  | none => rfl
  | some x =>
    obtain ⟨l, s⟩ := x
    rw [hc] at h
    simp only at h ⊢
    by_cases hk : (encR l s).2 = 0 ∧ (encR l s).1 = b
    · rw [if_pos hk] at h; simp at h
    · rw [if_neg hk]
theorem dec_cases (b : List Int) : (∃ l s, 1 ≤ s ∧ s ≤ 255 ∧ mayE l = 0 ∧ b = runL l s ∧ decL b = (l, 0)) ∨ decL b = ([], 2) := by
  by_cases h : (decL b).2 = 0
  · obtain ⟨s, h1, h2, h3, h4⟩ := dec_ok h
    exact .inl ⟨_, s, h1, h2, h3, h4, Prod.ext rfl h⟩
  · exact .inr (dec_err h)
/-- No begin of a run is one; nothing that a run begins; no run with a byte that is another one. -/
theorem entries_le : ∀ (l : List En) (was : Wd), l.length ≤ (entsL was l).length
  | [], _ => Nat.zero_le _
  | e :: l, was => by
    have h1 := entries_le l e.1
    have h2 := encode_len (alikeW was e.1)
    simp only [entsL, entL, List.length_append, List.length_cons]
    omega
theorem recs_le : ∀ (ps : List (List Int)) (cs : List (List En)), ps = cs.map blockL → cs.flatten.length ≤ (recs ps).length
  | _, [], h => by subst h; simp
  | _, c :: cs, h => by
    subst h
    have h1 := recs_le (cs.map blockL) cs rfl
    have h2 := entries_le c []
    have h3 := rec_len (blockL c)
    have h4 : (blockL c).length = (encode c.length).length + (entsL [] c).length := by simp [blockL]
    simp only [List.map_cons, recs, List.flatten_cons, List.length_append]
    omega
theorem run_len {l : List En} {s : Nat} (hs : 1 ≤ s) : l.length ≤ (runL l s).length := by
  have h1 := recs_le ((chunksE s l).map blockL) (chunksE s l) rfl
  unfold chunksE at h1
  rw [chunks_join _ s l hs (Nat.le_refl _)] at h1
  unfold runL runRows chunksE
  rw [recs, recs_append]
  simp only [List.length_append]
  omega
theorem ones_cut {l : List En} {s k : Nat} (h : 1 ≤ s ∧ s ≤ 255 ∧ mayE l = 0) (hx : (runL l s).length < 18446744073709551616) (hk : k < (runL l s).length) : decL ((runL l s).take k) = ([], 2) := by
  rcases dec_cases ((runL l s).take k) with ⟨l', s', h1, h2, h3, h4, _⟩ | h0
  · exfalso
    have hl := run_len (l := l) h.1
    have hl' := run_len (l := l') h1
    have e : runL l s ++ [] = runL l' s' ++ (runL l s).drop k := by rw [← h4, List.append_nil, List.take_append_drop]
    have hlt : (runL l' s').length = k := by rw [← h4, List.length_take]; omega
    have := (run_free (run_ok h (by omega)) (run_ok ⟨h1, h2, h3⟩ (by omega)) e).2.2
    have := congrArg List.length this
    simp at this; omega
  · exact h0
theorem ones_more {l : List En} {s : Nat} {c : Int} (h : 1 ≤ s ∧ s ≤ 255 ∧ mayE l = 0) (hx : (runL l s).length < 18446744073709551615) : decL (runL l s ++ [c]) = ([], 2) := by
  rcases dec_cases (runL l s ++ [c]) with ⟨l', s', h1, h2, h3, h4, _⟩ | h0
  · exfalso
    have hl := run_len (l := l) h.1
    have hl' := run_len (l := l') h1
    have hlt : (runL l' s').length = (runL l s).length + 1 := by rw [← h4]; simp
    have := (run_free (X := [c]) (Y := []) (run_ok h (by omega)) (run_ok ⟨h1, h2, h3⟩ (by omega)) (by rw [h4, List.append_nil])).2.2
    simp at this
  · exact h0
theorem ones_turned {l : List En} {s k : Nat} {v : Int} (h : 1 ≤ s ∧ s ≤ 255 ∧ mayE l = 0) (hx : (runL l s).length < 18446744073709551616) (hk : k < (runL l s).length) (hv : v ≠ (runL l s).getD k 0) : decL ((runL l s).set k v) = ([], 2) := by
  rcases dec_cases ((runL l s).set k v) with ⟨l', s', h1, h2, h3, h4, _⟩ | h0
  · exfalso
    have hl := run_len (l := l) h.1
    have hl' := run_len (l := l') h1
    have hlt : (runL l' s').length = (runL l s).length := by rw [← h4, List.length_set]
    refine run_apart (k := k) (run_ok h (by omega)) (run_ok ⟨h1, h2, h3⟩ (by omega)) ⟨hlt.symm, hk, fun i hi => ?_, fun e => ?_⟩
    · rw [← h4, List.getElem?_set_ne (by omega)]
    · rw [← h4, List.getElem?_set_self hk, List.getElem?_eq_getElem hk] at e
      rw [List.getD, List.getElem?_eq_getElem hk] at hv
      exact hv (Option.some.inj e).symm
  · exact h0
#print axioms ones_turned
end Go.Proofs.Ytgnhnhachhfafaa
