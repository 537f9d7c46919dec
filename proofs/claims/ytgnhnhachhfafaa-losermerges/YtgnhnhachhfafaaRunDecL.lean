/- Runs: the landed Decode as a function is the document's. -/
import Derived.Test.YtgnhnhachhfafaaRunUnpack
import Derived.Test.YtgnhnhachhfafaaFrameMore
namespace Go.Proofs.Ytgnhnhachhfafaa
open Go.RowKit
set_option linter.unusedVariables false
set_option linter.unusedSimpArgs false

def short (l : List En) : Bool := l.all fun e => decide (e.1.length ≤ 255)
theorem short_cons (e : En) (l : List En) : short (e :: l) = (decide (e.1.length ≤ 255) && short l) := rfl
theorem short_app (l m : List En) : short (l ++ m) = (short l && short m) := List.all_append
theorem takesS_is : ∀ (k : Nat) (was : Wd) (b : List Int), takesS k was b = match takesE k was b with
    | none => none
    | some l => if short l = true then some l else none
  | 0, _, _ => rfl
  | k + 1, was, b => by
    rw [takesS, takesE]
    unfold takeS
    cases h : takeE was b with
    | none => rfl
    | some x =>
      obtain ⟨e, n⟩ := x
      simp only
      by_cases he : e.1.length ≤ 255
      · rw [if_pos he]
        simp only
        rw [takesS_is k e.1 (b.drop n)]
        cases takesE k e.1 (b.drop n) with
        | none => rfl
        | some l =>
          simp only [Option.map_some, short_cons, he, decide_true, Bool.true_and]
          cases hl : short l with
          | true => rfl
          | false => rfl
      · rw [if_neg he]
        simp only
        cases takesE k e.1 (b.drop n) with
        | none => rfl
        | some l =>
          simp only [Option.map_some, short_cons, he, decide_false, Bool.false_and]
          rfl
def candS : List (List Int) → Option (List En)
  | [] => some []
  | r :: rs => match unpackS r with
    | none => none
    | some l => (candS rs).map (l ++ ·)
theorem candS_is : ∀ (rs : List (List Int)), candS rs = match candE rs with
    | none => none
    | some l => if short l = true then some l else none
  | [] => rfl
  | r :: rs => by
    unfold candS candE unpackS
    by_cases hg : (getL r).2.2 = 0 ∧ (getL r).1 ≤ 255
    · rw [if_pos hg, if_pos hg, takesS_is]
      cases takesE (getL r).1 [] (r.drop (getL r).2.1) with
      | none => rfl
      | some l =>
        simp only
        cases hl : short l with
        | true =>
          simp only [if_true]
          rw [candS_is rs]
          cases candE rs with
          | none => rfl
          | some m =>
            simp only [Option.map_some, short_app, hl, Bool.true_and]
            cases hm : short m with
            | true => rfl
            | false => rfl
        | false =>
          simp only [Bool.false_eq_true, if_false]
          cases candE rs with
          | none => rfl
          | some m =>
            simp only [Option.map_some, short_app, hl, Bool.false_and]
            rfl
    · rw [if_neg hg, if_neg hg]
/-- A run has no longer words. -/
theorem enc_short {l : List En} {s : Nat} (h : (encR l s).2 = 0) : short l = true := by
  have h1 := may_all (enc_ok.1 h).2.2
  simp only [short, List.all_eq_true, decide_eq_true_eq]
  intro e he
  exact (one_ok.1 (h1 e he)).2.1
/-- The landed Decode. -/
theorem dec_is (b : List Int) (hb : b.length < 18446744073709551616) : decL b =
    if b.length ≤ (scanR b).2 ∧ 2 ≤ (scanR b).1.length ∧ (getL ((scanR b).1.getD 0 [])).2.2 = 0 ∧ (getL ((scanR b).1.getD 0 [])).1 ≤ 255 then
      (match candS ((scanR b).1.drop 1).dropLast with
      | none => ([], 2)
      | some l => if (encR l (getL ((scanR b).1.getD 0 [])).1).2 = 0 ∧ (encR l (getL ((scanR b).1.getD 0 [])).1).1 = b then (l, 0) else ([], 2))
    else ([], 2) := by
  by_cases he : b.length ≤ (scanR b).2
  case neg =>
    rw [if_neg (fun h => he h.1)]
    rcases dec_cases b with ⟨l, s, h1, h2, h3, h4, h5⟩ | h5
    · exfalso
      have hl := run_len (l := l) h1
      have hs := scan_recs (runRows l s) [] (run_rows (run_ok ⟨h1, h2, h3⟩ (by rw [h4] at hb; omega))) get_nil
      rw [List.append_nil] at hs
      apply he
      rw [h4]
      show (runL l s).length ≤ (scanR (recs (runRows l s))).2
      rw [hs]
      exact Nat.le_refl _
    · exact h5
  by_cases hc : 2 ≤ (scanR b).1.length ∧ (getL ((scanR b).1.getD 0 [])).2.2 = 0 ∧ (getL ((scanR b).1.getD 0 [])).1 ≤ 255
  case neg =>
    rw [if_neg (fun h => hc h.2)]
    unfold decL candR
    rw [if_neg hc]
  rw [if_pos ⟨he, hc⟩, candS_is]
  unfold decL candR
  rw [if_pos hc]
  cases candE ((scanR b).1.drop 1).dropLast with
  | none => rfl
  | some l =>
    simp only [Option.map_some]
    by_cases hl : short l = true
    · rw [if_pos hl]
    · rw [if_neg hl, if_neg]
      intro h
      exact hl (enc_short h.1)
#print axioms dec_is

theorem get_row_len (zs : List Int) : (getR zs).1.length ≤ zs.length := by
  unfold getR
  split
  · simp
  · split
    · simp
    · split
      · simp
      · split
        · simp; omega
        · simp
theorem scanF_rows (f : Nat) : ∀ (zs : List Int), ∀ l ∈ (scanF f zs).1, l.length ≤ zs.length := by
  induction f with
  | zero => intro zs l hl; simp [scanF] at hl
  | succ f ih =>
    intro zs l hl
    unfold scanF at hl
    split at hl
    · simp only [List.mem_cons] at hl
      rcases hl with rfl | hl
      · exact get_row_len zs
      · have := ih _ l hl
        simp at this; omega
    · simp at hl
theorem scan_rows (zs : List Int) : ∀ l ∈ (scanR zs).1, l.length ≤ zs.length := scanF_rows _ zs

theorem candS_u64 : ∀ (rs : List (List Int)), (∀ r ∈ rs, isBytes r) → ∀ l, candS rs = some l → ∀ e ∈ l, e.2 ≤ 18446744073709551615 ∧ e.1.length ≤ 255
  | [], _, l, h, e, he => by
    cases h; simp at he
  | r :: rs, hb, l, h, e, he => by
    unfold candS at h
    have tk : ∀ (k : Nat) (was : Wd) (b : List Int), isBytes b → ∀ l, takesS k was b = some l → ∀ e ∈ l, e.2 ≤ 18446744073709551615 ∧ e.1.length ≤ 255 := by
      intro k
      induction k with
      | zero => intro was b _ l h e he; cases h; simp at he
      | succ k ih =>
        intro was b h8 l h e he
        unfold takesS at h
        cases ht : takeS was b with
        | none => rw [ht] at h; cases h
        | some x =>
          obtain ⟨a, n⟩ := x
          rw [ht] at h
          simp only [Option.map_eq_some_iff] at h
          obtain ⟨m, hm, rfl⟩ := h
          rcases List.mem_cons.1 he with rfl | he
          · exact ⟨takeS_u64 h8 ht, takeS_len ht⟩
          · exact ih _ _ (fun z hz => h8 z (List.mem_of_mem_drop hz)) m hm e he
    cases hu : unpackS r with
    | none => rw [hu] at h; cases h
    | some m =>
      rw [hu] at h
      simp only [Option.map_eq_some_iff] at h
      obtain ⟨q, hq, rfl⟩ := h
      rcases List.mem_append.1 he with he | he
      · unfold unpackS at hu
        split at hu
        · exact tk _ _ _ (fun z hz => hb r (by simp) z (List.mem_of_mem_drop hz)) m hu e he
        · cases hu
      · exact candS_u64 rs (fun x hx => hb x (by simp [hx])) q hq e he
theorem unpackS_len {r : List Int} {l : List En} (h : unpackS r = some l) : l.length ≤ 255 := by
  unfold unpackS at h
  split at h
  · rename_i hg
    have : ∀ (k : Nat) (was : Wd) (b : List Int) (l : List En), takesS k was b = some l → l.length = k := by
      intro k
      induction k with
      | zero => intro was b l h; cases h; rfl
      | succ k ih =>
        intro was b l h
        unfold takesS at h
        cases ht : takeS was b with
        | none => rw [ht] at h; cases h
        | some x =>
          obtain ⟨a, n⟩ := x
          rw [ht] at h
          simp only [Option.map_eq_some_iff] at h
          obtain ⟨m, hm, rfl⟩ := h
          simp [ih _ _ m hm]
    rw [this _ _ _ _ h]; exact hg.2
  · cases h
theorem candS_len : ∀ (rs : List (List Int)) (l : List En), candS rs = some l → l.length ≤ 255 * rs.length
  | [], l, h => by cases h; simp
  | r :: rs, l, h => by
    unfold candS at h
    cases hu : unpackS r with
    | none => rw [hu] at h; cases h
    | some m =>
      rw [hu] at h
      simp only [Option.map_eq_some_iff] at h
      obtain ⟨q, hq, rfl⟩ := h
      have h1 := unpackS_len hu
      have h2 := candS_len rs q hq
      simp only [List.length_append, List.length_cons]
      omega
theorem candS_snoc : ∀ (rs : List (List Int)) (r : List Int), candS (rs ++ [r]) = match candS rs with
    | none => none
    | some l => (unpackS r).map (l ++ ·)
  | [], r => by
    simp only [List.nil_append, candS]
    cases unpackS r with
    | none => rfl
    | some l => simp
  | a :: rs, r => by
    simp only [List.cons_append, candS]
    cases unpackS a with
    | none => rfl
    | some m =>
      simp only
      rw [candS_snoc rs r]
      cases candS rs with
      | none => rfl
      | some q =>
        cases unpackS r with
        | none => rfl
        | some p => simp
theorem candS_app : ∀ (a b : List (List Int)), candS a = none → candS (a ++ b) = none
  | [], _, h => by cases h
  | x :: a, b, h => by
    simp only [List.cons_append, candS] at h ⊢
    cases hu : unpackS x with
    | none => rfl
    | some m =>
      rw [hu] at h
      simp only [Option.map_eq_none_iff] at h ⊢
      exact candS_app a b h
theorem candS_stop {rs : List (List Int)} {k : Nat} (h : candS (rs.take k) = none) : candS rs = none := by
  have := candS_app _ (rs.drop k) h
  rwa [List.take_append_drop] at this
#print axioms candS_stop
end Go.Proofs.Ytgnhnhachhfafaa
