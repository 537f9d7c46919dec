/- A slice of slices of bytes: what it shows; how one that came in is shown to a walk. -/
import Derived.Test.YtgnhnhachhfafaaBase
import Derived.Test.YtgnhnhachhfafaaCuts
import Derived.ProofKit
import Derived.OpenShut
import Derived.SizedLaws
import Derived.Deep.Matrix
namespace Go.Proofs.Ytgnhnhachhfafaa
open Go.ChangeShapes Go.WideShapes Go.ChangeAt Go.RowKit

structure ReadsRows (w : World) (ao : Option Addr) (len cap : Nat) (ls : List (List Int)) : Prop where
  length : ls.length = len
  le : len ≤ cap
  most : cap ≤ maxLen
  bare : ao = none → len = 0 ∧ cap = 0
  row : ∀ a, ao = some a → ∀ i l, ls[i]? = some l → ∃ ai li ci, w.cell? (a.add i) = some (.slice ai li ci) ∧ Reads w ai li ci (l.map (.int .u8))

theorem ReadsRows.nil (w : World) : ReadsRows w none 0 0 [] := ⟨rfl, Nat.le_refl _, Nat.zero_le _, fun _ => ⟨rfl, rfl⟩, fun _ h => by cases h⟩

theorem ReadsRows.later {w w' : World} {ao : Option Addr} {len cap : Nat} {ls : List (List Int)} {B : Nat} (h : ReadsRows w ao len cap ls) (hb : Below B w w') (hB : w.heap.size ≤ B) : ReadsRows w' ao len cap ls :=
  ⟨h.length, h.le, h.most, h.bare, fun a ha i l hl => by
    obtain ⟨ai, li, ci, hc, hr⟩ := h.row a ha i l hl
    have hlt := World.block_lt_of_cell? w _ hc
    exact ⟨ai, li, ci, by rw [hb.cell (by omega)]; exact hc, hr.later hb hB⟩⟩

/-- At a place within. -/
theorem ReadsRows.at {w : World} {ao : Option Addr} {len cap : Nat} {ls : List (List Int)} (h : ReadsRows w ao len cap ls) (hp : 0 < len) :
    ∃ b off, ao = some ⟨b, off, none⟩ ∧ b < w.heap.size ∧ ∀ i, i < len → ∃ ai li ci, w.cell? ⟨b, off + i, none⟩ = some (.slice ai li ci) ∧ Reads w ai li ci ((ls.getD i []).map (.int .u8)) := by
  have hl := h.length
  cases ao with
  | none => have := h.bare rfl; omega
  | some a =>
    obtain ⟨b, off, spot⟩ := a
    obtain ⟨a0, l0, c0, h0, _⟩ := h.row _ rfl 0 (ls.getD 0 []) (by simp [List.getD, show 0 < ls.length by omega])
    have hspot : spot = none := by simpa [Addr.add] using World.cell?_spot h0
    subst hspot
    refine ⟨b, off, rfl, by simpa [Addr.add] using World.block_lt_of_cell? w _ h0, fun i hi => ?_⟩
    obtain ⟨ai, li, ci, hc, hr⟩ := h.row _ rfl i (ls.getD i []) (by simp [List.getD, show i < ls.length by omega])
    exact ⟨ai, li, ci, by simpa [Addr.add_lit] using hc, hr⟩

/-- Values that are slices, each of which shows a list. -/
structure RowVals (w : World) (vs : List Value) (ls : List (List Int)) : Prop where
  length : vs.length = ls.length
  row : ∀ (i : Nat) (v : Value) (l : List Int), vs[i]? = some v → ls[i]? = some l → ∃ ai li ci, v = .slice ai li ci ∧ Reads w ai li ci (l.map (.int .u8))

theorem RowVals.nil (w : World) : RowVals w [] [] := ⟨rfl, fun i v l h => by simp at h⟩
theorem RowVals.later {w w' : World} {vs : List Value} {ls : List (List Int)} {B : Nat} (h : RowVals w vs ls) (hb : Below B w w') (hB : w.heap.size ≤ B) : RowVals w' vs ls :=
  ⟨h.length, fun i v l hv hl => by obtain ⟨ai, li, ci, e, hr⟩ := h.row i v l hv hl; exact ⟨ai, li, ci, e, hr.later hb hB⟩⟩
theorem RowVals.append {w : World} {vs us : List Value} {ls ms : List (List Int)} (h : RowVals w vs ls) (k : RowVals w us ms) : RowVals w (vs ++ us) (ls ++ ms) :=
  ⟨by simp [h.length, k.length], fun i v l hv hl => by
    by_cases hi : i < vs.length
    · rw [List.getElem?_append_left hi] at hv
      rw [List.getElem?_append_left (by rw [← h.length]; exact hi)] at hl
      exact h.row i v l hv hl
    · rw [List.getElem?_append_right (by omega)] at hv
      rw [List.getElem?_append_right (by rw [← h.length]; omega), ← h.length] at hl
      exact k.row _ v l hv hl⟩
theorem RowVals.one {w : World} {ai : Option Addr} {li ci : Nat} {l : List Int} (h : Reads w ai li ci (l.map (.int .u8))) : RowVals w [.slice ai li ci] [l] :=
  ⟨rfl, fun i v l' hv hl => by
    match i, hv, hl with
    | 0, hv, hl => simp at hv hl; subst hv hl; exact ⟨ai, li, ci, rfl, h⟩⟩
theorem RowVals.take {w : World} {vs : List Value} {ls : List (List Int)} (h : RowVals w vs ls) (n : Nat) : RowVals w (vs.take n) (ls.take n) :=
  ⟨by simp [h.length], fun i v l hv hl => by
    by_cases hi : i < n
    · rw [List.getElem?_take_of_lt hi] at hv hl
      exact h.row i v l hv hl
    · rw [List.getElem?_take_eq_none (by omega)] at hv; cases hv⟩
theorem RowVals.oneCell {w : World} {vs : List Value} {ls : List (List Int)} (h : RowVals w vs ls) : ∀ u ∈ vs, u.oneCell' = true := fun u hu => by
  obtain ⟨i, hi, rfl⟩ := List.mem_iff_getElem.1 hu
  obtain ⟨ai, li, ci, e, _⟩ := h.row i vs[i] (ls[i]'(by rw [← h.length]; exact hi)) (List.getElem?_eq_getElem hi) (List.getElem?_eq_getElem _)
  rw [e]; rfl

theorem ReadsRows.of {w : World} {ao : Option Addr} {len cap : Nat} {vs : List Value} {ls : List (List Int)} (h : Reads w ao len cap vs) (hv : RowVals w vs ls) : ReadsRows w ao len cap ls :=
  ⟨by rw [← hv.length]; exact h.length, h.le, h.most, h.bare, fun a ha i l hl => by
    have hi : i < vs.length := by rw [hv.length]; exact (List.getElem?_eq_some_iff.1 hl).1
    obtain ⟨ai, li, ci, e, hr⟩ := hv.row i vs[i] l (List.getElem?_eq_getElem hi) hl
    exact ⟨ai, li, ci, by rw [← e]; exact h.cell a ha i _ (List.getElem?_eq_getElem hi), hr⟩⟩

theorem ReadsRows.vals {w : World} {ao : Option Addr} {len cap : Nat} {ls : List (List Int)} (h : ReadsRows w ao len cap ls) : ∃ vs, Reads w ao len cap vs ∧ RowVals w vs ls := by
  have hl := h.length
  cases ao with
  | none =>
    obtain ⟨rfl, rfl⟩ := h.bare rfl
    obtain rfl : ls = [] := List.eq_nil_of_length_eq_zero hl
    exact ⟨[], Reads.nil w, RowVals.nil w⟩
  | some a =>
    refine ⟨(List.range len).map fun i => (w.cell? (a.add i)).getD undef, ⟨by simp, h.le, h.most, fun h => (by cases h), fun b hb i u hu => ?_⟩, ⟨by simp [hl], fun i v l hv hl' => ?_⟩⟩
    · cases hb
      have hi : i < len := by have := (List.getElem?_eq_some_iff.1 hu).1; simpa using this
      obtain ⟨ai, li, ci, hc, _⟩ := h.row a rfl i ls[i] (List.getElem?_eq_getElem (by omega))
      simp [hi, hc] at hu
      rw [hc, hu]
    · have hi : i < len := by have := (List.getElem?_eq_some_iff.1 hv).1; simpa using this
      obtain ⟨ai, li, ci, hc, hr⟩ := h.row a rfl i l hl'
      simp [hi, hc] at hv
      exact ⟨ai, li, ci, hv.symm, hr⟩

theorem rows_in {H : Type} {enc : TypeId × Value → H} {P : Program} {W : World} {t e q : TypeId} {B : Nat} (hu : P.underlying t = some (.slice e)) (he : P.underlying e = some (.slice q)) (hq : P.underlying q = some (.int .u8)) (hce : P.cellsOf e = 1) (hcq : P.cellsOf q = 1) (hB : P.bytesOf e = B)
    {ts : List TypeId} {ds : List (DataW H)} (hsz : (DataW.weightsEach P ts ds).all (· ≤ reachBytes) = true) {j : Nat} {a : Option Addr} {len cap : Nat} {d : DataW H} {p : List MemPlace} (ht : ts[j]? = some t) (hd : ds[j]? = some d)
    (h : DataW.Trod enc P W 0 (fun _ => true) true t (.slice a len cap) d p) :
    ∃ ls : List (List Int), ReadsRows W a len cap ls ∧ (∀ l ∈ ls, isBytes l) ∧ len * B ≤ 140737488351232 := by
  obtain ⟨fuel, hf⟩ := h
  rcases Go.Deep.open_int_rows hu he hq hce hcq hf with ⟨hcs, _⟩ | ⟨x, l, c, A, L, C, Z, hcs, _, hl, hm, hx, hrow⟩
  · simp [Value.cells] at hcs
    obtain ⟨rfl, rfl, rfl⟩ := hcs
    exact ⟨[], ReadsRows.nil W, fun z hz => by simp at hz, by omega⟩
  · simp [Value.cells] at hcs
    obtain ⟨rfl, rfl, rfl⟩ := hcs
    simp only [Prod.mk.injEq] at hx
    have hb := sized_slice hsz (e := e) ht (by rw [hd, hx.1]) hu
    rw [hB] at hb
    simp only [List.length_map, List.length_range, reachBytes] at hb
    refine ⟨(List.range len).map fun r => (Z r).take (L r), ⟨by simp, hl, hm, fun h => (by cases h), fun y hy i u hu => ?_⟩, ?_, ?_⟩
    · cases hy
      have hi : i < len := by
        have := (List.getElem?_eq_some_iff.1 hu).1
        simpa using this
      obtain ⟨r1, r2, r3, r4, r5, r6, r7⟩ := hrow i (by omega)
      have hu' : u = (Z i).take (L i) := by simpa [hi] using hu.symm
      refine ⟨A i, L i, C i, r1, ⟨by rw [hu']; simp; omega, r2, r3, fun hn => by have := r6 hn; omega, fun a' ha' jj uu huu => ?_⟩⟩
      rw [hu'] at huu
      have hjj : jj < L i ∧ jj < (Z i).length := by
        have := (List.getElem?_eq_some_iff.1 huu).1
        simp at this; omega
      rw [(r7 a' ha').2 jj (by omega)]
      simp [List.getElem?_eq_getElem hjj.2, hjj.1] at huu
      simp [List.getD, List.getElem?_eq_getElem hjj.2, huu]
    · intro l hl' z hz
      simp only [List.mem_map, List.mem_range] at hl'
      obtain ⟨r, hr, rfl⟩ := hl'
      exact bounds_u8 ((hrow r (by omega)).2.2.2.2.1 z (List.mem_of_mem_take hz))
    · have e1 : len + (cap - len) = cap := by omega
      rw [e1] at hb
      exact Nat.le_trans (Nat.mul_le_mul_right B hl) hb
end Go.Proofs.Ytgnhnhachhfafaa
