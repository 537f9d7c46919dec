/- How a slice of bools that came in is shown to a walk. -/
import Derived.Test.YtabecgeemhkkmaaOpen
import Derived.Deep.Strs
import Derived.Deep.SlicePairs
namespace Go.Proofs.Ytabecgeemhkkmaa
open Go.ChangeShapes Go.WideShapes Go.ChangeAt Go.RowKit
set_option linter.unusedVariables false
set_option linter.unusedSimpArgs false

theorem bools_in {H : Type} {enc : TypeId × Value → H} {P : Program} {W : World} {t e : TypeId} {B : Nat} (hu : P.underlying t = some (.slice e)) (he : P.underlying e = some .bool) (ce : P.cellsOf e = 1) (hB : P.bytesOf e = B)
    {ts : List TypeId} {ds : List (DataW H)} (hsz : (DataW.weightsEach P ts ds).all (· ≤ reachBytes) = true) {j : Nat} {a : Option Addr} {len cap : Nat} {d : DataW H} {p : List MemPlace} (ht : ts[j]? = some t) (hd : ds[j]? = some d)
    (h : DataW.Trod enc P W 0 (fun _ => true) true t (.slice a len cap) d p) :
    ∃ zs : List Bool, Reads W a len cap (zs.map .bool) ∧ len * B ≤ 140737488351232 := by
  obtain ⟨fuel, hf⟩ := h
  rcases Go.Deep.open_slice hu hf with ⟨hcs, _⟩ | ⟨x, l, c, m, n, D, Pl, hcs, _, hl, hm, hmm, hx, hcell⟩
  · simp [Value.cells] at hcs
    obtain ⟨rfl, rfl, rfl⟩ := hcs
    exact ⟨[], Reads.nil W, by omega⟩
  · simp [Value.cells] at hcs
    obtain ⟨rfl, rfl, rfl⟩ := hcs
    simp only [if_true] at hmm
    subst hmm
    simp only [Prod.mk.injEq] at hx
    have hb := sized_slice hsz (e := e) ht (by rw [hd, hx.1]) hu
    rw [hB] at hb
    simp only [List.length_map, List.length_range, reachBytes] at hb
    have each : ∀ i, i < m → ∃ q : Bool, W.cell? (x.add i) = some (.bool q) := by
      intro i hi
      obtain ⟨cs', h1, h2⟩ := hcell i hi
      rw [ce, Nat.mul_one] at h1
      obtain ⟨_, hlen, hc⟩ := World.cells?_some h1
      match cs', hlen with
      | [v0], _ =>
        obtain ⟨q, e1, _⟩ := DataW.trod_bool he h2
        simp only [List.cons.injEq, and_true] at e1
        subst e1
        have q0 := hc 0 (by omega)
        refine ⟨q, ?_⟩
        rw [Go.Deep.add_add] at q0
        simpa using q0
    obtain ⟨q, hq⟩ := Go.Deep.choose_lt each
    refine ⟨(List.range len).map q, ⟨by simp, hl, hm, fun h => (by cases h), fun y hy i u hu => ?_⟩, ?_⟩
    · cases hy
      have hi : i < len := by
        have := (List.getElem?_eq_some_iff.1 hu).1
        simp at this; omega
      rw [hq i (by omega)]
      simp [hi] at hu
      rw [← hu]
    · have e1 : len + (m - len) = m := by omega
      rw [e1] at hb
      exact Nat.le_trans (Nat.mul_le_mul_right B hl) hb
end Go.Proofs.Ytabecgeemhkkmaa
