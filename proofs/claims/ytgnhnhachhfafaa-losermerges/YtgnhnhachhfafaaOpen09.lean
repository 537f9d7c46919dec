/- How a slice of entries that came in is shown to a walk. -/
import Derived.Test.YtgnhnhachhfafaaEn2
import Derived.Test.YtgnhnhachhfafaaOpen
import Derived.Test.YtgnhnhachhfafaaOpen08
namespace Go.Proofs.Ytgnhnhachhfafaa
open Go.ChangeShapes Go.WideShapes Go.ChangeAt Go.RowKit
set_option linter.unusedVariables false
set_option linter.unusedSimpArgs false

theorem entries_in {H : Type} {enc : TypeId × Value → H} {P : Program} {W : World} {t e : TypeId} {f0 f1 : Field} {B : Nat} (hu : P.underlying t = some (.slice e)) (he : P.underlying e = some (.struct #[f0, f1])) (ce : P.cellsOf e = 2)
    (o0 : f0.offset = 0) (o1 : f1.offset = 1) (c0 : P.cellsOf f0.type = 1) (c1 : P.cellsOf f1.type = 1)
    (u0 : P.underlying f0.type = some .string) (u1 : P.underlying f1.type = some (.int .u64)) (hB : P.bytesOf e = B)
    {ts : List TypeId} {ds : List (DataW H)} (hsz : (DataW.weightsEach P ts ds).all (· ≤ reachBytes) = true) {j : Nat} {a : Option Addr} {len cap : Nat} {d : DataW H} {p : List MemPlace} (ht : ts[j]? = some t) (hd : ds[j]? = some d)
    (h : DataW.Trod enc P W 0 (fun _ => true) true t (.slice a len cap) d p) :
    ∃ zs : List En, ReadsE W a len cap (cellsE zs) ∧ (∀ z ∈ zs, z.1.length ≤ 140737488351232 ∧ z.2 ≤ 18446744073709551615) ∧ len * B ≤ 140737488351232 := by
  obtain ⟨fuel, hf⟩ := h
  rcases Go.Deep.open_slice hu hf with ⟨hcs, _⟩ | ⟨x, l, c, m, n, D, Pl, hcs, _, hl, hm, hmm, hx, hcell⟩
  · simp [Value.cells] at hcs
    obtain ⟨rfl, rfl, rfl⟩ := hcs
    exact ⟨[], ⟨rfl, Nat.le_refl _, Nat.zero_le _, fun _ => ⟨rfl, rfl⟩, fun a ha => by cases ha⟩, fun z hz => by simp at hz, by omega⟩
  · simp [Value.cells] at hcs
    obtain ⟨rfl, rfl, rfl⟩ := hcs
    simp only [if_true] at hmm
    subst hmm
    simp only [Prod.mk.injEq] at hx
    have hb := sized_slice hsz (e := e) ht (by rw [hd, hx.1]) hu
    rw [hB] at hb
    simp only [List.length_map, List.length_range, reachBytes] at hb
    have each : ∀ i, i < m → ∃ q : En, W.cell? (x.add (i * 2)) = some (strV q.1) ∧ W.cell? (x.add (i * 2 + 1)) = some (.int .u64 q.2) ∧ (q.2 : Int) ≤ 18446744073709551615 ∧ D i = .agg [.lit (.string q.1), .lit (.int .u64 q.2)] := by
      intro i hi
      obtain ⟨cs', h1, h2⟩ := hcell i hi
      rw [ce] at h1
      obtain ⟨_, hlen, hc⟩ := World.cells?_some h1
      obtain ⟨xs, n', _, hxy, _, hlen2, hff⟩ := DataW.trod_struct he h2
      match xs, hlen2 with
      | [y0, y1], _ =>
        have g0 := hff 0 f0 rfl
        have g1 := hff 1 f1 rfl
        match cs', hlen with
        | [v0, v1], _ =>
          simp [o0, o1, c0, c1] at g0 g1
          obtain ⟨s1, e1, r1, _⟩ := DataW.trod_string u0 g0
          obtain ⟨n2, e2, r2, wf2⟩ := DataW.trod_int u1 g1
          have b2 := bounds_u64 wf2
          obtain ⟨k2, rfl⟩ := Int.eq_ofNat_of_zero_le b2.1
          simp only [List.cons.injEq, and_true] at e1 e2
          subst e1 e2
          have q0 := hc 0 (by omega)
          have q1 := hc 1 (by omega)
          rw [Go.Deep.add_add] at q0 q1
          simp only [Prod.mk.injEq] at hxy
          refine ⟨(s1.data.toList, k2), ?_, by simpa using q1, b2.2, ?_⟩
          · simp only [strV, bytes_list]; simpa using q0
          · rw [hxy.1]; simp [r1, r2]
    obtain ⟨q, hq⟩ := Go.Deep.choose_lt each
    refine ⟨(List.range len).map q, ⟨by rw [cells_len]; simp, hl, hm, fun h => (by cases h), fun y hy i u hu => ?_⟩, fun z hz => ?_, ?_⟩
    · cases hy
      have hi : i < len * 2 := by
        have := (List.getElem?_eq_some_iff.1 hu).1
        rw [cells_len] at this
        simpa using this
      obtain ⟨k, hk⟩ : ∃ k, i = k * 2 ∨ i = k * 2 + 1 := ⟨i / 2, by omega⟩
      have hkl : k < len := by omega
      have he' : ((List.range len).map q)[k]? = some (q k) := by simp [hkl]
      have := cells_at he'
      rcases hk with rfl | rfl
      · rw [this.1] at hu
        cases hu
        exact (hq k (by omega)).1
      · rw [this.2] at hu
        cases hu
        exact (hq k (by omega)).2.1
    · simp only [List.mem_map, List.mem_range] at hz
      obtain ⟨i, hi, rfl⟩ := hz
      obtain ⟨_, _, w2, w3⟩ := hq i (by omega)
      refine ⟨?_, by omega⟩
      have := sized_elem hsz (e := e) ht (by rw [hd, hx.1]) hu (d := D i) (List.mem_map.2 ⟨i, List.mem_range.2 hi, rfl⟩) (n := (q i).1.length) (by rw [w3]; simp [DataW.weights, he, DataW.weightsEach])
      simpa [reachBytes] using this
    · have e1 : len + (m - len) = m := by omega
      rw [e1] at hb
      exact Nat.le_trans (Nat.mul_le_mul_right B hl) hb
end Go.Proofs.Ytgnhnhachhfafaa
