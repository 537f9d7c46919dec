/- A slice of states among the arguments. -/
import Derived.Test.YtkcledkfgmdcgaaStates
import Derived.ChangeArms
namespace Go.Proofs.Ytkcledkfgmdcgaa
open Go.ChangeShapes Go.WideShapes Go.ChangeAt Go.RowKit
set_option linter.unusedVariables false
set_option linter.unusedSimpArgs false

theorem eds_open {H : Type} {enc : TypeId × Value → H} {P : Program} {W : World} {t e : TypeId} {f0 f1 : Field} (hu : P.underlying t = some (.slice e)) (he : P.underlying e = some (.struct #[f0, f1])) (ce : P.cellsOf e = 2)
    (o0 : f0.offset = 0) (o1 : f1.offset = 1) (c0 : P.cellsOf f0.type = 1) (c1 : P.cellsOf f1.type = 1)
    (u0 : P.underlying f0.type = some (.int .u8)) (u1 : P.underlying f1.type = some (.int .i64))
    {fuel : Nat} {cs : List Value} {x : DataW H × List MemPlace} (hf : DataW.trod enc P W 0 (fun _ => true) true fuel t cs = some x) :
    ∃ a len cap, ∃ zs : List (UInt8 × Int), cs = [.slice a len cap] ∧ ReadsE W a len cap (cellsEd zs) ∧ ∀ z ∈ zs, -9223372036854775808 ≤ z.2 ∧ z.2 ≤ 9223372036854775807 := by
  rcases Go.Deep.open_slice hu hf with ⟨hcs, _⟩ | ⟨x, len, cap, m, n, D, Pl, hcs, _, hl, hm, hmm, hx, hcell⟩
  · exact ⟨none, 0, 0, [], hcs, ⟨rfl, Nat.le_refl _, Nat.zero_le _, fun _ => ⟨rfl, rfl⟩, fun a ha => by cases ha⟩, fun z hz => by simp at hz⟩
  · simp only [if_true] at hmm
    subst hmm
    have each : ∀ i, i < m → ∃ q : UInt8 × Int, W.cell? (x.add (i * 2)) = some (.int .u8 (q.1.toNat : Nat)) ∧ W.cell? (x.add (i * 2 + 1)) = some (.int .i64 q.2) ∧ -9223372036854775808 ≤ q.2 ∧ q.2 ≤ 9223372036854775807 := by
      intro i hi
      obtain ⟨cs', h1, h2⟩ := hcell i hi
      rw [ce] at h1
      obtain ⟨_, hlen, hc⟩ := World.cells?_some h1
      obtain ⟨xs, n', _, hxy, _, hlen2, hff⟩ := DataW.trod_struct he h2
      match xs, hlen2 with
      | [y0, y1], _ =>
        have g0 := hff 0 f0 rfl
        have g1 := hff 1 f1 rfl
        match cs', hlen with
        | [v0, v1], _ =>
          simp [o0, o1, c0, c1] at g0 g1
          obtain ⟨n1, e1, r1, wf1⟩ := DataW.trod_int u0 g0
          obtain ⟨n2, e2, r2, wf2⟩ := DataW.trod_int u1 g1
          have b1 := bounds_u8 wf1
          have b2 := bounds_i64 wf2
          obtain ⟨k1, rfl⟩ := Int.eq_ofNat_of_zero_le b1.1
          simp only [List.cons.injEq, and_true] at e1 e2
          subst e1 e2
          have q0 := hc 0 (by omega)
          have q1 := hc 1 (by omega)
          rw [Go.Deep.add_add] at q0 q1
          refine ⟨(UInt8.ofNat k1, n2), ?_, by simpa using q1, b2.1, b2.2⟩
          have : (UInt8.ofNat k1).toNat = k1 := by
            rw [UInt8.toNat_ofNat']
            exact Nat.mod_eq_of_lt (by omega)
          simp only [this]; simpa using q0
    obtain ⟨q, hq⟩ := Go.Deep.choose_lt each
    refine ⟨some x, len, m, (List.range len).map q, hcs, ⟨by rw [cellsEd_len]; simp, hl, hm, fun h => (by cases h), fun y hy i u hu => ?_⟩, fun z hz => ?_⟩
    · cases hy
      have hi : i < len * 2 := by
        have := (List.getElem?_eq_some_iff.1 hu).1
        rw [cellsEd_len] at this
        simpa using this
      obtain ⟨k, hk⟩ : ∃ k, i = k * 2 ∨ i = k * 2 + 1 := ⟨i / 2, by omega⟩
      have hkl : k < len := by omega
      have he' : ((List.range len).map q)[k]? = some (q k) := by simp [hkl]
      have := cellsEd_at he'
      rcases hk with rfl | rfl
      · rw [this.1] at hu
        cases hu
        exact (hq k (by omega)).1
      · rw [this.2] at hu
        cases hu
        exact (hq k (by omega)).2.1
    · simp only [List.mem_map, List.mem_range] at hz
      obtain ⟨i, hi, rfl⟩ := hz
      exact (hq i (by omega)).2.2
theorem states_in {H : Type} {enc : TypeId × Value → H} {P : Program} {W : World} {t s e : TypeId} {g0 g1 f0 f1 : Field} {B : Nat} (hu : P.underlying t = some (.slice s)) (hs : P.underlying s = some (.struct #[g0, g1])) (cs2 : P.cellsOf s = 2)
    (p0 : g0.offset = 0) (p1 : g1.offset = 1) (d0 : P.cellsOf g0.type = 1) (d1 : P.cellsOf g1.type = 1) (v0 : P.underlying g0.type = some .bool) (v1 : P.underlying g1.type = some (.slice e))
    (he : P.underlying e = some (.struct #[f0, f1])) (ce : P.cellsOf e = 2) (o0 : f0.offset = 0) (o1 : f1.offset = 1) (c0 : P.cellsOf f0.type = 1) (c1 : P.cellsOf f1.type = 1)
    (u0 : P.underlying f0.type = some (.int .u8)) (u1 : P.underlying f1.type = some (.int .i64)) (hB : P.bytesOf s = B)
    {ts : List TypeId} {ds : List (DataW H)} (hsz : (DataW.weightsEach P ts ds).all (· ≤ reachBytes) = true) {j : Nat} {a : Option Addr} {len cap : Nat} {d : DataW H} {p : List MemPlace} (ht : ts[j]? = some t) (hd : ds[j]? = some d)
    (h : DataW.Trod enc P W 0 (fun _ => true) true t (.slice a len cap) d p) :
    ∃ A : List StZ, ReadsA W a len cap A ∧ (∀ x ∈ A, ∀ z ∈ x.2, -9223372036854775808 ≤ z.2 ∧ z.2 ≤ 9223372036854775807) ∧ len * B ≤ 140737488351232 := by
  obtain ⟨fuel, hf⟩ := h
  rcases Go.Deep.open_slice hu hf with ⟨hcs, _⟩ | ⟨x, l, c, m, n, D, Pl, hcs, _, hl, hm, hmm, hx, hcell⟩
  · simp [Value.cells] at hcs
    obtain ⟨rfl, rfl, rfl⟩ := hcs
    exact ⟨[], ⟨[], rfl, ⟨rfl, Nat.le_refl _, Nat.zero_le _, fun _ => ⟨rfl, rfl⟩, fun a ha => by cases ha⟩, fun i p s h => by simp at h⟩, fun z hz => by simp at hz, by omega⟩
  · simp [Value.cells] at hcs
    obtain ⟨rfl, rfl, rfl⟩ := hcs
    simp only [if_true] at hmm
    subst hmm
    simp only [Prod.mk.injEq] at hx
    have hb := sized_slice hsz (e := s) ht (by rw [hd, hx.1]) hu
    rw [hB] at hb
    simp only [List.length_map, List.length_range, reachBytes] at hb
    have each : ∀ i, i < m → ∃ q : Bool × (Option Addr × Nat × Nat) × List (UInt8 × Int), W.cell? (x.add (i * 2)) = some (.bool q.1) ∧ W.cell? (x.add (i * 2 + 1)) = some (.slice q.2.1.1 q.2.1.2.1 q.2.1.2.2) ∧ ReadsE W q.2.1.1 q.2.1.2.1 q.2.1.2.2 (cellsEd q.2.2) ∧ ∀ z ∈ q.2.2, -9223372036854775808 ≤ z.2 ∧ z.2 ≤ 9223372036854775807 := by
      intro i hi
      obtain ⟨cs', h1, h2⟩ := hcell i hi
      rw [cs2] at h1
      obtain ⟨_, hlen, hc⟩ := World.cells?_some h1
      obtain ⟨xs, n', _, hxy, _, hlen2, hff⟩ := DataW.trod_struct hs h2
      match xs, hlen2 with
      | [y0, y1], _ =>
        have k0 := hff 0 g0 rfl
        have k1 := hff 1 g1 rfl
        match cs', hlen with
        | [w0, w1], _ =>
          simp [p0, p1, d0, d1] at k0 k1
          obtain ⟨b1, e1, r1⟩ := DataW.trod_bool v0 k0
          obtain ⟨ea, el, ec, zs, e2, r2, r3⟩ := eds_open v1 he ce o0 o1 c0 c1 u0 u1 k1
          simp only [List.cons.injEq, and_true] at e1 e2
          subst e1 e2
          have q0 := hc 0 (by omega)
          have q1 := hc 1 (by omega)
          rw [Go.Deep.add_add] at q0 q1
          exact ⟨(b1, (ea, el, ec), zs), by simpa using q0, by simpa using q1, r2, r3⟩
    obtain ⟨q, hq⟩ := Go.Deep.choose_lt each
    refine ⟨(List.range len).map fun i => ((q i).1, (q i).2.2), ⟨(List.range len).map fun i => ((q i).1, .slice (q i).2.1.1 (q i).2.1.2.1 (q i).2.1.2.2), by simp, ⟨by rw [cellsA_len]; simp, hl, hm, fun h => (by cases h), fun y hy i u hu => ?_⟩, fun i p s hp hs => ?_⟩, fun z hz => ?_, ?_⟩
    · cases hy
      have hi : i < len * 2 := by
        have := (List.getElem?_eq_some_iff.1 hu).1
        rw [cellsA_len] at this
        simpa using this
      obtain ⟨k, hk⟩ : ∃ k, i = k * 2 ∨ i = k * 2 + 1 := ⟨i / 2, by omega⟩
      have hkl : k < len := by omega
      have he' : ((List.range len).map fun i => ((q i).1, Value.slice (q i).2.1.1 (q i).2.1.2.1 (q i).2.1.2.2))[k]? = some ((q k).1, .slice (q k).2.1.1 (q k).2.1.2.1 (q k).2.1.2.2) := by simp [hkl]
      have := cellsA_at he'
      rcases hk with rfl | rfl
      · rw [this.1] at hu
        cases hu
        exact (hq k (by omega)).1
      · rw [this.2] at hu
        cases hu
        exact (hq k (by omega)).2.1
    · have hi : i < len := by
        have := (List.getElem?_eq_some_iff.1 hp).1
        simpa using this
      simp [hi] at hp hs
      obtain ⟨_, _, h3, _⟩ := hq i (by omega)
      subst hp hs
      have hl2 : (q i).2.2.length = (q i).2.1.2.1 := by
        have := h3.length
        rw [cellsEd_len] at this; omega
      refine ⟨rfl, (q i).2.1.1, (q i).2.1.2.2, by simp only [hl2], ?_⟩
      simp only [hl2]; exact h3
    · simp only [List.mem_map, List.mem_range] at hz
      obtain ⟨i, hi, rfl⟩ := hz
      exact (hq i (by omega)).2.2.2
    · have e1 : len + (m - len) = m := by omega
      rw [e1] at hb
      exact Nat.le_trans (Nat.mul_le_mul_right B hl) hb
end Go.Proofs.Ytkcledkfgmdcgaa
