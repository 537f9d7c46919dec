/- How a slice of words, and one of deeds, that came in is shown to a walk. -/
import Derived.Test.YtgnhnhachhfafaaEnBase
import Derived.Test.YtgnhnhachhfafaaOpen
import Derived.Deep.Strs
import Derived.Deep.SlicePairs
namespace Go.Proofs.Ytgnhnhachhfafaa
open Go.ChangeShapes Go.WideShapes Go.ChangeAt Go.RowKit
set_option linter.unusedVariables false
set_option linter.unusedSimpArgs false

theorem weights_all {H : Type} {P : Program} {e : TypeId} {n : Nat} : ∀ {l : List (DataW H)} {d : DataW H}, d ∈ l → n ∈ d.weights P e → n ∈ DataW.weightsAll P e l
  | a :: l, d, hd, hn => by
    simp only [DataW.weightsAll, List.mem_append]
    rcases List.mem_cons.1 hd with rfl | hd
    · exact .inl hn
    · exact .inr (weights_all hd hn)
theorem sized_elem {H : Type} {P : Program} {ts : List TypeId} {ds : List (DataW H)} (h : (DataW.weightsEach P ts ds).all (· ≤ reachBytes) = true) {j : Nat} {t e : TypeId} {elems spare : List (DataW H)} (ht : ts[j]? = some t) (hd : ds[j]? = some (.slice elems spare)) (hu : P.underlying t = some (.slice e))
    {d : DataW H} (hm : d ∈ elems) {n : Nat} (hn : n ∈ d.weights P e) : n ≤ reachBytes := by
  have := List.all_eq_true.1 h n (DataW.weights_mem_each ht hd n (by simp only [DataW.weights, hu, List.mem_cons, List.mem_append]; exact .inr (.inl (weights_all hm hn))))
  simpa using this

theorem strs_in {H : Type} {enc : TypeId × Value → H} {P : Program} {W : World} {t e : TypeId} {B : Nat} (hu : P.underlying t = some (.slice e)) (he : P.underlying e = some .string) (hc : P.cellsOf e = 1) (hB : P.bytesOf e = B)
    {ts : List TypeId} {ds : List (DataW H)} (hsz : (DataW.weightsEach P ts ds).all (· ≤ reachBytes) = true) {j : Nat} {a : Option Addr} {len cap : Nat} {d : DataW H} {p : List MemPlace} (ht : ts[j]? = some t) (hd : ds[j]? = some d)
    (h : DataW.Trod enc P W 0 (fun _ => true) true t (.slice a len cap) d p) :
    ∃ zs : List Wd, Reads W a len cap (zs.map strV) ∧ (∀ z ∈ zs, z.length ≤ 140737488351232) ∧ len * B ≤ 140737488351232 := by
  obtain ⟨fuel, hf⟩ := h
  rcases Go.Deep.open_strs hu he hc hf with ⟨hcs, _⟩ | ⟨x, l, c, m, Sx, hcs, _, hl, hm, hmm, hx, hcell⟩
  · simp [Value.cells] at hcs
    obtain ⟨rfl, rfl, rfl⟩ := hcs
    exact ⟨[], Reads.nil W, fun z hz => by simp at hz, by omega⟩
  · simp [Value.cells] at hcs
    obtain ⟨rfl, rfl, rfl⟩ := hcs
    simp only [if_true] at hmm
    subst hmm
    simp only [Prod.mk.injEq] at hx
    have hb := sized_slice hsz (e := e) ht (by rw [hd, hx.1]) hu
    rw [hB] at hb
    simp only [List.length_map, List.length_range, reachBytes] at hb
    refine ⟨(List.range len).map fun i => (Sx i).data.toList, ⟨by simp, hl, hm, fun h => (by cases h), fun y hy i u hu => ?_⟩, fun z hz => ?_, ?_⟩
    · cases hy
      have hi : i < len := by
        have := (List.getElem?_eq_some_iff.1 hu).1
        simp at this; omega
      rw [(hcell i (by omega)).1]
      simp [hi] at hu
      rw [← hu]
    · simp only [List.mem_map, List.mem_range] at hz
      obtain ⟨i, hi, rfl⟩ := hz
      have := sized_elem hsz (e := e) ht (by rw [hd, hx.1]) hu (d := .lit (.string (Sx i).data.toList)) (List.mem_map.2 ⟨i, List.mem_range.2 hi, rfl⟩) (n := (Sx i).data.toList.length) (by simp [DataW.weights])
      simpa [reachBytes] using this
    · have e1 : len + (m - len) = m := by omega
      rw [e1] at hb
      exact Nat.le_trans (Nat.mul_le_mul_right B hl) hb
/-- At a place within a slice of words. -/
theorem Reads.atW {w : World} {ao : Option Addr} {len cap : Nat} {zs : List Wd} (h : Reads w ao len cap (zs.map strV)) (hp : 0 < len) :
    ∃ b off, ao = some ⟨b, off, none⟩ ∧ b < w.heap.size ∧ ∀ j k, zs[j]? = some k → w.cell? ⟨b, off + j, none⟩ = some (strV k) := by
  have hl := h.length
  cases ao with
  | none => have := h.bare rfl; omega
  | some a =>
    obtain ⟨b, off, rfl⟩ := h.plain hp
    refine ⟨b, off, rfl, ?_, fun j k hk => ?_⟩
    · obtain ⟨u, hu⟩ : ∃ u, (zs.map strV)[0]? = some u := ⟨_, List.getElem?_eq_getElem (by omega)⟩
      have := World.block_lt_of_cell? w _ (h.cell _ rfl 0 u hu)
      simpa [Addr.add_lit] using this
    · have := h.cell _ rfl j (strV k) (by rw [List.getElem?_map, hk]; rfl)
      simpa [Addr.add_lit] using this

/-- What a slice of deeds shows: a kind, a word, a number each. -/
structure ReadsD (w : World) (ao : Option Addr) (len cap : Nat) (ds : List (Int × Wd × Nat)) : Prop where
  length : ds.length = len
  le : len ≤ cap
  most : cap ≤ maxLen
  bare : ao = none → len = 0 ∧ cap = 0
  cell : ∀ a, ao = some a → ∀ (i : Nat) d, ds[i]? = some d → w.cell? (a.add (i * 3)) = some (.int .i64 d.1) ∧ w.cell? (a.add (i * 3 + 1)) = some (strV d.2.1) ∧ w.cell? (a.add (i * 3 + 2)) = some (.int .u64 d.2.2)
theorem ReadsD.later {w w' : World} {ao : Option Addr} {len cap : Nat} {ds : List (Int × Wd × Nat)} {B : Nat} (h : ReadsD w ao len cap ds) (hb : Below B w w') (hB : w.heap.size ≤ B) : ReadsD w' ao len cap ds :=
  ⟨h.length, h.le, h.most, h.bare, fun a ha i d hd => by
    obtain ⟨h1, h2, h3⟩ := h.cell a ha i d hd
    have l1 := World.block_lt_of_cell? w _ h1
    have l2 := World.block_lt_of_cell? w _ h2
    have l3 := World.block_lt_of_cell? w _ h3
    exact ⟨(hb.cell (by omega)).trans h1, (hb.cell (by omega)).trans h2, (hb.cell (by omega)).trans h3⟩⟩
theorem ReadsD.at {w : World} {ao : Option Addr} {len cap : Nat} {ds : List (Int × Wd × Nat)} (h : ReadsD w ao len cap ds) (hp : 0 < len) :
    ∃ b off, ao = some ⟨b, off, none⟩ ∧ b < w.heap.size ∧ ∀ (i : Nat) d, ds[i]? = some d → w.cell? ⟨b, off + i * 3, none⟩ = some (.int .i64 d.1) ∧ w.cell? ⟨b, off + i * 3 + 1, none⟩ = some (strV d.2.1) ∧ w.cell? ⟨b, off + i * 3 + 2, none⟩ = some (.int .u64 d.2.2) := by
  have hl := h.length
  cases ao with
  | none => have := h.bare rfl; omega
  | some a =>
    obtain ⟨b, off, spot⟩ := a
    obtain ⟨d0, hd0⟩ : ∃ d, ds[0]? = some d := ⟨_, List.getElem?_eq_getElem (by omega)⟩
    have h0 := (h.cell _ rfl 0 d0 hd0).1
    have hspot : spot = none := by simpa [Addr.add] using World.cell?_spot h0
    subst hspot
    refine ⟨b, off, rfl, by simpa [Addr.add_lit] using World.block_lt_of_cell? w _ h0, fun i d hd => ?_⟩
    have := h.cell _ rfl i d hd
    simpa [Addr.add_lit, Nat.add_assoc] using this
theorem bytes_list (s : ByteArray) : (⟨s.data.toList.toArray⟩ : ByteArray) = s := by cases s; simp

theorem deeds_in {H : Type} {enc : TypeId × Value → H} {P : Program} {W : World} {t e : TypeId} {f0 f1 f2 : Field} {B : Nat} (hu : P.underlying t = some (.slice e)) (he : P.underlying e = some (.struct #[f0, f1, f2])) (ce : P.cellsOf e = 3)
    (o0 : f0.offset = 0) (o1 : f1.offset = 1) (o2 : f2.offset = 2) (c0 : P.cellsOf f0.type = 1) (c1 : P.cellsOf f1.type = 1) (c2 : P.cellsOf f2.type = 1)
    (u0 : P.underlying f0.type = some (.int .i64)) (u1 : P.underlying f1.type = some .string) (u2 : P.underlying f2.type = some (.int .u64)) (hB : P.bytesOf e = B)
    {ts : List TypeId} {ds : List (DataW H)} (hsz : (DataW.weightsEach P ts ds).all (· ≤ reachBytes) = true) {j : Nat} {a : Option Addr} {len cap : Nat} {d : DataW H} {p : List MemPlace} (ht : ts[j]? = some t) (hd : ds[j]? = some d)
    (h : DataW.Trod enc P W 0 (fun _ => true) true t (.slice a len cap) d p) :
    ∃ zs : List (Int × Wd × Nat), ReadsD W a len cap zs ∧ (∀ z ∈ zs, (Lit.int .i64 z.1).wf = true ∧ z.2.1.length ≤ 140737488351232 ∧ z.2.2 ≤ 18446744073709551615) ∧ len * B ≤ 140737488351232 := by
  obtain ⟨fuel, hf⟩ := h
  rcases Go.Deep.open_slice hu hf with ⟨hcs, _⟩ | ⟨x, l, c, m, n, D, Pl, hcs, _, hl, hm, hmm, hx, hcell⟩
  · simp [Value.cells] at hcs
    obtain ⟨rfl, rfl, rfl⟩ := hcs
    exact ⟨[], ⟨rfl, Nat.le_refl _, Nat.zero_le _, fun _ => ⟨rfl, rfl⟩, fun a ha => by cases ha⟩, fun z hz => by simp at hz, by omega⟩
  · simp [Value.cells] at hcs
    obtain ⟨rfl, rfl, rfl⟩ := hcs
    simp only [if_true] at hmm
    subst hmm
    simp only [Prod.mk.injEq] at hx
    have hb := sized_slice hsz (e := e) ht (by rw [hd, hx.1]) hu
    rw [hB] at hb
    simp only [List.length_map, List.length_range, reachBytes] at hb
    have each : ∀ i, i < m → ∃ q : Int × Wd × Nat, W.cell? (x.add (i * 3)) = some (.int .i64 q.1) ∧ W.cell? (x.add (i * 3 + 1)) = some (strV q.2.1) ∧ W.cell? (x.add (i * 3 + 2)) = some (.int .u64 q.2.2) ∧
        (Lit.int .i64 q.1).wf = true ∧ (q.2.2 : Int) ≤ 18446744073709551615 ∧ D i = .agg [.lit (.int .i64 q.1), .lit (.string q.2.1), .lit (.int .u64 q.2.2)] := by
      intro i hi
      obtain ⟨cs', h1, h2⟩ := hcell i hi
      rw [ce] at h1
      obtain ⟨_, hlen, hc⟩ := World.cells?_some h1
      obtain ⟨y0, y1, y2, n', hxy, _, g0, g1, g2⟩ := Go.Deep.trod_struct3 he h2
      match cs', hlen with
      | [v0, v1, v2], _ =>
        simp [o0, o1, o2, c0, c1, c2] at g0 g1 g2
        obtain ⟨n0, e0, r0, wf0⟩ := DataW.trod_int u0 g0
        obtain ⟨s1, e1, r1, _⟩ := DataW.trod_string u1 g1
        obtain ⟨n2, e2, r2, wf2⟩ := DataW.trod_int u2 g2
        have b2 := bounds_u64 wf2
        obtain ⟨k2, rfl⟩ := Int.eq_ofNat_of_zero_le b2.1
        simp only [List.cons.injEq, and_true] at e0 e1 e2
        subst e0 e1 e2
        have q0 := hc 0 (by omega)
        have q1 := hc 1 (by omega)
        have q2 := hc 2 (by omega)
        rw [Go.Deep.add_add] at q0 q1 q2
        simp only [Prod.mk.injEq] at hxy
        refine ⟨(n0, s1.data.toList, k2), by simpa using q0, ?_, by simpa using q2, wf0, b2.2, ?_⟩
        · simp only [strV, bytes_list]; simpa using q1
        · rw [hxy.1, r0, r1, r2]
    obtain ⟨q, hq⟩ := Go.Deep.choose_lt each
    refine ⟨(List.range len).map q, ⟨by simp, hl, hm, fun h => (by cases h), fun y hy i d' hd' => ?_⟩, fun z hz => ?_, ?_⟩
    · cases hy
      have hi : i < len := by
        have := (List.getElem?_eq_some_iff.1 hd').1
        simp at this; omega
      simp [hi] at hd'
      subst hd'
      have := hq i (by omega)
      exact ⟨this.1, this.2.1, this.2.2.1⟩
    · simp only [List.mem_map, List.mem_range] at hz
      obtain ⟨i, hi, rfl⟩ := hz
      obtain ⟨_, _, _, w1, w2, w3⟩ := hq i (by omega)
      refine ⟨w1, ?_, by omega⟩
      have := sized_elem hsz (e := e) ht (by rw [hd, hx.1]) hu (d := D i) (List.mem_map.2 ⟨i, List.mem_range.2 hi, rfl⟩) (n := (q i).2.1.length) (by rw [w3]; simp [DataW.weights, he, DataW.weightsEach])
      simpa [reachBytes] using this
    · have e1 : len + (m - len) = m := by omega
      rw [e1] at hb
      exact Nat.le_trans (Nat.mul_le_mul_right B hl) hb
end Go.Proofs.Ytgnhnhachhfafaa
