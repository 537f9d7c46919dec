/- Lists of entries in memory: a slice of slices of entries; how one that came in is shown to a walk. -/
import Derived.Test.YtknfjonaepggnaaLoserBase
import Derived.Test.YtknfjonaepggnaaEnAll
import Derived.Test.YtknfjonaepggnaaFound
import Derived.Test.YtknfjonaepggnaaRef09All
namespace Go.Proofs.Ytknfjonaepggnaa
open Go.ChangeShapes Go.WideShapes Go.ChangeAt Go.RowKit
set_option linter.unusedVariables false
set_option linter.unusedSimpArgs false

/-- Values that are slices, each of which shows a list that lies below B. -/
structure ListVals (B : Nat) (w : World) (vs : List Value) (ls : List (List En)) : Prop where
  length : vs.length = ls.length
  row : ∀ (i : Nat) (v : Value) (l : List En), vs[i]? = some v → ls[i]? = some l → ∃ ai ci, v = .slice ai l.length ci ∧ ReadsE w ai l.length ci (cellsE l) ∧ ∀ a, ai = some a → 0 < l.length → a.block < B
theorem ListVals.nil (B : Nat) (w : World) : ListVals B w [] [] := ⟨rfl, fun i v l h => by simp at h⟩
theorem ReadsE.kept {B : Nat} {w w' : World} {ao : Option Addr} {n c : Nat} {l : List En} (h : ReadsE w ao n c (cellsE l)) (hB : ∀ a, ao = some a → 0 < n → a.block < B) (hb : ∀ k, k < B → k < w.heap.size → w'.heap[k]? = w.heap[k]?) : ReadsE w' ao n c (cellsE l) :=
  ⟨h.length, h.le, h.most, h.bare, fun a ha j u hu => by
    have hc := h.cell a ha j u hu
    have hp : 0 < n := by have := (List.getElem?_eq_some_iff.1 hu).1; have := h.length; omega
    obtain ⟨b, off, rfl⟩ : ∃ b off, a = ⟨b, off, none⟩ := by subst ha; exact h.plain hp
    have hlt := World.block_lt_of_cell? w _ hc
    rw [Addr.add_lit] at hc hlt ⊢
    rw [World.cell?_of_block (w := w) (hb b (hB _ ha hp) hlt)]; exact hc⟩
theorem ListVals.kept {B : Nat} {w w' : World} {vs : List Value} {ls : List (List En)} (h : ListVals B w vs ls) (hb : ∀ k, k < B → k < w.heap.size → w'.heap[k]? = w.heap[k]?) : ListVals B w' vs ls :=
  ⟨h.length, fun i v l hv hl => by
    obtain ⟨ai, ci, e, hr, hB⟩ := h.row i v l hv hl
    exact ⟨ai, ci, e, hr.kept hB hb, hB⟩⟩
theorem ListVals.later {B C : Nat} {w w' : World} {vs : List Value} {ls : List (List En)} (h : ListVals B w vs ls) (hb : Below C w w') (hC : w.heap.size ≤ C) : ListVals B w' vs ls := h.kept fun k _ hk => hb.block k (by omega)
theorem ListVals.mono {B C : Nat} {w : World} {vs : List Value} {ls : List (List En)} (h : ListVals B w vs ls) (hC : B ≤ C) : ListVals C w vs ls :=
  ⟨h.length, fun i v l hv hl => by
    obtain ⟨ai, ci, e, hr, hB⟩ := h.row i v l hv hl
    exact ⟨ai, ci, e, hr, fun a ha hp => Nat.lt_of_lt_of_le (hB a ha hp) hC⟩⟩
theorem ListVals.here {B : Nat} {w : World} {vs : List Value} {ls : List (List En)} (h : ListVals B w vs ls) : ListVals w.heap.size w vs ls :=
  ⟨h.length, fun i v l hv hl => by
    obtain ⟨ai, ci, e, hr, hB⟩ := h.row i v l hv hl
    refine ⟨ai, ci, e, hr, fun a ha hp => ?_⟩
    obtain ⟨b, off, hao, hlt, _⟩ := hr.at hp
    rw [ha] at hao; cases hao; exact hlt⟩
theorem ListVals.append {B : Nat} {w : World} {vs us : List Value} {ls ms : List (List En)} (h : ListVals B w vs ls) (k : ListVals B w us ms) : ListVals B w (vs ++ us) (ls ++ ms) :=
  ⟨by simp [h.length, k.length], fun i v l hv hl => by
    by_cases hi : i < vs.length
    · rw [List.getElem?_append_left hi] at hv
      rw [List.getElem?_append_left (by rw [← h.length]; exact hi)] at hl
      exact h.row i v l hv hl
    · rw [List.getElem?_append_right (by omega)] at hv
      rw [List.getElem?_append_right (by rw [← h.length]; omega), ← h.length] at hl
      exact k.row _ v l hv hl⟩
theorem ListVals.one {B : Nat} {w : World} {ai : Option Addr} {li ci : Nat} {l : List En} (hli : li = l.length) (h : ReadsE w ai li ci (cellsE l)) (hB : ∀ a, ai = some a → 0 < li → a.block < B) : ListVals B w [.slice ai li ci] [l] :=
  ⟨rfl, fun i v l' hv hl => by
    match i, hv, hl with
    | 0, hv, hl => simp at hv hl; subst hv hl; subst hli; exact ⟨ai, ci, rfl, h, hB⟩⟩
theorem ListVals.take {B : Nat} {w : World} {vs : List Value} {ls : List (List En)} (h : ListVals B w vs ls) (n : Nat) : ListVals B w (vs.take n) (ls.take n) :=
  ⟨by simp [h.length], fun i v l hv hl => by
    by_cases hi : i < n
    · rw [List.getElem?_take_of_lt hi] at hv hl
      exact h.row i v l hv hl
    · rw [List.getElem?_take_eq_none (by omega)] at hv; cases hv⟩
theorem ListVals.drop {B : Nat} {w : World} {vs : List Value} {ls : List (List En)} (h : ListVals B w vs ls) (n : Nat) : ListVals B w (vs.drop n) (ls.drop n) :=
  ⟨by simp [h.length], fun i v l hv hl => by
    rw [List.getElem?_drop] at hv hl
    exact h.row _ v l hv hl⟩
theorem ListVals.set {B : Nat} {w : World} {vs : List Value} {ls : List (List En)} (h : ListVals B w vs ls) (i : Nat) {ai : Option Addr} {ci : Nat} {l : List En} (hr : ReadsE w ai l.length ci (cellsE l)) (hB : ∀ a, ai = some a → 0 < l.length → a.block < B) : ListVals B w (vs.set i (.slice ai l.length ci)) (ls.set i l) :=
  ⟨by simp [h.length], fun j v l' hv hl => by
    by_cases hij : i = j
    · subst hij
      have h1 := (List.getElem?_eq_some_iff.1 hv).1
      have h2 := (List.getElem?_eq_some_iff.1 hl).1
      simp only [List.length_set] at h1 h2
      rw [List.getElem?_set_self h1] at hv
      rw [List.getElem?_set_self h2] at hl
      cases hv; cases hl
      exact ⟨ai, ci, rfl, hr, hB⟩
    · rw [List.getElem?_set_ne hij] at hv hl
      exact h.row j v l' hv hl⟩
theorem ListVals.oneCell {B : Nat} {w : World} {vs : List Value} {ls : List (List En)} (h : ListVals B w vs ls) : ∀ u ∈ vs, u.oneCell' = true := fun u hu => by
  obtain ⟨i, hi, rfl⟩ := List.mem_iff_getElem.1 hu
  obtain ⟨ai, ci, e, _⟩ := h.row i vs[i] (ls[i]'(by rw [← h.length]; exact hi)) (List.getElem?_eq_getElem hi) (List.getElem?_eq_getElem _)
  rw [e]; rfl
/-- The list at a place, and the slice that shows it. -/
theorem ListVals.at {B : Nat} {w : World} {vs : List Value} {ls : List (List En)} (h : ListVals B w vs ls) {i : Nat} (hi : i < ls.length) : ∃ l ai ci, ls[i]? = some l ∧ vs[i]? = some (.slice ai l.length ci) ∧ ReadsE w ai l.length ci (cellsE l) ∧ ∀ a, ai = some a → 0 < l.length → a.block < B := by
  have hv : i < vs.length := by rw [h.length]; exact hi
  obtain ⟨ai, ci, e, hr, hB⟩ := h.row i vs[i] ls[i] (List.getElem?_eq_getElem hv) (List.getElem?_eq_getElem hi)
  exact ⟨ls[i], ai, ci, List.getElem?_eq_getElem hi, by rw [← e]; exact List.getElem?_eq_getElem hv, hr, hB⟩
/-- A slice of values, at a place within. -/
theorem Reads.atV {w : World} {ao : Option Addr} {len cap : Nat} {vs : List Value} (h : Reads w ao len cap vs) (hp : 0 < len) :
    ∃ b off, ao = some ⟨b, off, none⟩ ∧ b < w.heap.size ∧ ∀ (j : Nat) v, vs[j]? = some v → w.cell? ⟨b, off + j, none⟩ = some v := by
  have hl := h.length
  cases ao with
  | none => have := h.bare rfl; omega
  | some a =>
    obtain ⟨b, off, rfl⟩ := h.plain hp
    refine ⟨b, off, rfl, ?_, fun j v hv => ?_⟩
    · have := World.block_lt_of_cell? w _ (h.cell _ rfl 0 vs[0] (List.getElem?_eq_getElem (by omega)))
      simpa [Addr.add_lit] using this
    · have := h.cell _ rfl j v hv
      simpa [Addr.add_lit] using this

theorem ents_open {H : Type} {enc : TypeId × Value → H} {P : Program} {W : World} {t e : TypeId} {f0 f1 : Field} (hu : P.underlying t = some (.slice e)) (he : P.underlying e = some (.struct #[f0, f1])) (ce : P.cellsOf e = 2)
    (o0 : f0.offset = 0) (o1 : f1.offset = 1) (c0 : P.cellsOf f0.type = 1) (c1 : P.cellsOf f1.type = 1)
    (u0 : P.underlying f0.type = some .string) (u1 : P.underlying f1.type = some (.int .u64))
    {fuel : Nat} {cs : List Value} {x : DataW H × List MemPlace} (hf : DataW.trod enc P W 0 (fun _ => true) true fuel t cs = some x) :
    ∃ a len cap, ∃ zs : List En, cs = [.slice a len cap] ∧ ReadsE W a len cap (cellsE zs) ∧ ∀ z ∈ zs, z.2 ≤ 18446744073709551615 ∧ z.1.length ∈ x.1.weights P t := by
  rcases Go.Deep.open_slice hu hf with ⟨hcs, _⟩ | ⟨x, len, cap, m, n, D, Pl, hcs, _, hl, hm, hmm, hx, hcell⟩
  · exact ⟨none, 0, 0, [], hcs, ⟨rfl, Nat.le_refl _, Nat.zero_le _, fun _ => ⟨rfl, rfl⟩, fun a ha => by cases ha⟩, fun z hz => by simp at hz⟩
  · simp only [if_true] at hmm
    subst hmm
    subst hx
    have each : ∀ i, i < m → ∃ q : En, W.cell? (x.add (i * 2)) = some (strV q.1) ∧ W.cell? (x.add (i * 2 + 1)) = some (.int .u64 q.2) ∧ (q.2 : Int) ≤ 18446744073709551615 ∧ D i = .agg [.lit (.string q.1), .lit (.int .u64 q.2)] := by
      intro i hi
      obtain ⟨cs', h1, h2⟩ := hcell i hi
      rw [ce] at h1
      obtain ⟨_, hlen, hc⟩ := World.cells?_some h1
      obtain ⟨xs, n', _, hxy, _, hlen2, hff⟩ := DataW.trod_struct he h2
      match xs, hlen2 with
      | [y0, y1], _ =>
        have g0 := hff 0 f0 rfl
        have g1 := hff 1 f1 rfl
        match cs', hlen with
        | [v0, v1], _ =>
          simp [o0, o1, c0, c1] at g0 g1
          obtain ⟨s1, e1, r1, _⟩ := DataW.trod_string u0 g0
          obtain ⟨n2, e2, r2, wf2⟩ := DataW.trod_int u1 g1
          have b2 := bounds_u64 wf2
          obtain ⟨k2, rfl⟩ := Int.eq_ofNat_of_zero_le b2.1
          simp only [List.cons.injEq, and_true] at e1 e2
          subst e1 e2
          have q0 := hc 0 (by omega)
          have q1 := hc 1 (by omega)
          rw [Go.Deep.add_add] at q0 q1
          simp only [Prod.mk.injEq] at hxy
          refine ⟨(s1.data.toList, k2), ?_, by simpa using q1, b2.2, ?_⟩
          · simp only [strV, bytes_list]; simpa using q0
          · rw [hxy.1]; simp [r1, r2]
    obtain ⟨q, hq⟩ := Go.Deep.choose_lt each
    refine ⟨some x, len, m, (List.range len).map q, hcs, ⟨by rw [cells_len]; simp, hl, hm, fun h => (by cases h), fun y hy i u hu => ?_⟩, fun z hz => ?_⟩
    · cases hy
      have hi : i < len * 2 := by
        have := (List.getElem?_eq_some_iff.1 hu).1
        rw [cells_len] at this
        simpa using this
      obtain ⟨k, hk⟩ : ∃ k, i = k * 2 ∨ i = k * 2 + 1 := ⟨i / 2, by omega⟩
      have hkl : k < len := by omega
      have he' : ((List.range len).map q)[k]? = some (q k) := by simp [hkl]
      have := cells_at he'
      rcases hk with rfl | rfl
      · rw [this.1] at hu
        cases hu
        exact (hq k (by omega)).1
      · rw [this.2] at hu
        cases hu
        exact (hq k (by omega)).2.1
    · simp only [List.mem_map, List.mem_range] at hz
      obtain ⟨i, hi, rfl⟩ := hz
      obtain ⟨_, _, w2, w3⟩ := hq i (by omega)
      refine ⟨by omega, ?_⟩
      simp only [DataW.weights, hu, List.mem_cons, List.mem_append]
      right; left
      exact weights_all (d := D i) (List.mem_map.2 ⟨i, List.mem_range.2 hi, rfl⟩) (by rw [w3]; simp [DataW.weights, he, DataW.weightsEach])

theorem lists_in {H : Type} {enc : TypeId × Value → H} {P : Program} {W : World} {t q e : TypeId} {f0 f1 : Field} {B : Nat} (ht' : P.underlying t = some (.slice q)) (hcq : P.cellsOf q = 1) (hu : P.underlying q = some (.slice e)) (he : P.underlying e = some (.struct #[f0, f1])) (ce : P.cellsOf e = 2)
    (o0 : f0.offset = 0) (o1 : f1.offset = 1) (c0 : P.cellsOf f0.type = 1) (c1 : P.cellsOf f1.type = 1)
    (u0 : P.underlying f0.type = some .string) (u1 : P.underlying f1.type = some (.int .u64)) (hB : P.bytesOf q = B)
    {ts : List TypeId} {ds : List (DataW H)} (hsz : (DataW.weightsEach P ts ds).all (· ≤ reachBytes) = true) {j : Nat} {a : Option Addr} {len cap : Nat} {d : DataW H} {p : List MemPlace} (ht : ts[j]? = some t) (hd : ds[j]? = some d)
    (h : DataW.Trod enc P W 0 (fun _ => true) true t (.slice a len cap) d p) :
    ∃ (vs : List Value) (ls : List (List En)), Reads W a len cap vs ∧ ListVals W.heap.size W vs ls ∧ (∀ l ∈ ls, ∀ z ∈ l, z.1.length ≤ 140737488351232 ∧ z.2 ≤ 18446744073709551615) ∧ len * B ≤ 140737488351232 := by
  obtain ⟨fuel, hf⟩ := h
  rcases Go.Deep.open_slice1 ht' hcq hf with ⟨hcs, _⟩ | ⟨x, l, c, m, n, V, D, Pl, hcs, _, hl, hm, hmm, hx, hcell⟩
  · simp [Value.cells] at hcs
    obtain ⟨rfl, rfl, rfl⟩ := hcs
    exact ⟨[], [], Reads.nil W, ListVals.nil _ _, fun z hz => by simp at hz, by omega⟩
  · simp [Value.cells] at hcs
    obtain ⟨rfl, rfl, rfl⟩ := hcs
    simp only [if_true] at hmm
    subst hmm
    simp only [Prod.mk.injEq] at hx
    have hb := sized_slice hsz (e := q) ht (by rw [hd, hx.1]) ht'
    rw [hB] at hb
    simp only [List.length_map, List.length_range, reachBytes] at hb
    have each : ∀ i, i < m → ∃ y : Option Addr × Nat × Nat × List En, V i = .slice y.1 y.2.1 y.2.2.1 ∧ ReadsE W y.1 y.2.1 y.2.2.1 (cellsE y.2.2.2) ∧ ∀ z ∈ y.2.2.2, z.2 ≤ 18446744073709551615 ∧ z.1.length ∈ (D i).weights P q := by
      intro i hi
      obtain ⟨ai, li, ci, zs, h1, h2, h3⟩ := ents_open hu he ce o0 o1 c0 c1 u0 u1 (hcell i hi).2
      exact ⟨(ai, li, ci, zs), by simpa using h1, h2, h3⟩
    obtain ⟨y, hy⟩ := Go.Deep.choose_lt each
    refine ⟨(List.range len).map V, (List.range len).map fun i => (y i).2.2.2, ⟨by simp, hl, hm, fun h => (by cases h), fun b hb i u hu => ?_⟩, ⟨by simp, fun i v l hv hl' => ?_⟩, fun l hl' z hz => ?_, ?_⟩
    · cases hb
      have hi : i < len := by
        have := (List.getElem?_eq_some_iff.1 hu).1
        simpa using this
      simp [hi] at hu
      rw [← hu]; exact (hcell i (by omega)).1
    · have hi : i < len := by
        have := (List.getElem?_eq_some_iff.1 hv).1
        simpa using this
      simp [hi] at hv hl'
      obtain ⟨h1, h2, h3⟩ := hy i (by omega)
      subst hv hl'
      have hc := h2.count
      refine ⟨(y i).1, (y i).2.2.1, by rw [h1, hc], by rw [hc]; exact h2, fun a ha hp => ?_⟩
      obtain ⟨b, off, hao, hlt, _⟩ := h2.at (by omega)
      rw [ha] at hao; cases hao; exact hlt
    · simp only [List.mem_map, List.mem_range] at hl'
      obtain ⟨i, hi, rfl⟩ := hl'
      obtain ⟨h1, h2, h3⟩ := hy i (by omega)
      obtain ⟨h4, h5⟩ := h3 z hz
      refine ⟨?_, h4⟩
      have := sized_elem hsz (e := q) ht (by rw [hd, hx.1]) ht' (d := D i) (List.mem_map.2 ⟨i, List.mem_range.2 hi, rfl⟩) h5
      simpa [reachBytes] using this
    · have e1 : len + (m - len) = m := by omega
      rw [e1] at hb
      exact Nat.le_trans (Nat.mul_le_mul_right B hl) hb
theorem Try.infoEs : (Try.prog.info? 49).map (fun i => (i.zero, i.size, i.bytes)) = some (some (.slice none 0 0), 1, 24) := by kernel_rfl
theorem Try.sizeEs : ∀ W, (sizeOf 49).run Try.prog W = .ok 1 W := Try.sizeOf49
end Go.Proofs.Ytknfjonaepggnaa
