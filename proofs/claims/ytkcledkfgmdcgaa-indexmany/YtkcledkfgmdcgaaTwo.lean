/- Rows of two cells each, in memory; words in memory. -/
import Derived.Test.YtkcledkfgmdcgaaLess
import Derived.Lib.Bytealg
import Derived.Maps.AppendAt
import Derived.Laws.AppendOwnNone
import Derived.Deep.Strs
import Derived.Deep.SlicePairs
namespace Go.Proofs.Ytkcledkfgmdcgaa
open Go.ChangeShapes Go.WideShapes Go.ChangeAt Go.RowKit
set_option linter.unusedVariables false
set_option linter.unusedSimpArgs false

/-- A word as a value. -/
abbrev strV (k : Wd) : Value := .string ⟨k.toArray⟩
theorem own2_later {w w' : World} {base e n B : Nat} {v : Value} {xs : List Value} (h : w.ownsRow base e 2 v n xs) (hb : Below B w w') (hB : w.heap.size ≤ B) : w'.ownsRow base e 2 v n xs := by
  refine ⟨h.1, ?_⟩
  rcases h.2 with h' | ⟨g, cap, cur, h1, h2, h3, h4⟩
  · exact .inl h'
  · exact .inr ⟨g, cap, cur, h1, h2, (hb.block g (by have := (Array.getElem?_eq_some_iff.1 h3).1; omega)).trans h3, h4⟩
theorem own2_block {w w' : World} {base e n : Nat} {v : Value} {xs : List Value} (h : w.ownsRow base e 2 v n xs) (hb : ∀ k, v.ownBlock = some k → w'.heap[k]? = w.heap[k]?) : w'.ownsRow base e 2 v n xs := by
  refine ⟨h.1, ?_⟩
  rcases h.2 with h' | ⟨g, cap, cur, h1, h2, h3, h4⟩
  · exact .inl h'
  · exact .inr ⟨g, cap, cur, h1, h2, (hb g (by rw [h1]; rfl)).trans h3, h4⟩
theorem own2_type {w : World} {base e n : Nat} {v : Value} {xs : List Value} (h : w.ownsRow base e 2 v n xs) {k : Nat} (hk : v.ownBlock = some k) : ∃ cur, w.heap[k]? = some (.cells cur e (0, 0)) := by
  rcases h.2 with h' | ⟨g, cap, cur, h1, h2, h3, h4⟩
  · rw [h'.1] at hk; cases hk
  · rw [h1] at hk; cases hk; exact ⟨cur, h3⟩
theorem own2_slice {w : World} {base e n : Nat} {v : Value} {xs : List Value} (h : w.ownsRow base e 2 v n xs) : ∃ ao cap, v = .slice ao n cap := by
  rcases h.2 with ⟨h1, h2⟩ | ⟨g, cap, cur, h1, _⟩
  · exact ⟨none, 0, by rw [h1, h2]⟩
  · exact ⟨_, cap, h1⟩
theorem own2_most {w : World} {base e n : Nat} {v : Value} {xs : List Value} (h : w.ownsRow base e 2 v n xs) : n ≤ maxLen := by
  rcases h.2 with ⟨h1, h2⟩ | ⟨g, cap, cur, h1, h2, h3, h4, h5, h6, h7⟩
  · omega
  · omega
theorem own2_mono {w : World} {base base' e n : Nat} {v : Value} {xs : List Value} (h : w.ownsRow base e 2 v n xs) (hb : base' ≤ base) : w.ownsRow base' e 2 v n xs := by
  refine ⟨h.1, ?_⟩
  rcases h.2 with h' | ⟨g, cap, cur, h1, h2, h3⟩
  · exact .inl h'
  · exact .inr ⟨g, cap, cur, h1, by omega, h3⟩
theorem news_one (w : World) (x y : Value) (t : TypeId) : ∀ j u, [x, y][j]? = some u → (w.alloc (.cells #[x, y] t)).cell? ((⟨w.heap.size, 0, none⟩ : Addr).add j) = some u := by
  intro j u hj
  match j, hj with
  | 0, hj => simp at hj; subst hj; simp [Addr.add]
  | 1, hj => simp at hj; subst hj; simp [Addr.add]
theorem own2_set {w : World} {base e g n cap j : Nat} {xs : List Value} (h : w.ownsRow base e 2 (.slice (some ⟨g, 0, none⟩) n cap) n xs) (hj : j < n * 2) (u : Value) : (w.setCell ⟨g, j, none⟩ u).ownsRow base e 2 (.slice (some ⟨g, 0, none⟩) n cap) n (xs.set j u) := by
  refine ⟨by rw [List.length_set]; exact h.1, ?_⟩
  rcases h.2 with ⟨h1, h2⟩ | ⟨g', cap', cur, h1, h2, h3, h4, h5, h6, h7⟩
  · cases h1
  simp only [Value.slice.injEq, Option.some.injEq, Addr.mk.injEq, and_true, true_and] at h1
  obtain ⟨rfl, rfl⟩ := h1
  refine .inr ⟨g, cap, _, rfl, h2, heap_setCell_same w g j cur e u h3, h4, h5, by simp [h6], ?_⟩
  rw [Array.toList_setIfInBounds, List.take_set, h7]
theorem str_list (a : ByteArray) : ∃ k : Wd, a = ⟨k.toArray⟩ := ⟨a.data.toList, by cases a; simp⟩
theorem zero_not {n : Nat} (h : 1 ≤ n) : ((n : Int) == 0) = false := by rw [beq_eq_false_iff_ne]; omega
/-- What a slice of entries shows. -/
structure ReadsE (w : World) (ao : Option Addr) (len cap : Nat) (xs : List Value) : Prop where
  length : xs.length = len * 2
  le : len ≤ cap
  most : cap ≤ maxLen
  bare : ao = none → len = 0 ∧ cap = 0
  cell : ∀ a, ao = some a → ∀ j u, xs[j]? = some u → w.cell? (a.add j) = some u
theorem ReadsE.own {w : World} {base e n cap : Nat} {ao : Option Addr} {xs : List Value} (h : w.ownsRow base e 2 (.slice ao n cap) n xs) : ReadsE w ao n cap xs := by
  rcases h.2 with ⟨h1, h2⟩ | ⟨g, cap', cur, h1, h2, h3, h4, h5, h6, h7⟩
  · simp only [Value.slice.injEq] at h1
    obtain ⟨rfl, rfl, rfl⟩ := h1
    have hl := h.1
    have : xs = [] := List.eq_nil_of_length_eq_zero (by omega)
    subst this
    exact ⟨rfl, Nat.le_refl _, Nat.zero_le _, fun _ => ⟨rfl, rfl⟩, fun a ha => by cases ha⟩
  · have hc := h.cells (g := g) (by rw [h1]; rfl)
    simp only [Value.slice.injEq, true_and] at h1
    obtain ⟨rfl, rfl⟩ := h1
    exact ⟨h.1, h4, h5, fun hn => (by cases hn), fun a ha j u hu => by cases ha; exact hc j u hu⟩
theorem ReadsE.later {w w' : World} {ao : Option Addr} {len cap : Nat} {xs : List Value} {B : Nat} (h : ReadsE w ao len cap xs) (hb : Below B w w') (hB : w.heap.size ≤ B) : ReadsE w' ao len cap xs :=
  ⟨h.length, h.le, h.most, h.bare, fun a ha j u hu => by
    have hc := h.cell a ha j u hu
    have hlt := World.block_lt_of_cell? w _ hc
    rw [hb.cell (by omega)]; exact hc⟩
theorem ReadsE.plain {w : World} {a : Addr} {len cap : Nat} {xs : List Value} (h : ReadsE w (some a) len cap xs) (hp : 0 < len) : ∃ b off, a = ⟨b, off, none⟩ := by
  have hl := h.length
  obtain ⟨b, off, spot⟩ := a
  have h0 := h.cell _ rfl 0 xs[0] (List.getElem?_eq_getElem (by omega))
  have hspot : spot = none := by simpa [Addr.add] using World.cell?_spot h0
  exact ⟨b, off, by rw [hspot]⟩
theorem ReadsE.from {P : Program} {t e : TypeId} (ht : P.underlying t = some (.slice e)) (hs : ∀ W, (sizeOf e).run P W = .ok 2 W) {ao : Option Addr} {len cap : Nat} (l : Nat) (hl : l ≤ len) :
    ∃ ao', (∀ W, (Instr.slice t (.slice ao len cap) (some (.int .i64 (l : Int))) none none).run P W = .ok (.slice ao' (len - l) (cap - l)) W) ∧ (∀ W xs, ReadsE W ao len cap xs → ReadsE W ao' (len - l) (cap - l) (xs.drop (l * 2))) := by
  have ht' : P.underlying t = some (.slice (P.elem t)) := by simp [Program.elem, ht]
  have he : P.elem t = e := by simp [Program.elem, ht]
  refine ⟨if cap = l then ao else ao.map (·.add (l * 2)), fun W => ?_, fun W xs h => ⟨?_, ?_, ?_, ?_, ?_⟩⟩
  · rw [run_slice_l (P := P) W t ao len cap ht' .i64 l (by omega) (by omega), he, hs]
    simp [Result.andThen, sliced]
  · have := h.length; simp; omega
  · have := h.le; omega
  · have := h.most; omega
  · intro hn
    split at hn
    · have := h.bare hn; omega
    · simp only [Option.map_eq_none_iff] at hn
      have := h.bare hn; omega
  · intro a ha j u hu
    have hle := h.le
    have hj : l * 2 + j < xs.length := by
      have := (List.getElem?_eq_some_iff.1 hu).1
      simp at this; omega
    have := h.length
    rw [if_neg (by omega)] at ha
    cases ao with
    | none => simp at ha
    | some x =>
      simp only [Option.map_some, Option.some.injEq] at ha
      subst ha
      obtain ⟨b, off, rfl⟩ := h.plain (by omega)
      have hc := h.cell _ rfl (l * 2 + j) u (by simpa using hu)
      rw [Addr.add_lit, Addr.add_lit, Nat.add_assoc]
      rw [Addr.add_lit] at hc
      exact hc
theorem ReadsE.to {P : Program} {t e : TypeId} (ht : P.underlying t = some (.slice e)) (hs : ∀ W, (sizeOf e).run P W = .ok 2 W) {ao : Option Addr} {len cap : Nat} (hc : len ≤ cap) (h : Nat) (hh : h ≤ len) :
    ∃ ao', (∀ W, (Instr.slice t (.slice ao len cap) none (some (.int .i64 (h : Int))) none).run P W = .ok (.slice ao' h cap) W) ∧ (∀ W xs, ReadsE W ao len cap xs → ReadsE W ao' h cap (xs.take (h * 2))) := by
  have ht' : P.underlying t = some (.slice (P.elem t)) := by simp [Program.elem, ht]
  have he : P.elem t = e := by simp [Program.elem, ht]
  refine ⟨if cap = 0 then ao else ao.map (·.add (0 * 2)), fun W => ?_, fun W xs hr => ⟨?_, ?_, ?_, ?_, ?_⟩⟩
  · rw [run_slice_h (P := P) W t ao len cap ht' .i64 h (by omega) (by omega), he, hs]
    simp [Result.andThen, sliced]
  · have := hr.length; simp; omega
  · omega
  · exact hr.most
  · intro hn
    split at hn
    · have := hr.bare hn; omega
    · simp only [Option.map_eq_none_iff] at hn
      have := hr.bare hn; omega
  · intro a ha j u hu
    have hj : j < h * 2 ∧ j < xs.length := by
      have := (List.getElem?_eq_some_iff.1 hu).1
      simp at this; omega
    have := hr.length
    rw [if_neg (by omega)] at ha
    cases ao with
    | none => simp at ha
    | some x =>
      simp only [Option.map_some, Option.some.injEq] at ha
      subst ha
      obtain ⟨b, off, rfl⟩ := hr.plain (by omega)
      have hcc := hr.cell _ rfl j u (by rw [List.getElem?_take_of_lt hj.1] at hu; exact hu)
      rw [Nat.zero_mul, Addr.add_lit, Addr.add_lit, Nat.add_zero]
      rw [Addr.add_lit] at hcc
      exact hcc
theorem slice_inj {a a' : Option Addr} {n c n' c' : Nat} (h : Value.slice a n c = Value.slice a' n' c') : a = a' ∧ c = c' := by
  simp only [Value.slice.injEq] at h; exact ⟨h.1, h.2.2⟩
theorem own2_empty (w : World) (e : TypeId) : (w.alloc (.cells #[] e)).ownsRow w.heap.size e 2 (.slice (some ⟨w.heap.size, 0, none⟩) 0 0) 0 [] := by
  refine ⟨rfl, .inr ⟨w.heap.size, 0, #[], rfl, Nat.le_refl _, heap_alloc_new _ _, Nat.le_refl _, Nat.zero_le _, rfl, rfl⟩⟩
theorem reads_lit (W : World) (x y : Value) (t : TypeId) : ReadsE (W.alloc (.cells #[x, y] t)) (some ⟨W.heap.size, 0, none⟩) 1 1 [x, y] :=
  ⟨rfl, Nat.le_refl _, by unfold maxLen; omega, (fun h => by cases h), fun a ha j u hu => by cases ha; exact news_one W x y t j u hu⟩
theorem weights_all {H : Type} {P : Program} {e : TypeId} {n : Nat} : ∀ {l : List (DataW H)} {d : DataW H}, d ∈ l → n ∈ d.weights P e → n ∈ DataW.weightsAll P e l
  | a :: l, d, hd, hn => by
    simp only [DataW.weightsAll, List.mem_append]
    rcases List.mem_cons.1 hd with rfl | hd
    · exact .inl hn
    · exact .inr (weights_all hd hn)
theorem sized_elem {H : Type} {P : Program} {ts : List TypeId} {ds : List (DataW H)} (h : (DataW.weightsEach P ts ds).all (· ≤ reachBytes) = true) {j : Nat} {t e : TypeId} {elems spare : List (DataW H)} (ht : ts[j]? = some t) (hd : ds[j]? = some (.slice elems spare)) (hu : P.underlying t = some (.slice e))
    {d : DataW H} (hm : d ∈ elems) {n : Nat} (hn : n ∈ d.weights P e) : n ≤ reachBytes := by
  have := List.all_eq_true.1 h n (DataW.weights_mem_each ht hd n (by simp only [DataW.weights, hu, List.mem_cons, List.mem_append]; exact .inr (.inl (weights_all hm hn))))
  simpa using this
theorem strs_in {H : Type} {enc : TypeId × Value → H} {P : Program} {W : World} {t e : TypeId} {B : Nat} (hu : P.underlying t = some (.slice e)) (he : P.underlying e = some .string) (hc : P.cellsOf e = 1) (hB : P.bytesOf e = B)
    {ts : List TypeId} {ds : List (DataW H)} (hsz : (DataW.weightsEach P ts ds).all (· ≤ reachBytes) = true) {j : Nat} {a : Option Addr} {len cap : Nat} {d : DataW H} {p : List MemPlace} (ht : ts[j]? = some t) (hd : ds[j]? = some d)
    (h : DataW.Trod enc P W 0 (fun _ => true) true t (.slice a len cap) d p) :
    ∃ zs : List Wd, Reads W a len cap (zs.map strV) ∧ (∀ z ∈ zs, z.length ≤ 140737488351232) ∧ len * B ≤ 140737488351232 := by
  obtain ⟨fuel, hf⟩ := h
  rcases Go.Deep.open_strs hu he hc hf with ⟨hcs, _⟩ | ⟨x, l, c, m, Sx, hcs, _, hl, hm, hmm, hx, hcell⟩
  · simp [Value.cells] at hcs
    obtain ⟨rfl, rfl, rfl⟩ := hcs
    exact ⟨[], Reads.nil W, fun z hz => by simp at hz, by omega⟩
  · simp [Value.cells] at hcs
    obtain ⟨rfl, rfl, rfl⟩ := hcs
    simp only [if_true] at hmm
    subst hmm
    simp only [Prod.mk.injEq] at hx
    have hb := sized_slice hsz (e := e) ht (by rw [hd, hx.1]) hu
    rw [hB] at hb
    simp only [List.length_map, List.length_range, reachBytes] at hb
    refine ⟨(List.range len).map fun i => (Sx i).data.toList, ⟨by simp, hl, hm, fun h => (by cases h), fun y hy i u hu => ?_⟩, fun z hz => ?_, ?_⟩
    · cases hy
      have hi : i < len := by
        have := (List.getElem?_eq_some_iff.1 hu).1
        simp at this; omega
      rw [(hcell i (by omega)).1]
      simp [hi] at hu
      rw [← hu]
    · simp only [List.mem_map, List.mem_range] at hz
      obtain ⟨i, hi, rfl⟩ := hz
      have := sized_elem hsz (e := e) ht (by rw [hd, hx.1]) hu (d := .lit (.string (Sx i).data.toList)) (List.mem_map.2 ⟨i, List.mem_range.2 hi, rfl⟩) (n := (Sx i).data.toList.length) (by simp [DataW.weights])
      simpa [reachBytes] using this
    · have e1 : len + (m - len) = m := by omega
      rw [e1] at hb
      exact Nat.le_trans (Nat.mul_le_mul_right B hl) hb
/-- At a place within a slice of words. -/
theorem Reads.atW {w : World} {ao : Option Addr} {len cap : Nat} {zs : List Wd} (h : Reads w ao len cap (zs.map strV)) (hp : 0 < len) :
    ∃ b off, ao = some ⟨b, off, none⟩ ∧ b < w.heap.size ∧ ∀ j k, zs[j]? = some k → w.cell? ⟨b, off + j, none⟩ = some (strV k) := by
  have hl := h.length
  cases ao with
  | none => have := h.bare rfl; omega
  | some a =>
    obtain ⟨b, off, rfl⟩ := h.plain hp
    refine ⟨b, off, rfl, ?_, fun j k hk => ?_⟩
    · obtain ⟨u, hu⟩ : ∃ u, (zs.map strV)[0]? = some u := ⟨_, List.getElem?_eq_getElem (by omega)⟩
      have := World.block_lt_of_cell? w _ (h.cell _ rfl 0 u hu)
      simpa [Addr.add_lit] using this
    · have := h.cell _ rfl j (strV k) (by rw [List.getElem?_map, hk]; rfl)
      simpa [Addr.add_lit] using this
end Go.Proofs.Ytkcledkfgmdcgaa
