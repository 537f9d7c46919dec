/- Rows of entries (two cells each): what a slice shows, cuts of it, append onto an own row. -/
import Derived.Test.YtgnhnhachhfafaaEnBase
import Derived.Maps.AppendAt
import Derived.Laws.AppendOwnNone
namespace Go.Proofs.Ytgnhnhachhfafaa
open Go.RowKit
set_option linter.unusedVariables false
set_option linter.unusedSimpArgs false

/-- What a slice of entries shows. -/
structure ReadsE (w : World) (ao : Option Addr) (len cap : Nat) (xs : List Value) : Prop where
  length : xs.length = len * 2
  le : len ≤ cap
  most : cap ≤ maxLen
  bare : ao = none → len = 0 ∧ cap = 0
  cell : ∀ a, ao = some a → ∀ j u, xs[j]? = some u → w.cell? (a.add j) = some u
theorem ReadsE.own {w : World} {base e n cap : Nat} {ao : Option Addr} {xs : List Value} (h : w.ownsRow base e 2 (.slice ao n cap) n xs) : ReadsE w ao n cap xs := by
  rcases h.2 with ⟨h1, h2⟩ | ⟨g, cap', cur, h1, h2, h3, h4, h5, h6, h7⟩
  · simp only [Value.slice.injEq] at h1
    obtain ⟨rfl, rfl, rfl⟩ := h1
    have hl := h.1
    have : xs = [] := List.eq_nil_of_length_eq_zero (by omega)
    subst this
    exact ⟨rfl, Nat.le_refl _, Nat.zero_le _, fun _ => ⟨rfl, rfl⟩, fun a ha => by cases ha⟩
  · have hc := h.cells (g := g) (by rw [h1]; rfl)
    simp only [Value.slice.injEq, true_and] at h1
    obtain ⟨rfl, rfl⟩ := h1
    exact ⟨h.1, h4, h5, fun hn => (by cases hn), fun a ha j u hu => by cases ha; exact hc j u hu⟩
theorem ReadsE.later {w w' : World} {ao : Option Addr} {len cap : Nat} {xs : List Value} {B : Nat} (h : ReadsE w ao len cap xs) (hb : Below B w w') (hB : w.heap.size ≤ B) : ReadsE w' ao len cap xs :=
  ⟨h.length, h.le, h.most, h.bare, fun a ha j u hu => by
    have hc := h.cell a ha j u hu
    have hlt := World.block_lt_of_cell? w _ hc
    rw [hb.cell (by omega)]; exact hc⟩
theorem ReadsE.plain {w : World} {a : Addr} {len cap : Nat} {xs : List Value} (h : ReadsE w (some a) len cap xs) (hp : 0 < len) : ∃ b off, a = ⟨b, off, none⟩ := by
  have hl := h.length
  obtain ⟨b, off, spot⟩ := a
  have h0 := h.cell _ rfl 0 xs[0] (List.getElem?_eq_getElem (by omega))
  have hspot : spot = none := by simpa [Addr.add] using World.cell?_spot h0
  exact ⟨b, off, by rw [hspot]⟩
theorem ReadsE.at {w : World} {ao : Option Addr} {len cap : Nat} {es : List En} (h : ReadsE w ao len cap (cellsE es)) (hp : 0 < len) :
    ∃ b off, ao = some ⟨b, off, none⟩ ∧ b < w.heap.size ∧ ∀ (i : Nat) e, es[i]? = some e → w.cell? ⟨b, off + i * 2, none⟩ = some (strV e.1) ∧ w.cell? ⟨b, off + i * 2 + 1, none⟩ = some (.int .u64 e.2) := by
  have hl := h.length
  cases ao with
  | none => have := h.bare rfl; omega
  | some a =>
    obtain ⟨b, off, rfl⟩ := h.plain hp
    refine ⟨b, off, rfl, ?_, fun i e he => ?_⟩
    · obtain ⟨u, hu⟩ : ∃ u, (cellsE es)[0]? = some u := ⟨_, List.getElem?_eq_getElem (by omega)⟩
      have := World.block_lt_of_cell? w _ (h.cell _ rfl 0 u hu)
      simpa [Addr.add_lit] using this
    · have h8 := cells_at he
      have h9 := h.cell _ rfl _ _ h8.1
      have h10 := h.cell _ rfl _ _ h8.2
      rw [Addr.add_lit] at h9 h10
      exact ⟨h9, by rw [Nat.add_assoc]; exact h10⟩
theorem ReadsE.count {w : World} {ao : Option Addr} {len cap : Nat} {es : List En} (h : ReadsE w ao len cap (cellsE es)) : es.length = len := by
  have := h.length; rw [cells_len] at this; omega
theorem ReadsE.from {P : Program} {t e : TypeId} (ht : P.underlying t = some (.slice e)) (hs : ∀ W, (sizeOf e).run P W = .ok 2 W) {ao : Option Addr} {len cap : Nat} (l : Nat) (hl : l ≤ len) :
    ∃ ao', (∀ W, (Instr.slice t (.slice ao len cap) (some (.int .i64 (l : Int))) none none).run P W = .ok (.slice ao' (len - l) (cap - l)) W) ∧ (∀ W xs, ReadsE W ao len cap xs → ReadsE W ao' (len - l) (cap - l) (xs.drop (l * 2))) := by
  have ht' : P.underlying t = some (.slice (P.elem t)) := by simp [Program.elem, ht]
  have he : P.elem t = e := by simp [Program.elem, ht]
  refine ⟨if cap = l then ao else ao.map (·.add (l * 2)), fun W => ?_, fun W xs h => ⟨?_, ?_, ?_, ?_, ?_⟩⟩
  · rw [run_slice_l (P := P) W t ao len cap ht' .i64 l (by omega) (by omega), he, hs]
    simp [Result.andThen, sliced]
  · have := h.length; simp; omega
  · have := h.le; omega
  · have := h.most; omega
  · intro hn
    split at hn
    · have := h.bare hn; omega
    · simp only [Option.map_eq_none_iff] at hn
      have := h.bare hn; omega
  · intro a ha j u hu
    have hle := h.le
    have hj : l * 2 + j < xs.length := by
      have := (List.getElem?_eq_some_iff.1 hu).1
      simp at this; omega
    have := h.length
    rw [if_neg (by omega)] at ha
    cases ao with
    | none => simp at ha
    | some x =>
      simp only [Option.map_some, Option.some.injEq] at ha
      subst ha
      obtain ⟨b, off, rfl⟩ := h.plain (by omega)
      have hc := h.cell _ rfl (l * 2 + j) u (by simpa using hu)
      rw [Addr.add_lit, Addr.add_lit, Nat.add_assoc]
      rw [Addr.add_lit] at hc
      exact hc
theorem ReadsE.to {P : Program} {t e : TypeId} (ht : P.underlying t = some (.slice e)) (hs : ∀ W, (sizeOf e).run P W = .ok 2 W) {ao : Option Addr} {len cap : Nat} (hc : len ≤ cap) (h : Nat) (hh : h ≤ len) :
    ∃ ao', (∀ W, (Instr.slice t (.slice ao len cap) none (some (.int .i64 (h : Int))) none).run P W = .ok (.slice ao' h cap) W) ∧ (∀ W xs, ReadsE W ao len cap xs → ReadsE W ao' h cap (xs.take (h * 2))) := by
  have ht' : P.underlying t = some (.slice (P.elem t)) := by simp [Program.elem, ht]
  have he : P.elem t = e := by simp [Program.elem, ht]
  refine ⟨if cap = 0 then ao else ao.map (·.add (0 * 2)), fun W => ?_, fun W xs hr => ⟨?_, ?_, ?_, ?_, ?_⟩⟩
  · rw [run_slice_h (P := P) W t ao len cap ht' .i64 h (by omega) (by omega), he, hs]
    simp [Result.andThen, sliced]
  · have := hr.length; simp; omega
  · omega
  · exact hr.most
  · intro hn
    split at hn
    · have := hr.bare hn; omega
    · simp only [Option.map_eq_none_iff] at hn
      have := hr.bare hn; omega
  · intro a ha j u hu
    have hj : j < h * 2 ∧ j < xs.length := by
      have := (List.getElem?_eq_some_iff.1 hu).1
      simp at this; omega
    have := hr.length
    rw [if_neg (by omega)] at ha
    cases ao with
    | none => simp at ha
    | some x =>
      simp only [Option.map_some, Option.some.injEq] at ha
      subst ha
      obtain ⟨b, off, rfl⟩ := hr.plain (by omega)
      have hcc := hr.cell _ rfl j u (by rw [List.getElem?_take_of_lt hj.1] at hu; exact hu)
      rw [Nat.zero_mul, Addr.add_lit, Addr.add_lit, Nat.add_zero]
      rw [Addr.add_lit] at hcc
      exact hcc
theorem cells_one (es : List En) : ∀ u ∈ cellsE es, u.oneCell' = true := by
  intro u hu
  obtain ⟨e, _, he⟩ := List.mem_flatMap.1 hu
  simp [encE] at he
  rcases he with rfl | rfl <;> rfl
theorem cells_drop : ∀ (es : List En) (l : Nat), (cellsE es).drop (l * 2) = cellsE (es.drop l)
  | [], l => by simp [cellsE]
  | a :: es, 0 => by simp
  | a :: es, l + 1 => by
    rw [show (l + 1) * 2 = l * 2 + 1 + 1 by omega]
    exact cells_drop es l
theorem cells_take : ∀ (es : List En) (l : Nat), (cellsE es).take (l * 2) = cellsE (es.take l)
  | [], l => by simp [cellsE]
  | a :: es, 0 => by simp [cellsE]
  | a :: es, l + 1 => by
    rw [show (l + 1) * 2 = l * 2 + 1 + 1 by omega]
    show strV a.1 :: .int .u64 a.2 :: (cellsE es).take (l * 2) = _
    rw [cells_take es l]; rfl

/-- 'append(own, src...)' of entries, whatever the source, and where it lies then. -/
theorem wpList_append_en {w : World} {ops : Array Oper} {rest : List Oper} {o : Oper} {a : Act} {Q : Exit → Act → World → Prop} (hgd : o.guard = none) (s x : Operand)
    (ho : o.op = .call { callee := .builtin .append, args := #[s, x], argTypes := #[25, 25] }) (base : Nat)
    (ag : Option Addr) (n c : Nat) (xs : List Value) (hs : a.eval s = .slice ag n c) (hown : w.ownsRow base 44 2 (.slice ag n c) n xs)
    (ao : Option Addr) (m d : Nat) (news : List Value) (hx : a.eval x = .slice ao m d) (hr : ReadsE w ao m d news) (h1 : ∀ u ∈ news, u.oneCell' = true)
    (h63 : n + m ≤ maxLen) (hbytes : (n + m) * 24 ≤ 140737488355328) (hbase : base ≤ w.heap.size)
    (h : ∀ ag' c' w', w'.ownsRow base 44 2 (.slice ag' (n + m) c') (n + m) (xs ++ news) → w.grownBy w' (Value.slice ag n c).ownBlock → Below base w w' →
      ((Value.slice ag' (n + m) c').ownBlock = (Value.slice ag n c).ownBlock ∨ ∃ k, (Value.slice ag' (n + m) c').ownBlock = some k ∧ w.heap.size ≤ k) → wpList Try.prog ops Q rest (a.put o.dst (.slice ag' (n + m) c')) w') : wpList Try.prog ops Q (o :: rest) a w := by
  obtain ⟨i, hi, hz0, hz1, hz2⟩ := info_parts Try.infoEn
  cases ao with
  | none =>
    obtain ⟨rfl, rfl⟩ := hr.bare rfl
    have : news = [] := List.eq_nil_of_length_eq_zero hr.length
    subst this
    refine wpList_append_own_none hgd s x 25 ho base 44 i 2 Try.underlying25 hi _ n xs hs hown hx ?_
    exact h ag c w (by simpa using hown) (World.grownBy.refl _ _) (Below.refl _ _) (.inl (by cases ag <;> rfl))
  | some ad =>
    refine wpList_append_own_at w hgd s x 25 ho base 44 i (.agg #[.string ⟨#[]⟩, .int .u64 0]) 2 24 Try.underlying25 hi hz0 hz1 hz2 rfl (by decide) _ n xs hs hown ad m d news hx hr.length (hr.cell ad rfl) h1 h63 hbytes hbase ?_
    intro v' w' h2 h3 h4 h5
    obtain ⟨ag', c', rfl⟩ := own2_slice h2
    exact h ag' c' w' h2 h3 ((Below.refl _ _).grown h3 hbase (fun k hk => (hown.lt k hk).1)) (h5.imp id fun h => ⟨_, h, Nat.le_refl _⟩)
/-- .. onto an empty one. -/
theorem wpList_append_new {w : World} {ops : Array Oper} {rest : List Oper} {o : Oper} {a : Act} {Q : Exit → Act → World → Prop} (hgd : o.guard = none) (s x : Operand)
    (ho : o.op = .call { callee := .builtin .append, args := #[s, x], argTypes := #[25, 25] }) (base : Nat)
    (ag : Option Addr) (c : Nat) (hs : a.eval s = .slice ag 0 c) (hown : w.ownsRow base 44 2 (.slice ag 0 c) 0 [])
    (ao : Option Addr) (m d : Nat) (news : List Value) (hx : a.eval x = .slice ao m d) (hr : ReadsE w ao m d news) (h1 : ∀ u ∈ news, u.oneCell' = true)
    (h63 : m ≤ maxLen) (hbytes : m * 24 ≤ 140737488355328) (hbase : base ≤ w.heap.size)
    (h : ∀ ag' c' w', w'.ownsRow base 44 2 (.slice ag' m c') m news → Below base w w' → wpList Try.prog ops Q rest (a.put o.dst (.slice ag' m c')) w') : wpList Try.prog ops Q (o :: rest) a w := by
  refine wpList_append_en hgd s x ho base ag 0 c [] hs hown ao m d news hx hr h1 (by omega) (by omega) hbase ?_
  intro ag' c' w' h2 h3 h4 h5
  rw [Nat.zero_add] at h2 ⊢
  exact h ag' c' w' h2 h4
theorem slice_inj {a a' : Option Addr} {n c n' c' : Nat} (h : Value.slice a n c = Value.slice a' n' c') : a = a' ∧ c = c' := by
  simp only [Value.slice.injEq] at h; exact ⟨h.1, h.2.2⟩
theorem own2_empty (w : World) (e : TypeId) : (w.alloc (.cells #[] e)).ownsRow w.heap.size e 2 (.slice (some ⟨w.heap.size, 0, none⟩) 0 0) 0 [] := by
  refine ⟨rfl, .inr ⟨w.heap.size, 0, #[], rfl, Nat.le_refl _, heap_alloc_new _ _, Nat.le_refl _, Nat.zero_le _, rfl, rfl⟩⟩
theorem reads_lit (W : World) (x y : Value) (t : TypeId) : ReadsE (W.alloc (.cells #[x, y] t)) (some ⟨W.heap.size, 0, none⟩) 1 1 [x, y] :=
  ⟨rfl, Nat.le_refl _, by unfold maxLen; omega, (fun h => by cases h), fun a ha j u hu => by cases ha; exact news_one W x y t j u hu⟩
end Go.Proofs.Ytgnhnhachhfafaa
