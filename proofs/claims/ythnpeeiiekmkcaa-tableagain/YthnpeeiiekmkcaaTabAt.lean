/- A table in memory: its struct's block, the row of its entries, the map of their places. -/
import Derived.Test.YthnpeeiiekmkcaaTabMath
import Derived.Test.YthnpeeiiekmkcaaCuts
import Derived.Test.YthnpeeiiekmkcaaOwn
import Derived.Maps.Own
import Derived.Maps.OwnOps
import Derived.Maps.OwnSet
import Derived.Maps.Views
namespace Go.Proofs.Ythnpeeiiekmkcaa
open Go.RowKit Go.Maps Go.MapKept Go.WideShapes Go.ChangeMaps
set_option linter.unusedVariables false
set_option linter.unusedSimpArgs false

/-- A word as a value. -/
abbrev strV (k : Wd) : Value := .string ⟨k.toArray⟩
/-- An entry's two cells. -/
def encE (x : En) : List Value := [strV x.1, .int .u64 x.2]
def cellsE (es : List En) : List Value := es.flatMap encE
theorem cells_len (es : List En) : (cellsE es).length = es.length * 2 := by
  induction es with
  | nil => rfl
  | cons a es ih => simp only [cellsE, List.flatMap_cons, List.length_append] at ih ⊢; rw [ih]; simp [encE]; omega
theorem cells_app (es ds : List En) : cellsE (es ++ ds) = cellsE es ++ cellsE ds := List.flatMap_append
theorem cells_at : ∀ {es : List En} {i : Nat} {e : En}, es[i]? = some e → (cellsE es)[i * 2]? = some (strV e.1) ∧ (cellsE es)[i * 2 + 1]? = some (.int .u64 e.2)
  | a :: es, 0, e, h => by
    simp only [List.getElem?_cons_zero, Option.some.injEq] at h
    subst h; exact ⟨rfl, rfl⟩
  | a :: es, i + 1, e, h => by
    simp only [List.getElem?_cons_succ] at h
    have := cells_at h
    rw [show (i + 1) * 2 = i * 2 + 1 + 1 by omega]
    exact this
theorem cells_set : ∀ (es : List En) (i : Nat) (e : En) (s : Nat), es[i]? = some e → (cellsE es).set (i * 2 + 1) (.int .u64 s) = cellsE (es.set i (e.1, s))
  | a :: es, 0, e, s, h => by
    simp only [List.getElem?_cons_zero, Option.some.injEq] at h
    subst h; rfl
  | a :: es, i + 1, e, s, h => by
    simp only [List.getElem?_cons_succ] at h
    have := cells_set es i e s h
    rw [show (i + 1) * 2 + 1 = i * 2 + 1 + 1 + 1 by omega]
    show strV a.1 :: .int .u64 a.2 :: (cellsE es).set (i * 2 + 1) _ = _
    rw [this]; rfl

/-- The map of the entries' places. -/
def PlacesAt (w : World) (bm : Nat) (es : List En) : Prop := ∃ D : DataW Unit, w.ownsMap Try.prog 9 (plainElem Try.prog 3) bm es.length D ∧
  (∀ (i : Nat) (e : En), es[i]? = some e → Maps.has D (.string e.1) = true ∧ D.atKey (.string e.1) (.lit (.int .i64 0)) = .lit (.int .i64 i)) ∧ ∀ k : Wd, (∀ e ∈ es, e.1 ≠ k) → Maps.has D (.string k) = false
theorem keyedS : Keyed Try.prog 9 := string_keyed Try.underlying9
theorem key_str (k : Wd) (h : k.length ≤ maxLen) : keyOf Try.prog 9 (strV k) = some (.string k) := by
  have := WideMaps.keyOf_string_mk (s := ⟨k.toArray⟩) Try.underlying9 (by simpa [ByteArray.size] using h)
  simpa using this
theorem places_kept {w w' : World} {bm : Nat} {es : List En} (h : PlacesAt w bm es) (hb : w'.heap[bm]? = w.heap[bm]?) : PlacesAt w' bm es := by
  obtain ⟨D, ⟨xs, clock, h1, h2⟩, h3⟩ := h
  exact ⟨D, ⟨xs, clock, hb.trans h1, h2⟩, h3⟩
theorem places_blk {w : World} {bm : Nat} {es : List En} (h : PlacesAt w bm es) : ∃ xs c, w.heap[bm]? = some (.map xs c) := by
  obtain ⟨D, ⟨xs, clock, h1, h2⟩, h3⟩ := h
  exact ⟨xs, clock, h1⟩
theorem places_in {w : World} {bm : Nat} {es : List En} (h : PlacesAt w bm es) {i : Nat} {e : En} (he : es[i]? = some e) (hl : e.1.length ≤ maxLen) :
    (Instr.lookup 48 (.map (some bm)) (strV e.1) true).run Try.prog w = .ok (.tuple #[.int .i64 i, .bool true]) w := by
  obtain ⟨D, h1, h2, h3⟩ := h
  obtain ⟨v, ps, hrun, hv⟩ := h1.look_ok keyedS Try.underlying48 (Try.zeroValue3 w) (plainElem_int Try.underlying3 (by decide)) (key_str e.1 hl)
  rw [(h2 i e he).1] at hrun
  rw [(h2 i e he).2] at hv
  obtain ⟨c, rfl, hc, _⟩ := plainElem_int_inv Try.underlying3 hv
  simp only [Prod.mk.injEq, DataW.lit.injEq, Lit.int.injEq, true_and] at hc
  rw [hrun, ← hc.1]
theorem places_out {w : World} {bm : Nat} {es : List En} (h : PlacesAt w bm es) {k : Wd} (he : ∀ e ∈ es, e.1 ≠ k) (hl : k.length ≤ maxLen) :
    (Instr.lookup 48 (.map (some bm)) (strV k) true).run Try.prog w = .ok (.tuple #[.int .i64 0, .bool false]) w := by
  obtain ⟨D, h1, h2, h3⟩ := h
  obtain ⟨v, ps, hrun, hv⟩ := h1.look_ok keyedS Try.underlying48 (Try.zeroValue3 w) (plainElem_int Try.underlying3 (by decide)) (key_str k hl)
  rw [h3 k he] at hrun
  rw [Maps.atKey_of_not_has (h3 k he)] at hv
  obtain ⟨c, rfl, hc, _⟩ := plainElem_int_inv Try.underlying3 hv
  simp only [Prod.mk.injEq, DataW.lit.injEq, Lit.int.injEq, true_and] at hc
  rw [hrun, ← hc.1]
theorem places_keys {w : World} {bm : Nat} {es ds : List En} (h : PlacesAt w bm es) (hk : ds.map Prod.fst = es.map Prod.fst) : PlacesAt w bm ds := by
  obtain ⟨D, h1, h2, h3⟩ := h
  have hl : ds.length = es.length := by simpa using congrArg List.length hk
  refine ⟨D, by rw [hl]; exact h1, fun i e he => ?_, fun k hd => h3 k fun e he => ?_⟩
  · have h4 : (es.map Prod.fst)[i]? = some e.1 := by rw [← hk]; simp [he]
    simp only [List.getElem?_map, Option.map_eq_some_iff] at h4
    obtain ⟨e2, h5, h6⟩ := h4
    rw [← h6]; exact h2 i e2 h5
  · have h4 : e.1 ∈ ds.map Prod.fst := by rw [hk]; exact List.mem_map.2 ⟨e, he, rfl⟩
    obtain ⟨e2, h5, h6⟩ := List.mem_map.1 h4
    rw [← h6]; exact hd e2 h5
theorem places_put {w : World} {bm : Nat} {es : List En} (h : PlacesAt w bm es) {k : Wd} (n : Nat) (he : ∀ e ∈ es, e.1 ≠ k) (hl : k.length ≤ maxLen) (hm : es.length ≤ 65536) :
    ∃ w', (Instr.mapUpdate 48 (.map (some bm)) (strV k) (.int .i64 es.length)).run Try.prog w = .ok () w' ∧ PlacesAt w' bm (es ++ [(k, n)]) ∧ w.mapTurned w' bm := by
  obtain ⟨D, h1, h2, h3⟩ := h
  obtain ⟨w', hrun, ho, ht⟩ := h1.store keyedS Try.underlying48 (by unfold maxLen; omega) (key_str k hl) (plainElem_int Try.underlying3 (a := es.length) (WalkArith.wf_i64 (by omega)))
  refine ⟨w', hrun, ⟨_, by simpa using ho, fun i e hi => ?_, fun k' hk' => ?_⟩, ht⟩
  · by_cases hlt : i < es.length
    · rw [List.getElem?_append_left hlt] at hi
      have hne : (Lit.string e.1) ≠ .string k := fun e' => he e (List.mem_of_getElem? hi) (by simpa using e')
      rw [Maps.has_put_other hne, Maps.atKey_put_other hne]
      exact h2 i e hi
    · have hi' := hi
      rw [List.getElem?_append_right (by omega)] at hi
      have h0 : i - es.length = 0 := by
        have := (List.getElem?_eq_some_iff.1 hi).1; simp at this; omega
      rw [h0] at hi
      simp only [List.getElem?_cons_zero, Option.some.injEq] at hi
      subst hi
      have e1 : i = es.length := by omega
      subst e1
      have hkl : WideAt.IsKeyLit (Lit.string k) := trivial
      exact ⟨Maps.has_put_same h1.isMap hkl _, Maps.atKey_put_same h1.isMap hkl _ _⟩
  · have hne : (Lit.string k') ≠ .string k := fun e' => hk' (k, n) (by simp) (by simpa using e'.symm)
    rw [Maps.has_put_other hne]
    exact h3 k' fun e he => hk' e (by simp [he])
theorem places_made (w : World) : PlacesAt (w.alloc (.map #[] 0)) w.heap.size [] :=
  ⟨.map [], World.ownsMap_made _ _ _ _, fun i e h => by simp at h, fun k _ => rfl⟩
theorem places_clear {w : World} {bm : Nat} {es : List En} (h : PlacesAt w bm es) :
    ∃ w', (∀ ty, (Builtin.clear_ #[48] ty #[.map (some bm)]).run Try.prog w = .ok (.tuple #[]) w') ∧ PlacesAt w' bm [] ∧ w.mapTurned w' bm := by
  obtain ⟨D, ⟨xs, clock, h1, F, h2⟩, h3⟩ := h
  refine ⟨setBlock w bm (.map #[] clock), ?_, ⟨.map [], ⟨#[], clock, heap_setBlock_same h1 _, ⟨by simp, by constructor <;> simp, by simp⟩, by simp, rfl⟩, fun i e h => by simp at h, fun k _ => rfl⟩, ⟨xs, clock, #[], clock, h1, rfl⟩⟩
  · intro ty
    simp [Builtin.clear_, run_underlying Try.underlying48, MapKept.run_getObj_map h1, MapKept.run_setObj_map _ h1, Result.andThen, setBlock]

theorem own2_later {w w' : World} {base e n B : Nat} {v : Value} {xs : List Value} (h : w.ownsRow base e 2 v n xs) (hb : Below B w w') (hB : w.heap.size ≤ B) : w'.ownsRow base e 2 v n xs := by
  refine ⟨h.1, ?_⟩
  rcases h.2 with h' | ⟨g, cap, cur, h1, h2, h3, h4⟩
  · exact .inl h'
  · exact .inr ⟨g, cap, cur, h1, h2, (hb.block g (by have := (Array.getElem?_eq_some_iff.1 h3).1; omega)).trans h3, h4⟩
theorem own2_block {w w' : World} {base e n : Nat} {v : Value} {xs : List Value} (h : w.ownsRow base e 2 v n xs) (hb : ∀ k, v.ownBlock = some k → w'.heap[k]? = w.heap[k]?) : w'.ownsRow base e 2 v n xs := by
  refine ⟨h.1, ?_⟩
  rcases h.2 with h' | ⟨g, cap, cur, h1, h2, h3, h4⟩
  · exact .inl h'
  · exact .inr ⟨g, cap, cur, h1, h2, (hb g (by rw [h1]; rfl)).trans h3, h4⟩
theorem own2_type {w : World} {base e n : Nat} {v : Value} {xs : List Value} (h : w.ownsRow base e 2 v n xs) {k : Nat} (hk : v.ownBlock = some k) : ∃ cur, w.heap[k]? = some (.cells cur e (0, 0)) := by
  rcases h.2 with h' | ⟨g, cap, cur, h1, h2, h3, h4⟩
  · rw [h'.1] at hk; cases hk
  · rw [h1] at hk; cases hk; exact ⟨cur, h3⟩

/-- A table: its struct lies at b, its map at bm, its entries' slice is v. -/
structure TabAt (base : Nat) (w : World) (b bm : Nat) (v : Value) (room : Nat) (es : List En) : Prop where
  blk : w.heap[b]? = some (.cells #[.int .i64 room, v, .map (some bm)] 50 (0, 0))
  lo : base ≤ b
  lom : base ≤ bm
  row : w.ownsRow base 44 2 v es.length (cellsE es)
  map : PlacesAt w bm es
  tab : TabE room es
  most : room ≤ 65536
  long : ∀ e ∈ es, e.1.length ≤ 140737488355328

/-- What a call on a table turns: its own blocks, and new ones. -/
structure Turned (w w' : World) (b bm : Nat) (v v' : Value) : Prop where
  os : w'.os = w.os
  tape : w'.tape = w.tape
  output : w'.output = w.output
  size : w.heap.size ≤ w'.heap.size
  block : ∀ i, i < w.heap.size → i ≠ b → i ≠ bm → v.ownBlock ≠ some i → w'.heap[i]? = w.heap[i]?
  own : v'.ownBlock = none ∨ v'.ownBlock = v.ownBlock ∨ ∃ k, v'.ownBlock = some k ∧ w.heap.size ≤ k
theorem Turned.refl (w : World) (b bm : Nat) (v : Value) : Turned w w b bm v v := ⟨rfl, rfl, rfl, Nat.le_refl _, fun _ _ _ _ _ => rfl, .inr (.inl rfl)⟩

theorem TabAt.ne {base : Nat} {w : World} {b bm : Nat} {v : Value} {room : Nat} {es : List En} (h : TabAt base w b bm v room es) : b ≠ bm ∧ v.ownBlock ≠ some b ∧ v.ownBlock ≠ some bm := by
  obtain ⟨xs, c, hm⟩ := places_blk h.map
  refine ⟨fun e => ?_, fun e => ?_, fun e => ?_⟩
  · have := h.blk; rw [e, hm] at this; cases this
  · obtain ⟨cur, hc⟩ := own2_type h.row e
    have := h.blk; rw [hc] at this; simp at this
  · obtain ⟨cur, hc⟩ := own2_type h.row e
    rw [hm] at hc; cases hc
theorem TabAt.lt {base : Nat} {w : World} {b bm : Nat} {v : Value} {room : Nat} {es : List En} (h : TabAt base w b bm v room es) : b < w.heap.size ∧ bm < w.heap.size := by
  obtain ⟨xs, c, hm⟩ := places_blk h.map
  exact ⟨(Array.getElem?_eq_some_iff.1 h.blk).1, (Array.getElem?_eq_some_iff.1 hm).1⟩
/-- Behind what turns none of its blocks. -/
theorem TabAt.blocks {base : Nat} {w w' : World} {b bm : Nat} {v : Value} {room : Nat} {es : List En} (h : TabAt base w b bm v room es) (h1 : w'.heap[b]? = w.heap[b]?) (h2 : w'.heap[bm]? = w.heap[bm]?)
    (h3 : ∀ k, v.ownBlock = some k → w'.heap[k]? = w.heap[k]?) : TabAt base w' b bm v room es :=
  ⟨h1.trans h.blk, h.lo, h.lom, own2_block h.row h3, places_kept h.map h2, h.tab, h.most, h.long⟩
theorem TabAt.rowlt {base : Nat} {w : World} {b bm : Nat} {v : Value} {room : Nat} {es : List En} (h : TabAt base w b bm v room es) {k : Nat} (hk : v.ownBlock = some k) : k < w.heap.size := by
  obtain ⟨cur, hc⟩ := own2_type h.row hk
  exact (Array.getElem?_eq_some_iff.1 hc).1
theorem TabAt.later {base : Nat} {w w' : World} {b bm B : Nat} {v : Value} {room : Nat} {es : List En} (h : TabAt base w b bm v room es) (hb : Below B w w') (hB : w.heap.size ≤ B) : TabAt base w' b bm v room es :=
  h.blocks (hb.block _ (by have := h.lt; omega)) (hb.block _ (by have := h.lt; omega)) fun k hk => hb.block _ (by have := h.rowlt hk; omega)
/-- Behind a call on another table. -/
theorem TabAt.other {base base' : Nat} {w w' : World} {b bm b' bm' : Nat} {v v' v'' : Value} {room room' : Nat} {es es' : List En} (h : TabAt base w b bm v room es) (h' : TabAt base' w b' bm' v' room' es') (ht : Turned w w' b' bm' v' v'')
    (hb : b ≠ b') (hbm : bm ≠ bm') (ho : ∀ k, v.ownBlock = some k → v'.ownBlock ≠ some k) : TabAt base w' b bm v room es := by
  obtain ⟨xs, c, hm⟩ := places_blk h.map
  obtain ⟨xs', c', hm'⟩ := places_blk h'.map
  have n1 : b ≠ bm' := fun e => by have := h.blk; rw [e, hm'] at this; cases this
  have n2 : bm ≠ b' := fun e => by have := h'.blk; rw [← e, hm] at this; cases this
  refine h.blocks (ht.block _ h.lt.1 hb n1 fun e => ?_) (ht.block _ h.lt.2 n2 hbm fun e => ?_) fun k hk => ht.block _ (h.rowlt hk) (fun e => ?_) (fun e => ?_) (ho k hk)
  · obtain ⟨cur, hc⟩ := own2_type h'.row e
    have := h.blk; rw [hc] at this; simp at this
  · obtain ⟨cur, hc⟩ := own2_type h'.row e
    rw [hm] at hc; cases hc
  · obtain ⟨cur, hc⟩ := own2_type h.row hk
    have := h'.blk; rw [← e, hc] at this; simp at this
  · obtain ⟨cur, hc⟩ := own2_type h.row hk
    rw [e, hm'] at hc; cases hc
/-- What lies below the table's blocks is as it was. -/
theorem Turned.below {base : Nat} {w w' : World} {b bm : Nat} {v v' : Value} {room : Nat} {es : List En} (ht : Turned w w' b bm v v') (h : TabAt base w b bm v room es) {B : Nat} (hB : B ≤ base) : Below B w w' := by
  refine ⟨ht.os, ht.tape, ht.output, ht.size, fun k hk => ?_⟩
  by_cases hlt : k < w.heap.size
  · refine ht.block k hlt (by have := h.lo; omega) (by have := h.lom; omega) fun e => ?_
    have := h.row.lt k e; omega
  · have := h.lt; have := h.lo; omega
theorem Turned.trans {w w' w'' : World} {b bm : Nat} {v v' v'' : Value} (h : Turned w w' b bm v v') (h' : Turned w' w'' b bm v' v'') : Turned w w'' b bm v v'' := by
  refine ⟨h'.os.trans h.os, h'.tape.trans h.tape, h'.output.trans h.output, Nat.le_trans h.size h'.size, fun i hi h1 h2 h3 => ?_, ?_⟩
  · refine (h'.block i (Nat.lt_of_lt_of_le hi h.size) h1 h2 fun e => ?_).trans (h.block i hi h1 h2 h3)
    rcases h.own with h4 | h4 | ⟨k, h4, h5⟩
    · rw [h4] at e; cases e
    · rw [h4] at e; exact h3 e
    · rw [h4] at e; cases e; omega
  · rcases h'.own with h4 | h4 | ⟨k, h4, h5⟩
    · exact .inl h4
    · rw [h4]; rcases h.own with h6 | h6 | h6
      · exact .inl h6
      · exact .inr (.inl h6)
      · exact .inr (.inr h6)
    · exact .inr (.inr ⟨k, h4, Nat.le_trans h.size h5⟩)
theorem turned_grow {w w' : World} {b bm : Nat} {v : Value} (h : Below w.heap.size w w') : Turned w w' b bm v v :=
  ⟨h.os, h.tape, h.output, h.size, fun i hi _ _ _ => h.block i hi, .inr (.inl rfl)⟩
theorem turned_map {w w' : World} {b bm : Nat} {v : Value} (h : w.mapTurned w' bm) : Turned w w' b bm v v := by
  have := h.grown
  exact ⟨this.os, this.tape, this.output, this.size, fun i hi _ h2 _ => this.block i hi fun e => h2 (Option.some.inj e), .inr (.inl rfl)⟩
end Go.Proofs.Ythnpeeiiekmkcaa
