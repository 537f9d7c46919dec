/- Automata in memory: a list of states (two cells each), each with a list of edges (two cells each). -/
import Derived.Test.YtkcledkfgmdcgaaTwo
namespace Go.Proofs.Ytkcledkfgmdcgaa
open Go.RowKit
set_option linter.unusedVariables false
set_option linter.unusedSimpArgs false

abbrev StZ := Bool × List (UInt8 × Int)
def encEd (e : UInt8 × Int) : List Value := [.int .u8 (e.1.toNat : Nat), .int .i64 e.2]
def cellsEd (es : List (UInt8 × Int)) : List Value := es.flatMap encEd
theorem cellsEd_len (es : List (UInt8 × Int)) : (cellsEd es).length = es.length * 2 := by
  induction es with
  | nil => rfl
  | cons e es ih => show ([_, _] ++ cellsEd es).length = _; rw [List.length_append, ih]; simp; omega
theorem cellsEd_app (es ds : List (UInt8 × Int)) : cellsEd (es ++ ds) = cellsEd es ++ cellsEd ds := List.flatMap_append
theorem cellsEd_at : ∀ {es : List (UInt8 × Int)} {i : Nat} {e : UInt8 × Int}, es[i]? = some e → (cellsEd es)[i * 2]? = some (.int .u8 (e.1.toNat : Nat)) ∧ (cellsEd es)[i * 2 + 1]? = some (.int .i64 e.2)
  | a :: es, 0, e, h => by
    simp only [List.getElem?_cons_zero, Option.some.injEq] at h
    subst h
    exact ⟨rfl, rfl⟩
  | a :: es, i + 1, e, h => by
    have ih := cellsEd_at (es := es) (i := i) (e := e) (by simpa using h)
    rw [show (i + 1) * 2 = i * 2 + 2 by omega]
    exact ih
def cellsA (vs : List (Bool × Value)) : List Value := vs.flatMap fun p => [.bool p.1, p.2]
theorem cellsA_len (vs : List (Bool × Value)) : (cellsA vs).length = vs.length * 2 := by
  induction vs with
  | nil => rfl
  | cons e es ih => show ([_, _] ++ cellsA es).length = _; rw [List.length_append, ih]; simp; omega
theorem cellsA_app (a b : List (Bool × Value)) : cellsA (a ++ b) = cellsA a ++ cellsA b := List.flatMap_append
theorem cellsA_at : ∀ {vs : List (Bool × Value)} {i : Nat} {p : Bool × Value}, vs[i]? = some p → (cellsA vs)[i * 2]? = some (.bool p.1) ∧ (cellsA vs)[i * 2 + 1]? = some p.2
  | a :: es, 0, e, h => by
    simp only [List.getElem?_cons_zero, Option.some.injEq] at h
    subst h
    exact ⟨rfl, rfl⟩
  | a :: es, i + 1, e, h => by
    have ih := cellsA_at (vs := es) (i := i) (p := e) (by simpa using h)
    rw [show (i + 1) * 2 = i * 2 + 2 by omega]
    exact ih
theorem cellsA_drop : ∀ (vs : List (Bool × Value)) (l : Nat), (cellsA vs).drop (l * 2) = cellsA (vs.drop l)
  | vs, 0 => by simp
  | [], l + 1 => by simp [cellsA]
  | a :: vs, l + 1 => by
    rw [show (l + 1) * 2 = l * 2 + 2 by omega]
    exact cellsA_drop vs l
theorem cellsA_take : ∀ (vs : List (Bool × Value)) (l : Nat), (cellsA vs).take (l * 2) = cellsA (vs.take l)
  | vs, 0 => by simp [cellsA]
  | [], l + 1 => by simp [cellsA]
  | a :: vs, l + 1 => by
    rw [show (l + 1) * 2 = l * 2 + 2 by omega]
    show .bool a.1 :: a.2 :: (cellsA vs).take (l * 2) = _
    rw [cellsA_take vs l]; rfl
/-- What an automaton's slice shows. -/
structure ReadsA (w : World) (ao : Option Addr) (len cap : Nat) (A : List StZ) : Prop where
  vals : ∃ vs : List (Bool × Value), vs.length = A.length ∧ ReadsE w ao len cap (cellsA vs) ∧ ∀ (i : Nat) (p : Bool × Value) (s : StZ), vs[i]? = some p → A[i]? = some s → p.1 = s.1 ∧ ∃ eg c, p.2 = .slice eg s.2.length c ∧ ReadsE w eg s.2.length c (cellsEd s.2)
theorem ReadsA.count {w : World} {ao : Option Addr} {len cap : Nat} {A : List StZ} (h : ReadsA w ao len cap A) : A.length = len := by
  obtain ⟨vs, h1, h2, _⟩ := h.vals
  have := h2.length
  rw [cellsA_len] at this; omega
theorem ReadsA.le {w : World} {ao : Option Addr} {len cap : Nat} {A : List StZ} (h : ReadsA w ao len cap A) : len ≤ cap ∧ cap ≤ maxLen := by
  obtain ⟨vs, h1, h2, _⟩ := h.vals
  exact ⟨h2.le, h2.most⟩
theorem ReadsA.later {w w' : World} {ao : Option Addr} {len cap : Nat} {A : List StZ} {B : Nat} (h : ReadsA w ao len cap A) (hb : Below B w w') (hB : w.heap.size ≤ B) : ReadsA w' ao len cap A := by
  obtain ⟨vs, h1, h2, h3⟩ := h.vals
  refine ⟨vs, h1, h2.later hb hB, fun i p s hp hs => ?_⟩
  obtain ⟨e1, eg, c, e2, e3⟩ := h3 i p s hp hs
  exact ⟨e1, eg, c, e2, e3.later hb hB⟩
theorem ReadsE.block {w : World} {ao : Option Addr} {len cap : Nat} {xs : List Value} (h : ReadsE w ao len cap xs) (hp : 0 < len) : ∃ b off, ao = some ⟨b, off, none⟩ ∧ b < w.heap.size ∧ ∀ j u, xs[j]? = some u → w.cell? ⟨b, off + j, none⟩ = some u := by
  cases ao with
  | none => have := h.bare rfl; omega
  | some a =>
    obtain ⟨b, off, rfl⟩ := h.plain hp
    have hl := h.length
    refine ⟨b, off, rfl, ?_, fun j u hu => ?_⟩
    · have := World.block_lt_of_cell? w _ (h.cell _ rfl 0 xs[0] (List.getElem?_eq_getElem (by omega)))
      simpa [Addr.add_lit] using this
    · have := h.cell _ rfl j u hu
      simpa [Addr.add_lit] using this
/-- A state: its two cells, and its edges' slice. -/
theorem ReadsA.at {w : World} {ao : Option Addr} {len cap : Nat} {A : List StZ} (h : ReadsA w ao len cap A) (hp : 0 < len) :
    ∃ b off, ao = some ⟨b, off, none⟩ ∧ b < w.heap.size ∧ ∀ (i : Nat) (s : StZ), A[i]? = some s → ∃ eg c, w.cell? ⟨b, off + i * 2, none⟩ = some (.bool s.1) ∧ w.cell? ⟨b, off + i * 2 + 1, none⟩ = some (.slice eg s.2.length c) ∧ ReadsE w eg s.2.length c (cellsEd s.2) := by
  obtain ⟨vs, h1, h2, h3⟩ := h.vals
  obtain ⟨b, off, rfl, hb, hc⟩ := h2.block hp
  refine ⟨b, off, rfl, hb, fun i s hs => ?_⟩
  have hi := (List.getElem?_eq_some_iff.1 hs).1
  obtain ⟨p, hp⟩ : ∃ p, vs[i]? = some p := ⟨_, List.getElem?_eq_getElem (by omega)⟩
  obtain ⟨e1, eg, c, e2, e3⟩ := h3 i p s hp hs
  obtain ⟨c1, c2⟩ := cellsA_at hp
  refine ⟨eg, c, ?_, ?_, e3⟩
  · rw [← e1]; exact hc _ _ c1
  · rw [← e2, Nat.add_assoc]; exact hc _ _ c2
/-- An edge's two cells. -/
theorem ReadsE.edge {w : World} {eg : Option Addr} {m c : Nat} {es : List (UInt8 × Int)} (h : ReadsE w eg m c (cellsEd es)) (hp : 0 < m) :
    ∃ b off, eg = some ⟨b, off, none⟩ ∧ b < w.heap.size ∧ ∀ (k : Nat) (e : UInt8 × Int), es[k]? = some e → w.cell? ⟨b, off + k * 2, none⟩ = some (.int .u8 (e.1.toNat : Nat)) ∧ w.cell? ⟨b, off + k * 2 + 1, none⟩ = some (.int .i64 e.2) := by
  obtain ⟨b, off, rfl, hb, hc⟩ := h.block hp
  refine ⟨b, off, rfl, hb, fun k e he => ?_⟩
  obtain ⟨c1, c2⟩ := cellsEd_at he
  exact ⟨hc _ _ c1, by rw [Nat.add_assoc]; exact hc _ _ c2⟩
/-- 's[l:h]' of rows of two cells. -/
theorem ReadsE.mid {P : Program} {t e : TypeId} (ht : P.underlying t = some (.slice e)) (hs : ∀ W, (sizeOf e).run P W = .ok 2 W) {ao : Option Addr} {len cap : Nat} (hc : len ≤ cap) (l h : Nat) (hl : l ≤ h) (hh : h ≤ len) :
    ∃ ao', (∀ W, (Instr.slice t (.slice ao len cap) (some (.int .i64 (l : Int))) (some (.int .i64 (h : Int))) none).run P W = .ok (.slice ao' (h - l) (cap - l)) W) ∧ (∀ W xs, ReadsE W ao len cap xs → ReadsE W ao' (h - l) (cap - l) ((xs.drop (l * 2)).take ((h - l) * 2))) := by
  have ht' : P.underlying t = some (.slice (P.elem t)) := by simp [Program.elem, ht]
  have he : P.elem t = e := by simp [Program.elem, ht]
  refine ⟨if cap = l then ao else ao.map (·.add (l * 2)), fun W => ?_, fun W xs hr => ⟨?_, ?_, ?_, ?_, ?_⟩⟩
  · rw [run_slice_lh (P := P) W t ao len cap ht' .i64 .i64 l h (by omega) (by omega) (by omega), he, hs]
    simp [Result.andThen, sliced]
  · have := hr.length; simp; omega
  · omega
  · have := hr.most; omega
  · intro hn
    split at hn
    · have := hr.bare hn; omega
    · simp only [Option.map_eq_none_iff] at hn
      have := hr.bare hn; omega
  · intro a ha j u hu
    have hj : j < (h - l) * 2 ∧ l * 2 + j < xs.length := by
      have := (List.getElem?_eq_some_iff.1 hu).1
      simp at this; omega
    have hlx := hr.length
    rw [if_neg (by omega)] at ha
    cases ao with
    | none => simp at ha
    | some x =>
      simp only [Option.map_some, Option.some.injEq] at ha
      subst ha
      obtain ⟨b, off, rfl⟩ := hr.plain (by omega)
      have hc := hr.cell _ rfl (l * 2 + j) u (by rw [List.getElem?_take_of_lt hj.1] at hu; simpa using hu)
      rw [Addr.add_lit, Addr.add_lit, Nat.add_assoc]
      rw [Addr.add_lit] at hc
      exact hc
theorem ReadsA.mid {P : Program} {t e : TypeId} (ht : P.underlying t = some (.slice e)) (hs : ∀ W, (sizeOf e).run P W = .ok 2 W) {ao : Option Addr} {len cap : Nat} (hc : len ≤ cap) (l h : Nat) (hl : l ≤ h) (hh : h ≤ len) :
    ∃ ao', (∀ W, (Instr.slice t (.slice ao len cap) (some (.int .i64 (l : Int))) (some (.int .i64 (h : Int))) none).run P W = .ok (.slice ao' (h - l) (cap - l)) W) ∧ (∀ W A, ReadsA W ao len cap A → ReadsA W ao' (h - l) (cap - l) ((A.drop l).take (h - l))) := by
  obtain ⟨ao', h1, h2⟩ := ReadsE.mid (P := P) ht hs (ao := ao) hc l h hl hh
  refine ⟨ao', h1, fun W A hA => ?_⟩
  obtain ⟨vs, v1, v2, v3⟩ := hA.vals
  refine ⟨(vs.drop l).take (h - l), by simp [v1], ?_, fun i p s hp hs => ?_⟩
  · have := h2 W _ v2
    rwa [cellsA_drop, cellsA_take] at this
  · have hi : i < h - l := by have := (List.getElem?_eq_some_iff.1 hp).1; simp at this; omega
    rw [List.getElem?_take_of_lt hi, List.getElem?_drop] at hp hs
    exact v3 _ p s hp hs
end Go.Proofs.Ytkcledkfgmdcgaa
