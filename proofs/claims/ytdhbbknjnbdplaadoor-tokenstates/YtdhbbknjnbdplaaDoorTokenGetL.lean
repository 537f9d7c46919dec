/- What a State's bytes tell, step by step. -/
import Derived.Test.YtdhbbknjnbdplaaDoorRef07Put
import Derived.Test.YtdhbbknjnbdplaaDoorTokenCode
namespace Go.Proofs.YtdhbbknjnbdplaaDoor
open Go.RowKit
set_option linter.unusedVariables false
set_option linter.unusedSimpArgs false

def outT (o : Option TokS) : TokS × Int := match o with | some s => (s, 0) | none => (⟨[], [], false, false⟩, 2)
/-- Behind what is pending. -/
def getT2 (p r : List Int) : Option TokS := if (getL r).2.2 = 0 ∧ (getL r).1 ≤ 32 then (runesT (getL r).1 (r.drop (getL r).2.1)).bind fun x => (flagT x.2).map fun f => ⟨p, x.1, f.1, f.2⟩ else none
theorem getT_bad {b : List Int} {n at' f : Nat} (hg : getL b = (n, at', f)) (h : f ≠ 0 ∨ b.length - at' < n ∨ (n ≠ 0 ∧ ¬ pendU ((b.drop at').take n))) : getT b = none := by
  unfold getT
  rw [hg]
  rw [if_neg]
  rintro ⟨h1, h2, h3⟩
  simp only at h1 h2 h3
  rcases h with h | h | ⟨h, h'⟩
  · exact h h1
  · omega
  · exact h3.elim h h'
theorem getT_mid {b : List Int} {n at' : Nat} (hg : getL b = (n, at', 0)) (h2 : n ≤ b.length - at') (h3 : n = 0 ∨ pendU ((b.drop at').take n)) : getT b = getT2 ((b.drop at').take n) (b.drop (at' + n)) := by
  unfold getT getT2
  rw [hg]
  simp only
  rw [if_pos ⟨trivial, h2, h3⟩]
theorem getT2_bad {p r : List Int} {m k f : Nat} (hg : getL r = (m, k, f)) (h : f ≠ 0 ∨ 32 < m) : getT2 p r = none := by
  unfold getT2
  rw [hg, if_neg]
  rintro ⟨h1, h2⟩
  simp only at h1 h2
  rcases h with h | h
  · exact h h1
  · omega
theorem getT2_ok {p r : List Int} {m k : Nat} (hg : getL r = (m, k, 0)) (h : m ≤ 32) : getT2 p r = (runesT m (r.drop k)).bind fun x => (flagT x.2).map fun f => ⟨p, x.1, f.1, f.2⟩ := by
  unfold getT2
  rw [hg]
  simp only
  rw [if_pos ⟨trivial, h⟩]
theorem runes_bad {m c j f : Nat} {r : List Int} (hg : getL r = (c, j, f)) (h : f ≠ 0 ∨ 1114111 < c) : runesT (m + 1) r = none := by
  unfold runesT
  rw [hg, if_neg]
  rintro ⟨h1, h2⟩
  simp only at h1 h2
  rcases h with h | h
  · exact h h1
  · omega
theorem runes_step {m c j : Nat} {r : List Int} (hg : getL r = (c, j, 0)) (h : c ≤ 1114111) : runesT (m + 1) r = (runesT m (r.drop j)).map fun x => ((c : Int) :: x.1, x.2) := by
  rw [runesT, hg]
  simp only
  rw [if_pos ⟨trivial, h⟩]
theorem flag_short {q : List Int} (h : q.length ≠ 1) : flagT q = none := by
  match q, h with
  | [], _ => rfl
  | [_], h => exact absurd rfl h
  | _ :: _ :: _, _ => rfl

theorem load_ref {w : World} {b : Nat} {x y z v : Value} {t : TypeId} (h : w.heap[b]? = some (.cells #[x, y, z, v] t (0, 0))) : (loadVar 30 ⟨b, 0, none⟩).run Tryd.prog w = .ok (.agg #[x, y, z, v]) w := by
  obtain ⟨h0, h1, h2, h3, _⟩ := blk4 h
  simp [loadVar, Tryd.isAgg30, Tryd.sizeOf30, loadCells, loadCellsFrom, go_sem, h0, h1, h2, h3]
theorem results_cell_tmp {fn : Func} {p q : Tmp} {ty : TypeId} (h : fn.results = #[.cell q ty, .tmp p]) (tmps : Array Value) (P : Program) (w : World) {x : Addr} {v : Value} (hx : tmps.getD q undef = .pointer (some x)) (hv : (loadVar ty x).run P w = .ok v w) :
    (results fn tmps).run P w = .ok (.tuple #[v, tmps.getD p undef]) w := by
  have hx' : tmps[q]?.getD undef = .pointer (some x) := by simpa using hx
  simp only [results, h]
  simp [Sem.run_bind, Result.andThen, hx', asAddr, hv]
theorem none_out {zs : List Int} {w w' : World} (h : getT zs = none) (hb : Below w.heap.size w w') : ∃ pg pd pk bg d k mk lg er,
      Ending.returned (.tuple #[.agg #[.slice none 0 0, .slice none 0 0, .bool false, .bool false], .int .i64 2]) = .returned (.tuple #[.agg #[.slice pg pk pd, .slice bg k d, .bool mk, .bool lg], .int .i64 er]) ∧ mk = (outT (getT zs)).1.mark ∧ lg = (outT (getT zs)).1.long ∧ er = (outT (getT zs)).2 ∧ pk = (outT (getT zs)).1.pend.length ∧ k = (outT (getT zs)).1.word.length ∧
      Reads w' pg pk pd ((outT (getT zs)).1.pend.map (.int .u8)) ∧ Reads w' bg k d ((outT (getT zs)).1.word.map (.int .i32)) ∧ Below w.heap.size w w' := by
  rw [h]
  exact ⟨none, 0, 0, none, 0, 0, false, false, 2, rfl, rfl, rfl, rfl, rfl, rfl, Reads.nil _, Reads.nil _, hb⟩

theorem some_out {zs : List Int} {w w' : World} {t : TokS} {pg bg : Option Addr} {pd d pk k : Nat} {mk lg : Bool} (h : getT zs = some t) (hmk : mk = t.mark) (hlg : lg = t.long) (hpk : pk = t.pend.length) (hk : k = t.word.length)
    (hp : Reads w' pg pk pd (t.pend.map (.int .u8))) (hr : Reads w' bg k d (t.word.map (.int .i32))) (hb : Below w.heap.size w w') : ∃ pg' pd' pk' bg' d' k' mk' lg' er,
      Ending.returned (.tuple #[.agg #[.slice pg pk pd, .slice bg k d, .bool mk, .bool lg], .int .i64 0]) = .returned (.tuple #[.agg #[.slice pg' pk' pd', .slice bg' k' d', .bool mk', .bool lg'], .int .i64 er]) ∧ mk' = (outT (getT zs)).1.mark ∧ lg' = (outT (getT zs)).1.long ∧ er = (outT (getT zs)).2 ∧ pk' = (outT (getT zs)).1.pend.length ∧ k' = (outT (getT zs)).1.word.length ∧
      Reads w' pg' pk' pd' ((outT (getT zs)).1.pend.map (.int .u8)) ∧ Reads w' bg' k' d' ((outT (getT zs)).1.word.map (.int .i32)) ∧ Below w.heap.size w w' := by
  rw [h]
  exact ⟨pg, pd, pk, bg, d, k, mk, lg, 0, rfl, hmk, hlg, rfl, hpk, hk, hp, hr, hb⟩
theorem below_set4 {base b : Nat} {w w' : World} (h : Below base w w') (hb : base ≤ b) (x y z v : Value) : Below base w ((((w'.setCell ⟨b, 0, none⟩ x).setCell ⟨b, 1, none⟩ y).setCell ⟨b, 2, none⟩ z).setCell ⟨b, 3, none⟩ v) := (((h.setCell hb _).setCell hb _).setCell hb _).setCell hb _
theorem map_nil (o : Option (List Int × List Int)) : (o.map fun x => (([] : List Int) ++ x.1, x.2)) = o := by cases o <;> rfl
theorem reads_of_own {w w' : World} {base e n c t : Nat} {ao : Option Addr} {xs : List Value} (h : w.ownsRow base e 1 (.slice ao n c) n xs) (hk : KeptBut t w w') (hne : e ≠ t) : Reads w' ao n c xs := Reads.own (own_kept h hk hne)

end Go.Proofs.YtdhbbknjnbdplaaDoor
