/- Two rows of one element's type that a call made: where an append leaves them. -/
import Derived.Test.YtgnhnhachhfafaaOwn
namespace Go.Proofs.Ytgnhnhachhfafaa
open Go.RowKit
set_option linter.unusedVariables false

/-- Where the row lies behind an append: where it lay, or in a block of its own. -/
theorem append_where {P : Program} {w : World} (base : Nat) (t ty e : TypeId) (i : TypeInfo) (z : Value) (size bytes : Nat) (ht : P.underlying t = some (.slice e)) (hi : P.info? e = some i) (hz : i.zero = some z)
    (hsize : i.size = size) (hby : i.bytes = bytes) (hzs : z.cells.size = size) (hsz : 0 < size)
    (v : Value) (n : Nat) (xs : List Value) (hown : w.ownsRow base e size v n xs)
    (a : Addr) (m c : Nat) (news : List Value) (hl : news.length = m * size) (hnews : ∀ j u, news[j]? = some u → w.cell? (a.add j) = some u) (h1 : ∀ u ∈ news, u.oneCell' = true)
    (h63 : n + m ≤ maxLen) (hbytes : (n + m) * bytes ≤ 140737488355328) {v' : Value} {w' : World}
    (hrun : (Builtin.append_ #[t, t] ty #[v, .slice (some a) m c]).run P w = .ok v' w') : v'.ownBlock = v.ownBlock ∨ v'.ownBlock = some w.heap.size := by
  subst hsize
  subst hby
  have hsmall : n + m ≤ 9223372036854775807 := by simp only [maxLen] at h63; omega
  rcases hown.2 with ⟨rfl, rfl⟩ | ⟨g, cap, cur, rfl, hbg, hg, hnc, hcm, hcs, htake⟩
  · by_cases hm : m = 0
    · subst hm
      have hn : news = [] := List.eq_nil_of_length_eq_zero (by simpa using hl)
      subst hn
      have hr : (Builtin.append_ #[t, t] ty #[.slice none 0 0, .slice (some a) 0 c]).run P w = .ok (.slice none 0 0) w := by
        simp [Builtin.append_, run_underlying ht, sizeOf, typeInfo, hi, Builtin.lenOf, Builtin.firstCells, loadCells, loadCellsFrom]
      rw [hr] at hrun
      cases hrun
      exact .inl rfl
    · have hr := run_append_nil (P := P) w t ty e i z ht hi hz a m c news hl hnews (by omega) (by omega) (by have hb := hbytes; simp only [Nat.zero_add] at hb; omega)
      rw [hr] at hrun
      cases hrun
      exact .inr rfl
  · by_cases hroom : n + m ≤ cap
    · have hfit : n * i.size + news.length ≤ cur.size := by rw [hl, hcs, ← Nat.add_mul]; exact Nat.mul_le_mul_right _ hroom
      have hr := run_append_room (P := P) w t ty e i ht hi g n cap cur hg a m c news hl hnews h1 hroom hfit
      rw [hr] at hrun
      cases hrun
      exact .inl rfl
    · have holds : ∀ j u, xs[j]? = some u → w.cell? ((⟨g, 0, none⟩ : Addr).add j) = some u := hown.cells (g := g) rfl
      have hr := run_append_grow (P := P) w t ty e i z ht hi hz ⟨g, 0, none⟩ n cap xs hown.1 holds a m c news hl hnews (by omega) (by omega) (growslice_fits (by omega) hbytes)
      rw [hr] at hrun
      cases hrun
      exact .inr rfl

/-- Two slices lie in blocks of their own. -/
def Off (v v' : Value) : Prop := ∀ k, v.ownBlock = some k → v'.ownBlock = some k → False
theorem Off.symm {v v' : Value} (h : Off v v') : Off v' v := fun k a b => h k b a
theorem Off.nil (v : Value) : Off (.slice none 0 0) v := fun k h => by simp [Value.ownBlock] at h
theorem own_off {w w' : World} {base e n : Nat} {v v' : Value} {xs : List Value} (h : w.ownsRow base e 1 v n xs) (ho : Off v v') (hg : w.grownBy w' v'.ownBlock) : w'.ownsRow base e 1 v n xs := by
  refine h.kept hg ?_
  cases hv : v.ownBlock with
  | none => exact .inl rfl
  | some k => exact .inr (fun he => ho k hv he.symm)
theorem off_append {w : World} {base e n B : Nat} {v v' v'' : Value} {xs : List Value} (h : w.ownsRow base e 1 v n xs) (ho : Off v v') (hw : v''.ownBlock = v'.ownBlock ∨ ∃ k, v''.ownBlock = some k ∧ B ≤ k) (hB : w.heap.size ≤ B) : Off v v'' := fun k hk hk' => by
  rcases hw with he | ⟨j, hj, hl⟩
  · exact ho k hk (he ▸ hk')
  · rw [hj] at hk'
    cases hk'
    have := (h.lt _ hk).2
    omega

/-- 'append(own, src...)', whatever the source, and where it lies then. -/
theorem wpList_append_two {P : Program} {w : World} {ops : Array Oper} {rest : List Oper} {o : Oper} {a : Act} {Q : Exit → Act → World → Prop} (hgd : o.guard = none) (s x : Operand) (t : TypeId)
    (ho : o.op = .call { callee := .builtin .append, args := #[s, x], argTypes := #[t, t] }) (base : Nat) (e : TypeId) {z : Value} {bytes : Nat}
    (hinfo : (P.info? e).map (fun i => (i.zero, i.size, i.bytes)) = some (some z, 1, bytes)) (hzs : z.cells.size = 1) (ht : P.underlying t = some (.slice e))
    (ag : Option Addr) (n c : Nat) (xs : List Value) (hs : a.eval s = .slice ag n c) (hown : w.ownsRow base e 1 (.slice ag n c) n xs)
    (ao : Option Addr) (m d : Nat) (news : List Value) (hx : a.eval x = .slice ao m d) (hr : Reads w ao m d news) (h1 : ∀ u ∈ news, u.oneCell' = true)
    (h63 : n + m ≤ maxLen) (hbytes : (n + m) * bytes ≤ 140737488355328) (hbase : base ≤ w.heap.size)
    (h : ∀ ag' c' w', w'.ownsRow base e 1 (.slice ag' (n + m) c') (n + m) (xs ++ news) → w.grownBy w' (Value.slice ag n c).ownBlock → Below base w w' →
      ((Value.slice ag' (n + m) c').ownBlock = (Value.slice ag n c).ownBlock ∨ ∃ k, (Value.slice ag' (n + m) c').ownBlock = some k ∧ w.heap.size ≤ k) → wpList P ops Q rest (a.put o.dst (.slice ag' (n + m) c')) w') : wpList P ops Q (o :: rest) a w := by
  obtain ⟨i, hi, hz0, hz1, hz2⟩ := info_parts hinfo
  cases ao with
  | none =>
    obtain ⟨rfl, rfl⟩ := hr.bare rfl
    have : news = [] := List.eq_nil_of_length_eq_zero hr.length
    subst this
    refine wpList_append_own_none hgd s x t ho base e i 1 ht hi _ n xs hs hown hx ?_
    exact h ag c w (by simpa using hown) (World.grownBy.refl _ _) (Below.refl _ _) (.inl (by cases ag <;> rfl))
  | some ad =>
    refine wpList_plain hgd fun _ hK => ?_
    obtain ⟨v', w', hrun, hown', hgrow, _⟩ := run_append_own (P := P) w base t o.type e i z 1 bytes ht hi hz0 hz1 hz2 hzs (by decide) _ n xs hown ad m d news (by simpa using hr.length) (hr.cell ad rfl) h1 h63 hbytes hbase
    have hwh := append_where base t o.type e i z 1 bytes ht hi hz0 hz1 hz2 hzs (by decide) _ n xs hown ad m d news (by simpa using hr.length) (hr.cell ad rfl) h1 h63 hbytes hrun
    unfold Oper.wp execOp
    simp only [ho, resolve, invoke, builtin, Sem.run_bind, Sem.run_pure, Result.andThen_ok, List.map_toArray, List.map_cons, List.map_nil, hs, hx, hrun]
    refine hK _ _ ?_
    have hb : Below base w w' := (Below.refl _ _).grown hgrow hbase (fun k hk => (hown.lt k hk).1)
    have hwh' : v'.ownBlock = (Value.slice ag n c).ownBlock ∨ ∃ k, v'.ownBlock = some k ∧ w.heap.size ≤ k := hwh.imp id fun h => ⟨_, h, Nat.le_refl _⟩
    rcases hown'.2 with ⟨hv, hn⟩ | ⟨g', c', cur, hv, _⟩
    · subst hv
      have hn' : n + m = 0 := hn
      have e1 : (Value.slice none 0 0) = .slice none (n + m) 0 := by rw [hn']
      rw [e1] at hown' hwh' ⊢
      exact h none 0 w' hown' hgrow hb hwh'
    · subst hv
      exact h _ c' w' hown' hgrow hb hwh'
end Go.Proofs.Ytgnhnhachhfafaa
