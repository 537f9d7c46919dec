/- Rows of pairs of numbers (two cells each). -/
import Derived.Test.YtknfjonaepggnaaEnAll
namespace Go.Proofs.Ytknfjonaepggnaa
open Go.RowKit
set_option linter.unusedVariables false
set_option linter.unusedSimpArgs false

def cellsP (ps : List (Nat × Nat)) : List Value := ps.flatMap fun p => [.int .i64 (p.1 : Int), .int .i64 (p.2 : Int)]
theorem cellsP_len (ps : List (Nat × Nat)) : (cellsP ps).length = ps.length * 2 := by
  induction ps with
  | nil => rfl
  | cons a ps ih => simp only [cellsP, List.flatMap_cons, List.length_append] at ih ⊢; rw [ih]; simp; omega
theorem cellsP_app (a b : List (Nat × Nat)) : cellsP (a ++ b) = cellsP a ++ cellsP b := List.flatMap_append
theorem cellsP_at : ∀ {ps : List (Nat × Nat)} {i : Nat} {p : Nat × Nat}, ps[i]? = some p → (cellsP ps)[i * 2]? = some (.int .i64 (p.1 : Int)) ∧ (cellsP ps)[i * 2 + 1]? = some (.int .i64 (p.2 : Int))
  | a :: ps, 0, p, h => by
    simp only [List.getElem?_cons_zero, Option.some.injEq] at h
    subst h; exact ⟨rfl, rfl⟩
  | a :: ps, i + 1, p, h => by
    simp only [List.getElem?_cons_succ] at h
    have := cellsP_at h
    rw [show (i + 1) * 2 = i * 2 + 1 + 1 by omega]
    exact this
theorem ReadsE.atP {w : World} {ao : Option Addr} {len cap : Nat} {ps : List (Nat × Nat)} (h : ReadsE w ao len cap (cellsP ps)) (hp : 0 < len) :
    ∃ b off, ao = some ⟨b, off, none⟩ ∧ b < w.heap.size ∧ ∀ (i : Nat) p, ps[i]? = some p → w.cell? ⟨b, off + i * 2, none⟩ = some (.int .i64 (p.1 : Int)) ∧ w.cell? ⟨b, off + i * 2 + 1, none⟩ = some (.int .i64 (p.2 : Int)) := by
  have hl := h.length
  cases ao with
  | none => have := h.bare rfl; omega
  | some a =>
    obtain ⟨b, off, rfl⟩ := h.plain hp
    refine ⟨b, off, rfl, ?_, fun i p he => ?_⟩
    · obtain ⟨u, hu⟩ : ∃ u, (cellsP ps)[0]? = some u := ⟨_, List.getElem?_eq_getElem (by omega)⟩
      have := World.block_lt_of_cell? w _ (h.cell _ rfl 0 u hu)
      simpa [Addr.add_lit] using this
    · have h8 := cellsP_at he
      have h9 := h.cell _ rfl _ _ h8.1
      have h10 := h.cell _ rfl _ _ h8.2
      rw [Addr.add_lit] at h9 h10
      exact ⟨h9, by rw [Nat.add_assoc]; exact h10⟩
theorem ReadsE.countP {w : World} {ao : Option Addr} {len cap : Nat} {ps : List (Nat × Nat)} (h : ReadsE w ao len cap (cellsP ps)) : ps.length = len := by
  have := h.length; rw [cellsP_len] at this; omega
theorem Try.infoPair : (Try.prog.info? 25).map (fun i => (i.zero, i.size, i.bytes)) = some (some (.agg #[.int .i64 0, .int .i64 0]), 2, 16) := by kernel_rfl
theorem wpList_append_pair {w : World} {ops : Array Oper} {rest : List Oper} {o : Oper} {a : Act} {Q : Exit → Act → World → Prop} (hgd : o.guard = none) (s x : Operand)
    (ho : o.op = .call { callee := .builtin .append, args := #[s, x], argTypes := #[23, 23] }) (base : Nat)
    (ag : Option Addr) (n c : Nat) (xs : List Value) (hs : a.eval s = .slice ag n c) (hown : w.ownsRow base 25 2 (.slice ag n c) n xs)
    (ao : Option Addr) (m d : Nat) (news : List Value) (hx : a.eval x = .slice ao m d) (hr : ReadsE w ao m d news) (h1 : ∀ u ∈ news, u.oneCell' = true)
    (h63 : n + m ≤ maxLen) (hbytes : (n + m) * 16 ≤ 140737488355328) (hbase : base ≤ w.heap.size)
    (h : ∀ ag' c' w', w'.ownsRow base 25 2 (.slice ag' (n + m) c') (n + m) (xs ++ news) → w.grownBy w' (Value.slice ag n c).ownBlock → Below base w w' → wpList Try.prog ops Q rest (a.put o.dst (.slice ag' (n + m) c')) w') : wpList Try.prog ops Q (o :: rest) a w := by
  obtain ⟨i, hi, hz0, hz1, hz2⟩ := info_parts Try.infoPair
  cases ao with
  | none =>
    obtain ⟨rfl, rfl⟩ := hr.bare rfl
    have : news = [] := List.eq_nil_of_length_eq_zero hr.length
    subst this
    refine wpList_append_own_none hgd s x 23 ho base 25 i 2 Try.underlying23 hi _ n xs hs hown hx ?_
    exact h ag c w (by simpa using hown) (World.grownBy.refl _ _) (Below.refl _ _)
  | some ad =>
    refine wpList_append_own_at w hgd s x 23 ho base 25 i (.agg #[.int .i64 0, .int .i64 0]) 2 16 Try.underlying23 hi hz0 hz1 hz2 rfl (by decide) _ n xs hs hown ad m d news hx hr.length (hr.cell ad rfl) h1 h63 hbytes hbase ?_
    intro v' w' h2 h3 h4 h5
    obtain ⟨ag', c', rfl⟩ := own2_slice h2
    exact h ag' c' w' h2 h3 ((Below.refl _ _).grown h3 hbase (fun k hk => (hown.lt k hk).1))
end Go.Proofs.Ytknfjonaepggnaa
