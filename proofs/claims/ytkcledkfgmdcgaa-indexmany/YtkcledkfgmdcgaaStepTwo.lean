/- 'append(own, ..)' as one step of a region that draws its order, and where the row lies then. -/
import Derived.Test.YtkcledkfgmdcgaaFound
import Derived.Deep.RegionLaw
namespace Go.Proofs.Ytkcledkfgmdcgaa
open Go.RowKit

theorem step_append_two {P : Program} {ops : Array Oper} {o : Oper} {a : Act} {w : World} {K : Act → World → Prop} {Q : Exit → Act → World → Prop} {E : Prop} (hw : Region.wanted o (yielded ops a.tmps) = true) (s x : Operand) (t : TypeId)
    (ho : o.op = .call { callee := .builtin .append, args := #[s, x], argTypes := #[t, t] }) (base : Nat) (e : TypeId) {z : Value} {bytes : Nat}
    (hinfo : (P.info? e).map (fun i => (i.zero, i.size, i.bytes)) = some (some z, 1, bytes)) (hzs : z.cells.size = 1) (ht : P.underlying t = some (.slice e))
    (ag : Option Addr) (n c : Nat) (xs : List Value) (hs : a.eval s = .slice ag n c) (hown : w.ownsRow base e 1 (.slice ag n c) n xs)
    (ad : Addr) (m d : Nat) (news : List Value) (hx : a.eval x = .slice (some ad) m d) (hr : Reads w (some ad) m d news) (h1 : ∀ u ∈ news, u.oneCell' = true)
    (h63 : n + m ≤ maxLen) (hbytes : (n + m) * bytes ≤ 140737488355328) (hbase : base ≤ w.heap.size)
    (hK : ∀ ag' c' w', w'.ownsRow base e 1 (.slice ag' (n + m) c') (n + m) (xs ++ news) → w.grownBy w' (Value.slice ag n c).ownBlock → Below base w w' →
      ((Value.slice ag' (n + m) c').ownBlock = (Value.slice ag n c).ownBlock ∨ ∃ k, (Value.slice ag' (n + m) c').ownBlock = some k ∧ w.heap.size ≤ k) → K (a.put o.dst (.slice ag' (n + m) c')) w') :
    if Region.wanted o (yielded ops a.tmps) = true then Oper.wp P o a w K Q else E := by
  obtain ⟨i, hi, hz0, hz1, hz2⟩ := info_parts hinfo
  rw [if_pos hw]
  obtain ⟨v', w', hrun, hown', hgrow, _⟩ := run_append_own (P := P) w base t o.type e i z 1 bytes ht hi hz0 hz1 hz2 hzs (by decide) _ n xs hown ad m d news (by simpa using hr.length) (hr.cell ad rfl) h1 h63 hbytes hbase
  have hwh := append_where base t o.type e i z 1 bytes ht hi hz0 hz1 hz2 hzs (by decide) _ n xs hown ad m d news (by simpa using hr.length) (hr.cell ad rfl) h1 h63 hbytes hrun
  unfold Oper.wp execOp
  simp only [ho, resolve, invoke, builtin, Sem.run_bind, Sem.run_pure, Result.andThen_ok, List.map_toArray, List.map_cons, List.map_nil, hs, hx, hrun]
  have hb : Below base w w' := (Below.refl _ _).grown hgrow hbase (fun k hk => (hown.lt k hk).1)
  have hwh' : v'.ownBlock = (Value.slice ag n c).ownBlock ∨ ∃ k, v'.ownBlock = some k ∧ w.heap.size ≤ k := hwh.imp id fun h => ⟨_, h, Nat.le_refl _⟩
  rcases hown'.2 with ⟨hv, hn⟩ | ⟨g', c', cur, hv, _⟩
  · subst hv
    have hn' : n + m = 0 := hn
    have e1 : (Value.slice none 0 0) = .slice none (n + m) 0 := by rw [hn']
    rw [e1] at hown' hwh' ⊢
    exact hK none 0 w' hown' hgrow hb hwh'
  · subst hv
    exact hK _ c' w' hown' hgrow hb hwh'
end Go.Proofs.Ytkcledkfgmdcgaa
