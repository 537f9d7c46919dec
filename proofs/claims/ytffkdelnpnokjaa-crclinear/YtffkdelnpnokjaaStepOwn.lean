/- 'append(own, ..)' as one step of a region that draws its order. -/
import Derived.Test.YtffkdelnpnokjaaCuts
import Derived.Deep.RegionLaw
namespace Go.Proofs.Ytffkdelnpnokjaa
open Go.RowKit

theorem step_append_own {P : Program} {ops : Array Oper} {o : Oper} {a : Act} {w : World} {K : Act → World → Prop} {Q : Exit → Act → World → Prop} {E : Prop} (hg : o.guard = none) (s x : Operand) (t : TypeId)
    (ho : o.op = .call { callee := .builtin .append, args := #[s, x], argTypes := #[t, t] }) (base : Nat) (e : TypeId) {z : Value} {bytes : Nat}
    (hinfo : (P.info? e).map (fun i => (i.zero, i.size, i.bytes)) = some (some z, 1, bytes)) (hzs : z.cells.size = 1) (ht : P.underlying t = some (.slice e))
    (ag : Option Addr) (n c : Nat) (xs : List Value) (hs : a.eval s = .slice ag n c) (hown : w.ownsRow base e 1 (.slice ag n c) n xs)
    (ad : Addr) (m d : Nat) (news : List Value) (hx : a.eval x = .slice (some ad) m d) (hl : news.length = m) (hc : ∀ j u, news[j]? = some u → w.cell? (ad.add j) = some u) (h1 : ∀ u ∈ news, u.oneCell' = true)
    (hm : 0 < m) (h63 : n + m ≤ maxLen) (hbytes : (n + m) * bytes ≤ 140737488355328) (hbase : base ≤ w.heap.size)
    (hK : ∀ ag' c' w', w'.ownsRow base e 1 (.slice ag' (n + m) c') (n + m) (xs ++ news) → Below base w w' → K (a.put o.dst (.slice ag' (n + m) c')) w') :
    if Region.wanted o (yielded ops a.tmps) = true then Oper.wp P o a w K Q else E := by
  obtain ⟨i, hi, hz0, hz1, hz2⟩ := info_parts hinfo
  have hw : Region.wanted o (yielded ops a.tmps) = true := by simp [Region.wanted, hg]
  rw [if_pos hw]
  refine wp_append_own w s x t ho base e i z 1 bytes ht hi hz0 hz1 hz2 hzs (by decide) _ n xs hs hown ad m d news hx (by simpa using hl) hc h1 h63 hbytes hbase ?_
  intro v' w' hown' hgrow _
  have hb : Below base w w' := (Below.refl _ _).grown hgrow hbase (fun k hk => (hown.lt k hk).1)
  rcases hown'.2 with ⟨hv, hn⟩ | ⟨g', c', cur, hv, _⟩
  · omega
  · subst hv
    exact hK _ c' w' hown' hb
end Go.Proofs.Ytffkdelnpnokjaa
