/- daw's maker in memory: the states left, their numbers, the way; what each step turns. -/
import Derived.Test.YtmcpiikcgimhpaaDawWay
import Derived.Test.YtmcpiikcgimhpaaDawAll
import Derived.Test.YtmcpiikcgimhpaaAppend2
namespace Go.Proofs.Ytmcpiikcgimhpaa
open Go.RowKit
set_option linter.unusedVariables false
set_option linter.unusedSimpArgs false

/-- A state of the way: what is left, and the open edge. -/
def wayE (s : Stt) (cur : Wd) (i : Nat) : List (UInt8 × Nat) := s.2 ++ (match cur[i]? with
  | some c => [(c, 0)]
  | none => [])
theorem zE_app (a b : List (UInt8 × Nat)) : zE (a ++ b) = zE a ++ zE b := by simp [zE]
theorem wayE_open {s : Stt} {cur : Wd} {i : Nat} {c : UInt8} (h : cur[i]? = some c) : wayE s cur i = s.2 ++ [(c, 0)] := by unfold wayE; rw [h]
theorem wayE_end {s : Stt} {cur : Wd} {i : Nat} (h : cur.length ≤ i) : wayE s cur i = s.2 := by unfold wayE; rw [List.getElem?_eq_none h]; simp
theorem wayE_same {s : Stt} {a b : Wd} {i : Nat} (h : a[i]? = b[i]?) : wayE s a i = wayE s b i := by unfold wayE; rw [h]
structure MkAt (w0 W : World) (mb bm : Nat) (xv : Value) (vs : List (Bool × Value)) (yv : Value) (us : List (Bool × Value)) (S P : List Stt) (cur : Wd) : Prop where
  low : Below w0.heap.size w0 W
  lo : w0.heap.size ≤ mb ∧ w0.heap.size ≤ bm
  blk : W.heap[mb]? = some (.cells #[xv, .map (some bm), yv] 48 (0, 0))
  map : NumsAt W bm (S.map keyW)
  left : W.ownsRow w0.heap.size 37 2 xv vs.length (cellsA vs)
  way : W.ownsRow w0.heap.size 37 2 yv us.length (cellsA us)
  apart : ∀ k, xv.ownBlock = some k → yv.ownBlock ≠ some k
  lv : vs.length = S.length
  lp : P.length ≤ us.length
  st : ∀ (i : Nat) (p : Bool × Value) (s : Stt), vs[i]? = some p → S[i]? = some s → p.1 = s.1 ∧ W.ownsRow w0.heap.size 39 2 p.2 s.2.length (cellsEd (zE s.2))
  wy : ∀ (i : Nat) (p : Bool × Value) (s : Stt), us[i]? = some p → P[i]? = some s → p.1 = s.1 ∧ W.ownsRow w0.heap.size 39 2 p.2 (wayE s cur i).length (cellsEd (zE (wayE s cur i)))
  d1 : ∀ (i j : Nat) (p q : Bool × Value) (k : Nat), i < P.length → j < P.length → i ≠ j → us[i]? = some p → us[j]? = some q → p.2.ownBlock = some k → q.2.ownBlock ≠ some k
  d2 : ∀ (i j : Nat) (p q : Bool × Value) (k : Nat), i < P.length → us[i]? = some p → vs[j]? = some q → p.2.ownBlock = some k → q.2.ownBlock ≠ some k
theorem MkAt.size {w0 W : World} {mb bm : Nat} {xv yv : Value} {vs us : List (Bool × Value)} {S P : List Stt} {cur : Wd} (h : MkAt w0 W mb bm xv vs yv us S P cur) : mb < W.heap.size ∧ bm < W.heap.size ∧ mb ≠ bm := by
  obtain ⟨xs, c, hm⟩ := nums_blk h.map
  exact ⟨lt_of_block h.blk, (Array.getElem?_eq_some_iff.1 hm).1, fun e => by have := h.blk; rw [e, hm] at this; cases this⟩
/-- An own row's block is none of another kind. -/
theorem own_kind {W : World} {base e n : Nat} {v : Value} {xs : List Value} (h : W.ownsRow base e 2 v n xs) {k : Nat} (hk : v.ownBlock = some k) : k < W.heap.size ∧ (∀ xs c, W.heap[k]? ≠ some (.map xs c)) ∧ (∀ cs t, W.heap[k]? = some (.cells cs t (0, 0)) → t = e) := by
  obtain ⟨cur, hc⟩ := own2_type h hk
  refine ⟨lt_of_block hc, fun xs c hm => ?_, fun cs t ht => ?_⟩
  · rw [hm] at hc; cases hc
  · rw [ht] at hc; simp at hc; exact hc.2
/-- All is kept where the blocks of edges, of the way and of the states left are. -/
theorem MkAt.keep {w0 W W' : World} {mb bm : Nat} {xv yv : Value} {vs us : List (Bool × Value)} {S P : List Stt} {cur : Wd} (h : MkAt w0 W mb bm xv vs yv us S P cur) (hlow : Below w0.heap.size w0 W') (hb : ∀ k, k < W.heap.size → W'.heap[k]? = W.heap[k]?) : MkAt w0 W' mb bm xv vs yv us S P cur := by
  obtain ⟨h1, h2, _⟩ := h.size
  exact ⟨hlow, h.lo, (hb _ h1).trans h.blk, nums_kept h.map (hb _ h2), own_blk h.left fun k hk => hb _ (own_kind h.left hk).1, own_blk h.way fun k hk => hb _ (own_kind h.way hk).1, h.apart, h.lv, h.lp,
    fun i p s a b => ⟨(h.st i p s a b).1, own_blk (h.st i p s a b).2 fun k hk => hb _ (own_kind (h.st i p s a b).2 hk).1⟩,
    fun i p s a b => ⟨(h.wy i p s a b).1, own_blk (h.wy i p s a b).2 fun k hk => hb _ (own_kind (h.wy i p s a b).2 hk).1⟩, h.d1, h.d2⟩
theorem MkAt.later {w0 W W' : World} {mb bm : Nat} {xv yv : Value} {vs us : List (Bool × Value)} {S P : List Stt} {cur : Wd} (h : MkAt w0 W mb bm xv vs yv us S P cur) (hb : Below W.heap.size W W') : MkAt w0 W' mb bm xv vs yv us S P cur :=
  h.keep (h.low.trans (hb.mono h.low.size)) fun k hk => hb.block k hk
theorem at_snoc {α : Type} {l : List α} {x a : α} {i : Nat} (h : (l ++ [x])[i]? = some a) : (i < l.length ∧ l[i]? = some a) ∨ (i = l.length ∧ a = x) := by
  by_cases hi : i < l.length
  · rw [List.getElem?_append_left hi] at h; exact .inl ⟨hi, h⟩
  · have hl := (List.getElem?_eq_some_iff.1 h).1
    simp at hl
    have he : i = l.length := by omega
    subst he
    simp at h
    exact .inr ⟨rfl, h.symm⟩
/-- A state more is left. -/
theorem MkAt.put {w0 W W2 W3 : World} {mb bm : Nat} {xv yv xv' v : Value} {vs us : List (Bool × Value)} {S P : List Stt} {cur : Wd} {q : Stt} {o : Obj} (h : MkAt w0 W mb bm xv vs yv us S P cur)
    (hq : W.ownsRow w0.heap.size 39 2 v q.2.length (cellsEd (zE q.2))) (hd : ∀ (i : Nat) (p : Bool × Value) (k : Nat), i < P.length → us[i]? = some p → p.2.ownBlock = some k → v.ownBlock ≠ some k)
    (hm : NumsAt W2 bm ((S ++ [q]).map keyW)) (ht : W.mapTurned W2 bm) (hr : W3.ownsRow w0.heap.size 37 2 xv' (vs ++ [(q.1, v)]).length (cellsA (vs ++ [(q.1, v)]))) (hg : (W2.alloc o).grownBy W3 xv.ownBlock)
    (hb : Below w0.heap.size (W2.alloc o) W3) (hw : xv'.ownBlock = xv.ownBlock ∨ xv'.ownBlock = some (W2.alloc o).heap.size) : MkAt w0 (W3.setCell ⟨mb, 0, none⟩ xv') mb bm xv' (vs ++ [(q.1, v)]) yv us (S ++ [q]) P cur := by
  obtain ⟨h1, h2, h3⟩ := h.size
  have hs2 := ht.grown.size
  have hlb := h.low.size
  have hkeep : ∀ k, k < W.heap.size → k ≠ bm → k ≠ mb → xv.ownBlock ≠ some k → (W3.setCell ⟨mb, 0, none⟩ xv').heap[k]? = W.heap[k]? := fun k a b c d => by
    rw [blk_ne c, hg.block k (by simp; omega) (fun e => d e.symm), heap_alloc_old _ _ (by omega), ht.grown.block k a (fun e => b (Option.some.inj e))]
  have hxv : xv.ownBlock ≠ some mb := fun e => by have := (own_kind h.left e).2.2 _ _ h.blk; revert this; decide
  obtain ⟨ms, mc, hbm⟩ := nums_blk h.map
  have hxm : xv.ownBlock ≠ some bm := fun e => (own_kind h.left e).2.1 _ _ hbm
  obtain ⟨ms2, mc2, hbm2⟩ := nums_blk hm
  have hedge : ∀ {n : Nat} {v : Value} {xs : List Value}, W.ownsRow w0.heap.size 39 2 v n xs → (W3.setCell ⟨mb, 0, none⟩ xv').ownsRow w0.heap.size 39 2 v n xs := fun {n v xs} hrow => own_blk hrow fun k hk => by
    obtain ⟨a1, a2, a3⟩ := own_kind hrow hk
    obtain ⟨cur, hc⟩ := own2_type hrow hk
    refine hkeep k a1 (fun e => a2 _ _ (e ▸ hbm)) (fun e => ?_) (fun e => ?_)
    · have := a3 _ _ (e ▸ h.blk); revert this; decide
    · have := (own_kind h.left e).2.2 _ _ hc; revert this; decide
  have hnew : xv'.ownBlock ≠ some mb := fun e => by
    rcases hw with h' | h'
    · rw [h'] at e; exact hxv e
    · rw [h'] at e; simp only [Option.some.injEq] at e; simp at e; omega
  refine ⟨((h.low.grown ht.grown hlb fun k hk => by cases hk; exact h.lo.2).alloc (by omega) o |>.trans hb).setCell h.lo.1 _, h.lo, ?_, ?_, ?_, ?_, ?_, by simp [h.lv], h.lp, fun i p s a b => ?_, fun i p s a b => ?_, h.d1, fun i j p r k hi a b hpk => ?_⟩
  · have hb3 : W3.heap[mb]? = some (.cells #[xv, .map (some bm), yv] 48 (0, 0)) := by
      rw [hg.block mb (by simp; omega) (fun e => hxv e.symm), heap_alloc_old _ _ (by omega), ht.grown.block mb h1 (fun e => h3 (Option.some.inj e))]; exact h.blk
    exact blk_set (i := 0) hb3 _
  · refine nums_kept hm ?_
    rw [blk_ne (Ne.symm h3), hg.block bm (by simp; omega) (fun e => hxm e.symm), heap_alloc_old _ _ (by omega)]
  · exact own_blk hr fun k hk => blk_ne (fun e => hnew (by rw [← e]; exact hk)) _
  · refine own_blk h.way fun k hk => ?_
    obtain ⟨a1, a2, a3⟩ := own_kind h.way hk
    refine hkeep k a1 (fun e => a2 _ _ (e ▸ hbm)) (fun e => ?_) (fun e => h.apart k e hk)
    have := a3 _ _ (e ▸ h.blk); revert this; decide
  · intro k hk hy
    rcases hw with h' | h'
    · rw [h'] at hk; exact h.apart k hk hy
    · rw [h'] at hk
      simp only [Option.some.injEq] at hk
      have := (own_kind h.way hy).1
      simp at hk; omega
  · rcases at_snoc a with ⟨hi, a'⟩ | ⟨hi, rfl⟩
    · rw [List.getElem?_append_left (by rw [← h.lv]; exact hi)] at b
      exact ⟨(h.st i p s a' b).1, hedge (h.st i p s a' b).2⟩
    · rw [hi, h.lv] at b
      simp at b
      subst b
      exact ⟨rfl, hedge hq⟩
  · exact ⟨(h.wy i p s a b).1, hedge (h.wy i p s a b).2⟩
  · rcases at_snoc b with ⟨_, b'⟩ | ⟨_, rfl⟩
    · exact h.d2 i j p r k hi a b' hpk
    · exact hd i p k hi a hpk
end Go.Proofs.Ytmcpiikcgimhpaa
