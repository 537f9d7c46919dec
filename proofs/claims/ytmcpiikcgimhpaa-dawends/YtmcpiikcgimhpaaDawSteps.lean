/- daw's maker in memory: an edge more, a state more, an edge closed, the way cut, a word's end. -/
import Derived.Test.YtmcpiikcgimhpaaDawMaker
namespace Go.Proofs.Ytmcpiikcgimhpaa
open Go.RowKit
set_option linter.unusedVariables false
set_option linter.unusedSimpArgs false

theorem cellsA_set2 : ∀ {us : List (Bool × Value)} {i : Nat} {f : Bool} {v : Value} (v' : Value), us[i]? = some (f, v) → (cellsA us).set (i * 2 + 1) v' = cellsA (us.set i (f, v'))
  | [], i, f, v, v', h => by simp at h
  | a :: us, 0, f, v, v', h => by
    simp only [List.getElem?_cons_zero, Option.some.injEq] at h
    subst h; rfl
  | a :: us, i + 1, f, v, v', h => by
    have ih := cellsA_set2 (us := us) (i := i) v' (by simpa using h)
    rw [show (i + 1) * 2 + 1 = i * 2 + 1 + 2 by omega]
    show .bool a.1 :: a.2 :: (cellsA us).set (i * 2 + 1) v' = _
    rw [ih]; rfl
theorem cellsA_set1 : ∀ {us : List (Bool × Value)} {i : Nat} {f : Bool} {v : Value} (f' : Bool), us[i]? = some (f, v) → (cellsA us).set (i * 2) (.bool f') = cellsA (us.set i (f', v))
  | [], i, f, v, f', h => by simp at h
  | a :: us, 0, f, v, f', h => by
    simp only [List.getElem?_cons_zero, Option.some.injEq] at h
    subst h; rfl
  | a :: us, i + 1, f, v, f', h => by
    have ih := cellsA_set1 (us := us) (i := i) f' (by simpa using h)
    rw [show (i + 1) * 2 = i * 2 + 2 by omega]
    show .bool a.1 :: a.2 :: (cellsA us).set (i * 2) (.bool f') = _
    rw [ih]; rfl
theorem cellsEd_set : ∀ (es : List (UInt8 × Int)) (c : UInt8) (a b : Int), (cellsEd (es ++ [(c, a)])).set (es.length * 2 + 1) (.int .i64 b) = cellsEd (es ++ [(c, b)])
  | [], c, a, b => rfl
  | e :: es, c, a, b => by
    have ih := cellsEd_set es c a b
    rw [show (e :: es).length * 2 + 1 = es.length * 2 + 1 + 2 by simp; omega]
    show .int .u8 _ :: .int .i64 e.2 :: (cellsEd (es ++ [(c, a)])).set (es.length * 2 + 1) (.int .i64 b) = _
    rw [ih]; rfl
theorem set_at {α : Type} {l : List α} {i j : Nat} {x a : α} (h : (l.set i x)[j]? = some a) : (j ≠ i ∧ l[j]? = some a) ∨ (j = i ∧ a = x) := by
  rw [List.getElem?_set] at h
  split at h
  · rename_i hij
    split at h
    · exact .inr ⟨hij.symm, (Option.some.inj h).symm⟩
    · cases h
  · rename_i hij
    exact .inl ⟨fun e => hij e.symm, h⟩
/-- A row of two cells, its block written at one place. -/
theorem own2_put {w : World} {base e g n cap j : Nat} {xs : List Value} (h : w.ownsRow base e 2 (.slice (some ⟨g, 0, none⟩) n cap) n xs) (hj : j < n * 2) (u : Value) : (w.setCell ⟨g, j, none⟩ u).ownsRow base e 2 (.slice (some ⟨g, 0, none⟩) n cap) n (xs.set j u) := own2_set h hj u
/-- The end of the way has an edge more. -/
theorem MkAt.edge {w0 W W2 : World} {mb bm yb yc : Nat} {xv v v' : Value} {vs us : List (Bool × Value)} {S P : List Stt} {cur : Wd} {f : Bool} {s : Stt} {c : UInt8} {o : Obj}
    (h : MkAt w0 W mb bm xv vs (.slice (some ⟨yb, 0, none⟩) us.length yc) us S P cur) (hP : P.length = cur.length + 1) (hu : us[cur.length]? = some (f, v)) (hs : P[cur.length]? = some s)
    (hr : W2.ownsRow w0.heap.size 39 2 v' (s.2.length + 1) (cellsEd (zE s.2) ++ [.int .u8 (c.toNat : Nat), .int .i64 0])) (hg : (W.alloc o).grownBy W2 v.ownBlock)
    (hb : Below w0.heap.size (W.alloc o) W2) (hw : v'.ownBlock = v.ownBlock ∨ v'.ownBlock = some (W.alloc o).heap.size) :
    MkAt w0 (W2.setCell ⟨yb, cur.length * 2 + 1, none⟩ v') mb bm xv vs (.slice (some ⟨yb, 0, none⟩) us.length yc) (us.set cur.length (f, v')) S P (cur ++ [c]) := by
  obtain ⟨h1, h2, h3⟩ := h.size
  have hlb := h.low.size
  obtain ⟨ms, mc, hbm⟩ := nums_blk h.map
  obtain ⟨ycur, hyb⟩ := own2_type h.way (k := yb) rfl
  have hyk := own_kind h.way (k := yb) rfl
  have hv := (h.wy _ _ _ hu hs).2
  rw [wayE_end (Nat.le_refl _)] at hv
  have hylo : w0.heap.size ≤ yb := (h.way.lt yb rfl).1
  have hvy : v.ownBlock ≠ some yb := fun e => by have := (own_kind hv e).2.2 _ _ hyb; revert this; decide
  have hkeep : ∀ k, k < W.heap.size → k ≠ yb → v.ownBlock ≠ some k → (W2.setCell ⟨yb, cur.length * 2 + 1, none⟩ v').heap[k]? = W.heap[k]? := fun k a b d => by
    rw [blk_ne b, hg.block k (by simp; omega) (fun e => d e.symm), heap_alloc_old _ _ a]
  have hedge : ∀ {n : Nat} {u : Value} {xs : List Value}, W.ownsRow w0.heap.size 39 2 u n xs → (∀ k, v.ownBlock = some k → u.ownBlock ≠ some k) → (W2.setCell ⟨yb, cur.length * 2 + 1, none⟩ v').ownsRow w0.heap.size 39 2 u n xs := fun {n u xs} hrow hne => own_blk hrow fun k hk => by
    obtain ⟨a1, a2, a3⟩ := own_kind hrow hk
    refine hkeep k a1 (fun e => ?_) (fun e => hne k e hk)
    have := a3 _ _ (e ▸ hyb); revert this; decide
  have hst : ∀ {n : Nat} {u : Value} {xs : List Value}, W.ownsRow w0.heap.size 37 2 u n xs → u.ownBlock ≠ some yb → (W2.setCell ⟨yb, cur.length * 2 + 1, none⟩ v').ownsRow w0.heap.size 37 2 u n xs := fun {n u xs} hrow hne => own_blk hrow fun k hk => by
    obtain ⟨a1, a2, a3⟩ := own_kind hrow hk
    refine hkeep k a1 (fun e => hne (by rw [← e]; exact hk)) (fun e => ?_)
    obtain ⟨cu, hc⟩ := own2_type hrow hk
    have := (own_kind hv e).2.2 _ _ hc; revert this; decide
  have hWb : Below w0.heap.size w0 W2 := (h.low.alloc hlb o).trans hb
  have hmbv : v.ownBlock ≠ some mb := fun e => by have := (own_kind hv e).2.2 _ _ h.blk; revert this; decide
  have hmby : mb ≠ yb := fun e => by have := hyk.2.2 _ _ (e ▸ h.blk); revert this; decide
  have hbmv : v.ownBlock ≠ some bm := fun e => (own_kind hv e).2.1 _ _ hbm
  have hbmy : bm ≠ yb := fun e => hyk.2.1 _ _ (e ▸ hbm)
  have hul : cur.length < us.length := (List.getElem?_eq_some_iff.1 hu).1
  have hnew : ∀ k, v'.ownBlock = some k → k ≠ yb := fun k hk e => by
    rcases hw with h' | h'
    · rw [h'] at hk; exact hvy (by rw [← e]; exact hk)
    · rw [h'] at hk
      simp only [Option.some.injEq] at hk
      have := hyk.1
      simp at hk; omega
  have hfresh : ∀ k, k < W.heap.size → v'.ownBlock = some k → v.ownBlock = some k := fun k a hk => by
    rcases hw with h' | h'
    · rw [← h']; exact hk
    · rw [h'] at hk; simp only [Option.some.injEq] at hk; simp at hk; omega
  refine ⟨hWb.setCell hylo _, h.lo, (hkeep _ h1 hmby hmbv).trans h.blk, nums_kept h.map (hkeep _ h2 hbmy hbmv), hst h.left (fun e => h.apart _ e rfl), ?_, h.apart, h.lv, by simp; exact h.lp, fun i p s' a b => ⟨(h.st i p s' a b).1, hedge (h.st i p s' a b).2 fun k hk hk2 => h.d2 _ i _ p k (by omega) hu a hk hk2⟩, fun i p s' a b => ?_, fun i j p q k hi hj hij a b hk => ?_, fun i j p q k hi a b hk => ?_⟩
  · have hway2 : W2.ownsRow w0.heap.size 37 2 (.slice (some ⟨yb, 0, none⟩) us.length yc) us.length (cellsA us) := own_blk h.way fun k hk => by
      cases hk
      rw [hg.block yb (by simp; exact Nat.lt_succ_of_lt hyk.1) (fun e => hvy e.symm), heap_alloc_old _ _ hyk.1]
    have := own2_put hway2 (j := cur.length * 2 + 1) (by omega) v'
    rw [cellsA_set2 v' hu] at this
    rw [List.length_set]; exact this
  · rcases set_at a with ⟨hne, a'⟩ | ⟨rfl, rfl⟩
    · have hil := (List.getElem?_eq_some_iff.1 b).1
      rw [wayE_same (b := cur) (List.getElem?_append_left (by omega))]
      exact ⟨(h.wy i p s' a' b).1, hedge (h.wy i p s' a' b).2 fun k hk => h.d1 _ i _ p k (by omega) hil (by omega) hu a' hk⟩
    · rw [hs] at b
      cases b
      rw [wayE_open (c := c) (by simp)]
      refine ⟨(h.wy _ _ _ hu hs).1, ?_⟩
      rw [zE_app, cellsEd_app, List.length_append]
      exact own_blk hr fun k hk => blk_ne (hnew k hk) _
  · have hil : i < us.length := Nat.lt_of_lt_of_le hi h.lp
    rcases set_at a with ⟨n1, a'⟩ | ⟨rfl, rfl⟩
    · rcases set_at b with ⟨n2, b'⟩ | ⟨rfl, rfl⟩
      · exact h.d1 i j p q k hi hj hij a' b' hk
      · intro hk2
        have hko := (h.wy i p _ a' (List.getElem?_eq_getElem hi)).2
        exact h.d1 i _ p _ k hi hj hij a' hu hk (hfresh k (own_kind hko hk).1 hk2)
    · rcases set_at b with ⟨n2, b'⟩ | ⟨e, _⟩
      · intro hk2
        have hko := (h.wy j q _ b' (List.getElem?_eq_getElem hj)).2
        exact h.d1 _ j _ q k hi hj hij hu b' (hfresh k (own_kind hko hk2).1 hk) hk2
      · exact absurd e.symm hij
  · rcases set_at a with ⟨n1, a'⟩ | ⟨rfl, rfl⟩
    · exact h.d2 i j p q k hi a' b hk
    · intro hk2
      have hjl := (List.getElem?_eq_some_iff.1 b).1
      have hko := (h.st j q _ b (List.getElem?_eq_getElem (by rw [← h.lv]; exact hjl))).2
      exact h.d2 _ j _ q k hi hu b (hfresh k (own_kind hko hk2).1 hk) hk2
/-- The way is a state longer. -/
theorem MkAt.more {w0 W W2 : World} {mb bm : Nat} {xv yv yv' : Value} {vs us : List (Bool × Value)} {S P : List Stt} {cur : Wd} {o : Obj}
    (h : MkAt w0 W mb bm xv vs yv us S P cur) (hP : P.length = cur.length) (hl : us.length = P.length)
    (hr : W2.ownsRow w0.heap.size 37 2 yv' (us ++ [(false, Value.slice none 0 0)]).length (cellsA (us ++ [(false, .slice none 0 0)]))) (hg : (W.alloc o).grownBy W2 yv.ownBlock)
    (hb : Below w0.heap.size (W.alloc o) W2) (hw : yv'.ownBlock = yv.ownBlock ∨ yv'.ownBlock = some (W.alloc o).heap.size) :
    MkAt w0 (W2.setCell ⟨mb, 2, none⟩ yv') mb bm xv vs yv' (us ++ [(false, .slice none 0 0)]) S (P ++ [(false, [])]) cur := by
  obtain ⟨h1, h2, h3⟩ := h.size
  have hlb := h.low.size
  obtain ⟨ms, mc, hbm⟩ := nums_blk h.map
  have hymb : yv.ownBlock ≠ some mb := fun e => by have := (own_kind h.way e).2.2 _ _ h.blk; revert this; decide
  have hybm : yv.ownBlock ≠ some bm := fun e => (own_kind h.way e).2.1 _ _ hbm
  have hkeep : ∀ k, k < W.heap.size → k ≠ mb → yv.ownBlock ≠ some k → (W2.setCell ⟨mb, 2, none⟩ yv').heap[k]? = W.heap[k]? := fun k a b d => by
    rw [blk_ne b, hg.block k (by simp; omega) (fun e => d e.symm), heap_alloc_old _ _ a]
  have hedge : ∀ {n : Nat} {u : Value} {xs : List Value}, W.ownsRow w0.heap.size 39 2 u n xs → (W2.setCell ⟨mb, 2, none⟩ yv').ownsRow w0.heap.size 39 2 u n xs := fun {n u xs} hrow => own_blk hrow fun k hk => by
    obtain ⟨a1, a2, a3⟩ := own_kind hrow hk
    obtain ⟨cu, hc⟩ := own2_type hrow hk
    refine hkeep k a1 (fun e => ?_) (fun e => ?_)
    · have := a3 _ _ (e ▸ h.blk); revert this; decide
    · have := (own_kind h.way e).2.2 _ _ hc; revert this; decide
  have hWb : Below w0.heap.size w0 W2 := (h.low.alloc hlb o).trans hb
  have hnew : yv'.ownBlock ≠ some mb := fun e => by
    rcases hw with h' | h'
    · rw [h'] at e; exact hymb e
    · rw [h'] at e; simp only [Option.some.injEq] at e; simp at e; omega
  refine ⟨hWb.setCell h.lo.1 _, h.lo, ?_, nums_kept h.map (hkeep _ h2 (Ne.symm h3) hybm), ?_, own_blk hr fun k hk => blk_ne (fun e => hnew (by rw [← e]; exact hk)) _, ?_, h.lv, by simp; omega, fun i p s a b => ⟨(h.st i p s a b).1, hedge (h.st i p s a b).2⟩, fun i p s a b => ?_, fun i j p q k hi hj hij a b hk => ?_, fun i j p q k hi a b hk => ?_⟩
  · have hb3 : W2.heap[mb]? = some (.cells #[xv, .map (some bm), yv] 48 (0, 0)) := by
      rw [hg.block mb (by simp; omega) (fun e => hymb e.symm), heap_alloc_old _ _ h1]; exact h.blk
    exact blk_set (i := 2) hb3 _
  · refine own_blk h.left fun k hk => ?_
    obtain ⟨a1, a2, a3⟩ := own_kind h.left hk
    refine hkeep k a1 (fun e => ?_) (h.apart k hk)
    have := a3 _ _ (e ▸ h.blk); revert this; decide
  · intro k hk hy
    rcases hw with h' | h'
    · rw [h'] at hy; exact h.apart k hk hy
    · rw [h'] at hy
      simp only [Option.some.injEq] at hy
      have := (own_kind h.left hk).1
      simp at hy; omega
  · rcases at_snoc a with ⟨hi, a'⟩ | ⟨hi, rfl⟩
    · rw [List.getElem?_append_left (by omega)] at b
      exact ⟨(h.wy i p s a' b).1, hedge (h.wy i p s a' b).2⟩
    · rw [hi, hl] at b
      simp at b
      subst b
      rw [wayE_end (by omega)]
      exact ⟨rfl, World.ownsRow_nil _ _ _ _⟩
  · rcases at_snoc a with ⟨hi', a'⟩ | ⟨_, rfl⟩
    · rcases at_snoc b with ⟨hj', b'⟩ | ⟨_, rfl⟩
      · exact h.d1 i j p q k (by omega) (by omega) hij a' b' hk
      · intro h'; cases h'
    · cases hk
  · rcases at_snoc a with ⟨hi', a'⟩ | ⟨_, rfl⟩
    · exact h.d2 i j p q k (by omega) a' b hk
    · cases hk
/-- The last open edge is closed. -/
theorem MkAt.close {w0 W : World} {mb bm eb n cap : Nat} {xv yv : Value} {vs us : List (Bool × Value)} {S P : List Stt} {u : Wd} {f : Bool} {s : Stt} {c : UInt8}
    (h : MkAt w0 W mb bm xv vs yv us S (P ++ [s]) (u ++ [c])) (hP : P.length = u.length) (hu : us[u.length]? = some (f, .slice (some ⟨eb, 0, none⟩) n cap)) (hn : n = s.2.length + 1) (m : Nat) :
    MkAt w0 (W.setCell ⟨eb, s.2.length * 2 + 1, none⟩ (.int .i64 (m : Nat))) mb bm xv vs yv us S (P ++ [(s.1, s.2 ++ [(c, m)])]) u := by
  obtain ⟨h1, h2, h3⟩ := h.size
  obtain ⟨ms, mc, hbm⟩ := nums_blk h.map
  have hsat : (P ++ [s])[u.length]? = some s := by rw [← hP]; simp
  have hv0 := h.wy _ _ _ hu hsat
  rw [wayE_open (c := c) (by simp)] at hv0
  obtain ⟨hf, hv⟩ := hv0
  have hle : (s.2 ++ [(c, 0)]).length = n := by rw [hn]; simp
  rw [hle] at hv
  obtain ⟨ecur, heb⟩ := own2_type hv (k := eb) rfl
  have hek := own_kind hv (k := eb) rfl
  have helo : w0.heap.size ≤ eb := (hv.lt eb rfl).1
  have hedge : ∀ {n : Nat} {q : Value} {xs : List Value}, W.ownsRow w0.heap.size 39 2 q n xs → q.ownBlock ≠ some eb → (W.setCell ⟨eb, s.2.length * 2 + 1, none⟩ (.int .i64 (m : Nat))).ownsRow w0.heap.size 39 2 q n xs := fun {n q xs} hrow hne => own_blk hrow fun k hk => blk_ne (fun e => hne (by rw [← e]; exact hk)) _
  have hst : ∀ {n : Nat} {q : Value} {xs : List Value}, W.ownsRow w0.heap.size 37 2 q n xs → (W.setCell ⟨eb, s.2.length * 2 + 1, none⟩ (.int .i64 (m : Nat))).ownsRow w0.heap.size 37 2 q n xs := fun {n q xs} hrow => own_blk hrow fun k hk => blk_ne (fun e => by
    have := (own_kind hrow hk).2.2 _ _ (e ▸ heb); revert this; decide) _
  have hlen : (P ++ [(s.1, s.2 ++ [(c, m)])]).length = (P ++ [s]).length := by simp
  have hpl : u.length < (P ++ [s]).length := by simp; omega
  refine ⟨h.low.setCell helo _, h.lo, (blk_ne (fun e => by have := hek.2.2 _ _ (e ▸ h.blk); revert this; decide) _).trans h.blk, nums_kept h.map (blk_ne (fun e => hek.2.1 _ _ (e ▸ hbm)) _), hst h.left, hst h.way, h.apart, h.lv, by rw [hlen]; exact h.lp, fun i p s' a b => ⟨(h.st i p s' a b).1, hedge (h.st i p s' a b).2 (h.d2 _ i _ p eb hpl hu a rfl)⟩, fun i p s' a b => ?_, fun i j p q k hi hj => h.d1 i j p q k (by rw [← hlen]; exact hi) (by rw [← hlen]; exact hj), fun i j p q k hi => h.d2 i j p q k (by rw [← hlen]; exact hi)⟩
  rcases at_snoc b with ⟨hi, b'⟩ | ⟨hi, rfl⟩
  · have b2 : (P ++ [s])[i]? = some s' := by rw [List.getElem?_append_left hi]; exact b'
    have hw := h.wy i p s' a b2
    rw [wayE_same (b := u) (List.getElem?_append_left (by omega))] at hw
    exact ⟨hw.1, hedge hw.2 (h.d1 _ i _ p eb hpl (by simp; omega) (by omega) hu a rfl)⟩
  · rw [hP] at hi
    subst hi
    rw [hu] at a
    cases a
    rw [wayE_end (Nat.le_refl _)]
    refine ⟨hf, ?_⟩
    simp only
    have hle2 : (s.2 ++ [(c, m)]).length = n := by rw [hn]; simp
    rw [hle2]
    have := own2_put hv (j := s.2.length * 2 + 1) (by omega) (.int .i64 (m : Nat))
    rw [zE_app] at this ⊢
    have e1 := cellsEd_set (zE s.2) c ((0 : Nat) : Int) (m : Int)
    rw [zE_len] at e1
    show World.ownsRow _ _ _ _ _ _ (cellsEd (zE s.2 ++ [(c, (m : Int))]))
    rw [← e1]
    exact this
theorem own2_cut {P : Program} {t e : TypeId} (ht : P.underlying t = some (.slice e)) (hs : ∀ W, (sizeOf e).run P W = .ok 2 W) {w : World} {base n c : Nat} {ag : Option Addr} {xs : List Value} (h : w.ownsRow base e 2 (.slice ag (n + 1) c) (n + 1) xs) :
    (∀ W, (Instr.slice t (.slice ag (n + 1) c) none (some (.int .i64 (n : Nat))) none).run P W = .ok (.slice ag n c) W) ∧ w.ownsRow base e 2 (.slice ag n c) n (xs.take (n * 2)) := by
  obtain ⟨h1, h2⟩ := h
  rcases h2 with ⟨h3, h4⟩ | ⟨g, cap, cur, h3, h4, h5, h6, h7, h8, h9⟩
  · omega
  simp only [Value.slice.injEq, true_and] at h3
  obtain ⟨rfl, rfl⟩ := h3
  have ht' : P.underlying t = some (.slice (P.elem t)) := by simp [Program.elem, ht]
  have he : P.elem t = e := by simp [Program.elem, ht]
  constructor
  · intro W
    rw [run_slice_h (P := P) W t _ _ _ ht' .i64 n (by omega) (by omega), he, hs]
    have hc : ¬ c = 0 := by omega
    simp [Result.andThen, sliced, hc, Addr.add]
  · refine ⟨by simp; omega, .inr ⟨g, c, cur, rfl, h4, h5, by omega, h7, h8, ?_⟩⟩
    have := congrArg (List.take (n * 2)) h9
    rw [List.take_take, Nat.min_eq_left (by omega)] at this
    exact this
/-- The way's last state is gone. -/
theorem MkAt.cut {w0 W : World} {mb bm n yc : Nat} {yb : Option Addr} {xv : Value} {vs us : List (Bool × Value)} {S P : List Stt} {cur : Wd}
    (h : MkAt w0 W mb bm xv vs (.slice yb (n + 1) yc) us S P cur) (hu : us.length = n + 1) (hP : P.length ≤ n) :
    (∀ V, (Instr.slice 25 (.slice yb (n + 1) yc) none (some (.int .i64 (n : Nat))) none).run Try.prog V = .ok (.slice yb n yc) V) ∧
    MkAt w0 (W.setCell ⟨mb, 2, none⟩ (.slice yb n yc)) mb bm xv vs (.slice yb n yc) (us.take n) S P cur := by
  obtain ⟨h1, h2, h3⟩ := h.size
  have hway := h.way
  rw [hu] at hway
  obtain ⟨hrun, hrow⟩ := own2_cut (P := Try.prog) Try.underlying25 (fun W => Try.sizeOf37 W) hway
  rw [cellsA_take] at hrow
  refine ⟨hrun, ?_⟩
  have hown : ∀ {e : TypeId} {k : Nat} {v : Value} {xs : List Value}, W.ownsRow w0.heap.size e 2 v k xs → e ≠ 48 → (W.setCell ⟨mb, 2, none⟩ (.slice yb n yc)).ownsRow w0.heap.size e 2 v k xs := fun {e k v xs} hr hne => own_blk hr fun j hj => blk_ne (fun e' => by
    have := (own_kind hr hj).2.2 _ _ (e' ▸ h.blk)
    exact hne this.symm) _
  have hob : (Value.slice yb n yc).ownBlock = (Value.slice yb (n + 1) yc).ownBlock := by cases yb <;> rfl
  have htl : (us.take n).length = n := by rw [List.length_take]; omega
  have hat : ∀ {i : Nat} {p : Bool × Value}, (us.take n)[i]? = some p → us[i]? = some p := fun {i p} hi => by
    have hl := (List.getElem?_eq_some_iff.1 hi).1
    rw [List.getElem?_take_of_lt (by omega)] at hi; exact hi
  refine ⟨h.low.setCell h.lo.1 _, h.lo, blk_set (i := 2) h.blk _, nums_kept h.map (blk_ne (Ne.symm h3) _), hown h.left (by decide), by rw [htl]; exact hown hrow (by decide), fun k hk hy => h.apart k hk (by rw [← hob]; exact hy), h.lv, by rw [htl]; exact hP,
    fun i p s a b => ⟨(h.st i p s a b).1, hown (h.st i p s a b).2 (by decide)⟩, fun i p s a b => ⟨(h.wy i p s (hat a) b).1, hown (h.wy i p s (hat a) b).2 (by decide)⟩,
    fun i j p q k hi hj hij a b => h.d1 i j p q k hi hj hij (hat a) (hat b), fun i j p q k hi a => h.d2 i j p q k hi (hat a)⟩
/-- The way's last state ends a word. -/
theorem MkAt.final {w0 W : World} {mb bm yb yc : Nat} {xv v : Value} {vs us : List (Bool × Value)} {S P : List Stt} {cur : Wd} {f : Bool} {s : Stt} (g : Bool)
    (h : MkAt w0 W mb bm xv vs (.slice (some ⟨yb, 0, none⟩) us.length yc) us S (P ++ [s]) cur) (hu : us[P.length]? = some (f, v)) :
    MkAt w0 (W.setCell ⟨yb, P.length * 2, none⟩ (.bool g)) mb bm xv vs (.slice (some ⟨yb, 0, none⟩) us.length yc) (us.set P.length (g, v)) S (P ++ [(g, s.2)]) cur := by
  obtain ⟨h1, h2, h3⟩ := h.size
  obtain ⟨ms, mc, hbm⟩ := nums_blk h.map
  obtain ⟨ycur, hyb⟩ := own2_type h.way (k := yb) rfl
  have hyk := own_kind h.way (k := yb) rfl
  have hylo : w0.heap.size ≤ yb := (h.way.lt yb rfl).1
  have hul : P.length < us.length := (List.getElem?_eq_some_iff.1 hu).1
  have hedge : ∀ {n : Nat} {q : Value} {xs : List Value}, W.ownsRow w0.heap.size 39 2 q n xs → (W.setCell ⟨yb, P.length * 2, none⟩ (.bool g)).ownsRow w0.heap.size 39 2 q n xs := fun {n q xs} hrow => own_blk hrow fun k hk => blk_ne (fun e => by
    have := (own_kind hrow hk).2.2 _ _ (e ▸ hyb); revert this; decide) _
  have hlen : (P ++ [(g, s.2)]).length = (P ++ [s]).length := by simp
  have hat : ∀ {i : Nat} {p : Bool × Value}, (us.set P.length (g, v))[i]? = some p → ∃ p', us[i]? = some p' ∧ p'.2 = p.2 := fun {i p} hi => by
    rcases set_at hi with ⟨_, a⟩ | ⟨rfl, rfl⟩
    · exact ⟨p, a, rfl⟩
    · exact ⟨_, hu, rfl⟩
  refine ⟨h.low.setCell hylo _, h.lo, (blk_ne (fun e => by have := hyk.2.2 _ _ (e ▸ h.blk); revert this; decide) _).trans h.blk, nums_kept h.map (blk_ne (fun e => hyk.2.1 _ _ (e ▸ hbm)) _), own_blk h.left fun k hk => blk_ne (fun e => h.apart k hk (by rw [e]; rfl)) _, ?_, h.apart, h.lv, by rw [hlen, List.length_set]; exact h.lp, fun i p s' a b => ⟨(h.st i p s' a b).1, hedge (h.st i p s' a b).2⟩, fun i p s' a b => ?_, fun i j p q k hi hj hij a b hk => ?_, fun i j p q k hi a b hk => ?_⟩
  · have := own2_put h.way (j := P.length * 2) (by omega) (.bool g)
    rw [cellsA_set1 g hu] at this
    rw [List.length_set]; exact this
  · rcases at_snoc b with ⟨hi, b'⟩ | ⟨hi, rfl⟩
    · rcases set_at a with ⟨_, a'⟩ | ⟨e, _⟩
      · have b2 : (P ++ [s])[i]? = some s' := by rw [List.getElem?_append_left hi]; exact b'
        exact ⟨(h.wy i p s' a' b2).1, hedge (h.wy i p s' a' b2).2⟩
      · omega
    · subst hi
      rcases set_at a with ⟨e, _⟩ | ⟨_, rfl⟩
      · exact absurd rfl e
      · have hw := h.wy _ _ s hu (by simp)
        exact ⟨rfl, hedge hw.2⟩
  · obtain ⟨p', a', hp'⟩ := hat a
    obtain ⟨q', b', hq'⟩ := hat b
    rw [← hp'] at hk
    rw [← hq']
    exact h.d1 i j p' q' k (by rw [← hlen]; exact hi) (by rw [← hlen]; exact hj) hij a' b' hk
  · obtain ⟨p', a', hp'⟩ := hat a
    rw [← hp'] at hk
    exact h.d2 i j p' q k (by rw [← hlen]; exact hi) a' b hk
end Go.Proofs.Ytmcpiikcgimhpaa
