/- The document's own reader: Open, Peek, Next. -/
import Derived.Test.YtabecgeemhkkmaaShown10
import Derived.Test.YtabecgeemhkkmaaRef09Dec
namespace Go.Proofs.Ytabecgeemhkkmaa
open Go.RowKit
set_option linter.unusedVariables false
set_option linter.unusedSimpArgs false

theorem two_below2 (w : World) (o p : Obj) : Grow w ((w.alloc o).alloc p) := ((Below.refl _ w).alloc (Nat.le_refl _) _).alloc (by simp) _
theorem load_rd {w : World} {b : Nat} {x y : Value} {t : TypeId} (h : w.heap[b]? = some (.cells #[x, y] t (0, 0))) : (loadVar 55 ⟨b, 0, none⟩).run Try.prog w = .ok (.agg #[x, y]) w := by
  obtain ⟨h0, h1, _⟩ := blk2 h
  simp [loadVar, Try.isAgg55, Try.sizeOf55, loadCells, loadCellsFrom, go_sem, h0, h1]
set_option maxRecDepth 100000 in
set_option maxHeartbeats 2000000 in
theorem ropen_any {w : World} {ao : Option Addr} {len cap : Nat} {zs : List Int} (h : Reads w ao len cap (zs.map (.int .u8))) (h8 : isBytes zs) (hl : len ≤ 100000) :
    Calls Try.prog 25 #[.slice ao len cap] w fun e w' => Grow w w' ∧ ∃ ag c m, e = .returned (.tuple #[.agg #[.slice ag m c, .int .i64 0], .int .i64 ((decL zs).2 : Nat)]) ∧ m = (decL zs).1.length ∧ ReadsE w' ag m c (cellsE (decL zs).1) := by
  obtain ⟨W0, hW0⟩ : ∃ W0, W0 = w.alloc (.cells #[.slice none 0 0, .int .i64 0] 55) := ⟨_, rfl⟩
  have hB0 : Below w.heap.size w W0 := by rw [hW0]; exact (Below.refl _ _).alloc (Nat.le_refl _) _
  have k0 : W0.heap[w.heap.size]? = some (.cells #[.slice none 0 0, .int .i64 0] 55 (0, 0)) := by rw [hW0]; exact Array.getElem?_push_size
  have p := rdecode_any (h.later hB0 (Nat.le_refl _)) h8 hl
  unfold DecOut at p
  rcases hD : decL zs with ⟨L, d⟩
  rw [hD] at p
  have HW0 : Hid _ := hW0
  clear hW0 hD
  go_enter Try.func25, Try.ntmps25
  go_wp2_with fail
  rw [← HW0.out]
  refine p.mono ?_
  rintro e w1 ⟨ag, c, m, rfl, hm, ho, hG⟩
  have hB1 := hB0.trans (hG.mono hB0.size)
  have k1 := cells_later k0 hG
  have cz := blk2 k1
  have hBz := below_set2 (b := w.heap.size) hB1 (Nat.le_refl _) (.slice ag m c) (.int .i64 0)
  have hldz := load_rd (blk2_set k1 (.slice ag m c) (.int .i64 0))
  have hnb : ∀ k, (Value.slice ag m c).ownBlock = some k → k ≠ w.heap.size := fun k hk => by have := (ho.lt k hk).1; have := (Array.getElem?_eq_some_iff.1 k0).1; omega
  have hro := ReadsE.own (own2_sets ho hnb (.slice ag m c) (.int .i64 0))
  have Hm : Hid _ := hm
  have Hro : Hid _ := hro
  clear p k0 k1 ho hro hm hnb hG hB1
  go_wp2
  refine bodyPost_ret (res_cell_tmp rfl _ _ _ (x := ⟨w.heap.size, 0, none⟩) rfl hldz) rfl ?_
  exact ⟨hBz, ag, c, m, rfl, Hm.out, Hro.out⟩
#print axioms ropen_any

set_option maxRecDepth 100000 in
set_option maxHeartbeats 2000000 in
theorem rpeek_any {w : World} {ao : Option Addr} {n cap at' : Nat} {es : List En} (h : ReadsE w ao n cap (cellsE es)) (ha : at' ≤ n) (hl : n ≤ 1000000000) :
    Calls Try.prog 29 #[.agg #[.slice ao n cap, .int .i64 (at' : Nat)]] w fun e w' => e = .returned (peekV (es.drop at')) ∧ Grow w w' := by
  have hn := h.count
  subst hn
  have hkk : ∀ x y, ((w.alloc (.cells #[.slice ao es.length cap, .int .i64 (at' : Nat)] 55)).alloc (.cells #[x, y] 44)).heap[w.heap.size + 1]? = some (.cells #[x, y] 44 (0, 0)) := fun x y => by
    have := World.alloc_heap_new (w.alloc (.cells #[.slice ao es.length cap, .int .i64 (at' : Nat)] 55)) (.cells #[x, y] 44)
    rw [World.size_alloc] at this
    exact this
  have hG : ∀ x y, Grow w ((w.alloc (.cells #[.slice ao es.length cap, .int .i64 (at' : Nat)] 55)).alloc (.cells #[x, y] 44)) := fun x y => two_below2 _ _ _
  have h0 := h.later (hG (.string ⟨#[]⟩) (.int .u64 0)) (Nat.le_refl _)
  go_enter Try.func29, Try.ntmps29
  by_cases hlt : at' < es.length
  · have hli : (at' : Int) < es.length := by omega
    obtain ⟨⟨ek, en⟩, he⟩ : ∃ e, es[at']? = some e := ⟨_, List.getElem?_eq_getElem hlt⟩
    have hdr : es.drop at' = (ek, en) :: es.drop (at' + 1) := by
      rw [List.drop_eq_getElem_cons hlt]
      have := (List.getElem?_eq_some_iff.1 he).2
      rw [this]
    have HD : Hid (peekV (es.drop at') = .tuple #[.agg #[strV ek, .int .u64 (en : Nat)], .bool true]) := by show _ = _; rw [hdr]; rfl
    obtain ⟨b, off, rfl, hbl, hc⟩ := h0.at (by omega)
    obtain ⟨d1, d2⟩ := hc at' _ he
    have hldz := load_en (hkk (strV ek) (.int .u64 (en : Nat)))
    have hGz := hG (strV ek) (.int .u64 (en : Nat))
    have Hldz : Hid _ := hldz
    clear hdr he hc h0 h hkk hG hldz
    go_wp2
    refine bodyPost_ret (res_cell_tmp rfl _ _ _ (x := ⟨w.heap.size + 1, 0, none⟩) rfl Hldz.out) rfl ?_
    rw [HD.out]
    exact ⟨rfl, hGz⟩
  · have hli : ¬ (at' : Int) < es.length := by omega
    have HD : Hid (peekV (es.drop at') = peekV []) := by show _ = _; rw [List.drop_of_length_le (by omega)]
    have hldz := load_en (hkk (.string ⟨#[]⟩) (.int .u64 0))
    have hGz := hG (.string ⟨#[]⟩) (.int .u64 0)
    have Hldz : Hid _ := hldz
    clear h0 h hkk hG hldz
    go_wp2
    refine bodyPost_ret (res_cell_tmp rfl _ _ _ (x := ⟨w.heap.size + 1, 0, none⟩) rfl Hldz.out) rfl ?_
    rw [HD.out]
    exact ⟨rfl, hGz⟩
#print axioms rpeek_any

theorem res_cells_tmp {fn : Func} {p q r : Tmp} {t u : TypeId} (h : fn.results = #[.cell p t, .cell q u, .tmp r]) (tmps : Array Value) (P : Program) (w : World) {x y : Addr} {v v' : Value} (hx : tmps.getD p undef = .pointer (some x)) (hv : (loadVar t x).run P w = .ok v w)
    (hy : tmps.getD q undef = .pointer (some y)) (hv' : (loadVar u y).run P w = .ok v' w) : (results fn tmps).run P w = .ok (.tuple #[v, v', tmps.getD r undef]) w := by
  have hx' : tmps[p]?.getD undef = .pointer (some x) := by simpa using hx
  have hy' : tmps[q]?.getD undef = .pointer (some y) := by simpa using hy
  simp only [results, h]
  simp [Sem.run_bind, Result.andThen, hx', hy', asAddr, hv, hv']
/-- What Next tells. -/
def nextV (ao : Option Addr) (n cap at' : Nat) (es : List En) : Value := match es.drop at' with
  | [] => .tuple #[.agg #[.slice ao n cap, .int .i64 (at' : Nat)], .agg #[strV [], .int .u64 0], .bool false]
  | e :: _ => .tuple #[.agg #[.slice ao n cap, .int .i64 ((at' : Int) + 1)], .agg #[strV e.1, .int .u64 (e.2 : Nat)], .bool true]
set_option maxRecDepth 100000 in
set_option maxHeartbeats 4000000 in
theorem rnext_any {w : World} {ao : Option Addr} {n cap at' : Nat} {es : List En} (h : ReadsE w ao n cap (cellsE es)) (ha : at' ≤ n) (hl : n ≤ 1000000000) :
    Calls Try.prog 27 #[.agg #[.slice ao n cap, .int .i64 (at' : Nat)]] w fun e w' => e = .returned (nextV ao n cap at' es) ∧ Grow w w' := by
  obtain ⟨W0, hW0⟩ : ∃ W0, W0 = ((w.alloc (.cells #[.slice ao n cap, .int .i64 (at' : Nat)] 55)).alloc (.cells #[.slice none 0 0, .int .i64 0] 55)).alloc (.cells #[.string ⟨#[]⟩, .int .u64 0] 44) := ⟨_, rfl⟩
  have hG0 : Grow w W0 := by rw [hW0]; exact (two_below2 _ _ _).alloc (by simp; omega) _
  have k0 : W0.heap[w.heap.size]? = some (.cells #[.slice ao n cap, .int .i64 (at' : Nat)] 55 (0, 0)) := by
    rw [hW0]
    exact (Below.heap_alloc _ _ _ (by simp; omega)).trans ((Below.heap_alloc _ _ _ (by simp)).trans (World.alloc_heap_new w _))
  have k1 : W0.heap[w.heap.size + 1]? = some (.cells #[.slice none 0 0, .int .i64 0] 55 (0, 0)) := by
    rw [hW0]
    refine (Below.heap_alloc _ _ _ (by simp)).trans ?_
    have := World.alloc_heap_new (w.alloc (.cells #[.slice ao n cap, .int .i64 (at' : Nat)] 55)) (.cells #[.slice none 0 0, .int .i64 0] 55)
    rw [World.size_alloc] at this
    exact this
  have k2 : W0.heap[w.heap.size + 2]? = some (.cells #[.string ⟨#[]⟩, .int .u64 0] 44 (0, 0)) := by
    rw [hW0]
    have := World.alloc_heap_new ((w.alloc (.cells #[.slice ao n cap, .int .i64 (at' : Nat)] 55)).alloc (.cells #[.slice none 0 0, .int .i64 0] 55)) (.cells #[.string ⟨#[]⟩, .int .u64 0] 44)
    rw [World.size_alloc, World.size_alloc] at this
    exact this
  have HW0 : Hid _ := hW0
  have pp := rpeek_any (h.later hG0 (Nat.le_refl _)) ha hl
  have hld0 := load_rd k0
  clear hW0
  go_enter Try.func27, Try.ntmps27
  go_wp2_with fail
  rw [← HW0.out]
  refine pp.mono ?_
  rintro e w1 ⟨rfl, hG1⟩
  have hG01 := Grow.trans hG0 hG1
  have j0 := cells_later k0 hG1
  have j1 := cells_later k1 hG1
  have j2 := cells_later k2 hG1
  have n0 : w1.heap.size ≠ w.heap.size := by have := (Array.getElem?_eq_some_iff.1 j2).1; omega
  have n1 : w1.heap.size ≠ w.heap.size + 1 := by have := (Array.getElem?_eq_some_iff.1 j2).1; omega
  have n2 : w1.heap.size ≠ w.heap.size + 2 := by have := (Array.getElem?_eq_some_iff.1 j2).1; omega
  have m0 := n0.symm
  have m1 := n1.symm
  have m2 := n2.symm
  clear pp k0 k1 k2 hG0 hld0
  cases hd : es.drop at' with
  | nil =>
    obtain ⟨W2, hW2⟩ : ∃ W2, W2 = w1.alloc (.cells #[strV [], .int .u64 0] 44) := ⟨_, rfl⟩
    have hG2 : Grow w1 W2 := by rw [hW2]; exact (Below.refl _ _).alloc (Nat.le_refl _) _
    have l0 := cells_later j0 hG2
    have l1 := cells_later j1 hG2
    have l2 := cells_later j2 hG2
    have l3 : W2.heap[w1.heap.size]? = some (.cells #[strV [], .int .u64 0] 44 (0, 0)) := by rw [hW2]; exact Array.getElem?_push_size
    unfold peekV
    simp only
    obtain ⟨c00, c01, c02, c03⟩ := blk2 l0
    obtain ⟨c10, c11, c12, c13⟩ := blk2 l1
    obtain ⟨c20, c21, c22, c23⟩ := blk2 l2
    obtain ⟨c30, c31, c32, c33⟩ := blk2 l3
    have HN : Hid (nextV ao n cap at' es = .tuple #[.agg #[.slice ao n cap, .int .i64 (at' : Nat)], .agg #[strV [], .int .u64 0], .bool false]) := by show _ = _; unfold nextV; rw [hd]
    have hGW : Grow w W2 := Grow.trans hG01 hG2
    obtain ⟨W3, hW3⟩ : ∃ W3, W3 = ((((W2.setCell ⟨w.heap.size + 1, 0, none⟩ (.slice ao n cap)).setCell ⟨w.heap.size + 1, 1, none⟩ (.int .i64 (at' : Nat))).setCell ⟨w.heap.size + 2, 0, none⟩ (.string ⟨#[]⟩)).setCell ⟨w.heap.size + 2, 1, none⟩ (.int .u64 0)).drew := ⟨_, rfl⟩
    have P1 : Hid (W3.heap[w.heap.size + 1]? = some (.cells #[.slice ao n cap, (.int .i64 (at' : Nat))] 55 (0, 0))) := by
      rw [hW3]
      exact (Below.heap_setCell _ _ _ _ (by show w.heap.size + 1 ≠ w.heap.size + 2; omega)).trans ((Below.heap_setCell _ _ _ _ (by show w.heap.size + 1 ≠ w.heap.size + 2; omega)).trans (blk2_set l1 _ _))
    have P2 : Hid (W3.heap[w.heap.size + 2]? = some (.cells #[(.string ⟨#[]⟩), (.int .u64 0)] 44 (0, 0))) := by
      rw [hW3]
      exact blk2_set ((Below.heap_setCell _ _ _ _ (by show w.heap.size + 2 ≠ w.heap.size + 1; omega)).trans ((Below.heap_setCell _ _ _ _ (by show w.heap.size + 2 ≠ w.heap.size + 1; omega)).trans l2)) _ _
    have hG3 : Grow w W3 := by
      rw [hW3]
      exact (below_set2 (below_set2 hGW (by omega) _ _) (by omega) _ _).drew
    have HW3 : Hid _ := hW3
    have HW2 : Hid _ := hW2
    clear hd hW2 l0 l1 l2 l3 j0 j1 j2 hG01 hG2 hGW hG1 hW3
    go_wp2_with fail
    rw [← HW2.out]
    go_region
    rw [← HW3.out]
    clear c00 c01 c02 c03 c10 c11 c12 c13 c20 c21 c22 c23 c30 c31 c32 c33
    go_wp2
    refine bodyPost_ret (res_cells_tmp rfl _ _ _ (x := ⟨w.heap.size + 1, 0, none⟩) (y := ⟨w.heap.size + 2, 0, none⟩) rfl (load_rd P1.out) rfl (load_en P2.out)) rfl ?_
    rw [HN.out]
    exact ⟨rfl, hG3⟩
  | cons x rest =>
    obtain ⟨ek, en⟩ := x
    obtain ⟨W2, hW2⟩ : ∃ W2, W2 = (w1.alloc (.cells #[strV ek, .int .u64 (en : Nat)] 44)).setCell ⟨w.heap.size, 1, none⟩ (.int .i64 ((at' : Int) + 1)) := ⟨_, rfl⟩
    have hGa : Grow w1 (w1.alloc (.cells #[strV ek, .int .u64 (en : Nat)] 44)) := (Below.refl _ _).alloc (Nat.le_refl _) _
    have a0 := cells_later j0 hGa
    have l0 : W2.heap[w.heap.size]? = some (.cells #[.slice ao n cap, .int .i64 ((at' : Int) + 1)] 55 (0, 0)) := by rw [hW2]; exact blk2_one a0 1 _
    have l1 : W2.heap[w.heap.size + 1]? = some (.cells #[.slice none 0 0, .int .i64 0] 55 (0, 0)) := by rw [hW2]; exact (Below.heap_setCell _ _ _ _ (by show w.heap.size + 1 ≠ w.heap.size; omega)).trans (cells_later j1 hGa)
    have l2 : W2.heap[w.heap.size + 2]? = some (.cells #[.string ⟨#[]⟩, .int .u64 0] 44 (0, 0)) := by rw [hW2]; exact (Below.heap_setCell _ _ _ _ (by show w.heap.size + 2 ≠ w.heap.size; omega)).trans (cells_later j2 hGa)
    have l3 : W2.heap[w1.heap.size]? = some (.cells #[strV ek, .int .u64 (en : Nat)] 44 (0, 0)) := by rw [hW2]; exact (Below.heap_setCell _ _ _ _ n0).trans Array.getElem?_push_size
    unfold peekV
    simp only
    obtain ⟨b00, b01, b02, b03⟩ := blk2 a0
    obtain ⟨c00, c01, c02, c03⟩ := blk2 l0
    obtain ⟨c10, c11, c12, c13⟩ := blk2 l1
    obtain ⟨c20, c21, c22, c23⟩ := blk2 l2
    obtain ⟨c30, c31, c32, c33⟩ := blk2 l3
    have hGW : Grow w W2 := by rw [hW2]; exact (Grow.trans hG01 hGa).setCell (p := ⟨w.heap.size, 1, none⟩) (Nat.le_refl _) _
    obtain ⟨W3, hW3⟩ : ∃ W3, W3 = ((((W2.setCell ⟨w.heap.size + 1, 0, none⟩ (.slice ao n cap)).setCell ⟨w.heap.size + 1, 1, none⟩ (.int .i64 ((at' : Int) + 1))).setCell ⟨w.heap.size + 2, 0, none⟩ (strV ek)).setCell ⟨w.heap.size + 2, 1, none⟩ (.int .u64 (en : Nat))).drew := ⟨_, rfl⟩
    have P1 : Hid (W3.heap[w.heap.size + 1]? = some (.cells #[.slice ao n cap, (.int .i64 ((at' : Int) + 1))] 55 (0, 0))) := by
      rw [hW3]
      exact (Below.heap_setCell _ _ _ _ (by show w.heap.size + 1 ≠ w.heap.size + 2; omega)).trans ((Below.heap_setCell _ _ _ _ (by show w.heap.size + 1 ≠ w.heap.size + 2; omega)).trans (blk2_set l1 _ _))
    have P2 : Hid (W3.heap[w.heap.size + 2]? = some (.cells #[(strV ek), (.int .u64 (en : Nat))] 44 (0, 0))) := by
      rw [hW3]
      exact blk2_set ((Below.heap_setCell _ _ _ _ (by show w.heap.size + 2 ≠ w.heap.size + 1; omega)).trans ((Below.heap_setCell _ _ _ _ (by show w.heap.size + 2 ≠ w.heap.size + 1; omega)).trans l2)) _ _
    have hG3 : Grow w W3 := by
      rw [hW3]
      exact (below_set2 (below_set2 hGW (by omega) _ _) (by omega) _ _).drew
    have HW3 : Hid _ := hW3
    have HN : Hid (nextV ao n cap at' es = .tuple #[.agg #[.slice ao n cap, .int .i64 ((at' : Int) + 1)], .agg #[strV ek, .int .u64 (en : Nat)], .bool true]) := by show _ = _; unfold nextV; rw [hd]
    have hal : (at' : Int) + 1 ≤ 1000000000 := by
      have h1 := h.count
      have h2 : (es.drop at').length = rest.length + 1 := by rw [hd]; rfl
      rw [List.length_drop] at h2
      omega
    have HW2 : Hid _ := hW2
    clear hd hW2 l0 l1 l2 l3 j0 j1 j2 hG01 hGW hG1 hW3 hGa a0 h ha
    go_wp2_with fail
    rw [← HW2.out]
    clear b00 b01 b02 b03
    go_region
    rw [← HW3.out]
    clear c00 c01 c02 c03 c10 c11 c12 c13 c20 c21 c22 c23 c30 c31 c32 c33
    go_wp2
    refine bodyPost_ret (res_cells_tmp rfl _ _ _ (x := ⟨w.heap.size + 1, 0, none⟩) (y := ⟨w.heap.size + 2, 0, none⟩) rfl (load_rd P1.out) rfl (load_en P2.out)) rfl ?_
    rw [HN.out]
    exact ⟨rfl, hG3⟩
#print axioms rnext_any
end Go.Proofs.Ytabecgeemhkkmaa
