/- daw's (*maker).enter: an edge to a new state. -/
import Derived.Test.YtmcpiikcgimhpaaDawNumber
namespace Go.Proofs.Ytmcpiikcgimhpaa
open Go.RowKit
set_option linter.unusedVariables false
set_option linter.unusedSimpArgs false

theorem own2_some {w : World} {base e n : Nat} {v : Value} {xs : List Value} (h : w.ownsRow base e 2 v n xs) (hn : 0 < n) : ∃ g cap, v = .slice (some ⟨g, 0, none⟩) n cap := by
  rcases h.2 with ⟨h1, h2⟩ | ⟨g, cap, cur, h1, _⟩
  · omega
  · exact ⟨g, cap, h1⟩
/-- The way's cells. -/
theorem MkAt.cells {w0 W : World} {mb bm yb yn yc : Nat} {xv : Value} {vs us : List (Bool × Value)} {S P : List Stt} {cur : Wd} (h : MkAt w0 W mb bm xv vs (.slice (some ⟨yb, 0, none⟩) yn yc) us S P cur) {i : Nat} {f : Bool} {v : Value} (hu : us[i]? = some (f, v)) :
    W.cell? ⟨yb, i * 2, none⟩ = some (.bool f) ∧ W.cell? ⟨yb, i * 2 + 1, none⟩ = some v ∧ ∀ j, W.frozen? ⟨yb, j, none⟩ = false := by
  obtain ⟨cur, hc⟩ := own2_type h.way (k := yb) rfl
  have h2 := h.way.cells (g := yb) rfl
  obtain ⟨c1, c2⟩ := cellsA_at hu
  refine ⟨?_, ?_, fun j => by simp [World.frozen?, hc]⟩
  · have := h2 _ _ c1
    simpa [Addr.add_lit] using this
  · have := h2 _ _ c2
    simpa [Addr.add_lit] using this
set_option maxRecDepth 100000 in
set_option maxHeartbeats 8000000 in
theorem enter_any {w0 W : World} {mb bm : Nat} {xv yv : Value} {vs us : List (Bool × Value)} {S P : List Stt} {cur : Wd} (h : MkAt w0 W mb bm xv vs yv us S P cur) (hP : P.length = cur.length + 1) (hu : us.length = P.length) (hl : P.length ≤ 10000000000)
    (hle : ∀ s, P[cur.length]? = some s → s.2.length ≤ 100000000000) (c : UInt8) :
    Calls Try.prog 18 #[.pointer (some ⟨mb, 0, none⟩), .int .u8 (c.toNat : Nat)] W fun e W' => e = .returned (.tuple #[]) ∧ ∃ yv' us', us'.length = us.length + 1 ∧ MkAt w0 W' mb bm xv vs yv' us' S (P ++ [(false, [])]) (cur ++ [c]) := by
  obtain ⟨N, hN⟩ : ∃ N, N = cur.length := ⟨_, rfl⟩
  have hul : us.length = N + 1 := by omega
  obtain ⟨yb, yc, rfl⟩ := own2_some h.way (by omega)
  obtain ⟨⟨f, v⟩, hv⟩ : ∃ p, us[N]? = some p := ⟨_, List.getElem?_eq_getElem (by omega)⟩
  obtain ⟨s, hs⟩ : ∃ s, P[N]? = some s := ⟨_, List.getElem?_eq_getElem (by omega)⟩
  have hrow := (h.wy _ _ _ hv hs).2
  rw [wayE_end (by omega)] at hrow
  simp only at hrow
  obtain ⟨eg, ec, rfl⟩ := own2_slice hrow
  obtain ⟨k, hk⟩ : ∃ k, k = s.2.length := ⟨_, rfl⟩
  rw [← hk] at hrow hv
  have hkb : k ≤ 100000000000 := by rw [hk]; exact hle s (by rw [← hN]; exact hs)
  have H : Hid (MkAt w0 W mb bm xv vs (.slice (some ⟨yb, 0, none⟩) us.length yc) us S P cur) := h
  have HN : Hid (N = cur.length) := hN
  have HUl : Hid (us.length = N + 1) := hul
  have HPl : Hid (P.length = N + 1) := by rw [hN]; exact hP
  have HV : Hid (us[N]? = some (f, .slice eg k ec)) := hv
  have HS : Hid (P[N]? = some s) := hs
  have HK : Hid (k = s.2.length) := hk
  have hNl : N ≤ 10000000000 := by omega
  have hmc : W.cell? ⟨mb, 2, none⟩ = some (.slice (some ⟨yb, 0, none⟩) (N + 1) yc) := by rw [← hul]; exact cell_of h.blk 2
  clear h hP hu hle hN hul hv hs hrow hk hl
  go_enter Try.func18, Try.ntmps18
  go_wp2_with fail
  go_quiet (fail)
  obtain ⟨W0, hW0⟩ : ∃ W0, W0 = W.drewN nq := ⟨_, rfl⟩
  rw [← hW0]
  have h0 : MkAt w0 W0 mb bm xv vs (.slice (some ⟨yb, 0, none⟩) us.length yc) us S P cur := by rw [hW0]; exact H.out.later (below_drewN (Below.refl _ _) nq)
  have H0 : Hid (MkAt w0 W0 mb bm xv vs (.slice (some ⟨yb, 0, none⟩) us.length yc) us S P cur) := h0
  obtain ⟨c1, c2, c3⟩ := h0.cells HV.out
  have HRow : Hid (W0.ownsRow w0.heap.size 39 2 (.slice eg k ec) k (cellsEd (zE s.2))) := by
    have h1 := (h0.wy _ _ _ HV.out HS.out).2
    rw [wayE_end (by have := HN.out; omega), ← HK.out] at h1
    exact h1
  have hone : ∀ u ∈ [Value.int .u8 (c.toNat : Nat), Value.int .i64 0], u.oneCell' = true := by
    intro u hu
    simp only [List.mem_cons, List.not_mem_nil, or_false] at hu
    rcases hu with rfl | rfl <;> rfl
  have h63 : k + 1 ≤ maxLen := by unfold maxLen; omega
  have hby : (k + 1) * 16 ≤ 140737488355328 := by omega
  have hlb := h0.low.size
  have HLb : Hid _ := hlb
  have hyk := own_kind h0.way (k := yb) rfl
  have hyb : Hid (yb < W0.heap.size) := hyk.1
  have hvy : Hid ((Value.slice eg k ec).ownBlock ≠ some yb) := fun e => by
    obtain ⟨yc', hyc⟩ := own2_type h0.way (k := yb) rfl
    have := (own_kind HRow.out e).2.2 _ _ hyc; revert this; decide
  have HC2 : Hid _ := c2
  obtain ⟨ycur, hyc⟩ := own2_type h0.way (k := yb) rfl
  have HYB : Hid (W0.heap[yb]? = some (.cells ycur 37 (0, 0))) := hyc
  clear hW0 h0 hmc hlb hyk c1 c3 hyc
  go_upto_region 2 with (at_builtin; refine wpList_append_2 rfl _ _ 35 rfl w0.heap.size 39 Try.infoEdg rfl Try.underlying35 _ _ _ _ rfl (HRow.out.alloc _) _ 1 1 _ rfl (reads_lit _ _ _ _) hone h63 hby (Nat.le_trans HLb.out (by simp)) ?_; intro ag2 d2 W2 hr2 hg2 hb2 hw2; have u1 : W2.cell? ⟨yb, N * 2 + 1, none⟩ = some (.slice eg k ec) := (by rw [cell_agree (hg2.block yb (by have := hyb.out; simp; omega) (fun e => hvy.out e.symm)), cell_agree (heap_alloc_old _ _ hyb.out)]; exact HC2.out); have k1 : W2.heap[yb]? = some (.cells ycur 37 (0, 0)) := (hg2.block yb (by have := hyb.out; simp; omega) (fun e => hvy.out e.symm)).trans ((heap_alloc_old _ _ hyb.out).trans HYB.out); have u2 : W2.frozen? ⟨yb, N * 2 + 1, none⟩ = false := by simp [World.frozen?, k1])
  obtain ⟨W3, hW3⟩ : ∃ W3, W3 = W2.setCell ⟨yb, N * 2 + 1, none⟩ (.slice ag2 (k + 1) d2) := ⟨_, rfl⟩
  rw [← hW3]
  have h3 : MkAt w0 W3 mb bm xv vs (.slice (some ⟨yb, 0, none⟩) us.length yc) (us.set N (f, .slice ag2 (k + 1) d2)) S P (cur ++ [c]) := by
    rw [hW3, HN.out]
    have hr3 : W2.ownsRow w0.heap.size 39 2 (.slice ag2 (k + 1) d2) (s.2.length + 1) (cellsEd (zE s.2) ++ [.int .u8 (c.toNat : Nat), .int .i64 0]) := by rw [← HK.out]; exact hr2
    exact H0.out.edge (by rw [← HN.out]; exact HPl.out) (by rw [← HN.out]; exact HV.out) (by rw [← HN.out]; exact HS.out) hr3 hg2 hb2 hw2
  have H3 : Hid (MkAt w0 W3 mb bm xv vs (.slice (some ⟨yb, 0, none⟩) us.length yc) (us.set N (f, .slice ag2 (k + 1) d2)) S P (cur ++ [c])) := h3
  have m3 : W3.cell? ⟨mb, 2, none⟩ = some (.slice (some ⟨yb, 0, none⟩) (N + 1) yc) := by rw [← HUl.out]; exact cell_of h3.blk 2
  have HWay : Hid (W3.ownsRow w0.heap.size 37 2 (.slice (some ⟨yb, 0, none⟩) (N + 1) yc) (N + 1) (cellsA (us.set N (f, .slice ag2 (k + 1) d2)))) := by
    have h4 := h3.way
    rw [List.length_set, HUl.out] at h4
    exact h4
  have hone2 : ∀ u ∈ [Value.bool false, Value.slice none 0 0], u.oneCell' = true := by
    intro u hu
    simp only [List.mem_cons, List.not_mem_nil, or_false] at hu
    rcases hu with rfl | rfl <;> rfl
  have h63' : N + 1 + 1 ≤ maxLen := by unfold maxLen; omega
  have hby' : (N + 1 + 1) * 32 ≤ 140737488355328 := by omega
  have HLb3 : Hid (w0.heap.size ≤ W3.heap.size) := h3.low.size
  have HMb : Hid (W3.heap[mb]? = some (.cells #[xv, .map (some bm), .slice (some ⟨yb, 0, none⟩) (N + 1) yc] 48 (0, 0))) := by rw [← HUl.out]; exact h3.blk
  have hmy : Hid ((Value.slice (some ⟨yb, 0, none⟩) (N + 1) yc).ownBlock ≠ some mb) := fun e => by
    have := (own_kind HWay.out e).2.2 _ _ HMb.out; revert this; decide
  clear hW3 h3 hr2 hg2 hb2 hw2 u1 u2 k1 c2
  go_wp2_with (at_builtin; refine wpList_append_2 rfl _ _ 25 rfl w0.heap.size 37 Try.infoSt rfl Try.underlying25 _ _ _ _ rfl (HWay.out.alloc _) _ 1 1 _ rfl (reads_lit _ _ _ _) hone2 h63' hby' (Nat.le_trans HLb3.out (by simp)) ?_; intro ag4 d4 W4 hr4 hg4 hb4 hw4; have k4 : W4.heap[mb]? = some (.cells #[xv, .map (some bm), .slice (some ⟨yb, 0, none⟩) (N + 1) yc] 48 (0, 0)) := (hg4.block mb (by have := lt_of_block HMb.out; simp; omega) (fun e => hmy.out e.symm)).trans ((heap_alloc_old _ _ (lt_of_block HMb.out)).trans HMb.out); have u4 : W4.cell? ⟨mb, 2, none⟩ = some (.slice (some ⟨yb, 0, none⟩) (N + 1) yc) := cell_of k4 2; have u5 : W4.frozen? ⟨mb, 2, none⟩ = false := by simp [World.frozen?, k4])
  have HF : Hid (MkAt w0 (W4.setCell ⟨mb, 2, none⟩ (.slice ag4 (N + 1 + 1) d4)) mb bm xv vs (.slice ag4 (N + 1 + 1) d4) (us.set N (f, .slice ag2 (k + 1) d2) ++ [(false, .slice none 0 0)]) S (P ++ [(false, [])]) (cur ++ [c])) := by
    have hr5 : W4.ownsRow w0.heap.size 37 2 (.slice ag4 (N + 1 + 1) d4) (us.set N (f, .slice ag2 (k + 1) d2) ++ [(false, Value.slice none 0 0)]).length (cellsA (us.set N (f, .slice ag2 (k + 1) d2) ++ [(false, Value.slice none 0 0)])) := by
      rw [cellsA_app, List.length_append, List.length_set, HUl.out]; exact hr4
    refine H3.out.more (by have h1 := HPl.out; have h2 := HN.out; simp; omega) (by rw [List.length_set, HUl.out, HPl.out]) hr5 ?_ hb4 ?_
    · rw [HUl.out]; exact hg4
    · rw [HUl.out]; exact hw4
  clear hr4 hg4 hb4 hw4 k4 u4 u5 m3
  go_end0
  exact ⟨rfl, _, _, by simp, HF.out⟩
#print axioms enter_any
end Go.Proofs.Ytmcpiikcgimhpaa
