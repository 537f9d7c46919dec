/- daw's (*maker).number: the number of a state that is left. -/
import Derived.Test.YtmcpiikcgimhpaaDawSteps
import Derived.Deep.RegionLaw
namespace Go.Proofs.Ytmcpiikcgimhpaa
open Go.RowKit
set_option linter.unusedVariables false
set_option linter.unusedSimpArgs false

theorem Try.infoSt : (Try.prog.info? 37).map (fun i => (i.zero, i.size, i.bytes)) = some (some (.agg #[.bool false, .slice none 0 0]), 2, 32) := by kernel_rfl
theorem Try.infoEdg : (Try.prog.info? 39).map (fun i => (i.zero, i.size, i.bytes)) = some (some (.agg #[.int .u8 0, .int .i64 0]), 2, 16) := by kernel_rfl
theorem hone_st {w0 W : World} {mb bm : Nat} {xv yv : Value} {vs us : List (Bool × Value)} {S P : List Stt} {cur : Wd} (h : MkAt w0 W mb bm xv vs yv us S P cur) (f : Bool) (eg : Option Addr) (n c : Nat) : ∀ u ∈ [Value.bool f, Value.slice eg n c], u.oneCell' = true := by
  intro u hu
  simp only [List.mem_cons, List.not_mem_nil, or_false] at hu
  rcases hu with rfl | rfl <;> rfl
theorem keyW_mem {S : List Stt} {q : Stt} (hS : ∀ s ∈ S, ∀ e ∈ s.2, e.2 ≤ 9223372036854775807) (hq : ∀ e ∈ q.2, e.2 ≤ 9223372036854775807) : keyW q ∈ S.map keyW ↔ q ∈ S := by
  constructor
  · intro h
    obtain ⟨s, hs, he⟩ := List.mem_map.1 h
    rw [← keyW_inj (fun e h' => by have := hS s hs e h'; omega) (fun e h' => by have := hq e h'; omega) he]
    exact hs
  · exact fun h => List.mem_map.2 ⟨q, h, rfl⟩
set_option maxRecDepth 100000 in
set_option maxHeartbeats 8000000 in
theorem number_any {w0 W : World} {mb bm : Nat} {xv yv : Value} {vs us : List (Bool × Value)} {S P : List Stt} {cur : Wd} (h : MkAt w0 W mb bm xv vs yv us S P cur) {q : Stt} {eg : Option Addr} {n c : Nat}
    (hq : W.ownsRow w0.heap.size 39 2 (.slice eg n c) n (cellsEd (zE q.2))) (hn : q.2.length = n) (hd : ∀ (i : Nat) (p : Bool × Value) (k : Nat), i < P.length → us[i]? = some p → p.2.ownBlock = some k → (Value.slice eg n c).ownBlock ≠ some k)
    (hSl : S.length ≤ 10000000000) (hnl : n ≤ 1000000000000) (hS : ∀ s ∈ S, ∀ e ∈ s.2, e.2 ≤ 9223372036854775807) (hqz : ∀ e ∈ q.2, e.2 ≤ 9223372036854775807) :
    Calls Try.prog 19 #[.pointer (some ⟨mb, 0, none⟩), .agg #[.bool q.1, .slice eg n c]] W fun e W' => ∃ xv' vs', e = .returned (.int .i64 ((putS S q).2 : Nat)) ∧ MkAt w0 W' mb bm xv' vs' yv us (putS S q).1 P cur := by
  obtain ⟨xg, xc, rfl⟩ := own2_slice h.left
  obtain ⟨g1, g2, g3⟩ := h.size
  have H : Hid (MkAt w0 W mb bm (.slice xg vs.length xc) vs yv us S P cur) := h
  have Hq : Hid (W.ownsRow w0.heap.size 39 2 (.slice eg n c) n (cellsEd (zE q.2))) := hq
  have Hn : Hid _ := hn
  have Hd : Hid _ := hd
  have HSz : Hid _ := hS
  have Hqz : Hid _ := hqz
  have Hlv : Hid (vs.length = S.length) := h.lv
  have hlb := h.low.size
  have pk := fun W1 (hb : Below W.heap.size W W1) => key_any q (w := W1) (eg := eg) (n := n) (c := c) (ReadsE.own (own2_later hq hb (Nat.le_refl _))) hn hnl hqz
  have Hpk : Hid _ := pk
  have hkl : (keyW q).length ≤ maxLen := by have h1 := keyL_len q; rw [← keyW_len, hn] at h1; unfold maxLen; omega
  have HKl : Hid _ := hkl
  obtain ⟨fin, es⟩ := q
  obtain ⟨Q, hQ⟩ : ∃ Q : Stt, Q = (fin, es) := ⟨_, rfl⟩
  have HQ : Hid _ := hQ
  obtain ⟨kw, hkw⟩ : ∃ kw, kw = keyW (fin, es) := ⟨_, rfl⟩
  have HKw : Hid _ := hkw
  clear h hq hn hd hS hqz pk hkl hQ hkw
  have HG : Hid (mb < W.heap.size ∧ bm < W.heap.size ∧ mb ≠ bm) := ⟨g1, g2, g3⟩
  go_enter Try.func19, Try.ntmps19
  go_upto_region 1 with (fail)
  obtain ⟨W1, hW1⟩ : ∃ W1, W1 = W.alloc (.cells #[.bool fin, .slice eg n c] 37) := ⟨_, rfl⟩
  rw [← hW1]
  have e1 : W1.heap[W.heap.size]? = some (.cells #[.bool fin, .slice eg n c] 37 (0, 0)) := by rw [hW1]; exact heap_alloc_new _ _
  have b1 : Below W.heap.size W W1 := by rw [hW1]; exact (Below.refl _ _).alloc (Nat.le_refl _) _
  have y1 : W1.cell? ⟨W.heap.size, 0, none⟩ = some (.bool fin) := cell_of e1 0
  have y2 : W1.cell? ⟨W.heap.size, 1, none⟩ = some (.slice eg n c) := cell_of e1 1
  have p1 := Hpk.out W1 b1
  rw [← HKw.out] at p1
  have B1 : Hid _ := b1
  have E1 : Hid _ := e1
  clear hW1 b1 e1
  go_wp2_with fail
  refine p1.mono ?_
  rintro e W2 ⟨rfl, hb2⟩
  have b2 : Below W.heap.size W W2 := B1.out.trans (hb2.mono B1.out.size)
  have H2 : Hid (MkAt w0 W2 mb bm (.slice xg vs.length xc) vs yv us S P cur) := H.out.later b2
  have e2 : W2.heap[W.heap.size]? = some (.cells #[.bool fin, .slice eg n c] 37 (0, 0)) := (hb2.block _ (lt_of_block E1.out)).trans E1.out
  have hs2 : W.heap.size < W2.heap.size := lt_of_block e2
  have B2 : Hid (Below W.heap.size W W2) := b2
  have E2 : Hid _ := e2
  have HS2 : Hid _ := hs2
  have z1 : W2.cell? ⟨mb, 1, none⟩ = some (.map (some bm)) := cell_of H2.out.blk 1
  have z0 : W2.cell? ⟨mb, 0, none⟩ = some (.slice xg vs.length xc) := cell_of H2.out.blk 0
  clear p1 hb2 b2 e2 hs2 y1 y2
  by_cases hin : (fin, es) ∈ S
  · have hidx := List.idxOf_lt_length_iff.2 hin
    have hput : putS S (fin, es) = (S, S.idxOf (fin, es)) := by unfold putS; rw [if_pos hin]
    have hat : (S.map keyW)[S.idxOf (fin, es)]? = some kw := by
      rw [HKw.out, List.getElem?_map, List.getElem?_eq_getElem hidx, List.getElem_idxOf]; rfl
    have hlook := nums_in H2.out.map hat (by rw [HKw.out]; exact HKl.out)
    have HP : Hid _ := hput
    obtain ⟨ix, hix⟩ : ∃ ix, ix = S.idxOf (fin, es) := ⟨_, rfl⟩
    rw [← hix] at hlook
    have HIx : Hid _ := hix
    clear hput hidx hat hin hix z0
    go_wp2
    go_ret
    rw [HP.out]
    exact ⟨_, _, by rw [← HIx.out]; rfl, H2.out⟩
  · have hput : putS S (fin, es) = (S ++ [(fin, es)], S.length) := by unfold putS; rw [if_neg hin]
    have hnot : kw ∉ S.map keyW := by rw [HKw.out]; exact fun hm => hin ((keyW_mem HSz.out Hqz.out).1 hm)
    have hlook := nums_out H2.out.map hnot (by rw [HKw.out]; exact HKl.out)
    obtain ⟨W3, hrun, hN3, ht3⟩ := nums_put H2.out.map hnot (by rw [HKw.out]; exact HKl.out) (by rw [List.length_map]; omega)
    rw [List.length_map, ← Hlv.out] at hrun
    have HP : Hid _ := hput
    have HN3 : Hid (NumsAt W3 bm ((S ++ [(fin, es)]).map keyW)) := by show NumsAt _ _ _; rw [List.map_append, List.map_cons, List.map_nil, ← HKw.out]; exact hN3
    have HT3 : Hid (W2.mapTurned W3 bm) := ht3
    have hg := ht3.grown
    have hmb3 : W3.heap[mb]? = some (.cells #[.slice xg vs.length xc, .map (some bm), yv] 48 (0, 0)) := (hg.block mb (by have := H2.out.size.1; omega) (fun e => HG.out.2.2 (Option.some.inj e))).trans H2.out.blk
    have hbx3 : W3.heap[W.heap.size]? = some (.cells #[.bool fin, .slice eg n c] 37 (0, 0)) := (hg.block _ HS2.out (fun e => by have := HG.out.2.1; have := Option.some.inj e; omega)).trans E2.out
    have x0 : W3.cell? ⟨mb, 0, none⟩ = some (.slice xg vs.length xc) := cell_of hmb3 0
    have v0 : W3.cell? ⟨W.heap.size, 0, none⟩ = some (.bool fin) := cell_of hbx3 0
    have v1 : W3.cell? ⟨W.heap.size, 1, none⟩ = some (.slice eg n c) := cell_of hbx3 1
    have hlv : vs.length ≤ 10000000000 := by rw [Hlv.out]; exact hSl
    have HM3 : Hid _ := hmb3
    have hs3 : W2.heap.size ≤ W3.heap.size := hg.size
    have HL3 : Hid (W3.ownsRow w0.heap.size 37 2 (.slice xg vs.length xc) vs.length (cellsA vs)) := own_blk H2.out.left fun k hk => by
      obtain ⟨ms, mc, hbm⟩ := nums_blk H2.out.map
      have hk2 := own_kind H2.out.left hk
      exact hg.block k hk2.1 (fun e => hk2.2.1 _ _ (by rw [Option.some.inj e]; exact hbm))
    clear hput hnot hin hN3 ht3 hg hmb3 hbx3
    go_upto_region 6 with (fail)
    obtain ⟨W4, hW4⟩ : ∃ W4, W4 = (W3.alloc (.cells #[.bool fin, .slice eg n c] 37)).drew := ⟨_, rfl⟩
    have hL4 : W4.ownsRow w0.heap.size 37 2 (.slice xg vs.length xc) vs.length (cellsA vs) := by rw [hW4]; exact World.ownsRow.drew (HL3.out.alloc _)
    have hR4 : ReadsE W4 (some ⟨W3.heap.size, 0, none⟩) 1 1 [.bool fin, .slice eg n c] := by rw [hW4]; exact readsE_agree (reads_lit W3 (.bool fin) (.slice eg n c) 37) fun _ _ => rfl
    have hone := hone_st H2.out fin eg n c
    have h63 : vs.length + 1 ≤ maxLen := by unfold maxLen; omega
    have hby : (vs.length + 1) * 32 ≤ 140737488355328 := by omega
    have hbs : w0.heap.size ≤ W4.heap.size := by have := H2.out.low.size; rw [hW4]; show _ ≤ (W3.alloc _).heap.size; simp; omega
    have hm4 : W4.heap[mb]? = some (.cells #[.slice xg vs.length xc, .map (some bm), yv] 48 (0, 0)) := by
      rw [hW4]; show (W3.alloc _).heap[mb]? = _; rw [heap_alloc_old _ _ (lt_of_block HM3.out)]; exact HM3.out
    have HL4 : Hid (W4.ownsRow w0.heap.size 37 2 (.slice xg vs.length xc) vs.length (cellsA vs)) := hL4
    have HR4 : Hid _ := hR4
    have HBs : Hid _ := hbs
    have HW4 : Hid _ := hW4
    have HM4 : Hid _ := hm4
    have hxm : (Value.slice xg vs.length xc).ownBlock ≠ some mb := fun e => by have := (own_kind H2.out.left e).2.2 _ _ H2.out.blk; revert this; decide
    have HXm : Hid _ := hxm
    have hk1 : (W3.alloc (.cells #[.bool fin, .slice eg n c] 37)).cell? ⟨mb, 0, none⟩ = some (.slice xg vs.length xc) := by rw [cell_agree (heap_alloc_old _ _ (lt_of_block HM3.out))]; exact x0
    have hk2 : (W3.alloc (.cells #[.bool fin, .slice eg n c] 37)).drew.cell? ⟨mb, 0, none⟩ = some (.slice xg vs.length xc) := hk1
    clear hL4 hR4 hbs hW4 hm4 hxm hs3
    go_region_law (rw [← HW4.out]; refine step_append_2 rfl (.tmp 36) (.tmp 38) 25 rfl w0.heap.size 37 Try.infoSt rfl Try.underlying25 _ _ _ _ rfl HL4.out ⟨W3.heap.size, 0, none⟩ 1 1 [.bool fin, .slice eg n c] rfl HR4.out hone h63 hby HBs.out ?_; intro ag5 c5 W5 hr5 hg5 hb5 hw5; have hm5 : W5.heap[mb]? = some (.cells #[.slice xg vs.length xc, .map (some bm), yv] 48 (0, 0)) := (hg5.block mb (lt_of_block HM4.out) (fun e => HXm.out e.symm)).trans HM4.out; have u0 : W5.cell? ⟨mb, 0, none⟩ = some (.slice xg vs.length xc) := cell_of hm5 0; have u1 : W5.frozen? ⟨mb, 0, none⟩ = false := by simp [World.frozen?, hm5])
    all_goals
      have hg6 : (W3.alloc (.cells #[.bool fin, .slice eg n c] 37)).grownBy W5 (Value.slice xg vs.length xc).ownBlock := by rw [HW4.out] at hg5; exact ⟨hg5.os, hg5.tape, hg5.output, hg5.size, hg5.block⟩
      have hb6 : Below w0.heap.size (W3.alloc (.cells #[.bool fin, .slice eg n c] 37)) W5 := by rw [HW4.out] at hb5; exact ⟨hb5.os, hb5.tape, hb5.output, hb5.size, hb5.block⟩
      have hw6 : (Value.slice ag5 (vs.length + 1) c5).ownBlock = (Value.slice xg vs.length xc).ownBlock ∨ (Value.slice ag5 (vs.length + 1) c5).ownBlock = some (W3.alloc (.cells #[.bool fin, .slice eg n c] 37)).heap.size := by rw [HW4.out] at hw5; exact hw5
      have hq2 : W2.ownsRow w0.heap.size 39 2 (.slice eg n c) es.length (cellsEd (zE es)) := by rw [Hn.out]; exact own2_later Hq.out B2.out (Nat.le_refl _)
      have hr6 : W5.ownsRow w0.heap.size 37 2 (.slice ag5 (vs.length + 1) c5) (vs ++ [(fin, Value.slice eg n c)]).length (cellsA (vs ++ [(fin, Value.slice eg n c)])) := by
        rw [cellsA_app, List.length_append]; exact hr5
      have HF : Hid (MkAt w0 (W5.setCell ⟨mb, 0, none⟩ (.slice ag5 (vs.length + 1) c5)) mb bm (.slice ag5 (vs.length + 1) c5) (vs ++ [(fin, Value.slice eg n c)]) yv us (S ++ [(fin, es)]) P cur) := H2.out.put (q := (fin, es)) hq2 Hd.out HN3.out HT3.out hr6 hg6 hb6 hw6
      clear hg5 hb5 hw5 hr5 hg6 hb6 hw6 hq2 hr6 hm5 u0 u1
      go_wp2
      go_ret
      rw [HP.out]
      exact ⟨_, _, by rw [← Hlv.out]; rfl, HF.out⟩
#print axioms number_any
end Go.Proofs.Ytmcpiikcgimhpaa
