/- daw.takesMore: whether a built automaton takes more words than some. -/
import Derived.Test.YtmcpiikcgimhpaaDawCount
import Derived.Test.YtmcpiikcgimhpaaDawMayAll
namespace Go.Proofs.Ytmcpiikcgimhpaa
open Go.RowKit
set_option linter.unusedVariables false
set_option linter.unusedSimpArgs false

def cV (xs : List Nat) : List Value := xs.map fun (n : Nat) => Value.int .i64 (n : Nat)
theorem Try.infoCount : (Try.prog.info? 3).map (fun i => (i.zero, i.size, i.bytes)) = some (some (.int .i64 0), 1, 8) := by kernel_rfl
theorem made_counts (n : Nat) (h : n ≤ 1000000000000) (W : World) :
    (Instr.makeSlice 61 (.int .i64 (n : Nat)) (.int .i64 (n : Nat))).run Try.prog W = .ok (.slice (some ⟨W.heap.size, 0, none⟩) n n) (W.alloc (.cells (cV (List.replicate n 0)).toArray 3)) := by
  obtain ⟨i0, hi, hz0, hz1, hz2⟩ := info_parts Try.infoCount
  have hC : madeCells (Value.int .i64 0).cells (n * i0.size) = (cV (List.replicate n 0)).toArray := by
    rw [hz1, Nat.mul_one]
    apply Array.ext
    · simp [madeCells, cV]
    · intro j h1 h2
      simp [madeCells, Value.cells, Nat.mod_one, cV]
  have := run_make (P := Try.prog) W 61 3 i0 (.int .i64 0) Try.underlying61 hi hz0 .i64 .i64 n n (by omega) (Int.le_refl _) (by rw [hz2]; omega) (by omega)
  rw [Int.toNat_natCast, hC] at this
  exact this
theorem cV_set (xs : List Nat) (j n : Nat) : (cV xs).toArray.setIfInBounds j (.int .i64 (n : Nat)) = (cV (xs.set j n)).toArray := by
  simp [cV, List.map_set]
theorem cV_cell {w : World} {g : Nat} {xs : List Nat} (h : w.heap[g]? = some (.cells (cV xs).toArray 3 (0, 0))) {j n : Nat} (hj : xs[j]? = some n) : w.cell? ⟨g, j, none⟩ = some (.int .i64 (n : Nat)) := by
  rw [cell_of h]; simp [cV, hj]
theorem cV_put {w : World} {g : Nat} {xs : List Nat} (h : w.heap[g]? = some (.cells (cV xs).toArray 3 (0, 0))) (j n : Nat) : (w.setCell ⟨g, j, none⟩ (.int .i64 (n : Nat))).heap[g]? = some (.cells (cV (xs.set j n)).toArray 3 (0, 0)) := by
  rw [blk_set h, cV_set]
theorem flat_step (S : List Stt) {es : List (UInt8 × Nat)} {t : Nat} {e : UInt8 × Nat} (he : es[t]? = some e) : (flatS S (es.take (t + 1))).length = (flatS S (es.take t)).length + (langS S e.2).length := by
  have h1 : es.take (t + 1) = es.take t ++ [e] := by rw [List.take_add_one, he]; rfl
  rw [h1]
  unfold flatS
  rw [List.flatMap_append, List.length_append]
  simp
set_option maxRecDepth 100000 in
set_option maxHeartbeats 4000000 in
theorem more_any {S : List Stt} (hS : GoodS S) (hl : S.length ≤ 100000000000) (h256 : ∀ s ∈ S, s.2.length ≤ 256) {w : World} {ao : Option Addr} {len cap : Nat} (hr : ReadsA w ao len cap (zA S)) (most : Int) (hm0 : 0 ≤ most) (hm : most ≤ 100000) :
    Calls Try.prog 20 #[.slice ao len cap, .int .i64 most] w fun e w' => Tells e (∃ i, i < S.length ∧ most < (langS S i).length) ∧ Below w.heap.size w w' := by
  have hlen : len = S.length := by rw [← hr.count, zA_len]
  have HR : Hid _ := hr
  have Hlen : Hid (S.length = len) := hlen.symm
  have HS : Hid _ := hS
  have hll : len ≤ 100000000000 := by omega
  have hmk := made_counts len (by omega)
  have H256 : Hid _ := h256
  clear hr hS hl hlen h256
  go_enter Try.func20, Try.ntmps20
  go_wp2_with fail
  go_loopw [15] (fun i wr => ∃ (j : Nat) (xs : List Nat), i = .int .i64 (j : Nat) ∧ j ≤ len ∧ Hid (xs.length = len) ∧ Hid (∀ i, i < j → xs[i]? = some (langS S i).length) ∧ Hid (∀ i, j ≤ i → i < len → xs[i]? = some 0) ∧ Hid (∀ i, i < j → ((langS S i).length : Int) ≤ most) ∧ Hid (wr.heap[w.heap.size]? = some (.cells (cV xs).toArray 3 (0, 0))) ∧ Hid (Below w.heap.size w wr)) (fun i _ => (len - intOf i).toNat)
  case atStart => exact ⟨0, List.replicate len 0, rfl, Nat.zero_le _, List.length_replicate, (show ∀ i, i < 0 → _ from fun i hi => by omega), (show ∀ i, 0 ≤ i → i < len → (List.replicate len 0)[i]? = some 0 from fun i _ hi => by simp [hi]), (show ∀ i, i < 0 → _ from fun i hi => by omega), heap_alloc_new _ _, (Below.refl _ _).alloc (Nat.le_refl _) _⟩
  case round =>
    obtain ⟨j, xs, rfl, hj, hxl, hx, hz, hle, hblk, hB⟩ := hrel
    by_cases hjl : j < len
    · have q1 : (j : Int) < len := by omega
      obtain ⟨b, off, hao, hb, hcl⟩ := HR.out.at (by omega)
      obtain ⟨⟨f, es⟩, hs⟩ : ∃ s, S[j]? = some s := ⟨_, List.getElem?_eq_getElem (by rw [Hlen.out]; exact hjl)⟩
      obtain ⟨eg, ec, c1, c2, er⟩ := hcl j _ (zA_at hs)
      simp only [zE_len] at c1 c2 er
      subst hao
      obtain ⟨k, hk⟩ : ∃ k, k = es.length := ⟨_, rfl⟩
      rw [← hk] at c2 er
      have hkm : k ≤ 256 := by rw [hk]; exact H256.out _ (List.mem_of_getElem? hs)
      have hlang : (langS S j).length = (if f then 1 else 0) + (flatS S es).length := by
        rw [lang_at HS.out hs]; unfold wordsOf
        rw [List.length_append]
        cases f <;> rfl
      obtain ⟨b0, hb0⟩ : ∃ b0 : Nat, b0 = if f then 1 else 0 := ⟨_, rfl⟩
      rw [← hb0] at hlang
      have hb01 : b0 ≤ 1 := by rw [hb0]; split <;> omega
      have HB01 : Hid _ := hb01
      have x1 : wr.cell? ⟨b, off + j * 2, none⟩ = some (.bool f) := (hB.out.cell (p := ⟨b, off + j * 2, none⟩) hb).trans c1
      have x2 : wr.cell? ⟨b, off + j * 2 + 1, none⟩ = some (.slice eg k ec) := (hB.out.cell (p := ⟨b, off + j * 2 + 1, none⟩) hb).trans c2
      have hnb : w.heap.size ≤ wr.heap.size := hB.out.size
      have hgl : w.heap.size < wr.heap.size := lt_of_block hblk.out
      have HX : Hid (∀ i, i < j → xs[i]? = some (langS S i).length) := hx.out
      have HZ : Hid (∀ i, j ≤ i → i < len → xs[i]? = some 0) := hz.out
      have HLe : Hid (∀ i, i < j → ((langS S i).length : Int) ≤ most) := hle.out
      have HXl : Hid (xs.length = len) := hxl.out
      have HB : Hid (Below w.heap.size w wr) := hB.out
      have HBlk : Hid (wr.heap[w.heap.size]? = some (.cells (cV xs).toArray 3 (0, 0))) := hblk.out
      have HER : Hid _ := er
      have Hk : Hid (es.length = k) := hk.symm
      have Hlang : Hid _ := hlang
      have HB0 : Hid _ := hb0
      have Hlow : Hid _ := HS.out.low j _ hs
      have Hgl : Hid _ := hgl
      clear hx hz hle hxl hB hblk c1 c2 er hk hs hcl hlang hb0 hb
      go_upto_region 5 with (fail)
      obtain ⟨W1, hW1⟩ : ∃ W1, W1 = wr.alloc (.cells #[.bool f, .slice eg k ec] 37) := ⟨_, rfl⟩
      rw [← hW1]
      have e1 : W1.heap[wr.heap.size]? = some (.cells #[.bool f, .slice eg k ec] 37 (0, 0)) := by rw [hW1]; exact heap_alloc_new _ _
      have E1 : Hid _ := e1
      have y1 : W1.cell? ⟨wr.heap.size, 0, none⟩ = some (.bool f) := cell_of e1 0
      have y2 : W1.cell? ⟨wr.heap.size, 1, none⟩ = some (.slice eg k ec) := cell_of e1 1
      have hg1 : W1.heap[w.heap.size]? = some (.cells (cV xs).toArray 3 (0, 0)) := by rw [hW1, heap_alloc_old _ _ hgl]; exact HBlk.out
      have G1 : Hid _ := hg1
      have B1 : Hid (Below w.heap.size w W1) := by rw [hW1]; exact HB.out.alloc hnb _
      have hx0 : xs[j]? = some 0 := HZ.out j (Nat.le_refl _) hjl
      have HX0 : Hid _ := hx0
      have k1 : W1.cell? ⟨w.heap.size, j, none⟩ = some (.int .i64 0) := cV_cell hg1 hx0
      have k2 : W1.frozen? ⟨w.heap.size, j, none⟩ = false := by simp [World.frozen?, hg1]
      clear hW1 e1 x1 x2 HB HBlk hg1 hx0 hgl
      go_upto_if 21 with (fail)
      go_cut [] from 22 to 24 (fun wq => Hid (wq.heap[w.heap.size]? = some (.cells (cV (xs.set j b0)).toArray 3 (0, 0))) ∧ wq.cell? ⟨wr.heap.size, 1, none⟩ = some (.slice eg k ec) ∧ Hid (Below w.heap.size w wq))
      case first =>
        cases f with
        | false =>
          have h0 := HB0.out
          rw [if_neg (by simp)] at h0
          have hset : Hid (xs.set j b0 = xs) := by
            show _ = _
            apply List.ext_getElem?
            intro i
            rw [List.getElem?_set]
            split
            · rename_i hij
              subst hij
              rw [h0, HX0.out]
              rw [if_pos (by rw [HXl.out]; exact hjl)]
            · rfl
          clear HB0 h0
          go_wp2_with fail
          go_meet
          case rel => exact ⟨(by show _ = _; rw [hset.out]; exact G1.out), y2, B1.out⟩
        | true =>
          have h0 := HB0.out
          rw [if_pos rfl] at h0
          have H0 : Hid _ := h0
          clear HB0 h0
          go_wp2_with fail
          go_meet
          case rel => exact ⟨(by show _ = _; rw [H0.out]; exact cV_put G1.out j 1), (by rw [cell_agree (blk_ne (show wr.heap.size ≠ w.heap.size by have := Hgl.out; omega) _)]; exact y2), B1.out.setCell (Nat.le_refl _) _⟩
      case rest =>
        obtain ⟨hg2, y2, hB2⟩ := hcut
        have G2 : Hid (wc.heap[w.heap.size]? = some (.cells (cV (xs.set j b0)).toArray 3 (0, 0))) := hg2.out
        have B2 : Hid (Below w.heap.size w wc) := hB2.out
        clear hg2 hB2 G1 B1 E1
        go_wp2_with fail
        go_loopw [28] (fun i w2 => ∃ (t y : Nat), i = .int .i64 (t : Nat) ∧ t ≤ k ∧ y ≤ 1 + t * 100000 ∧ Hid (y = b0 + (flatS S (es.take t)).length) ∧ Hid (w2.heap[w.heap.size]? = some (.cells (cV (xs.set j y)).toArray 3 (0, 0))) ∧ Hid (Below w.heap.size w w2)) (fun i _ => (k - intOf i).toNat)
        case atStart => exact ⟨0, b0, rfl, Nat.zero_le _, (by have := HB01.out; omega), (show b0 = b0 + (flatS S (es.take 0)).length by simp [flatS]), G2.out, B2.out⟩
        case round =>
          obtain ⟨t, y, rfl, ht, hy, hyt, hg, hB⟩ := hrel
          by_cases htk : t < k
          · have q2 : (t : Int) < k := by omega
            obtain ⟨bE, oE, hae, hbE, hce⟩ := HER.out.edge (by omega)
            subst hae
            obtain ⟨⟨cb, ct⟩, he⟩ : ∃ e, es[t]? = some e := ⟨_, List.getElem?_eq_getElem (by rw [Hk.out]; exact htk)⟩
            have hcc := hce t _ (zE_at he)
            simp only at hcc
            have z1 : wr.cell? ⟨bE, oE + t * 2, none⟩ = some (.int .u8 (cb.toNat : Nat)) := (hB.out.cell (p := ⟨bE, oE + t * 2, none⟩) hbE).trans hcc.1
            have z2 : wr.cell? ⟨bE, oE + t * 2 + 1, none⟩ = some (.int .i64 (ct : Nat)) := (hB.out.cell (p := ⟨bE, oE + t * 2 + 1, none⟩) hbE).trans hcc.2
            have hctj := Hlow.out _ (List.mem_of_getElem? he)
            simp only at hctj
            have hflat := flat_step S he
            have hxc := HX.out ct hctj
            have hlec := HLe.out ct hctj
            obtain ⟨p, hp⟩ : ∃ p, p = (langS S ct).length := ⟨_, rfl⟩
            simp only [← hp] at hflat hxc hlec
            have Hst : Hid (y + p = b0 + (flatS S (es.take (t + 1))).length) := by show _ = _; rw [hflat, hyt.out]; omega
            have hgg := hg.out
            have hsj : (xs.set j y)[j]? = some y := by rw [List.getElem?_set, if_pos rfl, if_pos (by rw [HXl.out]; exact hjl)]
            have hsc : (xs.set j y)[ct]? = some p := by rw [List.getElem?_set, if_neg (by omega)]; exact hxc
            have hnb2 : w.heap.size ≤ wr.heap.size := hB.out.size
            have hgl2 : w.heap.size < wr.heap.size := lt_of_block hgg
            have HG : Hid (wr.heap[w.heap.size]? = some (.cells (cV (xs.set j y)).toArray 3 (0, 0))) := hgg
            have HB3 : Hid (Below w.heap.size w wr) := hB.out
            have hcti : (ct : Int) < len := by omega
            clear hce hcc he hflat hxc hp hyt hB hg hgg htk hbE
            go_upto_region 10 with (fail)
            obtain ⟨W2, hW2⟩ : ∃ W2, W2 = wr.alloc (.cells #[.int .u8 (cb.toNat : Nat), .int .i64 (ct : Nat)] 39) := ⟨_, rfl⟩
            rw [← hW2]
            have e2 : W2.heap[wr.heap.size]? = some (.cells #[.int .u8 (cb.toNat : Nat), .int .i64 (ct : Nat)] 39 (0, 0)) := by rw [hW2]; exact heap_alloc_new _ _
            have v2 : W2.cell? ⟨wr.heap.size, 1, none⟩ = some (.int .i64 (ct : Nat)) := cell_of e2 1
            have hg3 : W2.heap[w.heap.size]? = some (.cells (cV (xs.set j y)).toArray 3 (0, 0)) := by rw [hW2, heap_alloc_old _ _ hgl2]; exact HG.out
            have G3 : Hid _ := hg3
            have B3 : Hid (Below w.heap.size w W2) := by rw [hW2]; exact HB3.out.alloc hnb2 _
            have m1 : W2.cell? ⟨w.heap.size, j, none⟩ = some (.int .i64 (y : Nat)) := cV_cell hg3 hsj
            have m2 : W2.frozen? ⟨w.heap.size, j, none⟩ = false := by simp [World.frozen?, hg3]
            have m3 : W2.cell? ⟨w.heap.size, ct, none⟩ = some (.int .i64 (p : Nat)) := cV_cell hg3 hsc
            have hset : Hid ((xs.set j y).set j (y + p) = xs.set j (y + p)) := by show _ = _; rw [List.set_set]
            have hput := cV_put hg3 j (y + p)
            rw [hset.out, show ((y + p : Nat) : Int) = (y : Int) + p by omega] at hput
            have HPut : Hid _ := hput
            have hpb : p ≤ 100000 := by omega
            clear hW2 e2 z1 z2 hg3 hput hsj hsc hlec hgl2
            go_region
            all_goals
              go_wp2
              go_roundw
              case rel => exact ⟨t + 1, y + p, by go_num, by omega, by omega, Hst, HPut.out, (B3.out.setCell (Nat.le_refl _) _).drew⟩
              case measure => simp [intOf]; omega
          · have q2 : ¬ (t : Int) < k := by omega
            have hy2 : y = (langS S j).length := by
              have h1 := hyt.out
              rw [List.take_of_length_le (by rw [Hk.out]; omega)] at h1
              rw [Hlang.out]; exact h1
            have hgg := hg.out
            have hsj : (xs.set j y)[j]? = some y := by rw [List.getElem?_set, if_pos rfl, if_pos (by rw [HXl.out]; exact hjl)]
            have m1 : wr.cell? ⟨w.heap.size, j, none⟩ = some (.int .i64 (y : Nat)) := cV_cell hgg hsj
            have HG : Hid (wr.heap[w.heap.size]? = some (.cells (cV (xs.set j y)).toArray 3 (0, 0))) := hgg
            have HB3 : Hid (Below w.heap.size w wr) := hB.out
            have HY : Hid _ := hy2
            clear hyt hg hB hgg hsj htk hy2 y2
            by_cases hym : most < (y : Int)
            · have hE : Hid (∃ i, i < S.length ∧ most < (langS S i).length) := ⟨j, by rw [Hlen.out]; exact hjl, by rw [← HY.out]; exact hym⟩
              go_wp2
              go_ret
              exact ⟨tells_yes hE.out, HB3.out⟩
            · have HX2 : Hid (∀ i, i < j + 1 → (xs.set j y)[i]? = some (langS S i).length) := by
                show ∀ i, _
                intro i hi
                rw [List.getElem?_set]
                split
                · rename_i hij; subst hij; rw [if_pos (by rw [HXl.out]; exact hjl), HY.out]
                · exact HX.out i (by omega)
              have HZ2 : Hid (∀ i, j + 1 ≤ i → i < len → (xs.set j y)[i]? = some 0) := by
                show ∀ i, _
                intro i h1 h2
                rw [List.getElem?_set, if_neg (by omega)]
                exact HZ.out i (by omega) h2
              have HL2 : Hid (∀ i, i < j + 1 → ((langS S i).length : Int) ≤ most) := by
                show ∀ i, _
                intro i hi
                by_cases hij : i = j
                · subst hij; rw [← HY.out]; omega
                · exact HLe.out i (by omega)
              go_wp2
              go_roundw
              case rel => exact ⟨j + 1, xs.set j y, by go_num, by omega, (by show _ = _; rw [List.length_set]; exact HXl.out), HX2.out, HZ2.out, HL2.out, HG.out, HB3.out⟩
              case measure => simp [intOf]; omega
    · have q1 : ¬ (j : Int) < len := by omega
      have hE : Hid (¬ ∃ i, i < S.length ∧ most < (langS S i).length) := by
        show ¬ _
        rintro ⟨i, hi, hmi⟩
        have h1 := hle.out i (by have := Hlen.out; omega)
        omega
      have HB : Hid (Below w.heap.size w wr) := hB.out
      clear hle hB hx hz hxl hblk
      go_wp2
      go_ret
      exact ⟨tells_no hE.out, HB.out⟩
#print axioms more_any
end Go.Proofs.Ytmcpiikcgimhpaa
