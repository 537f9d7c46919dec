/- index.Counts. -/
import Derived.Test.YtkcledkfgmdcgaaIndexCount
import Derived.Test.YtkcledkfgmdcgaaIndexMath
import Derived.Test.YtkcledkfgmdcgaaDawMayAll
namespace Go.Proofs.Ytkcledkfgmdcgaa
open Go.RowKit
set_option linter.unusedVariables false
set_option linter.unusedSimpArgs false

theorem imade (n : Nat) (h : n ≤ 10000000000000) (W : World) :
    (Instr.makeSlice 28 (.int .i64 (n : Nat)) (.int .i64 (n : Nat))).run Try.prog W = .ok (.slice (some ⟨W.heap.size, 0, none⟩) n n) (W.alloc (.cells (zN (List.replicate n 0)).toArray 42)) := by
  obtain ⟨i0, hi, hz0, hz1, hz2⟩ := info_parts Try.infoU15
  have hC : madeCells (Value.int .u64 0).cells (n * i0.size) = (zN (List.replicate n 0)).toArray := by
    rw [hz1, Nat.mul_one]
    apply Array.ext
    · simp [madeCells, zN]
    · intro j h1 h2
      simp [madeCells, Value.cells, Nat.mod_one, zN]
  have := run_make (P := Try.prog) W 28 42 i0 (.int .u64 0) Try.underlying28 hi hz0 .i64 .i64 n n (by omega) (Int.le_refl _) (by rw [hz2]; omega) (by omega)
  rw [Int.toNat_natCast, hC] at this
  exact this
theorem zN_set (xs : List Nat) (j n : Nat) : (zN xs).toArray.setIfInBounds j (.int .u64 (n : Nat)) = (zN (xs.set j n)).toArray := by
  simp [zN, List.map_set]
theorem zN_cell {w : World} {g : Nat} {xs : List Nat} (h : w.heap[g]? = some (.cells (zN xs).toArray 42 (0, 0))) {j n : Nat} (hj : xs[j]? = some n) : w.cell? ⟨g, j, none⟩ = some (.int .u64 (n : Nat)) := by
  rw [cell_of h]; simp [zN, hj]
theorem zN_put {w : World} {g : Nat} {xs : List Nat} (h : w.heap[g]? = some (.cells (zN xs).toArray 42 (0, 0))) (j n : Nat) : (w.setCell ⟨g, j, none⟩ (.int .u64 (n : Nat))).heap[g]? = some (.cells (zN (xs.set j n)).toArray 42 (0, 0)) := by
  rw [blk_set h, zN_set]
theorem built_ints {zs : List Wd} (hl : (buildL zs).length ≤ 10000000000000) : ∀ s ∈ zA (buildL zs), ∀ e ∈ s.2, -9223372036854775808 ≤ e.2 ∧ e.2 ≤ 9223372036854775807 := by
  intro s hs' e he
  obtain ⟨t, ht, rfl⟩ := List.mem_map.1 hs'
  obtain ⟨d, hd, rfl⟩ := List.mem_map.1 he
  obtain ⟨i, hi⟩ := List.getElem?_of_mem ht
  have h1 := (build_good zs).low i t hi d hd
  have h2 := (List.getElem?_eq_some_iff.1 hi).1
  simp only
  omega
theorem imay_yes {w : World} {ao : Option Addr} {len cap : Nat} {zs : List Wd} (h : ReadsA w ao len cap (zA (buildL zs))) (hne : [] ∉ zs) (hs : (buildL zs).length ≤ 10000000000000) :
    Calls Try.prog 19 #[.slice ao len cap] w fun e w' => e = .returned (.bool true) ∧ Below w.heap.size w w' := by
  have hcount := h.count
  rw [zA_len] at hcount
  refine (amay_any h (by omega) (built_ints hs)).mono ?_
  rintro e w' ⟨⟨bb, rfl, hbb⟩, hB⟩
  rw [hbb.2 (build_may hne)]
  exact ⟨rfl, hB⟩
theorem imay_no {w : World} {ao : Option Addr} {len cap : Nat} {A : List StZ} (h : ReadsA w ao len cap A) (hl : len ≤ 10000000000000) (hz : ∀ s ∈ A, ∀ e ∈ s.2, -9223372036854775808 ≤ e.2 ∧ e.2 ≤ 9223372036854775807) (hM : ¬ MayP A) :
    Calls Try.prog 19 #[.slice ao len cap] w fun e w' => e = .returned (.bool false) ∧ Below w.heap.size w w' := by
  refine (amay_any h hl hz).mono ?_
  rintro e w' ⟨⟨bb, rfl, hbb⟩, hB⟩
  cases bb with
  | true => exact absurd (hbb.1 rfl) hM
  | false => exact ⟨rfl, hB⟩

set_option maxRecDepth 100000 in
set_option maxHeartbeats 4000000 in
theorem icounts_not {w : World} {ao : Option Addr} {len cap : Nat} {A : List StZ} (h : ReadsA w ao len cap A) (hl : len ≤ 10000000000000) (hz : ∀ s ∈ A, ∀ e ∈ s.2, -9223372036854775808 ≤ e.2 ∧ e.2 ≤ 9223372036854775807) (hM : ¬ MayP A) :
    Calls Try.prog 12 #[.slice ao len cap] w fun e w' => ∃ ag c, e = .returned (.tuple #[.slice ag 0 c, .int .i64 1]) ∧ Below w.heap.size w w' := by
  have p1 := imay_no h hl hz hM
  clear h hz hM
  go_enter Try.func12, Try.ntmps12
  go_wp2_with fail
  refine p1.mono ?_
  rintro e w1 ⟨rfl, hB1⟩
  have HB1 : Hid _ := hB1
  clear hB1 p1
  go_wp2
  go_ret2
  exact ⟨_, _, rfl, HB1.out⟩

set_option maxRecDepth 100000 in
set_option maxHeartbeats 4000000 in
theorem icounts_gen {w : World} {ao : Option Addr} {len cap : Nat} {zs : List Wd} (h : ReadsA w ao len cap (zA (buildL zs))) (hne : [] ∉ zs) (hr : RiseW zs) (hs : (buildL zs).length ≤ 10000000000000) :
    Calls Try.prog 12 #[.slice ao len cap] w fun e w' => ∃ ag m c, e = .returned (.tuple #[.slice ag m c, .int .i64 ((countsR (buildL zs)).2 : Nat)]) ∧ Reads w' ag m c (zN (countsR (buildL zs)).1) ∧ Below w.heap.size w w' := by
  have p1 := imay_yes h hne hs
  have hS := build_good zs
  obtain ⟨S, hSe⟩ : ∃ S, S = buildL zs := ⟨_, rfl⟩
  rw [← hSe] at h hs hS ⊢
  have hlen : len = S.length := by rw [← h.count, zA_len]
  have HR : Hid _ := h
  have Hlen : Hid (S.length = len) := hlen.symm
  have HS : Hid _ := hS
  have hll : len ≤ 10000000000000 := by omega
  have hmk := imade len (by omega)
  clear h hne hr hs hS hSe hlen
  go_enter Try.func12, Try.ntmps12
  go_wp2_with fail
  refine p1.mono ?_
  rintro e w1 ⟨rfl, hB1⟩
  have HB1 : Hid _ := hB1
  have hws : w.heap.size ≤ w1.heap.size := hB1.size
  clear hB1 p1
  go_wp2_with fail
  go_loopw [16] (fun i wr => ∃ (j : Nat) (xs : List Nat), i = .int .i64 (j : Nat) ∧ j ≤ len ∧ Hid (xs.length = len) ∧ Hid (∀ i, i < j → xs[i]? = some (langS S i).length) ∧ Hid (∀ i, i < j → (langS S i).length ≤ 4611686018427387904) ∧ Hid (wr.heap[w1.heap.size]? = some (.cells (zN xs).toArray 42 (0, 0))) ∧ Hid (Below w.heap.size w wr)) (fun i _ => (len - intOf i).toNat)
  case atStart => exact ⟨0, List.replicate len 0, rfl, Nat.zero_le _, List.length_replicate, (show ∀ i, i < 0 → _ from fun i hi => by omega), (show ∀ i, i < 0 → _ from fun i hi => by omega), heap_alloc_new _ _, HB1.out.alloc hws _⟩
  case round =>
    obtain ⟨j, xs, rfl, hj, hxl, hx, hle, hblk, hB⟩ := hrel
    by_cases hjl : j < len
    · have q1 : (j : Int) < len := by omega
      obtain ⟨b, off, hao, hb, hcl⟩ := HR.out.at (by omega)
      obtain ⟨⟨f, es⟩, hs⟩ : ∃ s, S[j]? = some s := ⟨_, List.getElem?_eq_getElem (by rw [Hlen.out]; exact hjl)⟩
      obtain ⟨eg, ec, c1, c2, er⟩ := hcl j _ (zA_at hs)
      simp only [zE_len] at c1 c2 er
      subst hao
      obtain ⟨k, hk⟩ : ∃ k, k = es.length := ⟨_, rfl⟩
      rw [← hk] at c2 er
      have x1 : wr.cell? ⟨b, off + j * 2, none⟩ = some (.bool f) := (hB.out.cell (p := ⟨b, off + j * 2, none⟩) hb).trans c1
      have x2 : wr.cell? ⟨b, off + j * 2 + 1, none⟩ = some (.slice eg k ec) := (hB.out.cell (p := ⟨b, off + j * 2 + 1, none⟩) hb).trans c2
      have hgl : w1.heap.size < wr.heap.size := lt_of_block hblk.out
      have hcnt : CntAt wr w1.heap.size 0 len S j := ⟨hgl, by omega, fun t ht => by rw [Nat.zero_add]; exact zN_cell hblk.out (hx.out t ht)⟩
      have p2 := icount_any HS.out hs hle.out (er.later hB.out (Nat.le_refl _)) hk.symm (cm := len) hcnt (Nat.le_refl _) hll
      obtain ⟨L, hL⟩ : ∃ L, L = (langS S j).length := ⟨_, rfl⟩
      rw [← hL] at p2
      have HX : Hid (∀ i, i < j → xs[i]? = some (langS S i).length) := hx.out
      have HLe : Hid (∀ i, i < j → (langS S i).length ≤ 4611686018427387904) := hle.out
      have HXl : Hid (xs.length = len) := hxl.out
      have HB : Hid (Below w.heap.size w wr) := hB.out
      have HBlk : Hid (wr.heap[w1.heap.size]? = some (.cells (zN xs).toArray 42 (0, 0))) := hblk.out
      have HL : Hid _ := hL
      clear hx hle hxl hB hblk c1 c2 er hk hs hcl hb hL hcnt
      go_wp2_with fail
      refine p2.mono ?_
      by_cases hm : mostC L
      · rw [show icountV L = .tuple #[.int .u64 (L : Nat), .bool true] by unfold icountV; rw [if_pos hm, decide_eq_true hm]]
        rintro e w2 ⟨rfl, hB2⟩
        have Hm : Hid _ := hm
        have g2 : w2.heap[w1.heap.size]? = some (.cells (zN xs).toArray 42 (0, 0)) := by rw [hB2.block _ hgl]; exact HBlk.out
        have k0 : ∃ v, w2.cell? ⟨w1.heap.size, j, none⟩ = some v := by
          obtain ⟨v, hv⟩ : ∃ v, xs[j]? = some v := ⟨_, List.getElem?_eq_getElem (by rw [HXl.out]; exact hjl)⟩
          exact ⟨_, zN_cell g2 hv⟩
        obtain ⟨v0, k1⟩ := k0
        have k2 : w2.frozen? ⟨w1.heap.size, j, none⟩ = false := by simp [World.frozen?, g2]
        have HP : Hid _ := zN_put g2 j L
        have HB2 : Hid (Below w.heap.size w (w2.setCell ⟨w1.heap.size, j, none⟩ (.int .u64 (L : Nat)))) := (HB.out.trans (hB2.mono HB.out.size)).setCell hws _
        have HX2 : Hid (∀ i, i < j + 1 → (xs.set j L)[i]? = some (langS S i).length) := by
          show ∀ i, _
          intro i hi
          rw [List.getElem?_set]
          split
          · rename_i hij; subst hij; rw [if_pos (by rw [HXl.out]; exact hjl), HL.out]
          · exact HX.out i (by omega)
        have HL2 : Hid (∀ i, i < j + 1 → (langS S i).length ≤ 4611686018427387904) := by
          show ∀ i, _
          intro i hi
          by_cases hij : i = j
          · subst hij; rw [← HL.out]; exact Hm.out
          · exact HLe.out i (by omega)
        clear g2 hm hB2 p2 x1 x2 HBlk HX HLe HL
        go_wp2
        go_roundw
        case rel => exact ⟨j + 1, xs.set j L, by go_num, by omega, (by show _ = _; rw [List.length_set]; exact HXl.out), HX2.out, HL2.out, HP.out, HB2.out⟩
        case measure => simp [intOf]; omega
      · rw [show icountV L = .tuple #[.int .u64 0, .bool false] by unfold icountV; rw [if_neg hm, decide_eq_false hm]; rfl]
        rintro e w2 ⟨rfl, hB2⟩
        have hE : Hid (countsR S = ([], 5)) := by
          show _ = _
          unfold countsR
          rw [if_neg]
          intro hh
          apply hm
          unfold mostC
          rw [HL.out]
          exact hh j (by rw [Hlen.out]; exact hjl)
        have HB2 : Hid (Below w.heap.size w w2) := HB.out.trans (hB2.mono HB.out.size)
        clear hm hB2 p2 x1 x2 HBlk HX HLe HL HB
        go_wp2
        go_ret2
        rw [hE.out]
        exact ⟨none, 0, 0, rfl, Reads.nil _, HB2.out⟩
    · have q1 : ¬ (j : Int) < len := by omega
      have hE : Hid (countsR S = (xs, 0)) := by
        show _ = _
        unfold countsR
        rw [if_pos (fun i hi => hle.out i (by rw [Hlen.out] at hi; omega))]
        congr 1
        apply List.ext_getElem?
        intro i
        by_cases hi : i < len
        · rw [counts_at (by rw [Hlen.out]; exact hi), hx.out i (by omega)]
        · rw [List.getElem?_eq_none (by rw [counts_len, Hlen.out]; omega), List.getElem?_eq_none (by rw [hxl.out]; omega)]
      have HB : Hid _ := hB.out
      have HRd : Hid (Reads wr (some ⟨w1.heap.size, 0, none⟩) len len (zN xs)) :=
        Reads.own (own_block hws hblk.out (Nat.le_refl _) (by unfold maxLen; omega) (by simp [zN, hxl.out]) (by simp [zN, hxl.out]) (by simp [zN]; rw [List.take_of_length_le (by simp [hxl.out])]))
      clear hle hB hx hxl hblk
      go_wp2
      go_ret2
      rw [hE.out]
      exact ⟨_, _, _, rfl, HRd.out, HB.out⟩
#print axioms icounts_gen
end Go.Proofs.Ytkcledkfgmdcgaa
