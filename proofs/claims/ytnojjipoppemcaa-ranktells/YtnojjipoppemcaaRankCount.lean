/- The landed rank: countClasses, Classes. -/
import Derived.Test.YtnojjipoppemcaaRankCode
namespace Go.Proofs.Ytnojjipoppemcaa
open Go.RowKit Go.Maps
set_option linter.unusedVariables false
set_option linter.unusedSimpArgs false

/-- A map of the call's own from counts to their classes. -/
def ClsMap (w w' : World) (bm : Nat) (cs : List Nat) : Prop := w.heap.size ≤ bm ∧ (∃ nn, MapU w' bm nn cs (classN cs)) ∧ Below w.heap.size w w'

set_option maxRecDepth 100000 in
set_option maxHeartbeats 4000000 in
theorem count_any {w : World} {ao : Option Addr} {len cap : Nat} {es : List En} (h : ReadsE w ao len cap (cellsE es)) (hl : len ≤ 1000000) (hb : ∀ e ∈ es, e.2 ≤ 18446744073709551615) :
    Calls Try.prog 18 #[.slice ao len cap] w fun e w' => ∃ bm, e = .returned (.map (some bm)) ∧ ClsMap w w' bm (es.map (·.2)) := by
  have Hlx : Hid _ := h.count
  have H : Hid _ := h
  have Hb : Hid _ := hb
  clear h hb
  obtain ⟨cs, hcs⟩ : ∃ cs, cs = es.map (·.2) := ⟨_, rfl⟩
  rw [← hcs]
  have Hcs : Hid _ := hcs
  have hcl : cs.length = len := by rw [hcs, List.length_map]; exact Hlx.out
  have Hcl : Hid _ := hcl
  clear hcs hcl
  obtain ⟨W0, hW0⟩ : ∃ W0, W0 = w.alloc (.map #[] 0) := ⟨_, rfl⟩
  have HM0 : Hid (MapU W0 w.heap.size 0 [] (fun _ => 0)) := by rw [hW0]; exact MapU.made w _
  have HB0 : Hid (Below w.heap.size w W0) := by rw [hW0]; exact (Below.refl _ w).alloc (Nat.le_refl _) _
  have HW0 : Hid (w.alloc (.map #[] 0) = W0) := hW0.symm
  clear hW0
  have hmm := @run_makeMap Try.prog
  go_enter Try.func18, Try.ntmps18
  go_wp2_with fail
  rw [HW0.out]
  go_loopw [13] (fun v wr => ∃ j : Nat, v = .int .i64 (j : Nat) ∧ j ≤ len ∧ Hid (MapU wr w.heap.size j (cs.take j) (fun _ => 0)) ∧ Hid (Below w.heap.size w wr)) (fun v _ => (len - intOf v).toNat)
  case atStart => exact ⟨0, rfl, Nat.zero_le _, HM0, HB0⟩
  case round =>
    clear HM0 HB0 HW0
    obtain ⟨j, rfl, hj, hM, hB⟩ := hrel
    have hsz := hB.out.size
    by_cases hjl : j < len
    · have hji : (j : Int) < len := by omega
      obtain ⟨b, off, rfl, hbl, hc⟩ := (H.out.later hB.out (Nat.le_refl _)).at (by omega)
      obtain ⟨e, he⟩ : ∃ e, es[j]? = some e := ⟨_, List.getElem?_eq_getElem (by rw [Hlx.out]; exact hjl)⟩
      obtain ⟨c1, c2⟩ := hc j e he
      have heb := Hb.out e (List.mem_of_getElem? he)
      have hcj : cs[j]? = some e.2 := by rw [Hcs.out]; simp [he]
      have Hcj : Hid _ := hcj
      obtain ⟨x, n⟩ := e
      simp only at c1 c2 heb
      go_upto_region 5 with (fail)
      obtain ⟨w1, hw1⟩ : ∃ w1, w1 = wr.alloc (.cells #[strV x, .int .u64 (n : Nat)] 35) := ⟨_, rfl⟩
      obtain ⟨k, hk⟩ : ∃ k, k = wr.heap.size := ⟨_, rfl⟩
      have d2 : w1.cell? ⟨k, 1, none⟩ = some (.int .u64 (n : Nat)) := by rw [hw1, hk, World.cell?_alloc_at _ _ _ _ rfl]; rfl
      have hB1 : Below w.heap.size w w1 := by rw [hw1]; exact hB.out.alloc hsz _
      have hM1 : MapU w1 w.heap.size j (cs.take j) (fun _ => 0) := by rw [hw1]; exact hM.out.same (Below.heap_alloc _ _ _ hM.out.lt)
      have HW1 : Hid (wr.alloc (.cells #[.string { data := x.toArray }, .int .u64 (n : Nat)] 35) = w1) := hw1.symm
      obtain ⟨w2, hrun, hM2, hg2⟩ := hM1.put n 0 heb (by omega) (by omega)
      have HB2 : Hid (Below w.heap.size w w2) := hB1.grown hg2 hB1.size (fun k e => by cases e; exact Nat.le_refl _)
      have HM2 : Hid (MapU w2 w.heap.size (j + 1) (cs.take (j + 1)) (fun _ => 0)) := hM2.congr (fun y => by
        rw [List.take_add_one, Hcj.out]; simp [or_comm]) (fun c _ => by split <;> rfl)
      rw [HW1.out, ← hk]
      clear hM hB hc hbl c1 c2 hw1 hk HW1 he hsz hB1 hM1 hM2 hg2 hcj
      have hrun : (Instr.mapUpdate 42 (.map (some w.heap.size)) (.int .u64 (n : Nat)) (.int .i64 0)).run Try.prog w1 = .ok () w2 := hrun
      go_wp2
      go_roundw
      case rel => exact ⟨j + 1, by go_num, by omega, HM2, HB2⟩
      case measure => simp [intOf]; omega
    · have hji : ¬ (j : Int) < len := by omega
      have ht : cs.take j = cs := List.take_of_length_le (by have := Hcl.out; omega)
      rw [ht] at hM
      have HB1 : Hid _ := hB.out
      have HM1 : Hid (MapU wr w.heap.size j cs (fun _ => 0)) := hM.out
      have pk := keysU_any w.heap.size wr
      obtain ⟨D, hD1, hD2, hD3⟩ := hM.out
      have hNs : Maps.size D ≤ 100000000 := by have := hD1.size_le; omega
      have HD2 : Hid _ := hD2
      have HD1 : Hid (wr.ownsMap Try.prog 23 (plainElem Try.prog 3) w.heap.size j D) := hD1
      have HNs : Hid (Maps.size D ≤ len) := by show _ ≤ _; have := hD1.size_le; omega
      clear hM hB hsz hjl ht hD1 hD2 hD3
      go_wp2_with fail
      refine pk.mono ?_
      rintro e w2 ⟨rfl, hw2⟩
      have hB2 : Below wr.heap.size wr w2 := by rw [hw2]; exact (Below.refl _ wr).alloc (Nat.le_refl _) _
      have hm2 : w2.cell? ⟨wr.heap.size, 0, none⟩ = some (.map (some w.heap.size)) := by rw [hw2, World.cell?_alloc_at _ _ _ _ rfl]; rfl
      have hlt2 : wr.heap.size < w2.heap.size := by rw [hw2]; simp
      have hown2 : w2.ownsMap Try.prog 23 (plainElem Try.prog 3) w.heap.size j D := by rw [hw2]; exact HD1.out.alloc _
      have ps := sortedU_any (enters_of Try.func25 (by kernel_rfl) rfl) (keysU_stops 9 (by decide) wr.heap.size w.heap.size j D w2 hlt2 hm2 hown2) hNs
      have HB2 : Hid _ := hB2
      have HBB : Hid (Below w.heap.size w w2) := HB1.out.trans (hB2.mono HB1.out.size)
      have HM2 : Hid (MapU w2 w.heap.size j cs (fun _ => 0)) := HM1.out.later hB2 HM1.out.lt
      clear pk hw2 hB2 hm2 hown2 hlt2
      go_wp2_with fail
      refine ps.mono ?_
      rintro e w3 ⟨ag, cc, ss, rfl, hS, hlS, hrow, hB3⟩
      obtain ⟨R, hR1, hR2, hR⟩ := rises_of HD2.out hS
      rw [hR1, List.map_map] at hrow
      have hB3' := HBB.out.trans (hB3.mono HBB.out.size)
      have HB : Hid (Below w.heap.size w w3) := hB3'
      have HM : Hid (MapU w3 w.heap.size j cs (fun _ => 0)) := HM2.out.later hB3 HM2.out.lt
      have HR : Hid (RisesN cs R) := hR
      obtain ⟨B0, hB0⟩ : ∃ B0, B0 = w2.heap.size := ⟨_, rfl⟩
      have hlR : R.length ≤ len := by rw [hR2]; exact Nat.le_trans hlS HNs.out
      rw [← hB0, ← hR2] at hrow
      obtain ⟨m, hm⟩ : ∃ m, m = R.length := ⟨_, rfl⟩
      rw [← hR2, ← hm]
      rw [← hm] at hrow hlR
      have HROW : Hid (w3.ownsRow B0 23 1 (.slice ag m cc) m (R.map fun c => Value.int .u64 (c : Nat))) := hrow
      have Hm : Hid _ := hm
      clear hrow hB3 hB3' hR hR1 hR2 hS hlS hB0 hm ps HB2 HBB HM2 HD1 HD2 HNs HB1 HM1
      go_wp2_with fail
      go_loopw [26] (fun v wr => ∃ i : Nat, v = .int .i64 (i : Nat) ∧ i ≤ m ∧ Hid (MapU wr w.heap.size (j + i) cs (fun x => if x ∈ R.take i then classN cs x else 0)) ∧ Hid (Below w.heap.size w wr) ∧ Hid (wr.ownsRow B0 23 1 (.slice ag m cc) m (R.map fun c => Value.int .u64 (c : Nat)))) (fun v _ => (m - intOf v).toNat)
      case atStart => exact ⟨0, rfl, Nat.zero_le _, HM.out.congr (fun _ => Iff.rfl) (fun c _ => by simp), HB, HROW⟩
      case round =>
        clear HM HB HROW
        obtain ⟨i, rfl, hi, hM, hB, hrow⟩ := hrel
        by_cases him : i < m
        · have q1 : (i : Int) < m := by omega
          obtain ⟨c, hc⟩ : ∃ c, R[i]? = some c := ⟨_, List.getElem?_eq_getElem (by rw [← Hm.out]; exact him)⟩
          have hcs : c ∈ cs := (HR.out.mem c).1 (List.mem_of_getElem? hc)
          have hcb : c ≤ 18446744073709551615 := by
            rw [Hcs.out] at hcs
            obtain ⟨e, he, rfl⟩ := List.mem_map.1 hcs
            exact Hb.out e he
          obtain ⟨v, hv⟩ : ∃ v, v = classN cs c := ⟨_, rfl⟩
          have hv2 : v = min (m - 1 - i) 255 := by rw [hv, classN, HR.out.above hc, ← Hm.out]
          obtain ⟨w2', hrun, hM2, hg2⟩ := hM.out.put c v hcb (by omega) (by omega)
          obtain ⟨g, rfl⟩ : ∃ g, ag = some ⟨g, 0, none⟩ := by
            rcases hrow.out.2 with ⟨hz, h0⟩ | ⟨g, cap', cur, hz, _⟩
            · omega
            · simp only [Value.slice.injEq] at hz; exact ⟨g, hz.1⟩
          have hcell : wr.cell? ⟨g, i, none⟩ = some (.int .u64 (c : Nat)) := by
            have := hrow.out.cellAt i (by omega)
            simpa [hc] using this
          have HM2 : Hid (MapU w2' w.heap.size (j + (i + 1)) cs (fun x => if x ∈ R.take (i + 1) then classN cs x else 0)) := hM2.congr (fun y => by simp only [List.mem_cons]; exact ⟨.inr, fun h => h.elim (fun e => by rw [e]; exact hcs) id⟩) (fun y hy => by
            rw [List.take_add_one, hc]
            by_cases e : y = c
            · subst e; simp [hv]
            · simp [e])
          have HB2 : Hid (Below w.heap.size w w2') := hB.out.grown hg2 hB.out.size (fun k e => by cases e; exact Nat.le_refl _)
          have HR2 : Hid (w2'.ownsRow B0 23 1 (.slice (some ⟨g, 0, none⟩) m cc) m (R.map fun c => Value.int .u64 (c : Nat))) := hrow.out.kept hg2 (.inr fun e => by
            obtain ⟨xs, cl, hb⟩ := hM.out.blk
            rcases hrow.out.2 with ⟨hz, h0⟩ | ⟨g', cap', cur, hz, _, hgb, _⟩
            · cases hz
            · simp only [Value.slice.injEq, Option.some.injEq, Addr.mk.injEq] at hz
              simp only [Value.ownBlock, Option.some.injEq] at e
              rw [← hz.1.1, e, hb] at hgb
              cases hgb)
          obtain ⟨ab, hab⟩ : ∃ ab, ab = m - 1 - i := ⟨_, rfl⟩
          have e1 : (m : Int) - 1 - (i : Int) = (ab : Int) := by omega
          rw [← hab] at hv2
          clear hM hB hrow hM2 hg2 hc hcs hv hab
          rcases Nat.lt_or_ge 255 ab with h255 | h255
          · obtain rfl : v = 255 := by omega
            have m1 : (255 : Int) < (ab : Int) := by omega
            have m2 : (255 : Int) ≤ (ab : Int) := by omega
            have m3 : min (ab : Int) 255 = 255 := by omega
            have hrun : (Instr.mapUpdate 42 (.map (some w.heap.size)) (.int .u64 (c : Nat)) (.int .i64 255)).run Try.prog wr = .ok () w2' := hrun
            clear hv2 h255
            go_wp2
            go_roundw
            case rel => exact ⟨i + 1, by go_num, by omega, HM2, HB2, HR2⟩
            case measure => simp [intOf]; omega
          · obtain rfl : v = ab := by omega
            have m1 : ¬ (255 : Int) < (v : Int) := by omega
            have m2 : (v : Int) ≤ 255 := by omega
            have m3 : min (v : Int) 255 = (v : Int) := by omega
            clear hv2 h255
            go_wp2
            go_roundw
            case rel => exact ⟨i + 1, by go_num, by omega, HM2, HB2, HR2⟩
            case measure => simp [intOf]; omega
        · have q1 : ¬ (i : Int) < m := by omega
          have ht : R.take i = R := List.take_of_length_le (by rw [← Hm.out]; omega)
          rw [ht] at hM
          have HMM : Hid (MapU wr w.heap.size (j + i) cs (classN cs)) := hM.out.congr (fun _ => Iff.rfl) (fun c hc => by rw [if_pos ((HR.out.mem c).2 hc)])
          clear hM ht hrow
          go_wp2
          go_ret
          exact ⟨_, rfl, Nat.le_refl _, ⟨_, HMM.out⟩, hB.out⟩

theorem make_ints13 (n : Nat) (h : n ≤ 10000000) (W : World) :
    (Instr.makeSlice 28 (.int .i64 (n : Nat)) (.int .i64 (n : Nat))).run Try.prog W = .ok (.slice (some ⟨W.heap.size, 0, none⟩) n n) (W.alloc (.cells ((List.replicate n (0 : Int)).map (Value.int .i64)).toArray 3)) := by
  obtain ⟨i0, hi, hz0, hz1, hz2⟩ := info_parts Try.infoInt13
  have hC : madeCells (Value.int .i64 0).cells (n * i0.size) = ((List.replicate n (0 : Int)).map (Value.int .i64)).toArray := by
    rw [hz1, Nat.mul_one]
    apply Array.ext
    · simp [madeCells]
    · intro j h1 h2
      simp [madeCells, Value.cells, Nat.mod_one]
  have := run_make (P := Try.prog) W 28 3 i0 (.int .i64 0) Try.underlying28 hi hz0 .i64 .i64 n n (by omega) (Int.le_refl _) (by rw [hz2]; omega) (by omega)
  rw [Int.toNat_natCast, hC] at this
  exact this

set_option maxRecDepth 100000 in
set_option maxHeartbeats 4000000 in
theorem classes_any {w : World} {ao : Option Addr} {len cap : Nat} {es : List En} (h : ReadsE w ao len cap (cellsE es)) (hl : len ≤ 1000000) (hb : ∀ e ∈ es, e.2 ≤ 18446744073709551615) :
    Calls Try.prog 13 #[.slice ao len cap] w fun e w' => ∃ ag c m, e = .returned (.slice ag m c) ∧ m = len ∧ w'.ownsRow w.heap.size 3 1 (.slice ag m c) m ((classesI (es.map (·.2))).map (.int .i64)) ∧ Below w.heap.size w w' := by
  have pc := count_any h hl hb
  have Hlx : Hid _ := h.count
  have H : Hid _ := h
  have Hb : Hid _ := hb
  obtain ⟨cs, hcs⟩ : ∃ cs, cs = es.map (·.2) := ⟨_, rfl⟩
  rw [← hcs] at pc ⊢
  have Hcs : Hid _ := hcs
  have hcl : cs.length = len := by rw [hcs, List.length_map]; exact Hlx.out
  have Hcl : Hid _ := hcl
  clear hcs hcl h hb
  go_enter Try.func13, Try.ntmps13
  go_wp2_with fail
  refine pc.mono ?_
  rintro e w1 ⟨bm, rfl, hbm, ⟨nn, hM⟩, hB⟩
  have HM : Hid (MapU w1 bm nn cs (classN cs)) := hM
  have HB : Hid (Below w.heap.size w w1) := hB
  clear pc hM hB
  have mk := make_ints13 len (by omega) w1
  obtain ⟨C0, hC0⟩ : ∃ C : Array Value, C = ((List.replicate len (0 : Int)).map (Value.int .i64)).toArray := ⟨_, rfl⟩
  rw [← hC0] at mk
  have HC0 : Hid _ := hC0
  clear hC0
  go_wp2_with fail
  have HA : Hid ((w1.alloc (.cells C0 3)).heap[w1.heap.size]? = some (.cells C0 3 (0, 0))) := World.alloc_heap_new w1 _
  have HBA : Hid (Below w.heap.size w (w1.alloc (.cells C0 3))) := HB.out.alloc HB.out.size _
  have HMA : Hid (MapU (w1.alloc (.cells C0 3)) bm nn cs (classN cs)) := HM.out.same (Below.heap_alloc _ _ _ HM.out.lt)
  have HGB : Hid (w.heap.size ≤ w1.heap.size) := HB.out.size
  clear mk HM HB
  generalize w1.alloc (.cells C0 3) = wA at HA HBA HMA ⊢
  generalize w1.heap.size = g at HA HGB ⊢
  go_loopw [14] (fun v wr => ∃ (j : Nat) (C : Array Value), v = .int .i64 (j : Nat) ∧ j ≤ len ∧ Hid (wr.heap[g]? = some (.cells C 3 (0, 0))) ∧ Hid (C = (((classesI cs).take j ++ List.replicate (len - j) 0).map (Value.int .i64)).toArray) ∧ Hid (MapU wr bm nn cs (classN cs)) ∧ Hid (Below w.heap.size w wr)) (fun v _ => (len - intOf v).toNat)
  case atStart => exact ⟨0, C0, rfl, Nat.zero_le _, HA, (by show _ = _; rw [HC0.out]; simp), HMA, HBA⟩
  case round =>
    clear HMA HA HBA HC0
    obtain ⟨j, C, rfl, hj, hblk, hC, hM, hB⟩ := hrel
    have hsz := hB.out.size
    by_cases hjl : j < len
    · have hji : (j : Int) < len := by omega
      obtain ⟨b, off, rfl, hbl, hc⟩ := (H.out.later hB.out (Nat.le_refl _)).at (by omega)
      obtain ⟨e, he⟩ : ∃ e, es[j]? = some e := ⟨_, List.getElem?_eq_getElem (by rw [Hlx.out]; exact hjl)⟩
      obtain ⟨c1, c2⟩ := hc j e he
      have heb := Hb.out e (List.mem_of_getElem? he)
      have hcj : cs[j]? = some e.2 := by rw [Hcs.out]; simp [he]
      have Hcj : Hid _ := hcj
      obtain ⟨x, n⟩ := e
      simp only at c1 c2 heb
      go_upto_region 6 with (fail)
      obtain ⟨w2, hw2⟩ : ∃ w2, w2 = wr.alloc (.cells #[strV x, .int .u64 (n : Nat)] 35) := ⟨_, rfl⟩
      obtain ⟨k, hk⟩ : ∃ k, k = wr.heap.size := ⟨_, rfl⟩
      have d2 : w2.cell? ⟨k, 1, none⟩ = some (.int .u64 (n : Nat)) := by rw [hw2, hk, World.cell?_alloc_at _ _ _ _ rfl]; rfl
      have hB1 : Below w.heap.size w w2 := by rw [hw2]; exact hB.out.alloc hsz _
      have hM1 : MapU w2 bm nn cs (classN cs) := by rw [hw2]; exact hM.out.same (Below.heap_alloc _ _ _ hM.out.lt)
      have hg : g < wr.heap.size := (Array.getElem?_eq_some_iff.1 hblk.out).1
      have hblk2 : w2.heap[g]? = some (.cells C 3 (0, 0)) := by rw [hw2]; exact (Below.heap_alloc _ _ _ hg).trans hblk.out
      have HW1 : Hid (wr.alloc (.cells #[.string { data := x.toArray }, .int .u64 (n : Nat)] 35) = w2) := hw2.symm
      have hlk := hM1.look (List.mem_of_getElem? hcj) heb
      obtain ⟨v, hv⟩ : ∃ v, v = classN cs n := ⟨_, rfl⟩
      simp only at hlk
      rw [← hv] at hlk
      have HV : Hid _ := hv
      have hsC : C.size = len := by rw [hC.out]; simp [classesI_len, Hcl.out]; omega
      have d3 : ∃ u, w2.cell? ⟨g, j, none⟩ = some u := by
        refine ⟨C[j]'(by omega), ?_⟩
        simp [World.cell?, hblk2]
      have f3 : w2.frozen? ⟨g, j, none⟩ = false := by simp [World.frozen?, hblk2]
      obtain ⟨u3, d3⟩ := d3
      have HB3 : Hid (Below w.heap.size w (w2.setCell ⟨g, j, none⟩ (.int .i64 (v : Nat)))) := hB1.setCell (p := ⟨g, j, none⟩) (by show _ ≤ g; exact HGB.out) _
      have HK3 : Hid ((w2.setCell ⟨g, j, none⟩ (.int .i64 (v : Nat))).heap[g]? = some (.cells (C.setIfInBounds j (.int .i64 (v : Nat))) 3 (0, 0))) := heap_setCell_same w2 g j C 3 _ hblk2
      have hne : bm ≠ g := by
        intro e
        obtain ⟨xs, cl, hb⟩ := hM1.blk
        rw [e, hblk2] at hb
        cases hb
      have HM3 : Hid (MapU (w2.setCell ⟨g, j, none⟩ (.int .i64 (v : Nat))) bm nn cs (classN cs)) := hM1.same (Below.heap_setCell _ _ _ _ hne)
      have HC3 : Hid (C.setIfInBounds j (.int .i64 (v : Nat)) = (((classesI cs).take (j + 1) ++ List.replicate (len - (j + 1)) 0).map (Value.int .i64)).toArray) := by
        show _ = _
        rw [hC.out]
        have hat : (classesI cs)[j]? = some ((v : Nat) : Int) := by rw [hv]; exact classesI_at hcj
        have hlt : ((classesI cs).take j).length = j := by rw [List.length_take, classesI_len, Hcl.out]; omega
        rw [show len - j = (len - (j + 1)) + 1 by omega, List.replicate_succ, List.take_add_one, hat, List.map_append, List.map_append, List.map_append, List.map_cons]
        rw [List.setIfInBounds_toArray]
        congr 1
        rw [List.set_append_right _ _ (by rw [List.length_map, hlt]; exact Nat.le_refl _), List.length_map, hlt, Nat.sub_self]
        simp
      rw [HW1.out, ← hk]
      clear hB hbl hc c1 c2 hw2 hk HW1 he hsz hB1 hM1 hM hblk hblk2 hC hcj hv hg hne hsC
      go_wp2
      go_roundw
      case rel => exact ⟨j + 1, C.setIfInBounds j (.int .i64 (v : Nat)), by go_num, by omega, HK3, HC3, HM3, HB3⟩
      case measure => simp [intOf]; omega
    · have hji : ¬ (j : Int) < len := by omega
      have hCe : C = ((classesI cs).map (Value.int .i64)).toArray := by
        rw [hC.out, List.take_of_length_le (by rw [classesI_len, Hcl.out]; omega), show len - j = 0 by omega]; simp
      have HROW : Hid (wr.ownsRow w.heap.size 3 1 (.slice (some ⟨g, 0, none⟩) len len) len ((classesI cs).map (.int .i64))) := by
        refine ⟨by simp [classesI_len, Hcl.out], .inr ⟨g, len, C, rfl, HGB.out, hblk.out, Nat.le_refl _, by unfold maxLen; omega, ?_, ?_⟩⟩
        · rw [hCe]; simp [classesI_len, Hcl.out]
        · rw [hCe, Nat.mul_one]; exact List.take_of_length_le (by simp [classesI_len, Hcl.out])
      clear hC hblk hCe hM
      go_wp2
      go_ret
      exact ⟨_, _, _, rfl, rfl, HROW.out, hB.out⟩
end Go.Proofs.Ytnojjipoppemcaa
