/- daw.unlike: whether no two states are alike. -/
import Derived.Test.YtkcledkfgmdcgaaDawMay
namespace Go.Proofs.Ytkcledkfgmdcgaa
open Go.RowKit
set_option linter.unusedVariables false
set_option linter.unusedSimpArgs false

theorem tells_of {b : Bool} {P : Prop} (h : b = true ↔ P) : Tells (.returned (.bool b)) P := ⟨b, rfl, h⟩
theorem tells_yes {P : Prop} (h : P) : Tells (.returned (.bool true)) P := ⟨true, rfl, ⟨fun _ => h, fun _ => rfl⟩⟩
theorem tells_no {P : Prop} (h : ¬ P) : Tells (.returned (.bool false)) P := ⟨false, rfl, ⟨fun h => (by cases h), fun h' => absurd h' h⟩⟩
theorem keys_nodup {B : List Stt} (hz : ∀ s ∈ B, ∀ e ∈ s.2, e.2 < 18446744073709551616) : (B.map keyW).Nodup ↔ B.Nodup := by
  unfold List.Nodup
  rw [List.pairwise_map]
  constructor
  · exact fun h => h.imp fun {a b} hab e => hab (by rw [e])
  · intro h
    refine List.pairwise_iff_getElem.2 fun i j hi hj hij e => ?_
    exact List.pairwise_iff_getElem.1 h i j hi hj hij (keyW_inj (hz _ (List.getElem_mem hi)) (hz _ (List.getElem_mem hj)) e)
theorem uniq_step {L : List Wd} {k : Wd} {ks : List Wd} {j : Nat} (hL : L.length = j) (h1 : ∀ x, x ∈ ks ↔ x ∈ L) (h2 : ks.length ≤ j) (h3 : ks.length = j ↔ L.Nodup) :
    (∀ x, x ∈ (if k ∈ ks then ks else ks ++ [k]) ↔ x ∈ L ++ [k]) ∧ (if k ∈ ks then ks else ks ++ [k]).length ≤ j + 1 ∧ ((if k ∈ ks then ks else ks ++ [k]).length = j + 1 ↔ (L ++ [k]).Nodup) := by
  by_cases hk : k ∈ ks
  · rw [if_pos hk]
    refine ⟨fun x => ?_, by omega, ?_⟩
    · rw [List.mem_append, List.mem_singleton, h1]
      exact ⟨.inl, fun h => h.elim id fun e => by rw [e]; exact (h1 k).1 hk⟩
    · constructor
      · intro h; omega
      · intro h
        exfalso
        exact (List.nodup_append.1 h).2.2 k ((h1 k).1 hk) k (by simp) rfl
  · rw [if_neg hk]
    refine ⟨fun x => ?_, by simp; omega, ?_⟩
    · simp only [List.mem_append, List.mem_singleton, h1]
    · rw [List.length_append, List.length_singleton]
      constructor
      · intro h
        exact List.nodup_append.2 ⟨h3.1 (by omega), by simp, fun a ha b hb e => hk ((h1 k).2 (by simp at hb; rw [← hb, ← e]; exact ha))⟩
      · intro h
        have := h3.2 (List.nodup_append.1 h).1
        omega
theorem make_hint (n : Int) (W : World) : (Instr.makeMap 69 (some (.int .i64 n))).run Try.prog W = .ok (.map (some W.heap.size)) (W.alloc (.map #[] 0)) := by
  simp [Instr.makeMap, run_underlying Try.underlying69, asInt, asIntOf, Result.andThen]
set_option maxRecDepth 100000 in
set_option maxHeartbeats 4000000 in
theorem unlike_any {w : World} {ao : Option Addr} {len cap : Nat} {B : List Stt} (h : ReadsA w ao len cap (zA B)) (hl : len ≤ 10000000000000) (hz : ∀ s ∈ B, s.2.length ≤ 256 ∧ ∀ e ∈ s.2, e.2 ≤ 9223372036854775807) :
    Calls Try.prog 28 #[.slice ao len cap] w fun e w' => Tells e B.Nodup ∧ Below w.heap.size w w' := by
  have HR : Hid _ := h
  have hn := h.count
  rw [zA_len] at hn
  have Hn : Hid (B.length = len) := hn
  have Hz : Hid _ := hz
  clear h hn hz
  have hmk := make_hint
  go_enter Try.func28, Try.ntmps28
  go_wp2_with fail
  go_loopw [11] (fun i wr => ∃ (j : Nat) (ks : List Wd), i = .int .i64 (j : Nat) ∧ j ≤ len ∧ Hid (UnlikeAt wr w.heap.size ks) ∧ Hid (∀ x, x ∈ ks ↔ x ∈ (B.take j).map keyW) ∧ Hid (ks.length ≤ j) ∧ Hid (ks.length = j ↔ ((B.take j).map keyW).Nodup) ∧ Hid (Below w.heap.size w wr)) (fun i _ => (len - intOf i).toNat)
  case atStart => exact ⟨0, [], rfl, Nat.zero_le _, unlike_made w, (fun x => by simp), Nat.le_refl _, (by show _ ↔ _; simp), (Below.refl _ _).alloc (Nat.le_refl _) _⟩
  case round =>
    obtain ⟨j, ks, rfl, hj, hU, hM, hL, hD, hB⟩ := hrel
    by_cases hjl : j < len
    · have q1 : (j : Int) < len := by omega
      obtain ⟨b, off, hao, hb, hcl⟩ := HR.out.at (by omega)
      obtain ⟨s, hs⟩ : ∃ s, B[j]? = some s := ⟨_, List.getElem?_eq_getElem (by rw [Hn.out]; exact hjl)⟩
      obtain ⟨eg, ec, c1, c2, er⟩ := hcl j _ (zA_at hs)
      simp only [zE_len] at c1 c2 er
      subst hao
      obtain ⟨k, hk⟩ : ∃ k, k = s.2.length := ⟨_, rfl⟩
      rw [← hk] at c2 er
      have hzs := Hz.out s (List.mem_of_getElem? hs)
      rw [← hk] at hzs
      have x1 : wr.cell? ⟨b, off + j * 2, none⟩ = some (.bool s.1) := (hB.out.cell (p := ⟨b, off + j * 2, none⟩) hb).trans c1
      have x2 : wr.cell? ⟨b, off + j * 2 + 1, none⟩ = some (.slice eg k ec) := (hB.out.cell (p := ⟨b, off + j * 2 + 1, none⟩) hb).trans c2
      have hst : (B.take (j + 1)).map keyW = (B.take j).map keyW ++ [keyW s] := by rw [List.take_add_one, hs]; simp
      have hstep := uniq_step (k := keyW s) (by simp [Hn.out, hj] : ((B.take j).map keyW).length = j) hM.out hL.out hD.out
      rw [← hst] at hstep
      have hkl : (keyW s).length ≤ maxLen := by have h1 := keyL_len s; rw [← keyW_len] at h1; unfold maxLen; omega
      have HStep : Hid _ := hstep
      have HKl : Hid _ := hkl
      have HU : Hid (UnlikeAt wr w.heap.size ks) := hU.out
      have HB : Hid (Below w.heap.size w wr) := hB.out
      have HL : Hid (ks.length ≤ j) := hL.out
      have Hk : Hid (s.2.length = k) := hk.symm
      have HE : Hid _ := er
      have Hzs : Hid _ := hzs
      have hnb : w.heap.size ≤ wr.heap.size := hB.out.size
      have hbm : w.heap.size < wr.heap.size := by obtain ⟨xs, cc, h1, _⟩ := unlike_blk hU.out; exact (Array.getElem?_eq_some_iff.1 h1).1
      have Hbm : Hid _ := hbm
      clear hcl hs c1 c2 er hst hstep hkl hU hM hL hD hB hk hzs hjl hb hbm
      go_upto_region 5 with (fail)
      obtain ⟨W1, hW1⟩ : ∃ W1, W1 = wr.alloc (.cells #[.bool s.1, .slice eg k ec] 45) := ⟨_, rfl⟩
      rw [← hW1]
      have e1 : W1.heap[wr.heap.size]? = some (.cells #[.bool s.1, .slice eg k ec] 45 (0, 0)) := by rw [hW1]; exact heap_alloc_new _ _
      have y1 : W1.cell? ⟨wr.heap.size, 0, none⟩ = some (.bool s.1) := cell_of e1 0
      have y2 : W1.cell? ⟨wr.heap.size, 1, none⟩ = some (.slice eg k ec) := cell_of e1 1
      have B1 : Hid (Below w.heap.size w W1) := by rw [hW1]; exact HB.out.alloc hnb _
      have U1 : Hid (UnlikeAt W1 w.heap.size ks) := unlike_kept HU.out (by rw [hW1, heap_alloc_old _ _ Hbm.out])
      have S1 : Hid (w.heap.size < W1.heap.size) := by rw [hW1]; show _ < _; simp; exact Nat.lt_succ_of_lt Hbm.out
      have pk := key_any s (HE.out.later B1.out (Nat.le_refl _)) Hk.out (Nat.le_trans Hzs.out.1 (by omega)) Hzs.out.2
      clear hW1 e1 x1 x2 HB HU
      go_wp2_with fail
      refine pk.mono ?_
      rintro e w2 ⟨rfl, hb2⟩
      have HL1 := HL.out
      obtain ⟨w3, hrun, hU3, ht3⟩ := unlike_put (unlike_kept (w' := w2) U1.out (hb2.block _ S1.out)) (keyW s) j HKl.out (by omega) (by omega)
      have HU3 : Hid _ := hU3
      have HB3 : Hid (Below w.heap.size w w3) := (B1.out.trans (hb2.mono (Nat.le_of_lt S1.out))).grown ht3.grown (Nat.le_trans (Nat.le_of_lt S1.out) hb2.size) (fun k hk => by cases hk; exact Nat.le_refl _)
      clear pk hb2 hU3 ht3 y1 y2 HL1
      go_wp2_with fail
      go_roundw
      case rel => exact ⟨j + 1, _, by go_num, by omega, HU3.out, HStep.out.1, HStep.out.2.1, HStep.out.2.2, HB3.out⟩
      case measure => simp [intOf]; omega
    · have q1 : ¬ (j : Int) < len := by omega
      obtain rfl : j = len := by omega
      have hfin : B.take j = B := List.take_of_length_le (by rw [Hn.out]; omega)
      have hD2 := hD.out
      rw [hfin, keys_nodup (fun s hs e he => by have := (Hz.out s hs).2 e he; omega)] at hD2
      have HD : Hid _ := hD2
      have HB : Hid _ := hB.out
      have hlen := fun ty => unlike_len hU.out ty
      have hLL := hL.out
      clear hfin hB hU hM hL hD hD2
      by_cases hkl : ks.length = j
      · have hE : Hid B.Nodup := HD.out.1 hkl
        rw [hkl] at hlen
        clear hkl HD
        go_wp2
        go_ret
        exact ⟨tells_yes hE.out, HB.out⟩
      · have hE : Hid (¬ B.Nodup) := fun h => hkl (HD.out.2 h)
        have hne : ((ks.length : Int) == j) = false := by rw [beq_eq_false_iff_ne]; omega
        clear hkl HD
        go_wp2
        go_ret
        exact ⟨tells_no hE.out, HB.out⟩
#print axioms unlike_any
end Go.Proofs.Ytkcledkfgmdcgaa
