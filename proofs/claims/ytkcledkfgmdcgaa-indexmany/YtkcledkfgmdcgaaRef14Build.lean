/- The document's own Build: the words are looked at, then left. -/
import Derived.Test.YtkcledkfgmdcgaaRef14Leave
namespace Go.Proofs.Ytkcledkfgmdcgaa
open Go.RowKit
set_option linter.unusedVariables false
set_option linter.unusedSimpArgs false

theorem rise_of_adj {zs : List Wd} (h : ∀ (i : Nat) (a b : Wd), zs[i]? = some a → zs[i + 1]? = some b → lessB a b = true) : RiseW zs := by
  unfold RiseW
  rw [List.pairwise_iff_getElem]
  intro i j hi hj hij
  obtain ⟨d, rfl⟩ := Nat.exists_eq_add_of_lt hij
  induction d with
  | zero => exact h i _ _ (List.getElem?_eq_getElem hi) (List.getElem?_eq_getElem hj)
  | succ d ih => exact less_trans _ _ _ (ih (by omega) (by omega)) (h (i + d + 1) _ _ (List.getElem?_eq_getElem (by omega)) (List.getElem?_eq_getElem hj))
theorem adj_of_rise {zs : List Wd} (h : RiseW zs) {i : Nat} {a b : Wd} (ha : zs[i]? = some a) (hb : zs[i + 1]? = some b) : lessB a b = true := by
  have h1 := (List.getElem?_eq_some_iff.1 hb).1
  have := List.pairwise_iff_getElem.1 h i (i + 1) (by omega) h1 (by omega)
  rw [(List.getElem?_eq_some_iff.1 ha).2, (List.getElem?_eq_some_iff.1 hb).2] at this
  exact this
set_option maxRecDepth 100000 in
set_option maxHeartbeats 4000000 in
theorem rbuild_any {w : World} {ao : Option Addr} {len cap : Nat} {zs : List Wd} (h : Reads w ao len cap (zs.map strV)) (hl : len ≤ 1000000) (hs : (zs.map List.length).sum ≤ 1000000) :
    Calls Try.prog 11 #[.slice ao len cap] w fun e w' => BuildOut w (buildR zs) e w' := by
  have hll : zs.length = len := by simpa using h.length
  have Hll : Hid _ := hll
  have HR : Hid (Reads w ao len cap (zs.map strV)) := h
  have Hs : Hid _ := hs
  clear hll hs h
  go_enter Try.func11, Try.ntmps11
  go_wp2_with fail
  go_loop [4] (fun i => ∃ j : Nat, i = .int .i64 (j : Nat) ∧ j ≤ len ∧ Hid (∀ (i : Nat) (a : Wd), i < j → zs[i]? = some a → a ≠ [])) (fun i => (len - intOf i).toNat)
  case atStart => exact ⟨0, rfl, Nat.zero_le _, fun i a hi => by omega⟩
  case round =>
    obtain ⟨j, rfl, hj, hA⟩ := hrel
    by_cases hjl : j < len
    · have q1 : (j : Int) < len := by omega
      obtain ⟨b1, o1, rfl, hb1, hat1⟩ := HR.out.atW (by omega)
      obtain ⟨p, hp⟩ : ∃ p, zs[j]? = some p := ⟨_, List.getElem?_eq_getElem (by rw [Hll.out]; exact hjl)⟩
      have hc1 := hat1 j p hp
      by_cases hpe : p = []
      · have hq : (p == []) = true := by rw [hpe]; rfl
        have hE : Hid (buildR zs = ([], 1)) := by
          show _ = _
          unfold buildR
          rw [if_pos (hpe ▸ List.mem_of_getElem? hp)]
        subst hpe
        clear hA hp hat1 hb1
        go_wp2
        go_ret2
        rw [hE.out]
        exact ⟨none, 0, 0, rfl, ⟨[], rfl, ⟨rfl, Nat.le_refl _, by unfold maxLen; omega, fun _ => ⟨rfl, rfl⟩, fun a ha => by cases ha⟩, fun i p s h => by simp at h⟩, Below.refl _ _⟩
      · have hq : (p == []) = false := by rw [beq_eq_false_iff_ne]; exact hpe
        have hq2 : List.isEmpty p = false := by cases p <;> simp_all
        have hA' : Hid (∀ (i : Nat) (a : Wd), i < j + 1 → zs[i]? = some a → a ≠ []) := fun i a hi hia => by
          by_cases hij : i = j
          · subst hij; rw [hp] at hia; cases hia; exact hpe
          · exact hA.out i a (by omega) hia
        clear hA hp hat1 hb1 hpe
        go_wp2
        go_round
        case rel => exact ⟨j + 1, by go_num, by omega, hA'⟩
        case measure => simp [intOf]; omega
    · have q1 : ¬ (j : Int) < len := by omega
      have hne : Hid ([] ∉ zs) := fun hh => by
        obtain ⟨i, hi, hiv⟩ := List.getElem_of_mem hh
        exact hA.out i [] (by have := Hll.out; omega) (by rw [List.getElem?_eq_getElem hi, hiv]) rfl
      clear hA hjl hj
      go_wp2_with fail
      go_loopw [5] (fun i wr => ∃ j : Nat, i = .int .i64 ((j + 1 : Nat) : Int) ∧ (j ≤ len) ∧ Hid (∀ (i : Nat) (a b : Wd), i < j → zs[i]? = some a → zs[i + 1]? = some b → lessB a b = true) ∧ ∃ q, wr = w.drewN q) (fun i _ => (len - intOf i).toNat)
      case atStart => exact ⟨0, rfl, Nat.zero_le _, (fun i a b hi => by omega), 0, rfl⟩
      case round =>
        obtain ⟨t, rfl, ht, hA, qd, hw⟩ := hrel
        have Hw : Hid _ := hw
        have hB : Below w.heap.size w wr := by rw [hw]; exact below_drewN (Below.refl _ _) qd
        have HB : Hid _ := hB
        clear hw hB
        by_cases htl : t + 1 < len
        · have q2 : ((t : Int) + 1) < len := by omega
          obtain ⟨b1, o1, rfl, hb1, hat1⟩ := (Reads.later HR.out HB.out (Nat.le_refl _)).atW (by omega)
          obtain ⟨p, hp⟩ : ∃ p, zs[t]? = some p := ⟨_, List.getElem?_eq_getElem (by rw [Hll.out]; omega)⟩
          obtain ⟨q, hq⟩ : ∃ q, zs[t + 1]? = some q := ⟨_, List.getElem?_eq_getElem (by rw [Hll.out]; omega)⟩
          have hc1 := hat1 t p hp
          have hc2 := hat1 (t + 1) q hq
          have q3 : (t : Int) < len := by omega
          have e3 : (t : Int) + 1 - 1 = t := by omega
          by_cases hlt : lessB p q = true
          · have hA' : Hid (∀ (i : Nat) (a b : Wd), i < t + 1 → zs[i]? = some a → zs[i + 1]? = some b → lessB a b = true) := fun i a b hi ha hb => by
              by_cases hij : i = t
              · subst hij; rw [hp] at ha; rw [hq] at hb; cases ha; cases hb; exact hlt
              · exact hA.out i a b (by omega) ha hb
            clear hA hp hq hat1 hb1
            go_wp2_with fail
            go_region
            go_wp2
            go_roundw
            case rel => exact ⟨t + 1, by go_num, by omega, hA', qd + 1, by rw [Hw.out]; rfl⟩
            case measure => simp [intOf]; omega
          · have hlt2 : lessB p q = false := by simpa using hlt
            have hE : Hid (buildR zs = ([], 9)) := by
              show _ = _
              unfold buildR
              rw [if_neg hne.out, if_neg fun hh => hlt (adj_of_rise hh hp hq)]
            clear hA hp hq hat1 hb1 hlt
            go_wp2_with fail
            go_region
            go_wp2
            go_ret2
            rw [hE.out]
            exact ⟨none, 0, 0, rfl, ⟨[], rfl, ⟨rfl, Nat.le_refl _, by unfold maxLen; omega, fun _ => ⟨rfl, rfl⟩, fun a ha => by cases ha⟩, fun i p s h => by simp at h⟩, HB.out.drew⟩
        · have q2 : ¬ ((t : Int) + 1) < len := by omega
          have hri : RiseW zs := rise_of_adj fun i a b ha hb => hA.out i a b (by
            have h1 := (List.getElem?_eq_some_iff.1 hb).1
            have := Hll.out; omega) ha hb
          have hE : Hid (buildR zs = (zA (buildL zs), 0)) := by
            show _ = _
            unfold buildR
            rw [if_neg hne.out, if_pos hri]
          have hsum : bytesW zs ≤ 1000000 := Hs.out
          have ps := rleave_any (bytesW zs) zs [] (· < wr.heap.size) wr none 0 0 none 0 0 [] [] ao len cap (Nat.le_refl _) hri LiveS.nil (fun _ h => h) (XAt.nil _ _) (RAt.of (Reads.later HR.out HB.out (Nat.le_refl _))) (by simpa using hsum) (by rw [Hll.out]; exact hl)
          clear hA hri hsum
          go_wp2_with fail
          refine ps.mono ?_
          rintro e w1 ⟨xa, xm, xc, ya, ym, yc, vs, ws, rfl, hx, hb1⟩
          have HX := hid hx
          have HB1 := hid hb1
          clear ps hx hb1
          go_wp2
          go_ret2
          rw [hE.out]
          have h1 := HX.out.keep (w' := w1.alloc (.cells #[.slice xa xm xc, .slice ya ym yc] 53)) fun b hb => heap_alloc_old _ _ (by
            rcases hb with hb | hb
            · have := HB1.out.size; omega
            · exact hb.2)
          exact ⟨_, _, _, rfl, h1.states, (HB.out.trans (HB1.out.mono HB.out.size)).alloc (HB.out.trans (HB1.out.mono HB.out.size)).size _⟩
#print axioms rbuild_any
end Go.Proofs.Ytkcledkfgmdcgaa
