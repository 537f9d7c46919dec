/- The document's own index: counts, a word's place, a place's word. -/
import Derived.Test.YtkcledkfgmdcgaaRef14Taken
import Derived.Test.YtkcledkfgmdcgaaRefAdd01
import Derived.Deep.QuietTactic
import Derived.BigQuiet
namespace Go.Proofs.Ytkcledkfgmdcgaa
open Go.RowKit
set_option linter.unusedVariables false
set_option linter.unusedSimpArgs false

/-- A word's place among words. -/
def placeR (l : List Wd) (k : Wd) : Nat × Bool := if k ∈ l then (l.idxOf k, true) else (0, false)
def wordR (l : List Wd) (n : Int) : Wd × Bool := if 0 ≤ n ∧ n < l.length then (l.getD n.toNat [], true) else ([], false)
theorem place_step {l : List Wd} {k : Wd} {j : Nat} {v : Wd} (h : l[j]? = some v) (hn : ∀ i, i < j → ∀ u, l[i]? = some u → u ≠ k) (hv : v = k) : placeR l k = (j, true) := by
  subst hv
  have hm := List.mem_of_getElem? h
  unfold placeR
  rw [if_pos hm]
  congr 1
  have h1 := List.idxOf_lt_length_iff.2 hm
  obtain ⟨hj, hje⟩ := List.getElem?_eq_some_iff.1 h
  rcases Nat.lt_trichotomy (l.idxOf v) j with hlt | heq | hgt
  · exact absurd (List.getElem_idxOf h1) (hn _ hlt _ (List.getElem?_eq_getElem h1))
  · exact heq
  · exfalso
    have := List.not_of_lt_findIdx (p := (· == v)) (xs := l) (i := j) (by simpa [List.idxOf] using hgt)
    simp [hje] at this
theorem place_none {l : List Wd} {k : Wd} (hn : ∀ i, i < l.length → ∀ u, l[i]? = some u → u ≠ k) : placeR l k = (0, false) := by
  unfold placeR
  rw [if_neg]
  intro hm
  obtain ⟨i, hi, he⟩ := List.getElem_of_mem hm
  exact hn i hi _ (List.getElem?_eq_getElem hi) he

set_option maxRecDepth 100000 in
set_option maxHeartbeats 4000000 in
theorem rof_any {S : List Stt} (hS : GoodS S) (hl : S.length ≤ 1000000000) (h1 : 1 ≤ S.length) (hc : (langS S (S.length - 1)).length ≤ 100000) {w : World} {ao : Option Addr} {len cap : Nat} (hr : ReadsA w ao len cap (zA S)) (k : Wd) :
    Calls Try.prog 15 #[.slice ao len cap, strV k] w fun e w' => e = .returned (.tuple #[.int .i64 ((placeR (langS S (S.length - 1)) k).1 : Nat), .bool (placeR (langS S (S.length - 1)) k).2]) ∧ Below w.heap.size w w' := by
  have hlen : len = S.length := by rw [← hr.count, zA_len]
  subst hlen
  have pt := rtaken_any hS hl 100000 (by omega) (S.length - 1) w _ _ _ hr (by omega) hc
  obtain ⟨X, hX⟩ : ∃ X, X = langS S (S.length - 1) := ⟨_, rfl⟩
  rw [← hX] at pt hc ⊢
  obtain ⟨n, hn⟩ : ∃ n, n = S.length - 1 := ⟨_, rfl⟩
  rw [← hn] at pt
  have e1 : (S.length : Int) - 1 = (n : Nat) := by omega
  have Hc : Hid _ := hc
  clear hX hn hr hc h1
  go_enter Try.func15, Try.ntmps15
  go_wp2_with fail
  refine pt.mono ?_
  rintro e w1 ⟨ag, c, m, rfl, hm, ho, hB⟩
  have HB : Hid _ := hB
  have HR : Hid _ := Reads.own ho
  have Hm : Hid (m = X.length) := hm
  have hmi : m ≤ 100000 := by rw [hm]; exact Hc.out
  clear pt ho hB hm e1
  go_wp2_with fail
  go_loop [7] (fun i => ∃ j : Nat, i = .int .i64 (j : Nat) ∧ j ≤ m ∧ Hid (∀ i, i < j → ∀ u, X[i]? = some u → u ≠ k)) (fun i => (m - intOf i).toNat)
  case atStart => exact ⟨0, rfl, Nat.zero_le _, (fun i hi => by omega)⟩
  case round =>
    obtain ⟨j, rfl, hj, hA⟩ := hrel
    by_cases hjm : j < m
    · have q1 : (j : Int) < m := by omega
      obtain ⟨b, off, hao, _, hcl⟩ := HR.out.atW (by omega)
      subst hao
      obtain ⟨v, hv⟩ : ∃ v, X[j]? = some v := ⟨_, List.getElem?_eq_getElem (by rw [← Hm.out]; exact hjm)⟩
      have y := hcl j v hv
      by_cases hvk : v = k
      · have hE : Hid (placeR X k = (j, true)) := place_step hv hA.out hvk
        subst hvk
        have hpp : (v == v) = true := by simp
        clear hcl hv hA hjm
        go_wp2
        go_ret2
        rw [hE.out]
        exact ⟨rfl, HB.out⟩
      · have hpp : (v == k) = false := by rw [beq_eq_false_iff_ne]; exact hvk
        have hA' : Hid (∀ i, i < j + 1 → ∀ u, X[i]? = some u → u ≠ k) := by
          show ∀ i, _
          intro i hi u hu
          by_cases h2 : i = j
          · subst h2; rw [hv] at hu; cases hu; exact hvk
          · exact hA.out i (by omega) u hu
        clear hcl hv hA hjm hvk
        go_wp2
        go_round
        case rel => exact ⟨j + 1, by go_num, by omega, hA'⟩
        case measure => simp [intOf]; omega
    · have q1 : ¬ (j : Int) < m := by omega
      have hE : Hid (placeR X k = (0, false)) := place_none fun i hi => hA.out i (by rw [← Hm.out] at hi; omega)
      clear hA hjm
      go_wp2
      go_ret2
      rw [hE.out]
      exact ⟨rfl, HB.out⟩
#print axioms rof_any

set_option maxRecDepth 100000 in
set_option maxHeartbeats 4000000 in
theorem rword_any {S : List Stt} (hS : GoodS S) (hl : S.length ≤ 1000000000) (h1 : 1 ≤ S.length) (hc : (langS S (S.length - 1)).length ≤ 100000) {w : World} {ao : Option Addr} {len cap : Nat} (hr : ReadsA w ao len cap (zA S)) (n : Int) (hn0 : -9223372036854775808 ≤ n) (hn1 : n ≤ 9223372036854775807) :
    Calls Try.prog 17 #[.slice ao len cap, .int .i64 n] w fun e w' => e = .returned (.tuple #[strV (wordR (langS S (S.length - 1)) n).1, .bool (wordR (langS S (S.length - 1)) n).2]) ∧ Below w.heap.size w w' := by
  have hlen : len = S.length := by rw [← hr.count, zA_len]
  subst hlen
  have pt := rtaken_any hS hl 100000 (by omega) (S.length - 1) w _ _ _ hr (by omega) hc
  obtain ⟨X, hX⟩ : ∃ X, X = langS S (S.length - 1) := ⟨_, rfl⟩
  rw [← hX] at pt hc ⊢
  obtain ⟨q, hq⟩ : ∃ q, q = S.length - 1 := ⟨_, rfl⟩
  rw [← hq] at pt
  have e1 : (S.length : Int) - 1 = (q : Nat) := by omega
  have Hc : Hid _ := hc
  clear hX hq hr hc h1
  go_enter Try.func17, Try.ntmps17
  go_wp2_with fail
  refine pt.mono ?_
  rintro e w1 ⟨ag, c, m, rfl, hm, ho, hB⟩
  have HB : Hid _ := hB
  have HR : Hid _ := Reads.own ho
  have Hm : Hid (m = X.length) := hm
  have hmi : m ≤ 100000 := by rw [hm]; exact Hc.out
  clear pt ho hB hm e1
  by_cases hv : 0 ≤ n ∧ n < m
  · obtain ⟨v0, v1⟩ := hv
    obtain ⟨j, rfl⟩ := Int.eq_ofNat_of_zero_le v0
    obtain ⟨b, off, hao, _, hcl⟩ := HR.out.atW (by omega)
    subst hao
    obtain ⟨v, hv⟩ : ∃ v, X[j]? = some v := ⟨_, List.getElem?_eq_getElem (by rw [← Hm.out]; omega)⟩
    have y := hcl j v hv
    have hE : Hid (wordR X (j : Nat) = (v, true)) := by
      show _ = _
      unfold wordR
      rw [if_pos ⟨by omega, by rw [← Hm.out]; omega⟩, Int.toNat_natCast, List.getD_eq_getElem?_getD, hv]; rfl
    have i1 : ¬ (j : Int) < 0 := by omega
    have i2 : ¬ (m : Int) ≤ j := by omega
    have i3 : (j : Int) < m := by omega
    clear hcl hv v0 v1
    go_wp2
    go_ret2
    rw [hE.out]
    exact ⟨rfl, HB.out⟩
  · have hE : Hid (wordR X n = ([], false)) := by
      show _ = _
      unfold wordR
      rw [if_neg (by rw [← Hm.out]; exact hv)]
    have hsp : n < 0 ∨ (¬ n < 0 ∧ (m : Int) ≤ n) := by omega
    clear hv
    rcases hsp with i1 | ⟨i1, i2⟩
    all_goals
      go_wp2
      go_ret2
      rw [hE.out]
      exact ⟨rfl, HB.out⟩
#print axioms rword_any
end Go.Proofs.Ytkcledkfgmdcgaa
