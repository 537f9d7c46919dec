/- daw.Build: the automaton of words. -/
import Derived.Test.YtmcpiikcgimhpaaDawBack
import Derived.Test.YtmcpiikcgimhpaaDawUnlike
namespace Go.Proofs.Ytmcpiikcgimhpaa
open Go.RowKit
set_option linter.unusedVariables false
set_option linter.unusedSimpArgs false

theorem adj_rise {zs : List Wd} (h : ∀ (i : Nat) (a b : Wd), zs[i]? = some a → zs[i + 1]? = some b → lessB a b = true) : RiseW zs := by
  have h2 : ∀ (d i : Nat) (a b : Wd), zs[i]? = some a → zs[i + d + 1]? = some b → lessB a b = true := by
    intro d
    induction d with
    | zero => exact fun i a b ha hb => h i a b ha hb
    | succ d ih =>
      intro i a b ha hb
      have hl := (List.getElem?_eq_some_iff.1 hb).1
      obtain ⟨c, hc⟩ : ∃ c, zs[i + d + 1]? = some c := ⟨_, List.getElem?_eq_getElem (by omega)⟩
      exact less_trans _ _ _ (ih i a c ha hc) (h (i + d + 1) c b hc (by rw [← hb]; rfl))
  refine List.pairwise_iff_getElem.2 fun i j hi hj hij => h2 (j - i - 1) i _ _ (List.getElem?_eq_getElem hi) ?_
  rw [show i + (j - i - 1) + 1 = j by omega]
  exact List.getElem?_eq_getElem hj
theorem rise_adj {zs : List Wd} (h : RiseW zs) {i : Nat} {a b : Wd} (ha : zs[i]? = some a) (hb : zs[i + 1]? = some b) : lessB a b = true := by
  obtain ⟨h1, h2⟩ := List.getElem?_eq_some_iff.1 ha
  obtain ⟨h3, h4⟩ := List.getElem?_eq_some_iff.1 hb
  have := List.pairwise_iff_getElem.1 h i (i + 1) h1 h3 (by omega)
  rw [h2, h4] at this
  exact this
def riseD (zs : List Wd) : Nat := if [] ∈ zs then 1 else if RiseW zs then 0 else 9
set_option maxRecDepth 100000 in
set_option maxHeartbeats 4000000 in
theorem rise_any {w : World} {ao : Option Addr} {len cap : Nat} {zs : List Wd} (h : Reads w ao len cap (zs.map strV)) :
    Calls Try.prog 15 #[.slice ao len cap] w fun e w' => e = .returned (.int .i64 (riseD zs : Nat)) ∧ ∃ q, w' = w.drewN q := by
  have hll : zs.length = len := by simpa using h.length
  have hmi : len ≤ 9223372036854775807 := Nat.le_trans (Nat.le_trans h.le h.most) (by decide)
  have Hll : Hid _ := hll
  have HR : Hid (Reads w ao len cap (zs.map strV)) := h
  clear hll h
  go_enter Try.func15, Try.ntmps15
  go_wp2_with fail
  go_loop [8] (fun i => ∃ j : Nat, i = .int .i64 (j : Nat) ∧ j ≤ len ∧ Hid (∀ (i : Nat) (a : Wd), i < j → zs[i]? = some a → a ≠ [])) (fun i => (len - intOf i).toNat)
  case atStart => exact ⟨0, rfl, Nat.zero_le _, fun i a hi => by omega⟩
  case round =>
    obtain ⟨j, rfl, hj, hA⟩ := hrel
    by_cases hjl : j < len
    · have q1 : (j : Int) < len := by omega
      obtain ⟨b1, o1, rfl, hb1, hat1⟩ := HR.out.atW (by omega)
      obtain ⟨p, hp⟩ : ∃ p, zs[j]? = some p := ⟨_, List.getElem?_eq_getElem (by rw [Hll.out]; exact hjl)⟩
      have hc1 := hat1 j p hp
      by_cases hpe : p = []
      · have hq : (p == []) = true := by rw [hpe]; rfl
        have hE : Hid (riseD zs = 1) := by
          show _ = _
          unfold riseD
          rw [if_pos (hpe ▸ List.mem_of_getElem? hp)]
        subst hpe
        clear hA hp hat1 hb1
        go_wp2
        go_ret
        rw [hE.out]
        exact ⟨rfl, 0, rfl⟩
      · have hq : (p == []) = false := by rw [beq_eq_false_iff_ne]; exact hpe
        have hq2 : List.isEmpty p = false := by cases p <;> simp_all
        have hA' : Hid (∀ (i : Nat) (a : Wd), i < j + 1 → zs[i]? = some a → a ≠ []) := fun i a hi hia => by
          by_cases hij : i = j
          · subst hij; rw [hp] at hia; cases hia; exact hpe
          · exact hA.out i a (by omega) hia
        clear hA hp hat1 hb1 hpe
        go_wp2
        go_round
        case rel => exact ⟨j + 1, by go_num, by omega, hA'⟩
        case measure => simp [intOf]; omega
    · have q1 : ¬ (j : Int) < len := by omega
      have hne : Hid ([] ∉ zs) := fun hh => by
        obtain ⟨i, hi, hiv⟩ := List.getElem_of_mem hh
        exact hA.out i [] (by have := Hll.out; omega) (by rw [List.getElem?_eq_getElem hi, hiv]) rfl
      clear hA hjl hj
      go_wp2_with fail
      go_loopw [5] (fun i wr => ∃ j : Nat, i = .int .i64 ((j + 1 : Nat) : Int) ∧ (j ≤ len) ∧ Hid (∀ (i : Nat) (a b : Wd), i < j → zs[i]? = some a → zs[i + 1]? = some b → lessB a b = true) ∧ ∃ q, wr = w.drewN q) (fun i _ => (len - intOf i).toNat)
      case atStart => exact ⟨0, rfl, Nat.zero_le _, (fun i a b hi => by omega), 0, rfl⟩
      case round =>
        obtain ⟨t, rfl, ht, hA, qd, hw⟩ := hrel
        have Hw : Hid _ := hw
        have hB : Below w.heap.size w wr := by rw [hw]; exact below_drewN (Below.refl _ _) qd
        have HB : Hid _ := hB
        clear hw hB
        by_cases htl : t + 1 < len
        · have q2 : ((t : Int) + 1) < len := by omega
          obtain ⟨b1, o1, rfl, hb1, hat1⟩ := (Reads.later HR.out HB.out (Nat.le_refl _)).atW (by omega)
          obtain ⟨p, hp⟩ : ∃ p, zs[t]? = some p := ⟨_, List.getElem?_eq_getElem (by rw [Hll.out]; omega)⟩
          obtain ⟨q, hq⟩ : ∃ q, zs[t + 1]? = some q := ⟨_, List.getElem?_eq_getElem (by rw [Hll.out]; omega)⟩
          have hc1 := hat1 t p hp
          have hc2 := hat1 (t + 1) q hq
          have q3 : (t : Int) < len := by omega
          have e3 : (t : Int) + 1 - 1 = t := by omega
          by_cases hlt : lessB p q = true
          · have h7 : Go.Op.bytesLess q p = false := less_asymm _ _ hlt
            have h8 : (q == p) = false := by rw [beq_eq_false_iff_ne]; intro e; rw [e, less_irrefl] at hlt; cases hlt
            have hA' : Hid (∀ (i : Nat) (a b : Wd), i < t + 1 → zs[i]? = some a → zs[i + 1]? = some b → lessB a b = true) := fun i a b hi ha hb => by
              by_cases hij : i = t
              · subst hij; rw [hp] at ha; rw [hq] at hb; cases ha; cases hb; exact hlt
              · exact hA.out i a b (by omega) ha hb
            clear hA hp hq hat1 hb1
            go_wp2_with fail
            go_region
            go_wp2
            go_roundw
            case rel => exact ⟨t + 1, by go_num, by omega, hA', qd + 1, by rw [Hw.out]; rfl⟩
            case measure => simp [intOf]; omega
          · have hlt2 : lessB p q = false := by simpa using hlt
            have hE : Hid (riseD zs = 9) := by
              show _ = _
              unfold riseD
              rw [if_neg hne.out, if_neg fun hh => hlt (rise_adj hh hp hq)]
            clear hA hp hq hat1 hb1 hlt
            by_cases hqp : q = p
            · have h8 : (q == p) = true := by rw [hqp]; simp
              clear hqp
              go_wp2_with fail
              go_region
              go_wp2
              go_ret
              rw [hE.out]
              exact ⟨rfl, qd + 1, by rw [Hw.out]; rfl⟩
            · have h7 : Go.Op.bytesLess q p = true := by
                cases h9 : lessB q p with
                | true => exact h9
                | false => exact absurd (less_tri _ _ h9 hlt2) hqp
              clear hqp
              go_wp2_with fail
              go_region
              go_wp2
              go_ret
              rw [hE.out]
              exact ⟨rfl, qd + 1, by rw [Hw.out]; rfl⟩
        · have q2 : ¬ ((t : Int) + 1) < len := by omega
          have hri : RiseW zs := adj_rise fun i a b ha hb => hA.out i a b (by
            have h1 := (List.getElem?_eq_some_iff.1 hb).1
            have := Hll.out; omega) ha hb
          have hE : Hid (riseD zs = 0) := by
            show _ = _
            unfold riseD
            rw [if_neg hne.out, if_pos hri]
          clear hA hri
          go_wp2
          go_ret
          rw [hE.out]
          exact ⟨rfl, qd, Hw.out⟩
#print axioms rise_any
theorem common_step {a b : Wd} {j : Nat} {x y : UInt8} (ha : a[j]? = some x) (hb : b[j]? = some y) : commonL (a.drop j) (b.drop j) = if x = y then commonL (a.drop (j + 1)) (b.drop (j + 1)) + 1 else 0 := by
  obtain ⟨h1, h2⟩ := List.getElem?_eq_some_iff.1 ha
  obtain ⟨h3, h4⟩ := List.getElem?_eq_some_iff.1 hb
  rw [List.drop_eq_getElem_cons h1, List.drop_eq_getElem_cons h3, h2, h4, commonL]
set_option maxRecDepth 100000 in
set_option maxHeartbeats 4000000 in
theorem common_any (a b : Wd) (w : World) (ha : a.length ≤ 140737488351232) (hb : b.length ≤ 140737488351232) :
    Calls Try.prog 16 #[strV a, strV b] w fun e w' => e = .returned (.int .i64 (commonL a b : Nat)) ∧ ∃ q, w' = w.drewN q := by
  obtain ⟨m, hm⟩ : ∃ m, m = a.length := ⟨_, rfl⟩
  obtain ⟨n, hn⟩ : ∃ n, n = b.length := ⟨_, rfl⟩
  have s1 : (⟨a.toArray⟩ : ByteArray).size = m := by rw [hm]; simp [ByteArray.size]
  have s2 : (⟨b.toArray⟩ : ByteArray).size = n := by rw [hn]; simp [ByteArray.size]
  have Hm : Hid (a.length = m) := hm.symm
  have Hn : Hid (b.length = n) := hn.symm
  rw [← hm] at ha
  rw [← hn] at hb
  clear hm hn
  go_enter Try.func16, Try.ntmps16
  go_wp2_with fail
  go_loopw [5] (fun i wr => ∃ j : Nat, i = .int .i64 (j : Nat) ∧ j ≤ m ∧ j ≤ n ∧ Hid (commonL a b = j + commonL (a.drop j) (b.drop j)) ∧ ∃ q, wr = w.drewN q) (fun i _ => (m - intOf i).toNat)
  case atStart => exact ⟨0, rfl, Nat.zero_le _, Nat.zero_le _, (by show _ = _; simp), 0, rfl⟩
  case round =>
    obtain ⟨j, rfl, hj, hj2, hC, qd, hw⟩ := hrel
    have Hw : Hid _ := hw
    clear hw
    by_cases h1 : j < m
    · have q1 : (j : Int) < m := by omega
      obtain ⟨x, hx⟩ : ∃ x, a[j]? = some x := ⟨_, List.getElem?_eq_getElem (by rw [Hm.out]; exact h1)⟩
      have hix := fun W => str_at Try.prog 9 Try.underlying9 hx W
      by_cases h2 : j < n
      · have q2 : (j : Int) < n := by omega
        obtain ⟨y, hy⟩ : ∃ y, b[j]? = some y := ⟨_, List.getElem?_eq_getElem (by rw [Hn.out]; exact h2)⟩
        have hiy := fun W => str_at Try.prog 9 Try.underlying9 hy W
        have hst := common_step hx hy
        by_cases hxy : x = y
        · have hpp : ((x.toNat : Int) == y.toNat) = true := by rw [byte_eq]; exact decide_eq_true hxy
          have hC' : Hid (commonL a b = j + 1 + commonL (a.drop (j + 1)) (b.drop (j + 1))) := by show _ = _; rw [hC.out, hst, if_pos hxy]; omega
          clear hC hst hx hy hxy h1 h2
          go_wp2_with fail
          go_quiet (fail)
          go_wp2
          go_roundw
          case rel => exact ⟨j + 1, by go_num, by omega, by omega, hC', qd + nq, by rw [Hw.out, World.drewN_drewN]⟩
          case measure => simp [intOf]; omega
        · have hpp : ((x.toNat : Int) == y.toNat) = false := by rw [byte_eq]; exact decide_eq_false hxy
          have hE : Hid (commonL a b = j) := by show _ = _; rw [hC.out, hst, if_neg hxy]; omega
          clear hC hst hx hy hxy h1 h2
          go_wp2_with fail
          go_quiet (fail)
          go_wp2
          go_ret
          rw [hE.out]
          exact ⟨rfl, qd + nq, by rw [Hw.out, World.drewN_drewN]⟩
      · have q2 : ¬ (j : Int) < n := by omega
        have q3 : decide (j < n) = false := decide_eq_false h2
        have hE : Hid (commonL a b = j) := by
          show _ = _
          rw [hC.out, show b.drop j = [] from List.drop_eq_nil_of_le (by rw [Hn.out]; omega)]
          cases a.drop j <;> rfl
        clear hC hx h1 h2
        go_wp2_with fail
        go_quiet (fail)
        go_wp2
        go_ret
        rw [hE.out]
        exact ⟨rfl, qd + nq, by rw [Hw.out, World.drewN_drewN]⟩
    · have q1 : ¬ (j : Int) < m := by omega
      have q3 : decide (j < m) = false := decide_eq_false h1
      have hE : Hid (commonL a b = j) := by
        show _ = _
        rw [hC.out, show a.drop j = [] from List.drop_eq_nil_of_le (by rw [Hm.out]; omega)]
        cases b.drop j <;> rfl
      clear hC h1
      go_wp2_with fail
      go_quiet (fail)
      go_wp2
      go_ret
      rw [hE.out]
      exact ⟨rfl, qd + nq, by rw [Hw.out, World.drewN_drewN]⟩
#print axioms common_any
end Go.Proofs.Ytmcpiikcgimhpaa
