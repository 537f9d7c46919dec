/- The document's own answers for runs: May, Alike. -/
import Derived.Test.YtgnhnhachhfafaaEn2
import Derived.Test.YtgnhnhachhfafaaRunMath
import Derived.Deep.QuietTactic
import Derived.BigQuiet
namespace Go.Proofs.Ytgnhnhachhfafaa
open Go.RowKit
set_option linter.unusedVariables false
set_option linter.unusedSimpArgs false

theorem ups_iff : ∀ (l : List En), upsE l = true ↔ ∀ (i : Nat) a b, l[i]? = some a → l[i + 1]? = some b → lessB a.1 b.1 = true
  | [] => by simp [upsE]
  | [a] => by simp [upsE]
  | a :: b :: l => by
    rw [upsE, Bool.and_eq_true, ups_iff (b :: l)]
    constructor
    · rintro ⟨h1, h2⟩ i x y hx hy
      cases i with
      | zero => simp at hx hy; subst hx hy; exact h1
      | succ i => exact h2 i x y (by simpa using hx) (by simpa using hy)
    · intro h
      exact ⟨h 0 a b rfl rfl, fun i x y hx hy => h (i + 1) x y (by simpa using hx) (by simpa using hy)⟩
theorem all_take {l : List En} {j : Nat} {e : En} (h : (l.take j).all oneE = true) (he : l[j]? = some e) (ho : oneE e = true) : (l.take (j + 1)).all oneE = true := by
  rw [List.take_add_one, he, List.all_append, h]; simp [ho]
theorem all_not {l : List En} {j : Nat} {e : En} (he : l[j]? = some e) (ho : ¬ oneE e = true) : mayE l = 1 := by
  unfold mayE
  rw [if_neg]
  intro h
  exact ho (List.all_eq_true.1 h e (List.mem_of_getElem? he))
theorem ups_not {l : List En} {i : Nat} {a b : En} (hall : l.all oneE = true) (ha : l[i]? = some a) (hb : l[i + 1]? = some b) (h : lessB a.1 b.1 = false) : mayE l = 9 := by
  unfold mayE
  rw [if_pos hall, if_neg]
  intro hu
  rw [(ups_iff l).1 hu i a b ha hb] at h; cases h

set_option maxRecDepth 100000 in
set_option maxHeartbeats 4000000 in
theorem rmay_any {w : World} {ao : Option Addr} {len cap : Nat} {es : List En} (h : ReadsE w ao len cap (cellsE es)) (hb : ∀ e ∈ es, e.2 ≤ 18446744073709551615) (hw : ∀ e ∈ es, e.1.length ≤ 140737488355328) :
    Calls Try.prog 21 #[.slice ao len cap] w fun e w' => e = .returned (.int .i64 (mayE es : Nat)) ∧ ∃ m, w' = w.drewN m := by
  have hm := Nat.le_trans h.le h.most
  unfold maxLen at hm
  have hlx := h.count
  subst hlx
  have hmi : (es.length : Int) ≤ 9223372036854775807 := by omega
  clear hm
  go_enter Try.func21, Try.ntmps21
  go_wp2_with fail
  go_loop [3] (fun i => ∃ j : Nat, i = .int .i64 j ∧ j ≤ es.length ∧ Hid ((es.take j).all oneE = true)) (fun i => (es.length - intOf i).toNat)
  case atStart => exact ⟨0, rfl, Nat.zero_le _, rfl⟩
  case round =>
    obtain ⟨j, rfl, hj, hA⟩ := hrel
    by_cases hjl : j < es.length
    · have hji : (j : Int) < es.length := by omega
      obtain ⟨b, off, rfl, _, hc⟩ := h.at (by omega)
      obtain ⟨⟨ek, en⟩, he⟩ : ∃ e, es[j]? = some e := ⟨_, List.getElem?_eq_getElem hjl⟩
      obtain ⟨c1, c2⟩ := hc j _ he
      have hbn := hb _ (List.mem_of_getElem? he)
      have hwn := hw _ (List.mem_of_getElem? he)
      simp only at c1 c2 hbn hwn
      by_cases ho : oneE (ek, en) = true
      · have hA2 : Hid _ := all_take hA.out he ho
        obtain ⟨p1, p2, p3, p4⟩ := one_ok.1 ho
        simp only at p1 p2 p3 p4
        have i1 : ¬ (ek.length : Int) < 1 := by omega
        have i2 : ¬ (255 : Int) < ek.length := by omega
        have i3 : ¬ (en : Int) < 1 := by omega
        have i4 : (en : Int) ≤ 4611686018427387904 := by omega
        clear hc hA ho he p1 p2 p3 p4
        go_wp2
        go_round
        case rel => exact ⟨j + 1, by go_num, by omega, hA2⟩
        case measure => simp [intOf]; omega
      · have hE : Hid _ := all_not he ho
        have hsp : (ek.length : Int) < 1 ∨ (1 ≤ (ek.length : Int) ∧ 255 < (ek.length : Int)) ∨ (1 ≤ (ek.length : Int) ∧ (ek.length : Int) ≤ 255 ∧ (en : Int) < 1) ∨ (1 ≤ (ek.length : Int) ∧ (ek.length : Int) ≤ 255 ∧ 1 ≤ (en : Int) ∧ decide ((en : Int) ≤ 4611686018427387904) = false) := by
          have h1 : ¬ (1 ≤ ek.length ∧ ek.length ≤ 255 ∧ 1 ≤ en ∧ en ≤ 4611686018427387904) := fun hh => ho (one_ok.2 hh)
          rw [decide_eq_false_iff_not]
          omega
        clear hc hA ho he
        rcases hsp with i1 | ⟨i1, i2⟩ | ⟨i1, i2, i3⟩ | ⟨i1, i2, i3, i4⟩
        all_goals go_wp2
        all_goals first | (go_ret; exact ⟨by rw [hE.out]; rfl, 0, rfl⟩) | (exfalso; rw [decide_eq_false_iff_not] at i4; omega)
    · have hje : j = es.length := by omega
      have hall : Hid (es.all oneE = true) := by have := hA.out; rw [hje, List.take_of_length_le (Nat.le_refl _)] at this; exact this
      have hlt : ¬ (j : Int) < es.length := by omega
      clear hA hje hjl
      go_wp2_with fail
      go_loopw [5] (fun i wr => ∃ j : Nat, i = .int .i64 j ∧ 1 ≤ j ∧ j ≤ es.length + 1 ∧ Hid (∀ (i : Nat) a b, i + 1 < j → es[i]? = some a → es[i + 1]? = some b → lessB a.1 b.1 = true) ∧ ∃ m, wr = w.drewN m) (fun i _ => (es.length + 1 - intOf i).toNat)
      case atStart => exact ⟨1, rfl, Nat.le_refl _, by omega, fun i a b h => by omega, 0, rfl⟩
      case round =>
        obtain ⟨k, rfl, hk1, hk2, hU, m, hwr⟩ := hrel
        have Hw : Hid _ := hwr
        clear hwr
        by_cases hkl : k < es.length
        · obtain ⟨k', rfl⟩ : ∃ k', k = k' + 1 := ⟨k - 1, by omega⟩
          obtain ⟨⟨ak, an⟩, ha⟩ : ∃ e, es[k']? = some e := ⟨_, List.getElem?_eq_getElem (by omega)⟩
          obtain ⟨⟨bk, bn⟩, hb'⟩ : ∃ e, es[k' + 1]? = some e := ⟨_, List.getElem?_eq_getElem hkl⟩
          obtain ⟨b, off, rfl, _, hc⟩ := h.at (by omega)
          have c1 : wr.cell? ⟨b, off + k' * 2, none⟩ = some (strV ak) := by rw [Hw.out]; exact (hc k' _ ha).1
          have c2 : wr.cell? ⟨b, off + (k' + 1) * 2, none⟩ = some (strV bk) := by rw [Hw.out]; exact (hc (k' + 1) _ hb').1
          have hki : ((k' : Int) + 1) < es.length := by omega
          have hki2 : (k' : Int) < es.length := by omega
          have hki3 : (0 : Int) ≤ k' := by omega
          clear hc
          cases hl : lessB ak bk with
          | true =>
            have hU2 : Hid (∀ (i : Nat) a b, i + 1 < k' + 1 + 1 → es[i]? = some a → es[i + 1]? = some b → lessB a.1 b.1 = true) := by
              show ∀ (i : Nat) a b, _
              intro i x y hi hx hy
              rcases Nat.lt_or_ge (i + 1) (k' + 1) with h1 | h1
              · exact hU.out i x y h1 hx hy
              · have hik : i = k' := by omega
                subst hik
                rw [ha] at hx
                rw [hb'] at hy
                cases hx
                cases hy
                exact hl
            clear hU ha hb'
            go_wp2_with fail
            go_quiet (fail)
            go_wp2
            go_roundw
            case rel => exact ⟨k' + 1 + 1, by go_num, by omega, by omega, hU2, m + nq, by rw [Hw.out, World.drewN_drewN]⟩
            case measure => simp [intOf]; omega
          | false =>
            have hE : Hid _ := ups_not hall.out ha hb' hl
            clear hU ha hb'
            go_wp2_with fail
            go_quiet (fail)
            go_wp2
            go_ret
            exact ⟨by rw [hE.out]; rfl, m + nq, by rw [Hw.out, World.drewN_drewN]⟩
        · have hE : Hid (mayE es = 0) := may_zero.2 ⟨hall.out, (ups_iff es).2 fun i a b hx hy => hU.out i a b (by have := (List.getElem?_eq_some_iff.1 hy).1; omega) hx hy⟩
          have hlt2 : ¬ (k : Int) < es.length := by omega
          clear hU
          go_wp2
          go_ret
          exact ⟨by rw [hE.out]; rfl, m, Hw.out⟩
#print axioms rmay_any

theorem alike_more : ∀ {a b : Wd} {j : Nat} {x : UInt8}, j ≤ alikeW a b → a[j]? = some x → b[j]? = some x → j + 1 ≤ alikeW a b
  | [], _, _, _, _, h, _ => by simp at h
  | _ :: _, [], _, _, _, _, h => by simp at h
  | a :: p, b :: q, 0, x, _, h, k => by
    simp at h k
    subst h k
    unfold alikeW; rw [if_pos rfl]; omega
  | a :: p, b :: q, j + 1, x, hj, h, k => by
    unfold alikeW at hj ⊢
    by_cases e : a = b
    · rw [if_pos e] at hj ⊢
      have := alike_more (a := p) (b := q) (j := j) (x := x) (by omega) (by simpa using h) (by simpa using k)
      omega
    · rw [if_neg e] at hj; omega
theorem alike_lt : ∀ {a b : Wd} {j : Nat}, j < alikeW a b → a[j]? = b[j]?
  | [], b, j, h => by rw [alike_nil] at h; omega
  | _ :: _, [], j, h => by simp [alikeW] at h
  | a :: p, b :: q, j, h => by
    unfold alikeW at h
    by_cases e : a = b
    · rw [if_pos e] at h
      cases j with
      | zero => simp [e]
      | succ j => simpa using alike_lt (a := p) (b := q) (j := j) (by omega)
    · rw [if_neg e] at h; omega
theorem alike_here {a b : Wd} {j : Nat} (hj : j ≤ alikeW a b) (h : a.length ≤ j ∨ b.length ≤ j ∨ a[j]? ≠ b[j]?) : alikeW a b = j := by
  have hl := alike_le a b
  rcases Nat.lt_or_eq_of_le hj with h1 | h1
  · rcases h with h | h | h
    · omega
    · omega
    · exact absurd (alike_lt h1) h
  · exact h1.symm
theorem byte_at {a : Wd} {j : Nat} {x : UInt8} (hx : a[j]? = some x) (h : j < (⟨a.toArray⟩ : ByteArray).size) : (⟨a.toArray⟩ : ByteArray)[j]'h = x := by
  have h1 := (List.getElem?_eq_some_iff.1 hx).2
  exact h1
set_option maxRecDepth 100000 in
set_option maxHeartbeats 4000000 in
theorem ralike_any (a b : Wd) (w : World) (ha : a.length ≤ 140737488355328) (hb : b.length ≤ 140737488355328) :
    Calls Try.prog 55 #[strV a, strV b] w fun e w' => e = .returned (.int .i64 (alikeW a b : Nat)) ∧ ∃ m, w' = w.drewN m := by
  have hal := alike_le a b
  go_enter Try.func55, Try.ntmps55
  go_wp2_with fail
  go_loopw [5] (fun i wr => ∃ j : Nat, i = .int .i64 j ∧ j ≤ alikeW a b ∧ ∃ m, wr = w.drewN m) (fun i _ => (a.length - intOf i).toNat)
  case atStart => exact ⟨0, rfl, Nat.zero_le _, 0, rfl⟩
  case round =>
    obtain ⟨j, rfl, hj, m, hwr⟩ := hrel
    have Hw : Hid _ := hwr
    clear hwr
    by_cases h1 : j < a.length
    · have q1 : (j : Int) < a.length := by omega
      have q0 : (0 : Int) ≤ j := by omega
      by_cases h2 : j < b.length
      · have q2 : (j : Int) < b.length := by omega
        obtain ⟨x, hx⟩ : ∃ x, a[j]? = some x := ⟨_, List.getElem?_eq_getElem h1⟩
        obtain ⟨y, hy⟩ : ∃ y, b[j]? = some y := ⟨_, List.getElem?_eq_getElem h2⟩
        have ga : ∀ h, (⟨a.toArray⟩ : ByteArray)[j]'h = x := fun h => byte_at hx h
        have gb : ∀ h, (⟨b.toArray⟩ : ByteArray)[j]'h = y := fun h => byte_at hy h
        by_cases hq : x = y
        · subst hq
          have hM : Hid _ := alike_more hj hx hy
          clear hj hx hy
          go_wp2_with fail
          go_quiet (fail)
          go_wp2
          go_roundw
          case rel => exact ⟨j + 1, by go_num, hM.out, m + nq, by rw [Hw.out, World.drewN_drewN]⟩
          case measure => simp [intOf]; omega
        · have hE : Hid (alikeW a b = j) := alike_here hj (.inr (.inr (by rw [hx, hy]; simpa using hq)))
          have hqn : (((x.toNat : Nat) : Int) == (y.toNat : Nat)) = false := by
            rw [beq_eq_false_iff_ne]
            intro h
            exact hq (UInt8.toNat_inj.1 (by omega))
          clear hj hx hy hq
          go_wp2_with fail
          go_quiet (fail)
          go_wp2
          go_ret
          exact ⟨by rw [hE.out]; rfl, m + nq, by rw [Hw.out, World.drewN_drewN]⟩
      · have hE : Hid (alikeW a b = j) := alike_here hj (.inr (.inl (by omega)))
        have q2 : decide ((j : Int) < b.length) = false := by rw [decide_eq_false_iff_not]; omega
        clear hj
        go_wp2_with fail
        go_quiet (fail)
        go_wp2
        go_ret
        exact ⟨by rw [hE.out]; rfl, m + nq, by rw [Hw.out, World.drewN_drewN]⟩
    · have hE : Hid (alikeW a b = j) := alike_here hj (.inl (by omega))
      have q1 : decide ((j : Int) < a.length) = false := by rw [decide_eq_false_iff_not]; omega
      clear hj
      go_wp2_with fail
      go_quiet (fail)
      go_wp2
      go_ret
      exact ⟨by rw [hE.out]; rfl, m + nq, by rw [Hw.out, World.drewN_drewN]⟩
#print axioms ralike_any
end Go.Proofs.Ytgnhnhachhfafaa
