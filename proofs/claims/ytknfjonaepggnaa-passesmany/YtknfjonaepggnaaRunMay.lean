/- The landed run.May. -/
import Derived.Test.YtknfjonaepggnaaRef09All
namespace Go.Proofs.Ytknfjonaepggnaa
open Go.RowKit
set_option linter.unusedVariables false
set_option linter.unusedSimpArgs false

set_option maxRecDepth 100000 in
set_option maxHeartbeats 4000000 in
theorem may_any {w : World} {ao : Option Addr} {len cap : Nat} {es : List En} (h : ReadsE w ao len cap (cellsE es)) (hb : ∀ e ∈ es, e.2 ≤ 18446744073709551615) (hw : ∀ e ∈ es, e.1.length ≤ 140737488355328) :
    Calls Try.prog 30 #[.slice ao len cap] w fun e w' => e = .returned (.int .i64 (mayE es : Nat)) ∧ Below w.heap.size w w' := by
  have hm := Nat.le_trans h.le h.most
  unfold maxLen at hm
  have hlx := h.count
  subst hlx
  have hmi : (es.length : Int) ≤ 9223372036854775807 := by omega
  clear hm
  go_enter Try.func30, Try.ntmps30
  go_wp2_with fail
  go_loopw [8] (fun i wr => ∃ j : Nat, i = .int .i64 j ∧ j ≤ es.length ∧ Hid ((es.take j).all oneE = true) ∧ Below w.heap.size w wr) (fun i _ => (es.length - intOf i).toNat)
  case atStart => exact ⟨0, rfl, Nat.zero_le _, rfl, Below.refl _ _⟩
  case round =>
    obtain ⟨j, rfl, hj, hA, hB⟩ := hrel
    by_cases hjl : j < es.length
    · have hji : (j : Int) < es.length := by omega
      obtain ⟨b, off, rfl, hbl, hc⟩ := h.at (by omega)
      obtain ⟨⟨ek, en⟩, he⟩ : ∃ e, es[j]? = some e := ⟨_, List.getElem?_eq_getElem hjl⟩
      obtain ⟨c1', c2'⟩ := hc j _ he
      have c1 : wr.cell? ⟨b, off + j * 2, none⟩ = some (strV ek) := (hB.cell (p := ⟨b, off + j * 2, none⟩) hbl).trans c1'
      have c2 : wr.cell? ⟨b, off + j * 2 + 1, none⟩ = some (.int .u64 (en : Nat)) := (hB.cell (p := ⟨b, off + j * 2 + 1, none⟩) hbl).trans c2'
      have hbn := hb _ (List.mem_of_getElem? he)
      have hwn := hw _ (List.mem_of_getElem? he)
      simp only at hbn hwn
      have hs := hB.size
      have HB : Hid (Below w.heap.size w wr) := hB
      clear c1' c2' hB
      by_cases ho : oneE (ek, en) = true
      · have hA2 : Hid _ := all_take hA.out he ho
        obtain ⟨p1, p2, p3, p4⟩ := one_ok.1 ho
        simp only at p1 p2 p3 p4
        have i0 : List.isEmpty ek = false := by cases ek with
          | nil => simp at p1
          | cons => rfl
        have i1 : ¬ (ek.length : Int) < 1 := by omega
        have i2 : ¬ (255 : Int) < ek.length := by omega
        have i3 : ¬ (en : Int) < 1 := by omega
        have i4 : ¬ (4611686018427387904 : Int) < en := by omega
        clear hc hA ho he p1 p2 p3 p4
        go_wp2
        go_roundw
        case rel => exact ⟨j + 1, by go_num, by omega, hA2, (HB.out.alloc hs _)⟩
        case measure => simp [intOf]; omega
      · have hE : Hid _ := all_not he ho
        have hsp : List.isEmpty ek = true ∨ (List.isEmpty ek = false ∧ (255 : Int) < ek.length) ∨ (List.isEmpty ek = false ∧ ¬ (255 : Int) < ek.length ∧ (en : Int) < 1) ∨ (List.isEmpty ek = false ∧ ¬ (255 : Int) < ek.length ∧ ¬ (en : Int) < 1 ∧ (4611686018427387904 : Int) < en) := by
          have h1 : ¬ (1 ≤ ek.length ∧ ek.length ≤ 255 ∧ 1 ≤ en ∧ en ≤ 4611686018427387904) := fun hh => ho (one_ok.2 hh)
          cases hk : List.isEmpty ek with
          | true => exact .inl rfl
          | false =>
            have : 1 ≤ ek.length := by cases ek with
              | nil => simp at hk
              | cons => simp
            right
            simp only [true_and]
            omega
        clear hc hA ho he
        rcases hsp with i1 | ⟨i1, i2⟩ | ⟨i1, i2, i3⟩ | ⟨i1, i2, i3, i4⟩
        all_goals go_wp2
        all_goals (go_ret; exact ⟨by rw [hE.out]; rfl, HB.out.alloc hs _⟩)
    · have hje : j = es.length := by omega
      have hall : Hid (es.all oneE = true) := by have := hA.out; rw [hje, List.take_of_length_le (Nat.le_refl _)] at this; exact this
      have hlt : ¬ (j : Int) < es.length := by omega
      have hs := hB.size
      have HB : Hid (Below w.heap.size w wr) := hB
      clear hA hje hjl hB
      obtain ⟨w1, rfl⟩ : ∃ w1, w1 = wr := ⟨_, rfl⟩
      go_wp2_with fail
      go_loopw [5] (fun i wq => ∃ j : Nat, i = .int .i64 j ∧ 1 ≤ j ∧ j ≤ es.length + 1 ∧ Hid (∀ (i : Nat) a b, i + 1 < j → es[i]? = some a → es[i + 1]? = some b → lessB a.1 b.1 = true) ∧ ∃ m, wq = w1.drewN m) (fun i _ => (es.length + 1 - intOf i).toNat)
      case atStart => exact ⟨1, rfl, Nat.le_refl _, by omega, fun i a b h => by omega, 0, rfl⟩
      case round =>
        obtain ⟨k, rfl, hk1, hk2, hU, m, hwr⟩ := hrel
        have Hw : Hid _ := hwr
        clear hwr
        by_cases hkl : k < es.length
        · obtain ⟨k', rfl⟩ : ∃ k', k = k' + 1 := ⟨k - 1, by omega⟩
          obtain ⟨⟨ak, an⟩, ha⟩ : ∃ e, es[k']? = some e := ⟨_, List.getElem?_eq_getElem (by omega)⟩
          obtain ⟨⟨bk, bn⟩, hb'⟩ : ∃ e, es[k' + 1]? = some e := ⟨_, List.getElem?_eq_getElem hkl⟩
          obtain ⟨b, off, rfl, hbl, hc⟩ := h.at (by omega)
          have c1 : wr.cell? ⟨b, off + k' * 2, none⟩ = some (strV ak) := by rw [Hw.out]; exact (HB.out.cell (p := ⟨b, off + k' * 2, none⟩) hbl).trans (hc k' _ ha).1
          have c2 : wr.cell? ⟨b, off + (k' + 1) * 2, none⟩ = some (strV bk) := by rw [Hw.out]; exact (HB.out.cell (p := ⟨b, off + (k' + 1) * 2, none⟩) hbl).trans (hc (k' + 1) _ hb').1
          have hki : ((k' : Int) + 1) < es.length := by omega
          have hki2 : (k' : Int) < es.length := by omega
          have hki3 : (0 : Int) ≤ k' := by omega
          clear hc
          cases hl : lessB ak bk with
          | true =>
            have hU2 : Hid (∀ (i : Nat) a b, i + 1 < k' + 1 + 1 → es[i]? = some a → es[i + 1]? = some b → lessB a.1 b.1 = true) := by
              show ∀ (i : Nat) a b, _
              intro i x y hi hx hy
              rcases Nat.lt_or_ge (i + 1) (k' + 1) with h1 | h1
              · exact hU.out i x y h1 hx hy
              · have hik : i = k' := by omega
                subst hik
                rw [ha] at hx
                rw [hb'] at hy
                cases hx
                cases hy
                exact hl
            have o1 : lessB bk ak = false := less_asymm _ _ hl
            have o2 : (bk == ak) = false := by rw [beq_eq_false_iff_ne]; exact (less_ne hl).symm
            clear hU ha hb'
            go_wp2_with fail
            go_quiet (fail)
            go_wp2
            go_roundw
            case rel => exact ⟨k' + 1 + 1, by go_num, by omega, by omega, hU2, m + nq, by rw [Hw.out, World.drewN_drewN]⟩
            case measure => simp [intOf]; omega
          | false =>
            have hE : Hid _ := ups_not hall.out ha hb' hl
            have o3 : (lessB bk ak || bk == ak) = true := by
              cases o1 : lessB bk ak with
              | true => rfl
              | false => simp [less_tri _ _ o1 hl]
            have o4 : ¬ (lessB bk ak = false ∧ (bk == ak) = false) := fun hh => by rw [hh.1, hh.2] at o3; cases o3
            clear hU ha hb'
            go_wp2_with fail
            go_quiet (fail)
            go_wp2
            all_goals first | (exfalso; exact o4 (by assumption)) | skip
            go_ret
            exact ⟨by rw [hE.out]; rfl, by rw [Hw.out]; exact below_drewN (below_drewN HB.out _) _⟩
        · have hE : Hid (mayE es = 0) := may_zero.2 ⟨hall.out, (ups_iff es).2 fun i a b hx hy => hU.out i a b (by have := (List.getElem?_eq_some_iff.1 hy).1; omega) hx hy⟩
          have hlt2 : ¬ (k : Int) < es.length := by omega
          clear hU
          go_wp2
          go_ret
          exact ⟨by rw [hE.out]; rfl, by rw [Hw.out]; exact below_drewN HB.out _⟩
#print axioms may_any

set_option maxRecDepth 100000 in
set_option maxHeartbeats 4000000 in
theorem shared_any (a b : Wd) (w : World) (ha : a.length ≤ 140737488355328) (hb : b.length ≤ 140737488355328) :
    Calls Try.prog 66 #[strV a, strV b] w fun e w' => e = .returned (.int .i64 (alikeW a b : Nat)) ∧ ∃ m, w' = w.drewN m := by
  have hal := alike_le a b
  go_enter Try.func66, Try.ntmps66
  go_wp2_with fail
  go_loopw [5] (fun i wr => ∃ j : Nat, i = .int .i64 j ∧ j ≤ alikeW a b ∧ ∃ m, wr = w.drewN m) (fun i _ => (a.length - intOf i).toNat)
  case atStart => exact ⟨0, rfl, Nat.zero_le _, 0, rfl⟩
  case round =>
    obtain ⟨j, rfl, hj, m, hwr⟩ := hrel
    have Hw : Hid _ := hwr
    clear hwr
    by_cases h1 : j < a.length
    · have q1 : (j : Int) < a.length := by omega
      have q0 : (0 : Int) ≤ j := by omega
      by_cases h2 : j < b.length
      · have q2 : (j : Int) < b.length := by omega
        obtain ⟨x, hx⟩ : ∃ x, a[j]? = some x := ⟨_, List.getElem?_eq_getElem h1⟩
        obtain ⟨y, hy⟩ : ∃ y, b[j]? = some y := ⟨_, List.getElem?_eq_getElem h2⟩
        have ga : ∀ h, (⟨a.toArray⟩ : ByteArray)[j]'h = x := fun h => byte_at hx h
        have gb : ∀ h, (⟨b.toArray⟩ : ByteArray)[j]'h = y := fun h => byte_at hy h
        by_cases hq : x = y
        · subst hq
          have hM : Hid _ := alike_more hj hx hy
          clear hj hx hy
          go_wp2_with fail
          go_quiet (fail)
          go_wp2
          go_roundw
          case rel => exact ⟨j + 1, by go_num, hM.out, m + nq, by rw [Hw.out, World.drewN_drewN]⟩
          case measure => simp [intOf]; omega
        · have hE : Hid (alikeW a b = j) := alike_here hj (.inr (.inr (by rw [hx, hy]; simpa using hq)))
          have hqn : (((x.toNat : Nat) : Int) == (y.toNat : Nat)) = false := by
            rw [beq_eq_false_iff_ne]
            intro h
            exact hq (UInt8.toNat_inj.1 (by omega))
          clear hj hx hy hq
          go_wp2_with fail
          go_quiet (fail)
          go_wp2
          go_ret
          exact ⟨by rw [hE.out]; rfl, m + nq, by rw [Hw.out, World.drewN_drewN]⟩
      · have hE : Hid (alikeW a b = j) := alike_here hj (.inr (.inl (by omega)))
        have q2 : decide ((j : Int) < b.length) = false := by rw [decide_eq_false_iff_not]; omega
        clear hj
        go_wp2_with fail
        go_quiet (fail)
        go_wp2
        go_ret
        exact ⟨by rw [hE.out]; rfl, m + nq, by rw [Hw.out, World.drewN_drewN]⟩
    · have hE : Hid (alikeW a b = j) := alike_here hj (.inl (by omega))
      have q1 : decide ((j : Int) < a.length) = false := by rw [decide_eq_false_iff_not]; omega
      clear hj
      go_wp2_with fail
      go_quiet (fail)
      go_wp2
      go_ret
      exact ⟨by rw [hE.out]; rfl, m + nq, by rw [Hw.out, World.drewN_drewN]⟩
#print axioms shared_any
end Go.Proofs.Ytknfjonaepggnaa
