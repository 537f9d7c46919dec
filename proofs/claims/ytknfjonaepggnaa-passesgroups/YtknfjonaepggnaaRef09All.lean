/- The document's own answers for runs: May, Alike. The document's own Block. The document's own Encode. The document's own take. -/
import Derived.Test.YtknfjonaepggnaaEnAll
import Derived.Test.YtknfjonaepggnaaRunMathAll
import Derived.Deep.QuietTactic
import Derived.BigQuiet
import Derived.Test.YtknfjonaepggnaaNumAll
import Derived.Test.YtknfjonaepggnaaFound
import Derived.Lib.AppendStr
import Derived.Deep.RegionHeld
import Derived.Deep.CutRange
import Derived.Test.YtknfjonaepggnaaFrameAll
namespace Go.Proofs.Ytknfjonaepggnaa
open Go.RowKit
set_option linter.unusedVariables false
set_option linter.unusedSimpArgs false

theorem ups_iff : ∀ (l : List En), upsE l = true ↔ ∀ (i : Nat) a b, l[i]? = some a → l[i + 1]? = some b → lessB a.1 b.1 = true
  | [] => by simp [upsE]
  | [a] => by simp [upsE]
  | a :: b :: l => by
    rw [upsE, Bool.and_eq_true, ups_iff (b :: l)]
    constructor
    · rintro ⟨h1, h2⟩ i x y hx hy
      cases i with
      | zero => simp at hx hy; subst hx hy; exact h1
      | succ i => exact h2 i x y (by simpa using hx) (by simpa using hy)
    · intro h
      exact ⟨h 0 a b rfl rfl, fun i x y hx hy => h (i + 1) x y (by simpa using hx) (by simpa using hy)⟩
theorem all_take {l : List En} {j : Nat} {e : En} (h : (l.take j).all oneE = true) (he : l[j]? = some e) (ho : oneE e = true) : (l.take (j + 1)).all oneE = true := by
  rw [List.take_add_one, he, List.all_append, h]; simp [ho]
theorem all_not {l : List En} {j : Nat} {e : En} (he : l[j]? = some e) (ho : ¬ oneE e = true) : mayE l = 1 := by
  unfold mayE
  rw [if_neg]
  intro h
  exact ho (List.all_eq_true.1 h e (List.mem_of_getElem? he))
theorem ups_not {l : List En} {i : Nat} {a b : En} (hall : l.all oneE = true) (ha : l[i]? = some a) (hb : l[i + 1]? = some b) (h : lessB a.1 b.1 = false) : mayE l = 9 := by
  unfold mayE
  rw [if_pos hall, if_neg]
  intro hu
  rw [(ups_iff l).1 hu i a b ha hb] at h; cases h

set_option maxRecDepth 100000 in
set_option maxHeartbeats 4000000 in
theorem rmay_any {w : World} {ao : Option Addr} {len cap : Nat} {es : List En} (h : ReadsE w ao len cap (cellsE es)) (hb : ∀ e ∈ es, e.2 ≤ 18446744073709551615) (hw : ∀ e ∈ es, e.1.length ≤ 140737488355328) :
    Calls Try.prog 39 #[.slice ao len cap] w fun e w' => e = .returned (.int .i64 (mayE es : Nat)) ∧ ∃ m, w' = w.drewN m := by
  have hm := Nat.le_trans h.le h.most
  unfold maxLen at hm
  have hlx := h.count
  subst hlx
  have hmi : (es.length : Int) ≤ 9223372036854775807 := by omega
  clear hm
  go_enter Try.func39, Try.ntmps39
  go_wp2_with fail
  go_loop [3] (fun i => ∃ j : Nat, i = .int .i64 j ∧ j ≤ es.length ∧ Hid ((es.take j).all oneE = true)) (fun i => (es.length - intOf i).toNat)
  case atStart => exact ⟨0, rfl, Nat.zero_le _, rfl⟩
  case round =>
    obtain ⟨j, rfl, hj, hA⟩ := hrel
    by_cases hjl : j < es.length
    · have hji : (j : Int) < es.length := by omega
      obtain ⟨b, off, rfl, _, hc⟩ := h.at (by omega)
      obtain ⟨⟨ek, en⟩, he⟩ : ∃ e, es[j]? = some e := ⟨_, List.getElem?_eq_getElem hjl⟩
      obtain ⟨c1, c2⟩ := hc j _ he
      have hbn := hb _ (List.mem_of_getElem? he)
      have hwn := hw _ (List.mem_of_getElem? he)
      simp only at c1 c2 hbn hwn
      by_cases ho : oneE (ek, en) = true
      · have hA2 : Hid _ := all_take hA.out he ho
        obtain ⟨p1, p2, p3, p4⟩ := one_ok.1 ho
        simp only at p1 p2 p3 p4
        have i1 : ¬ (ek.length : Int) < 1 := by omega
        have i2 : ¬ (255 : Int) < ek.length := by omega
        have i3 : ¬ (en : Int) < 1 := by omega
        have i4 : (en : Int) ≤ 4611686018427387904 := by omega
        clear hc hA ho he p1 p2 p3 p4
        go_wp2
        go_round
        case rel => exact ⟨j + 1, by go_num, by omega, hA2⟩
        case measure => simp [intOf]; omega
      · have hE : Hid _ := all_not he ho
        have hsp : (ek.length : Int) < 1 ∨ (1 ≤ (ek.length : Int) ∧ 255 < (ek.length : Int)) ∨ (1 ≤ (ek.length : Int) ∧ (ek.length : Int) ≤ 255 ∧ (en : Int) < 1) ∨ (1 ≤ (ek.length : Int) ∧ (ek.length : Int) ≤ 255 ∧ 1 ≤ (en : Int) ∧ decide ((en : Int) ≤ 4611686018427387904) = false) := by
          have h1 : ¬ (1 ≤ ek.length ∧ ek.length ≤ 255 ∧ 1 ≤ en ∧ en ≤ 4611686018427387904) := fun hh => ho (one_ok.2 hh)
          rw [decide_eq_false_iff_not]
          omega
        clear hc hA ho he
        rcases hsp with i1 | ⟨i1, i2⟩ | ⟨i1, i2, i3⟩ | ⟨i1, i2, i3, i4⟩
        all_goals go_wp2
        all_goals first | (go_ret; exact ⟨by rw [hE.out]; rfl, 0, rfl⟩) | (exfalso; rw [decide_eq_false_iff_not] at i4; omega)
    · have hje : j = es.length := by omega
      have hall : Hid (es.all oneE = true) := by have := hA.out; rw [hje, List.take_of_length_le (Nat.le_refl _)] at this; exact this
      have hlt : ¬ (j : Int) < es.length := by omega
      clear hA hje hjl
      go_wp2_with fail
      go_loopw [5] (fun i wr => ∃ j : Nat, i = .int .i64 j ∧ 1 ≤ j ∧ j ≤ es.length + 1 ∧ Hid (∀ (i : Nat) a b, i + 1 < j → es[i]? = some a → es[i + 1]? = some b → lessB a.1 b.1 = true) ∧ ∃ m, wr = w.drewN m) (fun i _ => (es.length + 1 - intOf i).toNat)
      case atStart => exact ⟨1, rfl, Nat.le_refl _, by omega, fun i a b h => by omega, 0, rfl⟩
      case round =>
        obtain ⟨k, rfl, hk1, hk2, hU, m, hwr⟩ := hrel
        have Hw : Hid _ := hwr
        clear hwr
        by_cases hkl : k < es.length
        · obtain ⟨k', rfl⟩ : ∃ k', k = k' + 1 := ⟨k - 1, by omega⟩
          obtain ⟨⟨ak, an⟩, ha⟩ : ∃ e, es[k']? = some e := ⟨_, List.getElem?_eq_getElem (by omega)⟩
          obtain ⟨⟨bk, bn⟩, hb'⟩ : ∃ e, es[k' + 1]? = some e := ⟨_, List.getElem?_eq_getElem hkl⟩
          obtain ⟨b, off, rfl, _, hc⟩ := h.at (by omega)
          have c1 : wr.cell? ⟨b, off + k' * 2, none⟩ = some (strV ak) := by rw [Hw.out]; exact (hc k' _ ha).1
          have c2 : wr.cell? ⟨b, off + (k' + 1) * 2, none⟩ = some (strV bk) := by rw [Hw.out]; exact (hc (k' + 1) _ hb').1
          have hki : ((k' : Int) + 1) < es.length := by omega
          have hki2 : (k' : Int) < es.length := by omega
          have hki3 : (0 : Int) ≤ k' := by omega
          clear hc
          cases hl : lessB ak bk with
          | true =>
            have hU2 : Hid (∀ (i : Nat) a b, i + 1 < k' + 1 + 1 → es[i]? = some a → es[i + 1]? = some b → lessB a.1 b.1 = true) := by
              show ∀ (i : Nat) a b, _
              intro i x y hi hx hy
              rcases Nat.lt_or_ge (i + 1) (k' + 1) with h1 | h1
              · exact hU.out i x y h1 hx hy
              · have hik : i = k' := by omega
                subst hik
                rw [ha] at hx
                rw [hb'] at hy
                cases hx
                cases hy
                exact hl
            clear hU ha hb'
            go_wp2_with fail
            go_quiet (fail)
            go_wp2
            go_roundw
            case rel => exact ⟨k' + 1 + 1, by go_num, by omega, by omega, hU2, m + nq, by rw [Hw.out, World.drewN_drewN]⟩
            case measure => simp [intOf]; omega
          | false =>
            have hE : Hid _ := ups_not hall.out ha hb' hl
            clear hU ha hb'
            go_wp2_with fail
            go_quiet (fail)
            go_wp2
            go_ret
            exact ⟨by rw [hE.out]; rfl, m + nq, by rw [Hw.out, World.drewN_drewN]⟩
        · have hE : Hid (mayE es = 0) := may_zero.2 ⟨hall.out, (ups_iff es).2 fun i a b hx hy => hU.out i a b (by have := (List.getElem?_eq_some_iff.1 hy).1; omega) hx hy⟩
          have hlt2 : ¬ (k : Int) < es.length := by omega
          clear hU
          go_wp2
          go_ret
          exact ⟨by rw [hE.out]; rfl, m, Hw.out⟩
#print axioms rmay_any

theorem alike_more : ∀ {a b : Wd} {j : Nat} {x : UInt8}, j ≤ alikeW a b → a[j]? = some x → b[j]? = some x → j + 1 ≤ alikeW a b
  | [], _, _, _, _, h, _ => by simp at h
  | _ :: _, [], _, _, _, _, h => by simp at h
  | a :: p, b :: q, 0, x, _, h, k => by
    simp at h k
    subst h k
    unfold alikeW; rw [if_pos rfl]; omega
  | a :: p, b :: q, j + 1, x, hj, h, k => by
    unfold alikeW at hj ⊢
    by_cases e : a = b
    · rw [if_pos e] at hj ⊢
      have := alike_more (a := p) (b := q) (j := j) (x := x) (by omega) (by simpa using h) (by simpa using k)
      omega
    · rw [if_neg e] at hj; omega
theorem alike_lt : ∀ {a b : Wd} {j : Nat}, j < alikeW a b → a[j]? = b[j]?
  | [], b, j, h => by rw [alike_nil] at h; omega
  | _ :: _, [], j, h => by simp [alikeW] at h
  | a :: p, b :: q, j, h => by
    unfold alikeW at h
    by_cases e : a = b
    · rw [if_pos e] at h
      cases j with
      | zero => simp [e]
      | succ j => simpa using alike_lt (a := p) (b := q) (j := j) (by omega)
    · rw [if_neg e] at h; omega
theorem alike_here {a b : Wd} {j : Nat} (hj : j ≤ alikeW a b) (h : a.length ≤ j ∨ b.length ≤ j ∨ a[j]? ≠ b[j]?) : alikeW a b = j := by
  have hl := alike_le a b
  rcases Nat.lt_or_eq_of_le hj with h1 | h1
  · rcases h with h | h | h
    · omega
    · omega
    · exact absurd (alike_lt h1) h
  · exact h1.symm
theorem byte_at {a : Wd} {j : Nat} {x : UInt8} (hx : a[j]? = some x) (h : j < (⟨a.toArray⟩ : ByteArray).size) : (⟨a.toArray⟩ : ByteArray)[j]'h = x := by
  have h1 := (List.getElem?_eq_some_iff.1 hx).2
  exact h1
set_option maxRecDepth 100000 in
set_option maxHeartbeats 4000000 in
theorem ralike_any (a b : Wd) (w : World) (ha : a.length ≤ 140737488355328) (hb : b.length ≤ 140737488355328) :
    Calls Try.prog 61 #[strV a, strV b] w fun e w' => e = .returned (.int .i64 (alikeW a b : Nat)) ∧ ∃ m, w' = w.drewN m := by
  have hal := alike_le a b
  go_enter Try.func61, Try.ntmps61
  go_wp2_with fail
  go_loopw [5] (fun i wr => ∃ j : Nat, i = .int .i64 j ∧ j ≤ alikeW a b ∧ ∃ m, wr = w.drewN m) (fun i _ => (a.length - intOf i).toNat)
  case atStart => exact ⟨0, rfl, Nat.zero_le _, 0, rfl⟩
  case round =>
    obtain ⟨j, rfl, hj, m, hwr⟩ := hrel
    have Hw : Hid _ := hwr
    clear hwr
    by_cases h1 : j < a.length
    · have q1 : (j : Int) < a.length := by omega
      have q0 : (0 : Int) ≤ j := by omega
      by_cases h2 : j < b.length
      · have q2 : (j : Int) < b.length := by omega
        obtain ⟨x, hx⟩ : ∃ x, a[j]? = some x := ⟨_, List.getElem?_eq_getElem h1⟩
        obtain ⟨y, hy⟩ : ∃ y, b[j]? = some y := ⟨_, List.getElem?_eq_getElem h2⟩
        have ga : ∀ h, (⟨a.toArray⟩ : ByteArray)[j]'h = x := fun h => byte_at hx h
        have gb : ∀ h, (⟨b.toArray⟩ : ByteArray)[j]'h = y := fun h => byte_at hy h
        by_cases hq : x = y
        · subst hq
          have hM : Hid _ := alike_more hj hx hy
          clear hj hx hy
          go_wp2_with fail
          go_quiet (fail)
          go_wp2
          go_roundw
          case rel => exact ⟨j + 1, by go_num, hM.out, m + nq, by rw [Hw.out, World.drewN_drewN]⟩
          case measure => simp [intOf]; omega
        · have hE : Hid (alikeW a b = j) := alike_here hj (.inr (.inr (by rw [hx, hy]; simpa using hq)))
          have hqn : (((x.toNat : Nat) : Int) == (y.toNat : Nat)) = false := by
            rw [beq_eq_false_iff_ne]
            intro h
            exact hq (UInt8.toNat_inj.1 (by omega))
          clear hj hx hy hq
          go_wp2_with fail
          go_quiet (fail)
          go_wp2
          go_ret
          exact ⟨by rw [hE.out]; rfl, m + nq, by rw [Hw.out, World.drewN_drewN]⟩
      · have hE : Hid (alikeW a b = j) := alike_here hj (.inr (.inl (by omega)))
        have q2 : decide ((j : Int) < b.length) = false := by rw [decide_eq_false_iff_not]; omega
        clear hj
        go_wp2_with fail
        go_quiet (fail)
        go_wp2
        go_ret
        exact ⟨by rw [hE.out]; rfl, m + nq, by rw [Hw.out, World.drewN_drewN]⟩
    · have hE : Hid (alikeW a b = j) := alike_here hj (.inl (by omega))
      have q1 : decide ((j : Int) < a.length) = false := by rw [decide_eq_false_iff_not]; omega
      clear hj
      go_wp2_with fail
      go_quiet (fail)
      go_wp2
      go_ret
      exact ⟨by rw [hE.out]; rfl, m + nq, by rw [Hw.out, World.drewN_drewN]⟩
#print axioms ralike_any
end Go.Proofs.Ytknfjonaepggnaa

namespace Go.Proofs.Ytknfjonaepggnaa
open Go.RowKit
set_option linter.unusedVariables false
set_option linter.unusedSimpArgs false

def lastW : Wd → List En → Wd
  | was, [] => was
  | _, e :: l => lastW e.1 l
theorem ents_snoc : ∀ (l : List En) (was : Wd) (e : En), entsL was (l ++ [e]) = entsL was l ++ entL (lastW was l) e
  | [], was, e => by simp [entsL, lastW]
  | a :: l, was, e => by simp only [List.cons_append, entsL, lastW]; rw [ents_snoc l a.1 e, List.append_assoc]
theorem last_snoc : ∀ (l : List En) (was : Wd) (e : En), lastW was (l ++ [e]) = e.1
  | [], _, _ => rfl
  | a :: l, was, e => by simp only [List.cons_append, lastW]; exact last_snoc l a.1 e
theorem last_take {l : List En} {j : Nat} {e : En} (h : l[j]? = some e) : lastW [] (l.take (j + 1)) = e.1 := by
  rw [List.take_add_one, h]; exact last_snoc _ _ _
theorem ents_next {l : List En} {j : Nat} {e : En} (h : l[j]? = some e) : entsL [] (l.take (j + 1)) = entsL [] (l.take j) ++ entL (lastW [] (l.take j)) e := by
  rw [List.take_add_one, h]; exact ents_snoc _ _ _
theorem str_cells (k : Wd) : Lib.strCells (⟨k.toArray⟩ : ByteArray) = (bytesI k).map (.int .u8) := by
  simp [Lib.strCells, bytesI, List.map_map, Function.comp_def]
theorem str_from (k : Wd) (n : Nat) : (⟨k.toArray⟩ : ByteArray).extract n (⟨k.toArray⟩ : ByteArray).size = ⟨(k.drop n).toArray⟩ := by
  apply ByteArray.ext
  simp [ByteArray.size]
  rw [List.take_of_length_le (by simp)]

theorem own1_slice {w : World} {base e n : Nat} {v : Value} {xs : List Value} (h : w.ownsRow base e 1 v n xs) : ∃ ao cap, v = .slice ao n cap := by
  rcases h.2 with ⟨h1, h2⟩ | ⟨g, cap, cur, h1, _⟩
  · exact ⟨none, 0, by rw [h1, h2]⟩
  · exact ⟨_, cap, h1⟩
/-- Bytes, in memory of the call's own. -/
def BytesOut (w : World) (bs : List Int) (e : Ending) (w' : World) : Prop := ∃ ag c m, e = .returned (.slice ag m c) ∧ m = bs.length ∧ w'.ownsRow w.heap.size 5 1 (.slice ag m c) m (bs.map (.int .u8)) ∧ Below w.heap.size w w'
set_option maxRecDepth 100000 in
set_option maxHeartbeats 2000000 in
theorem rblock_any {w : World} {ao : Option Addr} {len cap : Nat} {es : List En} (h : ReadsE w ao len cap (cellsE es)) (ho : ∀ e ∈ es, oneE e = true) (hl : len ≤ 255) :
    Calls Try.prog 43 #[.slice ao len cap] w fun e w' => BytesOut w (blockL es) e w' := by
  have hlx := h.count
  subst hlx
  obtain ⟨i0, hi, hz0, hz1, hz2⟩ := info_parts Try.infoByte
  have p0 := rput_any none 0 0 [] es.length w (Reads.nil w) (by omega) (by omega)
  rw [List.nil_append] at p0
  go_enter Try.func43, Try.ntmps43
  go_wp2_with fail
  refine p0.mono ?_
  rintro e wa ⟨ag, c, m, hm, rfl, hra, hba⟩
  clear hm
  have hra' : wa.ownsRow w.heap.size 5 1 (.slice ag m c) m ((encode es.length ++ entsL [] (es.take 0)).map (.int .u8)) := by simpa [entsL] using hra
  clear p0 hra
  go_wp2_with fail
  go_loopw [3, 4] (fun bv i wr => ∃ (j : Nat) (ag : Option Addr) (c m : Nat), i = .int .i64 j ∧ bv = .slice ag m c ∧ j ≤ es.length ∧ wr.ownsRow w.heap.size 5 1 (.slice ag m c) m ((encode es.length ++ entsL [] (es.take j)).map (.int .u8)) ∧ Below w.heap.size w wr) (fun _ i _ => (es.length - intOf i).toNat)
  case atStart => exact ⟨0, ag, c, m, rfl, rfl, by omega, hra', hba⟩
  case round =>
    obtain ⟨j, ag, c, m, rfl, rfl, hj, hr, hB⟩ := hrel
    clear hra' hba
    have hlen : m = (encode es.length ++ entsL [] (es.take j)).length := by have := hr.1; simp at this ⊢; omega
    have hsm : m ≤ 100000 := by
      have h1 := ents_len (es.take j) [] fun e he => ho e (List.mem_of_mem_take he)
      have h2 := encode_len es.length
      rw [List.length_take] at h1
      rw [hlen, List.length_append]
      omega
    have Hlen : Hid _ := hlen
    clear hlen
    by_cases hjl : j < es.length
    case neg =>
      have hje : j = es.length := by omega
      have hE : Hid (encode es.length ++ entsL [] (es.take j) = blockL es) := by show _ = _; rw [hje, List.take_of_length_le (Nat.le_refl _)]; rfl
      have hlt : ¬ (j : Int) < es.length := by omega
      clear hje hjl
      rw [hE.out] at hr Hlen
      go_wp2
      go_ret
      exact ⟨ag, c, m, rfl, Hlen.out, hr, hB⟩
    have hji : (j : Int) < es.length := by omega
    obtain ⟨⟨ek, en⟩, he⟩ : ∃ e, es[j]? = some e := ⟨_, List.getElem?_eq_getElem hjl⟩
    have hone := one_ok.1 (ho _ (List.mem_of_getElem? he))
    simp only at hone
    obtain ⟨b, off, rfl, hbl, hc⟩ := h.at (by omega)
    have hcell : ∀ W, Below w.heap.size w W → W.cell? ⟨b, off + j * 2, none⟩ = some (strV ek) ∧ W.cell? ⟨b, off + j * 2 + 1, none⟩ = some (.int .u64 (en : Nat)) := fun W hW =>
      ⟨(hW.cell (p := ⟨b, off + j * 2, none⟩) hbl).trans (hc j _ he).1, (hW.cell (p := ⟨b, off + j * 2 + 1, none⟩) hbl).trans (hc j _ he).2⟩
    have hnext : Hid (encode es.length ++ entsL [] (es.take (j + 1)) = (encode es.length ++ entsL [] (es.take j)) ++ entL (lastW [] (es.take j)) (ek, en)) := by show _ = _; rw [ents_next he, List.append_assoc]
    -- the shared begin
    generalize hwas : lastW [] (es.take j) = was at hnext
    have hwl : was.length ≤ 255 := by
      rw [← hwas]
      cases j with
      | zero => simp [lastW]
      | succ j' =>
        obtain ⟨e', he'⟩ : ∃ e, es[j']? = some e := ⟨_, List.getElem?_eq_getElem (by omega)⟩
        rw [last_take he']
        exact (one_ok.1 (ho _ (List.mem_of_getElem? he'))).2.1
    have hal := alike_le was ek
    have A1 : Hid (∃ N, N = alikeW was ek) := ⟨_, rfl⟩
    obtain ⟨N, hN⟩ := A1.out
    have HN : Hid _ := hN
    have hNe : N ≤ ek.length := by omega
    have hNi : (N : Int) ≤ ek.length := by omega
    have hwr : IntKind.i64.wrap ((ek.length : Int) - N) = ((ek.length - N : Nat) : Int) := by simp [IntKind.wrap, IntKind.bits, IntKind.signed]; omega
    have hsub : (ek.length : Int) - N = ((ek.length - N : Nat) : Int) := by omega
    have hsl : ∀ W, (Instr.slice 9 (strV ek) (some (.int .i64 (N : Int))) none none).run Try.prog W = .ok (strV (ek.drop N)) W := fun W => by
      rw [run_slice_string_l W 9 _ Try.underlying9 .i64 (N : Int) (by omega) (by simp [ByteArray.size]; omega), Int.toNat_natCast, str_from]
    have hc1 : ∀ W, Below w.heap.size w W → W.cell? ⟨b, off + j * 2, none⟩ = some (strV ek) := fun W hW => (hcell W hW).1
    have hc2 : ∀ W, Below w.heap.size w W → W.cell? ⟨b, off + j * 2 + 1, none⟩ = some (.int .u64 (en : Nat)) := fun W hW => (hcell W hW).2
    go_upto_if 17 with (fail)
    go_cut [5] from 10 to 60 (fun nv wq => nv = .int .i64 (N : Nat) ∧ wq.ownsRow w.heap.size 5 1 (.slice ag m c) m ((encode es.length ++ entsL [] (es.take j)).map (.int .u8)) ∧ Below w.heap.size w wq)
    case first =>
      rcases Nat.eq_zero_or_pos j with hj0 | hj0
      · have hN0 : N = 0 := by rw [hN, ← hwas, hj0]; simp [lastW, alike_nil]
        have hj0i : ¬ (0 : Int) < j := by omega
        have HN0 : Hid _ := hN0
        clear hN hwas hal hcell hc hj0 hN0
        go_wp2_with fail
        go_meet
        case rel => exact ⟨by rw [HN0.out]; rfl, hr, hB⟩
      · obtain ⟨j', rfl⟩ : ∃ j', j = j' + 1 := ⟨j - 1, by omega⟩
        obtain ⟨⟨pk, pn⟩, hp'⟩ : ∃ e, es[j']? = some e := ⟨_, List.getElem?_eq_getElem (by omega)⟩
        have hpw : was = pk := by rw [← hwas, last_take hp']
        subst hpw
        have hone' := one_ok.1 (ho _ (List.mem_of_getElem? hp'))
        simp only at hone'
        have hra : ∀ W, Calls Try.prog 61 #[strV was, strV ek] W fun e w' => e = .returned (.int .i64 (N : Nat)) ∧ ∃ m, w' = W.drewN m := fun W => by
          have := ralike_any was ek W (by omega) (by omega)
          rw [← hN] at this
          exact this
        have hcp : ∀ W, Below w.heap.size w W → W.cell? ⟨b, off + j' * 2, none⟩ = some (strV was) := fun W hW => (hW.cell (p := ⟨b, off + j' * 2, none⟩) hbl).trans (hc j' _ hp').1
        have d1 := hc1 _ hB
        have d2 := hcp _ hB
        have e1 : ∀ W, Below wr.heap.size wr W → W.cell? ⟨b, off + (j' + 1) * 2, none⟩ = some (strV ek) := fun W hW => hc1 W (Below.trans hB (hW.mono hB.size))
        have e2 : ∀ W, Below wr.heap.size wr W → W.cell? ⟨b, off + j' * 2, none⟩ = some (strV was) := fun W hW => hcp W (Below.trans hB (hW.mono hB.size))
        have x1 : IntKind.i64.wrap ((j' : Int) + 1 - 1) = j' := by simp [IntKind.wrap, IntKind.bits, IntKind.signed]; omega
        have x2 : IntKind.i64.wrap (j' : Int) = j' := by simp [IntKind.wrap, IntKind.bits, IntKind.signed]; omega
        have x3 : (j' : Int) < es.length := by omega
        have x4 : (0 : Int) ≤ j' := by omega
        have x5 : (0 : Int) < (j' : Int) + 1 := by omega
        have x6 : (j' : Int) + 1 < es.length := by omega
        clear hN hwas hal hcell hc hp' hone' hsl hsub hwr hc1 hc2 hcp he
        go_wp2_with fail
        go_region_held (fun W => Below wr.heap.size wr W) (first | exact Below.refl _ _ | exact Below.drew (Below.refl _ _) | assumption | exact below_drewN (Below.refl _ _) _) (first | (go_at_call 61; refine (hra _).mono ?_; rintro e w' ⟨rfl, mm, rfl⟩))
        go_wp2_with fail
        go_meet
        case rel => exact ⟨rfl, hr, below_drewN hB _⟩
    case rest =>
      obtain ⟨rfl, hrq, hBq⟩ := hcut
      clear hr hB hN hwas hal hcell hc
      have hzl : m = (encode es.length ++ entsL [] (es.take j)).length := Hlen.out
      generalize hzs : encode es.length ++ entsL [] (es.take j) = zs at hrq hnext hzl
      have Hzl : Hid _ := hzl
      clear hzs hzl Hlen
      have p1 := rput_any ag m c zs N wc (Reads.own hrq) (by omega) (by omega)
      go_wp2_with fail
      refine p1.mono ?_
      rintro e w1 ⟨ag1, c1, m1, hm1, rfl, hr1, hb1⟩
      have e1 := encode_len N
      have hm1' : m1 ≤ 100010 := by omega
      have hB1 := Below.trans hBq (hb1.mono hBq.size)
      have hr1' := own_mono hr1 hBq.size
      have d1 := hc1 _ hB1
      have p2 := rput_any ag1 m1 c1 (zs ++ encode N) (ek.length - N) w1 (Reads.own hr1') (by omega) (by omega)
      clear p1 hr1 hb1 hm1 e1
      go_wp2_with fail
      refine p2.mono ?_
      rintro e w2 ⟨ag2, c2, m2, hm2, rfl, hr2, hb2⟩
      have e2 := encode_len (ek.length - N)
      have hm2' : m2 ≤ 100020 := by omega
      have hB2 := Below.trans hB1 (hb2.mono hB1.size)
      have hr2' := own_mono hr2 hB1.size
      have d2 := hc1 _ hB2
      have hdz : (⟨(ek.drop N).toArray⟩ : ByteArray).size = ek.length - N := by simp [ByteArray.size]
      have Hdz : Hid _ := hdz
      clear p2 hr2 hb2 hm2 e2 hr1' d1 hdz
      go_wp2_with (at_builtin; refine Lib.wpList_append_own_string _ rfl _ _ 30 9 rfl w.heap.size 5 i0 Try.underlying30 Try.underlying9 hi hz0 hz1 hz2 _ m2 _ rfl hr2' ⟨(ek.drop N).toArray⟩ rfl (by rw [Hdz.out]; unfold maxLen; omega) (by rw [Hdz.out]; omega) hB2.size ?_; intro v3 w3 hr3 hg3 hn3; obtain ⟨ag3, c3, rfl⟩ := own1_slice hr3; have hB3 := hB2.grown hg3 hB2.size (fun k hk => (hr2'.lt k hk).1); have d3 := hc2 _ hB3)
      rw [Hdz.out, str_cells, ← List.map_append] at hr3
      have hm3 : m2 + (ek.length - N) ≤ 100275 := by omega
      have p4 := rput_any ag3 (m2 + (ek.length - N)) c3 _ en w3 (Reads.own hr3) (by omega) (by omega)
      have Hr : Hid (encode es.length ++ entsL [] (es.take (j + 1)) = (zs ++ encode N ++ encode (ek.length - N) ++ bytesI (ek.drop N)) ++ encode en) := by
        show _ = _
        rw [hnext.out, HN.out]
        simp [entL, List.append_assoc]
      clear hr2' d2 hg3 hn3 hB2 hB1 hBq hrq
      go_wp2_with fail
      refine p4.mono ?_
      rintro e w4 ⟨ag4, c4, m4, hm4, rfl, hr4, hb4⟩
      have hB4 := Below.trans hB3 (hb4.mono hB3.size)
      have hr4' := own_mono hr4 hB3.size
      rw [← Hr.out] at hr4'
      clear p4 hr3 hr4 hb4 hm4 d3 hB3
      go_wp2
      go_roundw
      case rel => exact ⟨j + 1, ag4, c4, m4, by go_num, rfl, by omega, hr4', hB4⟩
      case measure => simp [intOf]; omega
#print axioms rblock_any
end Go.Proofs.Ytknfjonaepggnaa

namespace Go.Proofs.Ytknfjonaepggnaa
open Go.RowKit
set_option linter.unusedVariables false
set_option linter.unusedSimpArgs false

theorem Try.sizeEn2 : ∀ W, (sizeOf 64).run Try.prog W = .ok 2 W := Try.sizeOf64
theorem ReadsE.mid {P : Program} {t e : TypeId} (ht : P.underlying t = some (.slice e)) (hs : ∀ W, (sizeOf e).run P W = .ok 2 W) {ao : Option Addr} {len cap : Nat} (hc : len ≤ cap) (l h : Nat) (hl : l ≤ h) (hh : h ≤ len) :
    ∃ ao', (∀ W, (Instr.slice t (.slice ao len cap) (some (.int .i64 (l : Int))) (some (.int .i64 (h : Int))) none).run P W = .ok (.slice ao' (h - l) (cap - l)) W) ∧ (∀ W xs, ReadsE W ao len cap xs → ReadsE W ao' (h - l) (cap - l) ((xs.drop (l * 2)).take ((h - l) * 2))) := by
  have ht' : P.underlying t = some (.slice (P.elem t)) := by simp [Program.elem, ht]
  have he : P.elem t = e := by simp [Program.elem, ht]
  refine ⟨if cap = l then ao else ao.map (·.add (l * 2)), fun W => ?_, fun W xs hr => ⟨?_, ?_, ?_, ?_, ?_⟩⟩
  · rw [run_slice_lh (P := P) W t ao len cap ht' .i64 .i64 l h (by omega) (by omega) (by omega), he, hs]
    simp [Result.andThen, sliced]
  · have := hr.length; simp; omega
  · omega
  · have := hr.most; omega
  · intro hn
    split at hn
    · have := hr.bare hn; omega
    · simp only [Option.map_eq_none_iff] at hn
      have := hr.bare hn; omega
  · intro a ha j u hu
    have hj : j < (h - l) * 2 ∧ l * 2 + j < xs.length := by
      have := (List.getElem?_eq_some_iff.1 hu).1
      simp at this; omega
    have := hr.length
    rw [if_neg (by omega)] at ha
    cases ao with
    | none => simp at ha
    | some x =>
      simp only [Option.map_some, Option.some.injEq] at ha
      subst ha
      obtain ⟨b, off, rfl⟩ := hr.plain (by omega)
      have hcc := hr.cell _ rfl (l * 2 + j) u (by rw [List.getElem?_take_of_lt hj.1] at hu; simpa using hu)
      rw [Addr.add_lit, Addr.add_lit, Nat.add_assoc]
      rw [Addr.add_lit] at hcc
      exact hcc

theorem chunks_fuel : ∀ (f g s : Nat) (l : List En), 1 ≤ s → l.length ≤ f → l.length ≤ g → chunksF f s l = chunksF g s l
  | 0, g, s, l, hs, h1, h2 => by
    have h0 : l = [] := List.length_eq_zero_iff.1 (by omega)
    subst h0
    cases g <;> simp [chunksF]
  | f + 1, 0, s, l, hs, h1, h2 => by
    have h0 : l = [] := List.length_eq_zero_iff.1 (by omega)
    subst h0; simp [chunksF]
  | f + 1, g + 1, s, l, hs, h1, h2 => by
    unfold chunksF
    by_cases h : l = []
    · simp [h]
    · rw [if_neg h, if_neg h, chunks_fuel f g s (l.drop s) hs (by rw [List.length_drop]; omega) (by rw [List.length_drop]; omega)]
/-- What is left to do behind 'at'. -/
def leftE (es : List En) (s at' : Nat) : List Int := recs ((chunksE s (es.drop at')).map blockL ++ [encode 0 ++ encode es.length])
theorem left_start (es : List En) (s : Nat) : runL es s = recL (encode s) ++ leftE es s 0 := by
  unfold runL runRows leftE
  rw [recs, List.drop_zero]
theorem left_step {es : List En} {s at' : Nat} (hs : 1 ≤ s) (h : at' < es.length) : leftE es s at' = recL (blockL ((es.drop at').take s)) ++ leftE es s (at' + s) := by
  unfold leftE chunksE
  have hl : (es.drop at').length = es.length - at' := by simp
  have hne : es.drop at' ≠ [] := fun e => by rw [e] at hl; simp at hl; omega
  obtain ⟨f, hf⟩ : ∃ f, (es.drop at').length = f + 1 := ⟨es.length - at' - 1, by omega⟩
  rw [hf, chunksF, if_neg hne, List.map_cons, List.cons_append, recs, List.drop_drop]
  congr 3
  rw [chunks_fuel f (es.drop (at' + s)).length s _ hs (by simp; omega) (Nat.le_refl _)]
theorem left_end {es : List En} {s at' : Nat} (h : es.length ≤ at') : leftE es s at' = recL (encode 0 ++ encode es.length) := by
  unfold leftE chunksE
  rw [List.drop_of_length_le h]
  simp [chunksF, recs]
theorem blocks_len : ∀ (cs : List (List En)), (∀ c ∈ cs, c ≠ [] ∧ c.length ≤ 255 ∧ ∀ e ∈ c, oneE e = true) → (recs (cs.map blockL)).length ≤ 309 * cs.flatten.length
  | [], _ => by simp [recs]
  | c :: cs, h => by
    obtain ⟨h1, h2, h3⟩ := h c (by simp)
    have i1 := blocks_len cs fun x hx => h x (by simp [hx])
    have i2 := ents_len c [] h3
    have i3 := encode_len c.length
    have i4 := rec_len (blockL c)
    have i5 := encode_len (blockL c).length
    have i6 : (blockL c).length = (encode c.length).length + (entsL [] c).length := by simp [blockL]
    have i7 : 1 ≤ c.length := List.length_pos_iff.2 h1
    simp only [List.map_cons, recs, List.flatten_cons, List.length_append]
    omega
theorem run_len_le {l : List En} {s : Nat} (h : RunOk l s) : (runL l s).length ≤ 309 * l.length + 100 := by
  have h1 := blocks_len (chunksE s l) fun c hc => chunks_blocks _ s l h.1 h.2.1 h.2.2.1 c hc
  have j1 := chunks_join l.length s l h.1 (Nat.le_refl _)
  unfold chunksE at h1
  rw [j1] at h1
  have a1 := encode_len s
  have a2 := rec_len (encode s)
  have a3 := encode_len (encode s).length
  have a4 := encode_len 0
  have a5 := encode_len l.length
  have a6 := rec_len (encode 0 ++ encode l.length)
  have a7 := encode_len (encode 0 ++ encode l.length).length
  unfold runL runRows chunksE
  rw [recs, recs_append, recs, recs]
  simp only [List.length_append, List.length_nil] at *
  omega
/-- What Encode tells. -/
def EncOut (w : World) (y : List Int × Nat) (e : Ending) (w' : World) : Prop := ∃ ag c m, e = .returned (.tuple #[.slice ag m c, .int .i64 (y.2 : Nat)]) ∧ m = y.1.length ∧ w'.ownsRow w.heap.size 5 1 (.slice ag m c) m (y.1.map (.int .u8)) ∧ Below w.heap.size w w'
theorem EncOut.bad {w w' : World} {c : Nat} (h : Below w.heap.size w w') : EncOut w ([], c) (.returned (.tuple #[.slice none 0 0, .int .i64 (c : Nat)])) w' := ⟨none, 0, 0, rfl, rfl, World.ownsRow_nil _ _ _ _, h⟩

set_option maxRecDepth 100000 in
set_option maxHeartbeats 2000000 in
theorem rencode_any {w : World} {ao : Option Addr} {len cap : Nat} {es : List En} (h : ReadsE w ao len cap (cellsE es)) (hb : ∀ e ∈ es, e.2 ≤ 18446744073709551615) (hw : ∀ e ∈ es, e.1.length ≤ 140737488355328) (hl : len ≤ 100000000000) (sz : Int) (s : Nat) (hs : sz = s ∨ (sz < 0 ∧ s = 0)) (hsz : sz ≤ 9223372036854775807) :
    Calls Try.prog 26 #[.slice ao len cap, .int .i64 sz] w fun e w' => EncOut w (encR es s) e w' := by
  have hlx := h.count
  subst hlx
  by_cases hr : 1 ≤ s ∧ s ≤ 255
  case neg =>
    have hE : Hid (encR es s = ([], 1)) := by show _ = _; unfold encR; rw [if_neg hr]
    have hsp : sz < 1 ∨ (1 ≤ sz ∧ 255 < sz) := by omega
    clear hr hs
    rcases hsp with i1 | ⟨i1, i2⟩
    all_goals
      go_enter Try.func26, Try.ntmps26
      go_wp2
      go_ret2
      rw [hE.out]
      exact EncOut.bad (Below.refl _ _)
  obtain rfl : sz = s := by omega
  have i1 : ¬ (s : Int) < 1 := by omega
  have i2 : ¬ (255 : Int) < s := by omega
  have pm := rmay_any h hb hw
  by_cases hm : mayE es = 0
  case neg =>
    have hE : Hid (encR es s = ([], mayE es)) := by show _ = _; unfold encR; rw [if_pos hr, if_neg hm]
    generalize mayE es = c at pm hE hm
    have hmi : ((c : Int) != 0) = true := by rw [bne_iff_ne]; omega
    have hmi2 : ¬ (c : Int) = 0 := by omega
    clear hm
    go_enter Try.func26, Try.ntmps26
    go_wp2_with (go_at_call 39; refine pm.mono ?_; rintro e w' ⟨rfl, m, rfl⟩)
    go_ret2
    rw [hE.out]
    exact EncOut.bad (below_drewN (Below.refl _ _) _)
  have hok := run_ok (l := es) (s := s) ⟨hr.1, hr.2, hm⟩ (by omega)
  have hE : Hid (encR es s = (runL es s, 0)) := enc_is ⟨hr.1, hr.2, hm⟩
  have hmax := run_len_le hok
  rw [hm] at pm
  go_enter Try.func26, Try.ntmps26
  go_wp2_with fail
  refine pm.mono ?_
  rintro e w0 ⟨rfl, m0, hw0⟩
  have hB0 : Below w.heap.size w w0 := by rw [hw0]; exact below_drewN (Below.refl _ _) _
  clear hw0 pm
  have p1 := rput_any none 0 0 [] s w0 (Reads.nil w0) (by omega) (by omega)
  rw [List.nil_append] at p1
  go_wp2_with fail
  refine p1.mono ?_
  rintro e w1 ⟨ag1, c1, m1, hm1, rfl, hr1, hb1⟩
  have hel := encode_len s
  have hB1 := Below.trans hB0 (hb1.mono hB0.size)
  have p2 := rfput_ok none 0 0 [] ag1 m1 c1 (encode s) w1 (Reads.nil w1) (Reads.own hr1) (encode_bytes s (by omega)) (by omega) (by omega)
  rw [List.nil_append] at p2
  clear p1 hm1 hb1 hB0
  go_wp2_with fail
  refine p2.mono ?_
  rintro e w2 ⟨ag2, c2, m2, hm2, rfl, hr2, hb2⟩
  have hB2 := Below.trans hB1 (hb2.mono hB1.size)
  have hr2' := own_mono hr2 hB1.size
  clear p2 hr2 hb2 hB1 hr1 hm2
  go_wp2_with fail
  go_loopw [7, 9] (fun bv i wr => ∃ (at' : Nat) (ag : Option Addr) (c m : Nat) (zs : List Int), i = .int .i64 at' ∧ bv = .slice ag m c ∧ at' ≤ es.length + 255 ∧ wr.ownsRow w.heap.size 5 1 (.slice ag m c) m (zs.map (.int .u8)) ∧ Hid (runL es s = zs ++ leftE es s at') ∧ Below w.heap.size w wr) (fun _ i _ => (es.length + 255 - intOf i).toNat)
  case atStart => exact ⟨0, ag2, c2, m2, _, rfl, rfl, by omega, hr2', left_start es s, hB2⟩
  case round =>
    obtain ⟨at', ag, c, m, zs, rfl, rfl, hat0, hro, HI, hBr⟩ := hrel
    clear hr2' hB2
    have hmz : m ≤ 40000000000000 := by
      have h1 : m = zs.length := by have := hro.1; simpa using this.symm
      have h2 := congrArg List.length HI.out
      rw [List.length_append] at h2
      omega
    by_cases hat : at' < es.length
    · have hati : (at' : Int) < es.length := by omega
      have hat00 : (0 : Int) ≤ at' := by omega
      rcases Nat.lt_or_ge es.length (at' + s) with hgt | hle
      · have hgi : (es.length : Int) < (at' : Int) + s := by omega
        obtain ⟨xo, hsl, hrd⟩ := ReadsE.mid (P := Try.prog) Try.underlying49 Try.sizeEn2 (ao := ao) (len := es.length) (cap := cap) h.le at' es.length (by omega) (by omega)
        have hrd1 := hrd _ _ (h.later hBr (Nat.le_refl _))
        rw [cells_drop, cells_take] at hrd1
        have hch : (es.drop at').take (es.length - at') = (es.drop at').take s := by
          first | rfl | (rw [List.take_of_length_le (by simp), List.take_of_length_le (by simp; omega)]) | (congr 1; omega)
        rw [hch] at hrd1
        have hbo : ∀ e ∈ (es.drop at').take s, oneE e = true := fun e he => may_all hm e (List.mem_of_mem_drop (List.mem_of_mem_take he))
        have pb := rblock_any hrd1 hbo (by omega)
        have hbk := block_ok (l := (es.drop at').take s) (by rw [List.length_take]; omega) hbo
        have HI2 : Hid (runL es s = (zs ++ recL (blockL ((es.drop at').take s))) ++ leftE es s (at' + s)) := by show _ = _; rw [HI.out, left_step hr.1 hat, List.append_assoc]
        generalize blockL ((es.drop at').take s) = bk at pb hbk HI2
        clear hrd hrd1 hch hbo
        go_wp2_with fail
        refine pb.mono ?_
        intro e w3 hO
        unfold BytesOut at hO
        obtain ⟨ag3, c3, m3, rfl, hm3, hr3, hb3⟩ := hO
        have hB3 := Below.trans hBr (hb3.mono hBr.size)
        have hro3 := own_later hro hb3 (Nat.le_refl _)
        have hm3' : m3 ≤ 1048576 := by omega
        have pf := rfput_ok ag m c zs ag3 m3 c3 bk w3 (Reads.own hro3) (Reads.own hr3) hbk.1 (by omega) hm3'
        clear pb hb3 hro hm3
        go_wp2_with fail
        refine pf.mono ?_
        rintro e w4 ⟨ag4, c4, m4, hm4, rfl, hr4, hb4⟩
        have hB4 := Below.trans hB3 (hb4.mono hB3.size)
        have hr4' := own_mono hr4 hB3.size
        clear pf hr4 hb4 hr3 hro3 hm4 hsl
        go_wp2
        go_roundw
        case rel => exact ⟨at' + s, ag4, c4, m4, _, by go_num, rfl, by omega, hr4', HI2, hB4⟩
        case measure => simp [intOf]; omega
      · have hgi : ¬ (es.length : Int) < (at' : Int) + s := by omega
        obtain ⟨T, hT⟩ : ∃ T, T = at' + s := ⟨_, rfl⟩
        have hTi : (at' : Int) + s = T := by omega
        have hT2 : (T : Int) ≤ es.length := by omega
        have hT3 : (at' : Int) ≤ T := by omega
        have hgi2 : ¬ (es.length : Int) < T := by omega
        have hT4 : T - at' ≤ 255 := by omega
        have hT5 : T ≤ es.length := by omega
        have hT6 : at' ≤ T := by omega
        have hch : (es.drop at').take (T - at') = (es.drop at').take s := by congr 1; omega
        have hTi2 : (T : Int) ≤ 9223372036854775807 := by omega
        clear hT
        obtain ⟨xo, hsl, hrd⟩ := ReadsE.mid (P := Try.prog) Try.underlying49 Try.sizeEn2 (ao := ao) (len := es.length) (cap := cap) h.le at' T (by omega) (by omega)
        have hrd1 := hrd _ _ (h.later hBr (Nat.le_refl _))
        rw [cells_drop, cells_take] at hrd1
        rw [hch] at hrd1
        have hbo : ∀ e ∈ (es.drop at').take s, oneE e = true := fun e he => may_all hm e (List.mem_of_mem_drop (List.mem_of_mem_take he))
        have pb := rblock_any hrd1 hbo (by omega)
        have hbk := block_ok (l := (es.drop at').take s) (by rw [List.length_take]; omega) hbo
        have HI2 : Hid (runL es s = (zs ++ recL (blockL ((es.drop at').take s))) ++ leftE es s (at' + s)) := by show _ = _; rw [HI.out, left_step hr.1 hat, List.append_assoc]
        generalize blockL ((es.drop at').take s) = bk at pb hbk HI2
        clear hrd hrd1 hch hbo
        go_wp2_with fail
        refine pb.mono ?_
        intro e w3 hO
        unfold BytesOut at hO
        obtain ⟨ag3, c3, m3, rfl, hm3, hr3, hb3⟩ := hO
        have hB3 := Below.trans hBr (hb3.mono hBr.size)
        have hro3 := own_later hro hb3 (Nat.le_refl _)
        have hm3' : m3 ≤ 1048576 := by omega
        have pf := rfput_ok ag m c zs ag3 m3 c3 bk w3 (Reads.own hro3) (Reads.own hr3) hbk.1 (by omega) hm3'
        clear pb hb3 hro hm3
        go_wp2_with fail
        refine pf.mono ?_
        rintro e w4 ⟨ag4, c4, m4, hm4, rfl, hr4, hb4⟩
        have hB4 := Below.trans hB3 (hb4.mono hB3.size)
        have hr4' := own_mono hr4 hB3.size
        clear pf hr4 hb4 hr3 hro3 hm4 hsl hTi
        go_wp2
        go_roundw
        case rel => exact ⟨at' + s, ag4, c4, m4, _, by go_num, rfl, by omega, hr4', HI2, hB4⟩
        case measure => simp [intOf]; omega
    · have hati : ¬ (at' : Int) < es.length := by omega
      have HI2 : Hid (runL es s = zs ++ recL (encode 0 ++ encode es.length)) := by show _ = _; rw [HI.out, left_end (by omega)]
      clear HI
      generalize hn : es.length = n at *
      have q1 := rput_any none 0 0 [] 0 _ (Reads.nil wr) (by omega) (by omega)
      rw [List.nil_append] at q1
      go_wp2_with fail
      refine q1.mono ?_
      rintro e w3 ⟨ag3, c3, m3, hm3, rfl, hr3, hb3⟩
      have e3 := encode_len 0
      have hB3 := Below.trans hBr (hb3.mono hBr.size)
      have hro3 := own_later hro hb3 (Nat.le_refl _)
      have q2 := rput_any ag3 m3 c3 (encode 0) n w3 (Reads.own hr3) (by omega) (by omega)
      have hm3' : m3 ≤ 10 := by omega
      clear q1 hb3 hro hm3
      go_wp2_with fail
      refine q2.mono ?_
      rintro e w4 ⟨ag4, c4, m4, hm4, rfl, hr4, hb4⟩
      have e4 := encode_len n
      have hB4 := Below.trans hB3 (hb4.mono hB3.size)
      have hro4 := own_later hro3 hb4 (Nat.le_refl _)
      have hbb : ∀ x ∈ encode 0 ++ encode n, 0 ≤ x ∧ x ≤ 255 := by
        intro x hx
        rcases List.mem_append.1 hx with hx | hx
        · exact encode_bytes 0 (by omega) x hx
        · exact encode_bytes n (by omega) x hx
      have hm4' : m4 ≤ 1048576 := by omega
      have pf := rfput_ok ag m c zs ag4 m4 c4 (encode 0 ++ encode n) w4 (Reads.own hro4) (Reads.own hr4) hbb (by omega) hm4'
      clear q2 hb4 hro3 hm4
      go_wp2_with fail
      refine pf.mono ?_
      rintro e w5 ⟨ag5, c5, m5, hm5, rfl, hr5, hb5⟩
      have hB5 := Below.trans hB4 (hb5.mono hB4.size)
      have hr5' := own_mono hr5 hB4.size
      clear pf hr5 hb5 hm5
      go_wp2
      go_ret2
      rw [hE.out]
      rw [HI2.out]
      exact ⟨ag5, c5, m5, rfl, by simpa using hr5'.1.symm, hr5', hB5⟩
#print axioms rencode_any
end Go.Proofs.Ytknfjonaepggnaa

namespace Go.Proofs.Ytknfjonaepggnaa
open Go.RowKit
set_option linter.unusedVariables false
set_option linter.unusedSimpArgs false

theorem take_bad1 {was : Wd} {b : List Int} {n i f : Nat} (g1 : getL b = (n, i, f)) (h : f ≠ 0 ∨ was.length < n) : takeE was b = none := by
  unfold takeE
  rw [g1]
  rw [if_neg]
  rintro ⟨h1, h2⟩
  simp only at h1 h2
  rcases h with h | h
  · exact h h1
  · omega
theorem take_bad2 {was : Wd} {b : List Int} {n i m k f : Nat} (g1 : getL b = (n, i, 0)) (h1 : n ≤ was.length) (g2 : getL (b.drop i) = (m, k, f)) (h : f ≠ 0 ∨ b.length - (i + k) < m) : takeE was b = none := by
  unfold takeE
  simp only [g1, g2]
  rw [if_pos ⟨trivial, h1⟩, if_neg]
  rintro ⟨h1, h2⟩
  rcases h with h | h
  · exact h h1
  · omega
theorem take_bad3 {was : Wd} {b : List Int} {n i m k c j f : Nat} (g1 : getL b = (n, i, 0)) (h1 : n ≤ was.length) (g2 : getL (b.drop i) = (m, k, 0)) (h2 : m ≤ b.length - (i + k)) (g3 : getL (b.drop (i + k + m)) = (c, j, f)) (h : f ≠ 0) : takeE was b = none := by
  unfold takeE
  simp only [g1, g2, g3]
  rw [if_pos ⟨trivial, h1⟩, if_pos ⟨trivial, h2⟩, if_neg h]
theorem take_good {was : Wd} {b : List Int} {n i m k c j : Nat} (g1 : getL b = (n, i, 0)) (h1 : n ≤ was.length) (g2 : getL (b.drop i) = (m, k, 0)) (h2 : m ≤ b.length - (i + k)) (g3 : getL (b.drop (i + k + m)) = (c, j, 0)) :
    takeE was b = some ((was.take n ++ wordI ((b.drop (i + k)).take m), c), i + k + m + j) := by
  unfold takeE
  simp only [g1, g2, g3]
  rw [if_pos ⟨trivial, h1⟩, if_pos ⟨trivial, h2⟩, if_pos trivial]

theorem blk2 {w : World} {b : Nat} {x y : Value} {t : TypeId} (h : w.heap[b]? = some (.cells #[x, y] t (0, 0))) :
    w.cell? ⟨b, 0, none⟩ = some x ∧ w.cell? ⟨b, 1, none⟩ = some y ∧ w.frozen? ⟨b, 0, none⟩ = false ∧ w.frozen? ⟨b, 1, none⟩ = false := by
  refine ⟨?_, ?_, ?_, ?_⟩ <;> simp [World.cell?, World.frozen?, h]
theorem blk2_one {w : World} {b : Nat} {x y : Value} {t : TypeId} (h : w.heap[b]? = some (.cells #[x, y] t (0, 0))) (i : Nat) (u : Value) :
    (w.setCell ⟨b, i, none⟩ u).heap[b]? = some (.cells (#[x, y].setIfInBounds i u) t (0, 0)) := by
  have hlt : b < w.heap.size := (Array.getElem?_eq_some_iff.1 h).1
  have h' : w.heap[b] = .cells #[x, y] t (0, 0) := by simpa [Array.getElem?_eq_getElem hlt] using h
  show (w.heap.modify b _)[b]? = _
  rw [Array.getElem?_eq_getElem (by simpa using hlt), Array.getElem_modify_self, h']
  rfl
theorem blk2_set {w : World} {b : Nat} {x y : Value} {t : TypeId} (h : w.heap[b]? = some (.cells #[x, y] t (0, 0))) (x' y' : Value) :
    ((w.setCell ⟨b, 0, none⟩ x').setCell ⟨b, 1, none⟩ y').heap[b]? = some (.cells #[x', y'] t (0, 0)) := blk2_one (blk2_one h 0 x') 1 y'
theorem load_en {w : World} {b : Nat} {x y : Value} {t : TypeId} (h : w.heap[b]? = some (.cells #[x, y] t (0, 0))) : (loadVar 64 ⟨b, 0, none⟩).run Try.prog w = .ok (.agg #[x, y]) w := by
  obtain ⟨h0, h1, _⟩ := blk2 h
  simp [loadVar, Try.isAgg64, Try.sizeOf64, loadCells, loadCellsFrom, go_sem, h0, h1]
theorem below_set2 {base b : Nat} {w w' : World} (h : Below base w w') (hb : base ≤ b) (x y : Value) : Below base w ((w'.setCell ⟨b, 0, none⟩ x).setCell ⟨b, 1, none⟩ y) := (h.setCell hb _).setCell hb _
theorem res_cell_tmp {fn : Func} {p q : Tmp} {ty : TypeId} (h : fn.results = #[.cell q ty, .tmp p]) (tmps : Array Value) (P : Program) (w : World) {x : Addr} {v : Value} (hx : tmps.getD q undef = .pointer (some x)) (hv : (loadVar ty x).run P w = .ok v w) :
    (results fn tmps).run P w = .ok (.tuple #[v, tmps.getD p undef]) w := by
  have hx' : tmps[q]?.getD undef = .pointer (some x) := by simpa using hx
  simp only [results, h]
  simp [Sem.run_bind, Result.andThen, hx', asAddr, hv]
/-- What take tells. -/
def takeV : Option (En × Nat) → Value
  | none => .tuple #[.agg #[.string ⟨#[]⟩, .int .u64 0], .int .i64 0]
  | some (e, n) => .tuple #[.agg #[strV e.1, .int .u64 e.2], .int .i64 n]
def TakeOut (w : World) (r : Option (En × Nat)) (e : Ending) (w' : World) : Prop := e = .returned (takeV r) ∧ Below w.heap.size w w'

set_option maxRecDepth 100000 in
set_option maxHeartbeats 2000000 in
theorem rtake_any {w : World} {was : Wd} {ao : Option Addr} {len cap : Nat} {zs : List Int} (hw : was.length ≤ 1000000000000) (h : Reads w ao len cap (zs.map (.int .u8))) (h8 : isBytes zs) (hl : len ≤ 1000000000000) :
    Calls Try.prog 38 #[strV was, .slice ao len cap] w fun e w' => TakeOut w (takeE was zs) e w' := by
  have hlx : zs.length = len := by simpa using h.length
  have Hlx : Hid _ := hlx
  have hle := h.le
  obtain ⟨W0, hW0⟩ : ∃ W0, W0 = w.alloc (.cells #[.string ⟨#[]⟩, .int .u64 0] 64) := ⟨_, rfl⟩
  have hB0 : Below w.heap.size w W0 := by rw [hW0]; exact (Below.refl _ _).alloc (Nat.le_refl _) _
  have k0 : W0.heap[w.heap.size]? = some (.cells #[.string ⟨#[]⟩, .int .u64 0] 64 (0, 0)) := by rw [hW0]; exact Array.getElem?_push_size
  have h0 := h.later hB0 (Nat.le_refl _)
  obtain ⟨n, i, f, g1⟩ : ∃ n i f, getL zs = (n, i, f) := ⟨_, _, _, rfl⟩
  have G1 : Hid _ := g1
  have p1 := rget_any ao len cap zs W0 h0 h8
  rw [g1] at p1
  unfold getV at p1
  clear g1 hlx
  have HW0 : Hid _ := hW0
  clear hW0
  go_enter Try.func38, Try.ntmps38
  go_wp2_with fail
  rw [← HW0.out]
  refine p1.mono ?_
  rintro e wa ⟨rfl, rfl⟩
  clear p1
  have hBz := below_set2 (b := w.heap.size) hB0 (Nat.le_refl _) (.string ⟨#[]⟩) (.int .u64 0)
  have hldz := load_en (blk2_set k0 (.string ⟨#[]⟩) (.int .u64 0))
  have cz0 := blk2 k0
  by_cases hf : f = 0
  case neg =>
    have hE : Hid (takeE was zs = none) := take_bad1 G1.out (.inl hf)
    have hfi : ¬ (f : Int) = 0 := by omega
    clear hf
    go_wp2
    refine bodyPost_ret (res_cell_tmp rfl _ _ _ (x := ⟨w.heap.size, 0, none⟩) rfl hldz) rfl ?_
    exact ⟨by rw [hE.out]; rfl, hBz⟩
  subst hf
  have ok1 := get_ok zs h8 n i G1.out
  rw [Hlx.out] at ok1
  by_cases hn : n ≤ was.length
  case neg =>
    have hE : Hid (takeE was zs = none) := take_bad1 G1.out (.inr (by omega))
    have hni : (was.length : Int) < n := by omega
    clear hn ok1
    go_wp2
    refine bodyPost_ret (res_cell_tmp rfl _ _ _ (x := ⟨w.heap.size, 0, none⟩) rfl hldz) rfl ?_
    exact ⟨by rw [hE.out]; rfl, hBz⟩
  have hni : ¬ (was.length : Int) < n := by omega
  have hile : (i : Int) ≤ len := by omega
  obtain ⟨x1, hs1, hd1⟩ := Reads.from (P := Try.prog) Try.underlying30 (size_of Try.infoByte) (ao := ao) (len := len) (cap := cap) i (by omega)
  have hr1 := hd1 _ _ h0
  rw [← List.map_drop] at hr1
  obtain ⟨m, k, f, g2⟩ : ∃ m k f, getL (zs.drop i) = (m, k, f) := ⟨_, _, _, rfl⟩
  have G2 : Hid _ := g2
  have d8 : ∀ j, isBytes (zs.drop j) := fun j z hz => h8 z (List.mem_of_mem_drop hz)
  have p2 := rget_any _ _ _ _ wa hr1 (d8 i)
  rw [g2] at p2
  unfold getV at p2
  clear g2 hd1 hr1
  go_wp2_with fail
  refine p2.mono ?_
  rintro e wb ⟨rfl, rfl⟩
  clear p2
  by_cases hf : f = 0
  case neg =>
    have hE : Hid (takeE was zs = none) := take_bad2 G1.out hn G2.out (.inl hf)
    have hfi : ¬ (f : Int) = 0 := by omega
    clear hf ok1 hn
    go_wp2
    refine bodyPost_ret (res_cell_tmp rfl _ _ _ (x := ⟨w.heap.size, 0, none⟩) rfl hldz) rfl ?_
    exact ⟨by rw [hE.out]; rfl, hBz⟩
  subst hf
  have ok2 := get_ok (zs.drop i) (d8 i) m k G2.out
  rw [List.length_drop, Hlx.out] at ok2
  obtain ⟨A, hA⟩ : ∃ A, A = i + k := ⟨_, rfl⟩
  have hAi : (i : Int) + k = A := by omega
  have hAl : (A : Int) ≤ len := by omega
  have hsub : (len : Int) - A = ((len - A : Nat) : Int) := by omega
  by_cases hm : m ≤ len - A
  case neg =>
    have hE : Hid (takeE was zs = none) := take_bad2 G1.out hn G2.out (.inr (by rw [Hlx.out]; omega))
    have hmi : ((len - A : Nat) : Int) < m := by omega
    have hq : ((len - A : Nat) : Int) ≤ 18446744073709551615 := by omega
    clear hm ok1 ok2 hn hA
    go_wp2
    refine bodyPost_ret (res_cell_tmp rfl _ _ _ (x := ⟨w.heap.size, 0, none⟩) rfl hldz) rfl ?_
    exact ⟨by rw [hE.out]; rfl, hBz⟩
  have hmi : ¬ ((len - A : Nat) : Int) < m := by omega
  have hm2 : (m : Int) ≤ 1000000000000 := by omega
  obtain ⟨B, hB⟩ : ∃ B, B = A + m := ⟨_, rfl⟩
  have hBi : (A : Int) + m = B := by omega
  have hBl : (B : Int) ≤ len := by omega
  obtain ⟨x2, hs2, hd2⟩ := Reads.mid (P := Try.prog) Try.underlying30 (size_of Try.infoByte) (ao := ao) (len := len) (cap := cap) hle A B (by omega) (by omega)
  have e2 : B - A = m := by omega
  rw [e2] at hs2 hd2
  have hmid : ∀ W, Below wb.heap.size wb W → (convert 30 9 (.slice x2 m (cap - A))).run Try.prog W = .ok (strV (wordI ((zs.drop A).take m))) W := fun W hW => by
    have hx := hd2 W _ (h0.later hW (Nat.le_refl _))
    rw [← List.map_drop, ← List.map_take] at hx
    exact conv_of Try.underlying30 Try.underlying5 Try.underlying9 hx
  have hstr : ∀ W, (Instr.slice 9 (strV was) none (some (.int .u64 (n : Int))) none).run Try.prog W = .ok (strV (was.take n)) W := fun W => by
    unfold strV
    rw [run_slice_string_h W 9 _ Try.underlying9 .u64 (n : Int) (by omega) (by simp [ByteArray.size]; omega), Int.toNat_natCast]
    congr 2
    apply ByteArray.ext
    simp
  have hcat : ∀ W, (Op.stringOp .add ⟨(was.take n).toArray⟩ ⟨(wordI ((zs.drop A).take m)).toArray⟩).run Try.prog W = .ok (strV (was.take n ++ wordI ((zs.drop A).take m))) W := fun W => by
    rw [run_string_add_sum W _ _ (by simp [ByteArray.size, wordI]; omega), ByteArray.mk_append_mk]
  obtain ⟨x3, hs3, hd3⟩ := Reads.from (P := Try.prog) Try.underlying30 (size_of Try.infoByte) (ao := ao) (len := len) (cap := cap) B (by omega)
  obtain ⟨c, j, f, g3⟩ : ∃ c j f, getL (zs.drop B) = (c, j, f) := ⟨_, _, _, rfl⟩
  have G3 : Hid _ := g3
  have HA : Hid _ := hA
  have HB : Hid _ := hB
  have hn' : Hid _ := hn
  have hm' : Hid _ := hm
  have ok2' : Hid _ := ok2
  have ok1' : Hid _ := ok1
  generalize hwd : wordI ((zs.drop A).take m) = wd at hmid hcat
  have Hwd : Hid _ := hwd
  clear g3 hd2 e2 ok1 ok2 hA hB hn hm hs1 hwd
  have w1 : IntKind.i64.wrap (m : Int) = m := by rw [IntKind.wrap_i64]; omega
  have w2 : IntKind.i64.wrap ((A : Int) + m) = B := by rw [IntKind.wrap_i64]; omega
  have w3 : IntKind.i64.wrap (B : Int) = B := by rw [IntKind.wrap_i64]; omega
  go_wp2_with fail
  go_region_held (fun W => Below wb.heap.size wb W) (first | exact Below.refl _ _ | exact Below.drew (Below.refl _ _) | assumption | exact Below.drew (by assumption)) (fail)
  have hBd : Below w.heap.size w wb.drew := Below.drew hB0
  have kd : wb.drew.heap[w.heap.size]? = some (.cells #[.string ⟨#[]⟩, .int .u64 0] 64 (0, 0)) := k0
  have hrd := hd3 _ _ (h0.later (Below.drew (Below.refl wb.heap.size wb)) (Nat.le_refl _))
  rw [← List.map_drop] at hrd
  have p3 := rget_any _ _ _ _ wb.drew hrd (d8 B)
  rw [G3.out] at p3
  unfold getV at p3
  generalize wb.drew = wd1 at hBd kd p3 ⊢
  clear hrd hd3 hmid hcat hstr hs2 cz0 hldz hBz k0 h0 hsub hmi
  go_wp2_with fail
  refine p3.mono ?_
  rintro e wc ⟨rfl, rfl⟩
  clear p3 hs3
  have cz0 := blk2 kd
  by_cases hf : f = 0
  case neg =>
    have hE : Hid (takeE was zs = none) := take_bad3 G1.out hn'.out G2.out (by rw [Hlx.out, ← HA.out]; exact hm'.out) (by rw [← HA.out, ← HB.out]; exact G3.out) hf
    have hfi : ¬ (f : Int) = 0 := by omega
    have hBz := below_set2 (b := w.heap.size) hBd (Nat.le_refl _) (.string ⟨#[]⟩) (.int .u64 0)
    have hldz := load_en (blk2_set kd (.string ⟨#[]⟩) (.int .u64 0))
    clear hf
    go_wp2
    refine bodyPost_ret (res_cell_tmp rfl _ _ _ (x := ⟨w.heap.size, 0, none⟩) rfl hldz) rfl ?_
    exact ⟨by rw [hE.out]; rfl, hBz⟩
  subst hf
  have hE : Hid (takeE was zs = some ((was.take n ++ wd, c), B + j)) := by
    have hg := take_good G1.out hn'.out G2.out (by rw [Hlx.out, ← HA.out]; exact hm'.out) (by rw [← HA.out, ← HB.out]; exact G3.out)
    rw [← HA.out, ← HB.out, Hwd.out] at hg
    exact hg
  have ok3 := get_ok (zs.drop B) (d8 B) c j G3.out
  rw [List.length_drop, Hlx.out] at ok3
  have hj : (j : Int) ≤ 1000000000000 := by omega
  have hBz := below_set2 (b := w.heap.size) hBd (Nat.le_refl _) (strV (was.take n ++ wd)) (.int .u64 c)
  have hldz := load_en (blk2_set kd (strV (was.take n ++ wd)) (.int .u64 c))
  clear ok3
  go_wp2
  refine bodyPost_ret (res_cell_tmp rfl _ _ _ (x := ⟨w.heap.size, 0, none⟩) rfl hldz) rfl ?_
  refine ⟨?_, hBz⟩
  rw [hE.out]
  simp [takeV]
#print axioms rtake_any
end Go.Proofs.Ytknfjonaepggnaa
