/- The document's own Classes. -/
import Derived.Test.YtnojjipoppemcaaRef13C
import Derived.Deep.QuietTactic
import Derived.BigQuiet
namespace Go.Proofs.Ytnojjipoppemcaa
open Go.RowKit
set_option linter.unusedVariables false
set_option linter.unusedSimpArgs false

theorem Try.infoInt13 : (Try.prog.info? 3).map (fun i => (i.zero, i.size, i.bytes)) = some (some (.int .i64 0), 1, 8) := by kernel_rfl
def classesI (cs : List Nat) : List Int := (classesL cs).map fun (c : Nat) => (c : Int)
theorem classesI_len (cs : List Nat) : (classesI cs).length = cs.length := by simp [classesI, classesL]
theorem classesI_at {cs : List Nat} {i c : Nat} (h : cs[i]? = some c) : (classesI cs)[i]? = some (classN cs c : Int) := by simp [classesI, classesL, h]
set_option maxRecDepth 100000 in
set_option maxHeartbeats 4000000 in
theorem rclasses_any {w : World} {ao : Option Addr} {len cap : Nat} {es : List En} (h : ReadsE w ao len cap (cellsE es)) (hl : len ≤ 1000000) :
    Calls Try.prog 14 #[.slice ao len cap] w fun e w' => ∃ ag c m, e = .returned (.slice ag m c) ∧ m = len ∧ w'.ownsRow w.heap.size 3 1 (.slice ag m c) m ((classesI (es.map (·.2))).map (.int .i64)) ∧ Below w.heap.size w w' := by
  have Hlx : Hid _ := h.count
  have H : Hid _ := h
  obtain ⟨cs, hcs⟩ : ∃ cs, cs = es.map (·.2) := ⟨_, rfl⟩
  rw [← hcs]
  have Hcs : Hid _ := hcs
  have hcl : cs.length = len := by rw [hcs, List.length_map]; exact Hlx.out
  have Hcl : Hid _ := hcl
  clear h hcs hcl
  go_enter Try.func14, Try.ntmps14
  go_wp2_with fail
  go_loopw [3, 4] (fun v i wr => ∃ (j : Nat) (ag : Option Addr) (cc : Nat), v = .slice ag j cc ∧ i = .int .i64 (j : Nat) ∧ j ≤ len ∧ Hid (wr.ownsRow w.heap.size 3 1 (.slice ag j cc) j (((classesI cs).take j).map (.int .i64))) ∧ Hid (Below w.heap.size w wr)) (fun _ i _ => (len - intOf i).toNat)
  case atStart => exact ⟨0, none, 0, rfl, rfl, Nat.zero_le _, World.ownsRow_nil _ _ _ _, Below.refl _ _⟩
  case round =>
    obtain ⟨j, ag, cc, rfl, rfl, hj, hrow, hB⟩ := hrel
    by_cases hjl : j < len
    · have q1 : (j : Int) < len := by omega
      have hr1 := H.out.later hB.out (Nat.le_refl _)
      obtain ⟨b, off, hao, hbl, hc⟩ := hr1.at (by omega)
      obtain ⟨e, he⟩ : ∃ e, es[j]? = some e := ⟨_, List.getElem?_eq_getElem (by rw [Hlx.out]; exact hjl)⟩
      obtain ⟨cj, hcj⟩ : ∃ c, c = e.2 := ⟨_, rfl⟩
      have hcsj : cs[j]? = some cj := by rw [Hcs.out, hcj]; simp [he]
      have d2 := (hc j e he).2
      rw [← hcj] at d2
      have Hcsj : Hid _ := hcsj
      have HR : Hid _ := hr1
      have Hc : Hid _ := hc
      have Hao : Hid _ := hao
      obtain ⟨wo, hwo⟩ : ∃ wo, wo = wr := ⟨_, rfl⟩
      have HWo : Hid (wr = wo) := hwo.symm
      rw [← hwo] at d2
      have HR' : Hid (ReadsE wo ao len cap (cellsE es)) := by rw [hwo]; exact HR.out
      have Hc' : Hid (∀ i e, es[i]? = some e → wo.cell? ⟨b, off + i * 2 + 1, none⟩ = some (.int .u64 (e.2 : Nat))) := by rw [hwo]; exact fun i e he => (Hc.out i e he).2
      have hrow' : Hid (wo.ownsRow w.heap.size 3 1 (.slice ag j cc) j (((classesI cs).take j).map (.int .i64))) := by rw [hwo]; exact hrow.out
      have hB' : Hid (Below w.heap.size w wo) := by rw [hwo]; exact hB.out
      clear he hcj hcsj hr1 hc hbl hwo HR Hc hrow hB
      obtain rfl := Hao.out
      go_wp2_with fail
      go_loopw [5, 6] (fun v i w2 => ∃ (t k : Nat), v = .int .i64 (t : Nat) ∧ i = .int .i64 (k : Nat) ∧ k ≤ len ∧ t ≤ k ∧ Hid (t = firstsN cs cj k) ∧ ∃ m, w2 = wo.drewN m) (fun _ i _ => (len - intOf i).toNat)
      case atStart => exact ⟨0, 0, rfl, rfl, Nat.zero_le _, Nat.le_refl _, (rfl : 0 = _), 0, HWo.out⟩
      case round =>
        obtain ⟨t, k, rfl, rfl, hk, htk, ht, md, hw⟩ := hrel
        have Hw : Hid _ := hw
        clear hw HWo
        by_cases hkl : k < len
        · have i1 : (k : Int) < len := by omega
          obtain ⟨ek, hek⟩ : ∃ e, es[k]? = some e := ⟨_, List.getElem?_eq_getElem (by rw [Hlx.out]; exact hkl)⟩
          obtain ⟨ck, hck⟩ : ∃ c, c = ek.2 := ⟨_, rfl⟩
          have c2 : wr.cell? ⟨b, off + k * 2 + 1, none⟩ = some (.int .u64 (ck : Nat)) := by rw [Hw.out, hck]; exact Hc'.out k ek hek
          have d3 : wr.cell? ⟨b, off + j * 2 + 1, none⟩ = some (.int .u64 (cj : Nat)) := by rw [Hw.out]; exact d2
          have hgk : cs.getD k 0 = ck := by rw [Hcs.out, hck]; simp [List.getD_eq_getElem?_getD, hek]
          have hst : firstsN cs cj (k + 1) = firstsN cs cj k + if cj < ck ∧ firstB cs k = true then 1 else 0 := by
            rw [firstsN, hgk]
            unfold firstB
            rw [hgk]
            congr 1
            simp only [decide_eq_true_eq]
          have Hst : Hid _ := hst
          have hrd : ReadsE wr (some ⟨b, off, none⟩) len cap (cellsE es) := by rw [Hw.out]; exact HR'.out.later (below_drewN (Below.refl _ _) md) (Nat.le_refl _)
          have pf := fun nq => rfirst_any (hrd.later (below_drewN (Below.refl _ _) nq) (Nat.le_refl _)) k hkl
          rw [← Hcs.out] at pf
          clear hek hck hgk hst hrd d2
          by_cases hq : cj < ck
          · have q2 : decide ((cj : Int) < ck) = true := decide_eq_true (by omega)
            have q3 : decide (cj < ck) = true := decide_eq_true hq
            generalize firstB cs k = fb at *
            have Hq : Hid _ := hq
            clear hq
            cases fb with
            | true =>
              have HT : Hid (t + 1 = firstsN cs cj (k + 1)) := by have h0 := Hst.out; rw [if_pos ⟨Hq.out, rfl⟩, ← ht.out] at h0; exact h0.symm
              clear Hst
              go_wp2_with fail
              go_quiet (exact Calls.quiet_of (pf _))
              clear pf c2 d3 q2 q3
              go_wp2
              go_roundw
              case rel => exact ⟨t + 1, k + 1, by go_num, by go_num, by omega, by omega, HT, md + nq, by rw [Hw.out, World.drewN_drewN]⟩
              case measure => simp [intOf]; omega
            | false =>
              have HT : Hid (t = firstsN cs cj (k + 1)) := by have h0 := Hst.out; rw [if_neg (fun hh => by have := hh.2; cases this), Nat.add_zero, ← ht.out] at h0; exact h0.symm
              clear Hst
              go_wp2_with fail
              go_quiet (exact Calls.quiet_of (pf _))
              clear pf c2 d3 q2 q3
              go_wp2
              go_roundw
              case rel => exact ⟨t, k + 1, by go_num, by go_num, by omega, by omega, HT, md + nq, by rw [Hw.out, World.drewN_drewN]⟩
              case measure => simp [intOf]; omega
          · have q2 : decide ((cj : Int) < ck) = false := by rw [decide_eq_false_iff_not]; omega
            have q3 : decide (cj < ck) = false := decide_eq_false hq
            have HT : Hid (t = firstsN cs cj (k + 1)) := by show _ = _; rw [Hst.out, if_neg (fun hh => hq hh.1), Nat.add_zero, ← ht.out]
            clear pf Hst hq
            go_wp2_with fail
            go_quiet (fail)
            clear c2 d3 q2 q3
            go_wp2
            go_roundw
            case rel => exact ⟨t, k + 1, by go_num, by go_num, by omega, by omega, HT, md + nq, by rw [Hw.out, World.drewN_drewN]⟩
            case measure => simp [intOf]; omega
        · have hke : k = len := by omega
          have i1 : ¬ (k : Int) < len := by omega
          have hab : t = aboveN cs cj := by rw [ht.out, hke, ← Hcl.out, firsts_all]
          have hBw : Below w.heap.size w wr := by rw [Hw.out]; exact below_drewN hB'.out md
          have hrw : wr.ownsRow w.heap.size 3 1 (.slice ag j cc) j (((classesI cs).take j).map (.int .i64)) := by rw [Hw.out]; exact own_later hrow'.out (below_drewN (Below.refl _ _) md) (Nat.le_refl _)
          have hsz := hBw.size
          have hstep : ((classesI cs).take (j + 1)).map (Value.int .i64) = ((classesI cs).take j).map (.int .i64) ++ [.int .i64 (classN cs cj : Nat)] := by
            rw [List.take_add_one, classesI_at Hcsj.out, List.map_append]; rfl
          have hor : ((255 : Int) < t ∧ ((classN cs cj : Nat) : Int) = 255) ∨ (¬ (255 : Int) < t ∧ ((classN cs cj : Nat) : Int) = t) := by
            unfold classN
            omega
          have HS : Hid _ := hstep
          have HBw : Hid _ := hBw
          have hm1 : j + 1 ≤ maxLen := by unfold maxLen; omega
          have hm2 : (j + 1) * 8 ≤ 140737488355328 := by omega
          generalize classN cs cj = cl at *
          clear hstep hBw hB' hrow' d2 HR' Hc' hab hke ht Hw Hcsj
          rcases hor with ⟨q2, q3⟩ | ⟨q2, q3⟩
          all_goals rw [q3] at HS
          all_goals clear q3
          · have hone : ∀ u ∈ [Value.int .i64 255], u.oneCell' = true := by simp [Value.oneCell']
            go_wp2_with (at_builtin; refine wpList_append_reads rfl _ _ 28 rfl w.heap.size 3 Try.infoInt13 rfl Try.underlying28 _ _ _ _ rfl (own_later hrw ((Below.refl _ _).alloc (Nat.le_refl _) _) (Nat.le_refl _)) _ _ _ _ rfl (reads_one _ _ _) hone hm1 hm2 (Nat.le_trans hsz (by simp)) ?_; intro ag2 c2 w2 hr2 hb2)
            rw [← HS.out] at hr2
            have HR2 : Hid _ := hr2
            have HB2 : Hid _ := (HBw.out.alloc hsz _).trans hb2
            clear hr2 hb2 hrw
            go_wp2
            go_roundw
            case rel => exact ⟨j + 1, ag2, c2, rfl, by go_num, by omega, HR2, HB2⟩
            case measure => simp [intOf]; omega
          · have hone : ∀ u ∈ [Value.int .i64 (t : Nat)], u.oneCell' = true := by simp [Value.oneCell']
            go_wp2_with (at_builtin; refine wpList_append_reads rfl _ _ 28 rfl w.heap.size 3 Try.infoInt13 rfl Try.underlying28 _ _ _ _ rfl (own_later hrw ((Below.refl _ _).alloc (Nat.le_refl _) _) (Nat.le_refl _)) _ _ _ _ rfl (reads_one _ _ _) hone hm1 hm2 (Nat.le_trans hsz (by simp)) ?_; intro ag2 c2 w2 hr2 hb2)
            rw [← HS.out] at hr2
            have HR2 : Hid _ := hr2
            have HB2 : Hid _ := (HBw.out.alloc hsz _).trans hb2
            clear hr2 hb2 hrw
            go_wp2
            go_roundw
            case rel => exact ⟨j + 1, ag2, c2, rfl, by go_num, by omega, HR2, HB2⟩
            case measure => simp [intOf]; omega
    · have hji : ¬ (j : Int) < len := by omega
      have hje : j = len := by omega
      have Hje : Hid _ := hje
      have ht : (classesI cs).take j = classesI cs := List.take_of_length_le (by rw [classesI_len, Hcl.out]; omega)
      rw [ht] at hrow
      clear ht hje
      go_wp2
      go_ret
      exact ⟨ag, cc, j, rfl, Hje.out, hrow.out, hB.out⟩
#print axioms rclasses_any
end Go.Proofs.Ytnojjipoppemcaa
