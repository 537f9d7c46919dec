/- daw.May: its tests of one state. -/
import Derived.Test.YtkcledkfgmdcgaaDawTurn
import Derived.Test.YtkcledkfgmdcgaaDawKey
import Derived.Test.YtkcledkfgmdcgaaMapS
import Derived.Deep.QuietTactic
import Derived.BigQuiet
namespace Go.Proofs.Ytkcledkfgmdcgaa
open Go.RowKit
set_option linter.unusedVariables false
set_option linter.unusedSimpArgs false

set_option maxRecDepth 100000 in
set_option maxHeartbeats 4000000 in
theorem ends_any (f : Bool) (eg : Option Addr) (n c : Nat) (w : World) (hn : n ≤ 9223372036854775807) :
    Calls Try.prog 26 #[.agg #[.bool f, .slice eg n c]] w fun e w' => e = .returned (.bool (f || decide (0 < n))) ∧ Below w.heap.size w w' := by
  cases f with
  | true =>
    go_enter Try.func26, Try.ntmps26
    go_wp2
    go_ret
    exact ⟨rfl, (Below.refl _ _).alloc (Nat.le_refl _) _⟩
  | false =>
    by_cases h : 0 < n
    · have h1 : (0 : Int) < n := by omega
      go_enter Try.func26, Try.ntmps26
      go_wp2
      go_ret
      exact ⟨by simp [h], (Below.refl _ _).alloc (Nat.le_refl _) _⟩
    · obtain rfl : n = 0 := by omega
      go_enter Try.func26, Try.ntmps26
      go_wp2
      go_ret
      exact ⟨rfl, (Below.refl _ _).alloc (Nat.le_refl _) _⟩
def Tells (e : Ending) (P : Prop) : Prop := ∃ b : Bool, e = .returned (.bool b) ∧ (b = true ↔ P)
def RiseZ (es : List (UInt8 × Int)) : Prop := es.Pairwise fun a b => a.1 < b.1
def LowP (es : List (UInt8 × Int)) (n : Nat) : Prop := (∀ e ∈ es, 0 ≤ e.2 ∧ e.2 < n) ∧ RiseZ es
theorem rise_one {es : List (UInt8 × Int)} {j : Nat} {e : UInt8 × Int} (he : es[j]? = some e) (hr : RiseZ (es.take j)) (hd : ∀ d, 0 < j → es[j - 1]? = some d → d.1 < e.1) : RiseZ (es.take (j + 1)) := by
  have hst : es.take (j + 1) = es.take j ++ [e] := by rw [List.take_add_one, he]; rfl
  rw [hst]
  refine List.pairwise_append.2 ⟨hr, by simp, fun a ha b hb => ?_⟩
  simp only [List.mem_singleton] at hb
  subst hb
  obtain ⟨i, hi, rfl⟩ := List.getElem_of_mem ha
  have hjl := (List.getElem?_eq_some_iff.1 he).1
  have hil : i < j := by simp at hi; omega
  have hlast : es[j - 1]? = some (es[j - 1]'(by omega)) := List.getElem?_eq_getElem (by omega)
  have h1 := hd _ (by omega) hlast
  by_cases hij : i = j - 1
  · subst hij
    rw [List.getElem_take]; exact h1
  · have h2 := List.pairwise_iff_getElem.1 hr i (j - 1) hi (by simp; omega) (by omega)
    rw [List.getElem_take] at h2
    rw [List.getElem_take] at h2 ⊢
    exact UInt8.lt_trans h2 h1
theorem rise_bad {es : List (UInt8 × Int)} {j : Nat} {e d : UInt8 × Int} (he : es[j + 1]? = some e) (hd : es[j]? = some d) (h : ¬ d.1 < e.1) : ¬ RiseZ es := fun hr => by
  obtain ⟨h1, h2⟩ := List.getElem?_eq_some_iff.1 he
  obtain ⟨h3, h4⟩ := List.getElem?_eq_some_iff.1 hd
  have := List.pairwise_iff_getElem.1 hr j (j + 1) h3 h1 (by omega)
  rw [h2, h4] at this
  exact h this
set_option maxRecDepth 100000 in
set_option maxHeartbeats 4000000 in
theorem leads_any {w : World} {eg : Option Addr} {n c : Nat} {es : List (UInt8 × Int)} (h : ReadsE w eg n c (cellsEd es)) (hn : es.length = n) (f : Bool) (m : Nat) (hm : m ≤ 9223372036854775807) (hz : ∀ e ∈ es, -9223372036854775808 ≤ e.2 ∧ e.2 ≤ 9223372036854775807) :
    Calls Try.prog 27 #[.agg #[.bool f, .slice eg n c], .int .i64 (m : Nat)] w fun e w' => Tells e (LowP es m) ∧ Below w.heap.size w w' := by
  have HR : Hid _ := h
  have Hn : Hid _ := hn
  have Hz : Hid _ := hz
  have hmi : n ≤ 9223372036854775807 := by have := Nat.le_trans h.le h.most; unfold maxLen at this; omega
  clear h hn hz
  go_enter Try.func27, Try.ntmps27
  go_wp2_with fail
  go_loopw [10] (fun i wr => ∃ j : Nat, i = .int .i64 (j : Nat) ∧ j ≤ n ∧ Hid (∀ e ∈ es.take j, 0 ≤ e.2 ∧ e.2 < m) ∧ Hid (RiseZ (es.take j)) ∧ Hid (Below w.heap.size w wr) ∧ wr.cell? ⟨w.heap.size, 1, none⟩ = some (.slice eg n c)) (fun i _ => (n - intOf i).toNat)
  case atStart => exact ⟨0, rfl, Nat.zero_le _, (show ∀ e ∈ ([] : List (UInt8 × Int)), _ from fun e he => by simp at he), List.Pairwise.nil, (Below.refl _ _).alloc (Nat.le_refl _) _, by rw [cell_of (heap_alloc_new _ _)]; rfl⟩
  case round =>
    obtain ⟨j, rfl, hj, hA, hR, hB, hcb⟩ := hrel
    by_cases hjl : j < n
    · have q1 : (j : Int) < n := by omega
      obtain ⟨b, off, hao, hb, hcl⟩ := HR.out.edge (by omega)
      obtain ⟨⟨cb, ct⟩, he⟩ : ∃ e, es[j]? = some e := ⟨_, List.getElem?_eq_getElem (by rw [Hn.out]; exact hjl)⟩
      have hcc := hcl j _ he
      simp only at hcc
      subst hao
      have x1 : wr.cell? ⟨b, off + j * 2, none⟩ = some (.int .u8 (cb.toNat : Nat)) := (hB.out.cell (p := ⟨b, off + j * 2, none⟩) hb).trans hcc.1
      have x2 : wr.cell? ⟨b, off + j * 2 + 1, none⟩ = some (.int .i64 ct) := (hB.out.cell (p := ⟨b, off + j * 2 + 1, none⟩) hb).trans hcc.2
      have hzt := Hz.out _ (List.mem_of_getElem? he)
      simp only at hzt
      have hmem := List.mem_of_getElem? he
      have hst : es.take (j + 1) = es.take j ++ [(cb, ct)] := by rw [List.take_add_one, he]; rfl
      have HB : Hid _ := hB.out
      have HA : Hid _ := hA.out
      have HRi : Hid _ := hR.out
      have HSt : Hid _ := hst
      have hsz : w.heap.size < wr.heap.size := by
        have := World.block_lt_of_cell? wr _ hcb
        exact this
      have HSz : Hid _ := hsz
      have hnb : w.heap.size ≤ wr.heap.size := by omega
      have HCb : Hid _ := hcb
      have Hb : Hid _ := hb
      have HX : Hid (es[j]? = some (cb, ct)) := he
      clear hB hA hR hst hsz hb he
      go_upto_region 4 with (fail)
      obtain ⟨W1, hW1⟩ : ∃ W1, W1 = wr.alloc (.cells #[.int .u8 (cb.toNat : Nat), .int .i64 ct] 47) := ⟨_, rfl⟩
      rw [← hW1]
      have e1 : W1.heap[wr.heap.size]? = some (.cells #[.int .u8 (cb.toNat : Nat), .int .i64 ct] 47 (0, 0)) := by rw [hW1]; exact heap_alloc_new _ _
      have y1 : W1.cell? ⟨wr.heap.size, 0, none⟩ = some (.int .u8 (cb.toNat : Nat)) := cell_of e1 0
      have y2 : W1.cell? ⟨wr.heap.size, 1, none⟩ = some (.int .i64 ct) := cell_of e1 1
      have y3 : W1.cell? ⟨w.heap.size, 1, none⟩ = some (.slice (some ⟨b, off, none⟩) n c) := by rw [hW1, cell_agree (heap_alloc_old _ _ HSz.out)]; exact HCb.out
      have B1 : Hid (Below w.heap.size w W1) := by rw [hW1]; exact HB.out.alloc hnb _
      have Hcl : Hid _ := hcl
      have Y3 : Hid _ := y3
      clear hW1 e1 x1 x2 hcb hcc hcl
      by_cases c1 : ct < 0
      · have hE : Hid (¬ LowP es m) := by show ¬ _; intro h; have := h.1 _ hmem; simp only at this; omega
        clear hmem HSt y3 y1
        go_quiet (fail)
        go_wp2
        go_ret
        exact ⟨⟨false, rfl, ⟨fun h => (by cases h), fun h => absurd h hE.out⟩⟩, below_drewN B1.out _⟩
      · have c1' : 0 ≤ ct := by omega
        by_cases c2 : (m : Int) ≤ ct
        · have hE : Hid (¬ LowP es m) := by show ¬ _; intro h; have := h.1 _ hmem; simp only at this; omega
          clear hmem HSt y3 y1
          go_quiet (fail)
          go_wp2
          go_ret
          exact ⟨⟨false, rfl, ⟨fun h => (by cases h), fun h => absurd h hE.out⟩⟩, below_drewN B1.out _⟩
        · have hA' : Hid (∀ e ∈ es.take (j + 1), 0 ≤ e.2 ∧ e.2 < m) := by
            show ∀ e ∈ _, _
            rw [HSt.out]
            intro e hx
            rcases List.mem_append.1 hx with hx | hx
            · exact HA.out e hx
            · simp only [List.mem_singleton] at hx
              subst hx; exact ⟨c1', by simp only; omega⟩
          by_cases c3 : j = 0
          · have hR' : Hid (RiseZ (es.take (j + 1))) := rise_one HX.out HRi.out (fun d h0 => by omega)
            subst c3
            clear hmem HSt y3 y1
            go_quiet (fail)
            go_wp2
            go_roundw
            case rel => exact ⟨1, rfl, by omega, hA', hR', below_drewN B1.out _, Y3.out⟩
            case measure => simp [intOf]; omega
          · obtain ⟨i, rfl⟩ : ∃ i, j = i + 1 := ⟨j - 1, by omega⟩
            obtain ⟨⟨db, dt⟩, hd⟩ : ∃ e, es[i]? = some e := ⟨_, List.getElem?_eq_getElem (by rw [Hn.out]; omega)⟩
            have hdd := Hcl.out i _ hd
            simp only at hdd
            have z1 : W1.cell? ⟨b, off + i * 2, none⟩ = some (.int .u8 (db.toNat : Nat)) := (B1.out.cell (p := ⟨b, off + i * 2, none⟩) Hb.out).trans hdd.1
            have c3' : (0 : Int) < (i : Int) + 1 := by omega
            have hin : (i : Int) < n := by omega
            clear hdd c3
            by_cases c4 : db < cb
            · have hR' : Hid (RiseZ (es.take (i + 1 + 1))) := rise_one HX.out HRi.out (fun d h0 hd' => by rw [Nat.add_sub_cancel, hd] at hd'; cases hd'; exact c4)
              have c5 : ¬ (cb.toNat : Int) ≤ db.toNat := by have := UInt8.lt_iff_toNat_lt.1 c4; omega
              clear hmem HSt hd c4
              go_quiet (fail)
              go_wp2
              go_roundw
              case rel => exact ⟨i + 1 + 1, by go_num, by omega, hA', hR', below_drewN B1.out _, Y3.out⟩
              case measure => simp [intOf]; omega
            · have hE : Hid (¬ LowP es m) := by show ¬ _; intro h; exact rise_bad HX.out hd c4 h.2
              have c5 : (cb.toNat : Int) ≤ db.toNat := by have h1 : ¬ db.toNat < cb.toNat := fun h => c4 (UInt8.lt_iff_toNat_lt.2 h); omega
              clear hmem HSt hd c4 hA'
              go_quiet (fail)
              go_wp2
              go_ret
              exact ⟨⟨false, rfl, ⟨fun h => (by cases h), fun h => absurd h hE.out⟩⟩, below_drewN B1.out _⟩
    · have q1 : ¬ (j : Int) < n := by omega
      have hfin : es.take j = es := List.take_of_length_le (by rw [Hn.out]; omega)
      have hE : Hid (LowP es m) := by
        show _ ∧ _
        have h1 := hA.out
        have h2 := hR.out
        rw [hfin] at h1 h2
        exact ⟨h1, h2⟩
      have HB : Hid _ := hB.out
      clear hfin hB hA hR
      go_wp2
      go_ret
      exact ⟨⟨true, rfl, ⟨fun _ => hE.out, fun _ => rfl⟩⟩, HB.out⟩
#print axioms leads_any
end Go.Proofs.Ytkcledkfgmdcgaa
