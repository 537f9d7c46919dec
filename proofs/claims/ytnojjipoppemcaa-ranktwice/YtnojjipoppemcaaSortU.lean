/- slices.Sort of uint64s, its parts: a row of uint64s in a world of the sort's; cmp.Less; insertionSortOrdered, reverseRangeOrdered. -/
import Derived.Test.YtnojjipoppemcaaFound
import Derived.Shelf.SlSortCmp.Kit1
import Derived.Sort.WalkA
import Derived.Sort.AssemblyPlain
import Derived.BigQuiet
import Derived.CellFam
import Derived.BigCall
import Derived.BigGuard
namespace Go.Proofs.Ytnojjipoppemcaa
open Go.RowKit Go.Sort
set_option linter.unusedVariables false
set_option linter.unusedSimpArgs false

abbrev encU : Int → Value := Value.int .u64

/-- In w the row of n uint64s at blk, off shows d, and all else is as it was in w0, but for new blocks. -/
structure SU (w0 : World) (blk off n : Nat) (d : Array Int) (w : World) : Prop where
  sw : SW encU w0 blk off d w
  hs : d.size = n
  hb : blk < w0.heap.size
  h0 : ∃ d0 : Array Int, d0.size = n ∧ Holds encU w0 blk off d0
namespace SU
variable {w0 w : World} {blk off n : Nat} {d : Array Int}
theorem holds (S : SU w0 blk off n d w) : Holds encU w blk off d := by
  obtain ⟨d0, h1, h2⟩ := S.h0
  exact S.sw.holds S.hb h2 (by rw [S.hs, h1])
theorem cell (S : SU w0 blk off n d w) (t : Nat) (ht : t < n) : w.cell? ⟨blk, off + t, none⟩ = some (.int .u64 d[t]!) := (S.holds t (by rw [S.hs]; exact ht)).1
theorem frozen (S : SU w0 blk off n d w) (t : Nat) (ht : t < n) : w.frozen? ⟨blk, off + t, none⟩ = false := (S.holds t (by rw [S.hs]; exact ht)).2
theorem drewN (S : SU w0 blk off n d w) (q : Nat) : SU w0 blk off n d (w.drewN q) := ⟨S.sw.drewN q, S.hs, S.hb, S.h0⟩
theorem drew (S : SU w0 blk off n d w) : SU w0 blk off n d w.drew := S.drewN 1
theorem alloc (S : SU w0 blk off n d w) (o : Obj) : SU w0 blk off n d (w.alloc o) := ⟨S.sw.alloc o, S.hs, S.hb, S.h0⟩
theorem setNew (S : SU w0 blk off n d w) (b o : Nat) (v : Value) (hb : w0.heap.size ≤ b) : SU w0 blk off n d (w.setCell ⟨b, o, none⟩ v) := ⟨S.sw.setCell_new b o v hb, S.hs, S.hb, S.h0⟩
theorem swap (S : SU w0 blk off n d w) (i j : Nat) (hi : i < n) (hj : j < n) :
    SU w0 blk off n (swp d i j) ((w.setCell ⟨blk, off + i, none⟩ (.int .u64 d[j]!)).setCell ⟨blk, off + j, none⟩ (.int .u64 d[i]!)) :=
  ⟨S.sw.swap S.hb i j (by rw [S.hs]; exact hi) (by rw [S.hs]; exact hj), by rw [size_swp]; exact S.hs, S.hb, S.h0⟩
/-- Behind the first store of an exchange the second place still holds something. -/
theorem second (S : SU w0 blk off n d w) (i j : Nat) (hi : i < n) (hj : j < n) (v : Value) : ∃ u, (w.setCell ⟨blk, off + i, none⟩ v).cell? ⟨blk, off + j, none⟩ = some u := by
  by_cases e : i = j
  · subst e; exact ⟨v, World.cell?_setCell_same _ _ _ (S.cell i hi)⟩
  · exact ⟨_, (World.cell?_setCell_other _ _ _ _ (by intro e'; simp only [Addr.mk.injEq] at e'; omega)).trans (S.cell j hj)⟩
theorem start {w0 : World} {blk off n : Nat} {d : Array Int} (h : Holds encU w0 blk off d) (hs : d.size = n) (hb : blk < w0.heap.size) : SU w0 blk off n d w0 := ⟨SW.start h, hs, hb, d, hs, h⟩
end SU

theorem isNaN_any : ∀ (x : Int) (w : World), Calls Try.prog 44 #[.int .u64 x] w fun e w' => e = .returned (.bool false) ∧ w' = w := by
  intro x w
  go_enter Try.func44, Try.ntmps44
  go_wp2
  go_ret
  exact ⟨by simp, rfl⟩

set_option maxHeartbeats 4000000 in
theorem less_any : ∀ (x y : Int) (w : World), Calls Try.prog 35 #[.int .u64 x, .int .u64 y] w fun e w' => e = .returned (.bool (ltInt x y)) ∧ w' = w := by
  intro x y w
  go_enter Try.func35, Try.ntmps35
  go_wp2_with (go_at_call 44; refine (isNaN_any _ _).mono ?_; rintro e w' ⟨rfl, rfl⟩)
  go_ret
  exact ⟨by simp [ltInt], rfl⟩

set_option maxRecDepth 1000000 in
set_option maxHeartbeats 16000000 in
theorem ins_any {w0 w : World} {blk off n : Nat} {d : Array Int} (S : SU w0 blk off n d w) (cap a b : Nat) (hab : a ≤ b) (hb : b ≤ n) (hn : n < 4611686018427387904) :
    Calls Try.prog 29 #[.slice (some ⟨blk, off, none⟩) n cap, .int .i64 a, .int .i64 b] w fun e w' => e = .returned (.tuple #[]) ∧ SU w0 blk off n (insertionSort ltInt d a b) w' := by
  have HS : Hid _ := S
  clear S
  go_enter Try.func29, Try.ntmps29
  go_wp2_with fail
  go_loopw [6] (fun vi wr => ∃ (i : Nat) (dk : Array Int), vi = .int .i64 i ∧ a < i ∧ i ≤ b + 1 ∧ Hid (SU w0 blk off n dk wr) ∧ Hid (insOuter ltInt a b i dk = insOuter ltInt a b (a + 1) d)) (fun vi _ => b + 1 - (intOf vi).toNat)
  case atStart => exact ⟨a + 1, d, by go_num, by omega, by omega, HS, rfl⟩
  case round =>
    obtain ⟨i, dk, rfl, hai, hib, S1, HO⟩ := hrel
    clear HS
    by_cases hlt : i < b
    · have q1 : (i : Int) < b := by omega
      go_wp2_with fail
      go_loopw [7] (fun vj wr2 => ∃ (j : Nat) (dj : Array Int), vj = .int .i64 j ∧ a ≤ j ∧ j ≤ i ∧ Hid (SU w0 blk off n dj wr2) ∧ Hid (insInner ltInt a j dj = insInner ltInt a i dk)) (fun vj _ => (intOf vj).toNat)
      case atStart => exact ⟨i, dk, rfl, by omega, Nat.le_refl _, S1, rfl⟩
      case round =>
        clear S1
        obtain ⟨j, dj, rfl, haj, hji, SJ, HI⟩ := hrel
        have out : (j ≤ a ∨ ltInt dj[j]! dj[j - 1]! = false) → Hid (insOuter ltInt a b (i + 1) dj = insOuter ltInt a b (a + 1) d) := fun hs => by
          show _ = _
          rw [← HO.out, insOuter_go _ _ _ _ _ hlt, ← HI.out, insInner_stop _ _ _ _ hs]
        have OUT : Hid _ := out
        clear out
        obtain ⟨G, hG⟩ : ∃ G : Nat → Int, ∀ t, G t = dj[t]! := ⟨fun t => dj[t]!, fun _ => rfl⟩
        have HG : Hid (∀ t, G t = dj[t]!) := hG
        have hcw : ∀ t, t < n → wr.cell? ⟨blk, off + t, none⟩ = some (.int .u64 (G t)) := fun t ht => by rw [hG]; exact SJ.out.cell t ht
        have hfw : ∀ t, t < n → wr.frozen? ⟨blk, off + t, none⟩ = false := SJ.out.frozen
        clear hG
        by_cases hja : a < j
        · obtain ⟨jp, rfl⟩ : ∃ q, j = q + 1 := ⟨j - 1, by omega⟩
          have q2 : (a : Int) < (jp : Int) + 1 := by omega
          have q3 : decide ((a : Int) < (jp : Int) + 1) = true := decide_eq_true q2
          cases hlv : ltInt (G (jp + 1)) (G jp) with
          | true =>
            have Hlv : Hid _ := hlv
            clear hlv
            have HX : Hid (∀ q, SU w0 blk off n (swp dj (jp + 1) jp) (((wr.drewN q).setCell ⟨blk, off + (jp + 1), none⟩ (.int .u64 (G jp))).setCell ⟨blk, off + jp, none⟩ (.int .u64 (G (jp + 1)))).drew) := by
              show ∀ q, SU _ _ _ _ _ _
              intro q
              rw [HG.out, HG.out]; exact ((SJ.out.drewN q).swap (jp + 1) jp (by omega) (by omega)).drew
            go_wp2_with fail
            have q4 : ltInt (G (jp + 1)) (G jp) = true := Hlv.out
            go_quiet (first | (go_at_call 35; refine Calls.quiet_of_same (less_any _ _ _)))
            go_wp2_with fail
            go_region
            go_wp2_with fail
            go_roundw
            case rel => exact ⟨jp, swp dj (jp + 1) jp, rfl, by omega, by omega, HX.out nq, (show Hid _ from by rw [← HI.out, insInner_go ltInt a (jp + 1) dj hja (by rw [Nat.add_sub_cancel, ← HG.out, ← HG.out]; exact Hlv.out)]; exact rfl)⟩
            case measure => simp [intOf]
          | false =>
            go_wp2_with fail
            go_quiet (first | (go_at_call 35; refine Calls.quiet_of_same (less_any _ _ _)))
            go_wp2_with fail
            go_roundw
            case rel => exact ⟨i + 1, dj, by go_num, by omega, by omega, SJ.out.drewN _, OUT.out (Or.inr (by rw [← HG.out, Nat.add_sub_cancel, ← HG.out]; exact hlv))⟩
            case measure => simp [intOf]; omega
        · have q3 : decide ((a : Int) < (j : Int)) = false := decide_eq_false (by omega)
          go_wp2_with fail
          go_quiet (first | (go_at_call 35; refine Calls.quiet_of_same (less_any _ _ _)))
          go_wp2_with fail
          go_roundw
          case rel => exact ⟨i + 1, dj, by go_num, by omega, by omega, SJ.out.drewN _, OUT.out (Or.inl (by omega))⟩
          case measure => simp [intOf]; omega
    · have q1 : ¬ ((i : Int) < b) := by omega
      go_wp2_with fail
      go_end0
      exact ⟨rfl, by unfold Sort.insertionSort; rw [← HO.out, insOuter_stop _ _ _ _ _ hlt]; exact S1.out⟩

theorem reverseLoop_go {i j : Nat} {d : Array Int} (h : i < j) : reverseLoop i j d = reverseLoop (i + 1) (j - 1) (swp d i j) := by rw [reverseLoop, if_pos h]
theorem reverseLoop_end {i j : Nat} {d : Array Int} (h : ¬ i < j) : reverseLoop i j d = d := by rw [reverseLoop, if_neg h]

set_option maxRecDepth 1000000 in
set_option maxHeartbeats 16000000 in
theorem reverse_any {w0 w : World} {blk off n : Nat} {d : Array Int} (S : SU w0 blk off n d w) (cap a b : Nat) (hab : a < b) (hb : b ≤ n) (hn : n < 4611686018427387904) :
    Calls Try.prog 33 #[.slice (some ⟨blk, off, none⟩) n cap, .int .i64 a, .int .i64 b] w fun e w' => e = .returned (.tuple #[]) ∧ SU w0 blk off n (reverseRange d a b) w' := by
  have HS : Hid _ := S
  clear S
  obtain ⟨bp, rfl⟩ : ∃ q, b = q + 1 := ⟨b - 1, by omega⟩
  go_enter Try.func33, Try.ntmps33
  go_wp2_with fail
  go_loopw [6, 7] (fun vi vj wr => ∃ (i j : Nat) (dk : Array Int), vi = .int .i64 i ∧ vj = .int .i64 j ∧ i ≤ j + 1 ∧ j ≤ bp ∧ Hid (SU w0 blk off n dk wr) ∧ Hid (reverseLoop i j dk = reverseLoop a bp d)) (fun vi vj _ => (intOf vj).toNat)
  case atStart => exact ⟨a, bp, d, rfl, by go_num, by omega, by omega, HS, rfl⟩
  case round =>
    obtain ⟨i, j, dk, rfl, rfl, hij, hj, S1, HO⟩ := hrel
    clear HS
    by_cases hlt : i < j
    · obtain ⟨jp, rfl⟩ : ∃ q, j = q + 1 := ⟨j - 1, by omega⟩
      have q1 : (i : Int) < (jp : Int) + 1 := by omega
      obtain ⟨G, hG⟩ : ∃ G : Nat → Int, ∀ t, G t = dk[t]! := ⟨fun t => dk[t]!, fun _ => rfl⟩
      have HG : Hid (∀ t, G t = dk[t]!) := hG
      have hcw : ∀ t, t < n → wr.cell? ⟨blk, off + t, none⟩ = some (.int .u64 (G t)) := fun t ht => by rw [hG]; exact S1.out.cell t ht
      have hfw : ∀ t, t < n → wr.frozen? ⟨blk, off + t, none⟩ = false := S1.out.frozen
      clear hG
      have hne : i ≠ jp + 1 := by omega
      have HX : Hid (SU w0 blk off n (swp dk i (jp + 1)) ((wr.setCell ⟨blk, off + i, none⟩ (.int .u64 (G (jp + 1)))).setCell ⟨blk, off + (jp + 1), none⟩ (.int .u64 (G i))).drew) := by
        show SU _ _ _ _ _ _
        rw [HG.out, HG.out]; exact (S1.out.swap i (jp + 1) (by omega) (by omega)).drew
      go_wp2_with fail
      go_region
      go_wp2_with fail
      go_roundw
      case rel => exact ⟨i + 1, jp, swp dk i (jp + 1), by go_num, rfl, by omega, by omega, HX, (show Hid _ from by rw [← HO.out, reverseLoop_go hlt]; exact rfl)⟩
      case measure => simp [intOf]
    · have q1 : ¬ (i : Int) < (j : Int) := by omega
      go_wp2_with fail
      go_end0
      exact ⟨rfl, by unfold reverseRange; rw [Nat.add_sub_cancel, ← HO.out, reverseLoop_end hlt]; exact S1.out⟩
end Go.Proofs.Ytnojjipoppemcaa
