/- The landed play: a list's matches played once more. -/
import Derived.Test.YtgnhnhachhfafaaLoserPlay
import Derived.Deep.RegionHeld
namespace Go.Proofs.Ytgnhnhachhfafaa
open Go.RowKit
set_option linter.unusedVariables false
set_option linter.unusedSimpArgs false

theorem grown_trans {w w1 w2 : World} {r : Option Nat} (h : w.grownBy w1 r) (k : w1.grownBy w2 r) : w.grownBy w2 r :=
  ⟨k.os.trans h.os, k.tape.trans h.tape, k.output.trans h.output, Nat.le_trans h.size k.size, fun i hi hr => (k.block i (by have := h.size; omega) hr).trans (h.block i hi hr)⟩
theorem grownBy_setCell_at (w : World) (b k : Nat) (v : Value) : w.grownBy (w.setCell ⟨b, k, none⟩ v) (some b) := by
  have h0 := Below.refl w.heap.size w
  refine ⟨h0.os, h0.tape, h0.output, by simp [World.setCell], fun i hi hr => Below.heap_setCell _ _ _ _ (fun e => hr (by rw [e]))⟩
theorem grown_set {w w1 : World} {b : Nat} (h : w.grownBy w1 (some b)) (q k : Nat) (v : Value) : w.grownBy ((w1.drewN q).setCell ⟨b, k, none⟩ v) (some b) := by
  have hb : Below w1.heap.size w1 (w1.drewN q) := below_drewN (Below.refl _ _) _
  refine grown_trans h ⟨hb.os, hb.tape, hb.output, by simp [World.setCell], fun i hi hr => (Below.heap_setCell _ _ _ _ (fun e => hr (by rw [e]))).trans (hb.block i hi)⟩
theorem grown_set0 {w w1 : World} {b : Nat} (h : w.grownBy w1 (some b)) (k : Nat) (v : Value) : w.grownBy (w1.setCell ⟨b, k, none⟩ v) (some b) :=
  grown_trans h (grownBy_setCell_at w1 b k v)
/-- What playing again leaves. -/
def AgainAt (B : Nat) (w : World) (pb lb ob : Nat) (ls : List (List En)) (n : Nat) (vs : List Value) (e : Ending) (w' : World) : Prop :=
  e = .returned (.tuple #[]) ∧ w.grownBy w' (some ob) ∧ ∃ L' W', PlayAt B w' pb lb ob ls L' vs ∧ L'.length = n ∧ Tree ls L' W' n ∧ L'.getD 0 0 = W' 1
set_option maxRecDepth 100000 in
set_option maxHeartbeats 4000000 in
theorem again_any {B : Nat} {w : World} {pb lb ob : Nat} {ls : List (List En)} {L : List Nat} {vs : List Value} {W0 : Nat → Nat} {n i : Nat} (h : PlayAt B w pb lb ob ls L vs) (hn : L.length = n) (hi : i < n) (hP : Part ls L W0 n (n + i) i) :
    Calls Try.prog 30 #[.pointer (some ⟨pb, 0, none⟩), .int .i64 (i : Nat)] w fun e w' => AgainAt B w pb lb ob ls n vs e w' := by
  have c0 := h.c0
  have hm := h.most
  rw [hn] at c0 hm
  have hd : ((n : Int) + i) / 2 = ((n + i) / 2 : Nat) := by omega
  go_enter Try.func30, Try.ntmps30
  go_wp2_with fail
  go_loopw [1, 4] (fun v u wr => ∃ (m c win : Nat) (L' : List Nat) (W' : Nat → Nat), v = .int .i64 (win : Nat) ∧ u = .int .i64 (m : Nat) ∧ Hid (m = c / 2) ∧ PlayAt B wr pb lb ob ls L' vs ∧ Hid (L'.length = n) ∧ Hid (Part ls L' W' n c win) ∧ w.grownBy wr (some ob)) (fun _ u _ => (intOf u).toNat)
  case atStart => exact ⟨(n + i) / 2, n + i, i, L, W0, rfl, by rw [hd], rfl, h, hn, hP, World.grownBy.refl _ _⟩
  case round =>
    obtain ⟨m, c, win, L', W', rfl, rfl, Hm, hp, hL, hPt, hG⟩ := hrel
    clear c0 hd hm h hP
    have hpm := hp.most
    have c0 := hp.c0
    have c1 := hp.c1
    rw [hL.out] at c0 c1 hpm
    by_cases hc : m = 0
    · obtain ⟨hT, hW1⟩ := hPt.out.done (by rw [← Hm.out]; exact hc)
      have hn0 : (0 : Int) < n := by omega
      have fo := hp.fo 0
      have co := hp.co (i := 0) (by rw [hL.out]; omega)
      have hp2 := hp.setL 0 win
      have HT : Hid (∃ W', Tree ls (L'.set 0 win) W' n ∧ (L'.set 0 win).getD 0 0 = W' 1) := ⟨W', hT.set0, by rw [getD_set_eq (by rw [hL.out]; omega), hW1]⟩
      have Hp2 : Hid _ := hp2
      have HG : Hid _ := hG
      have hm0 : ¬ (0 : Int) < m := by omega
      clear hp hp2 hG hT hW1 hPt
      go_wp2
      go_end0
      obtain ⟨W3, g1, g2⟩ := HT.out
      exact ⟨rfl, grown_set0 HG.out 0 _, _, W3, Hp2.out, by rw [List.length_set]; exact hL.out, g1, g2⟩
    · have hc1 : 1 ≤ c / 2 := by have := Hm.out; omega
      obtain ⟨o1, o2, o3⟩ := hPt.out.other hc1
      obtain ⟨W2, hPn⟩ := hPt.out.next hL.out hc1
      rw [← Hm.out] at hPn o1 o3 hc1
      have co := hp.co (i := m) (by rw [hL.out]; exact o3)
      have fo := hp.fo m
      have pm := fun W (hW : Below wr.heap.size wr W) => match_any (hp.later hW (Nat.le_refl _)) win (L'.getD m 0) (by rw [hL.out]; exact o2) (by rw [hL.out]; exact o1)
      have HPn : Hid _ := hPn
      have Hp : Hid _ := hp
      generalize matchF ls win (L'.getD m 0) = r at *
      generalize L'.getD m 0 = z at *
      obtain ⟨rw1, rl⟩ := r
      simp only at pm HPn
      have hmi : (0 : Int) < m := by omega
      have hmn : (m : Int) < n := by omega
      have hm0 : (0 : Int) ≤ m := by omega
      have HG : Hid _ := hG
      clear hPn hp hPt hc o1 o2 o3 hc1 hG
      go_wp2_with fail
      go_region_with (go_at_call 29; refine (pm _ (by first | exact Below.refl _ _ | exact Below.drew (Below.refl _ _) | exact below_drewN (Below.refl _ _) _)).mono ?_; rintro e w1 ⟨rfl, mm, rfl⟩)
      all_goals
        have hp2 := (Hp.out.later (below_drewN (Below.refl _ _) (1 + mm)) (Nat.le_refl _)).setL m rl
        have Hp2 : Hid _ := hp2
        have HG2 : Hid _ := grown_set HG.out (1 + mm) m (.int .i64 (rl : Nat))
        clear hp2 pm c0 c1 co fo
        go_wp2
        go_roundw
        case rel => exact ⟨m / 2, m, rw1, L'.set m rl, W2, rfl, by go_num, rfl, Hp2.out, by rw [List.length_set]; exact hL.out, HPn.out, HG2.out⟩
        case measure => simp [intOf]; omega
#print axioms again_any
end Go.Proofs.Ytgnhnhachhfafaa
