/- The contracts of bytes.Equal, bytes.Clone and frame.Get. -/
import Derived.Test.YtgnhnhachhfafaaFramePut
import Derived.Test.YtgnhnhachhfafaaNumGet
import Derived.Deep.RegionHeld
import Derived.Lib.SliceRun
namespace Go.Proofs.Ytgnhnhachhfafaa
open Go.RowKit

set_option maxRecDepth 100000 in
theorem equal_any (ao : Option Addr) (len cap : Nat) (zs : List Int) (bo : Option Addr) (blen bcap : Nat) (ps : List Int) (w : World) (hr : Reads w ao len cap (zs.map (.int .u8))) (hp : Reads w bo blen bcap (ps.map (.int .u8))) (h1 : isBytes zs) (h2 : isBytes ps) :
    Calls Try.prog 47 #[.slice ao len cap, .slice bo blen bcap] w fun e w' => e = .returned (.bool (decide (zs = ps))) ∧ w' = w := by
  have hc1 := conv_of Try.underlying33 Try.underlying5 Try.underlying9 hr
  have hc2 := conv_of Try.underlying33 Try.underlying5 Try.underlying9 hp
  go_enter Try.func47, Try.ntmps47
  go_wp2
  go_ret
  refine ⟨?_, rfl⟩
  rw [str_beq h1 h2]
  rfl

set_option maxRecDepth 100000 in
theorem clone_any (ao : Option Addr) (len cap : Nat) (zs : List Int) (w : World) (hr : Reads w ao len cap (zs.map (.int .u8))) (hlen : len ≤ 140737488351232) :
    Calls Try.prog 63 #[.slice ao len cap] w fun e w' => ∃ ag c, e = .returned (.slice ag len c) ∧ w'.ownsRow w.heap.size 5 1 (.slice ag len c) len (zs.map (.int .u8)) ∧ Below w.heap.size w w' := by
  cases ao with
  | none =>
    obtain ⟨rfl, rfl⟩ := hr.bare rfl
    have : zs = [] := List.eq_nil_of_length_eq_zero (by simpa using hr.length)
    subst this
    have hnil := fun W => Lib.run_eql_slice_nil (P := Try.prog) W 33 5 none 0 0 0 0 Try.underlying33
    go_enter Try.func63, Try.ntmps63
    go_wp2
    go_ret
    exact ⟨none, 0, rfl, World.ownsRow_nil _ _ _ _, Below.refl _ _⟩
  | some ad =>
    have mx : len ≤ maxLen := by unfold maxLen; omega
    have hnil := fun W => Lib.run_eql_slice_nil (P := Try.prog) W 33 5 (some ad) len cap 0 0 Try.underlying33
    go_enter Try.func63, Try.ntmps63
    go_wp2_with (at_builtin; refine wpList_append_reads rfl (.tmp 5) (.tmp 6) 33 rfl w.heap.size 5 Try.info5 rfl Try.underlying33 _ _ _ _ rfl (ownsRow_empty w 5) _ _ _ _ rfl (hr.later ((Below.refl w.heap.size w).alloc (Nat.le_refl _) _) (Nat.le_refl _)) (ints_oneCell _ _) (by omega) (by omega) (by simp) ?_)
    intro ag c2 wc hown2 hb3
    have hb2 : Below w.heap.size w wc := Below.trans ((Below.refl w.heap.size w).alloc (Nat.le_refl _) _) hb3
    clear hb3
    go_wp2
    go_ret
    exact ⟨ag, c2, by simp, by simpa using hown2, hb2⟩
#print axioms clone_any

theorem getR_at {zs : List Int} {n k : Nat} (h : getL zs = (n, k, 0)) : getR zs = if 1048576 < n then ([], 0, 2) else if zs.length < k + n + 4 then ([], 0, 3)
    else if (zs.drop (k + n)).take 4 = sum4 (ofL ((zs.drop k).take n)) then ((zs.drop k).take n, k + n + 4, 0) else ([], 0, 4) := by
  unfold getR
  rw [h]
  simp

def getRV (ag : Option Addr) (c : Nat) (r : List Int × Nat × Nat) : Value := .tuple #[.slice ag r.1.length c, .int .i64 r.2.1, .int .i64 r.2.2]

set_option maxRecDepth 100000 in
set_option maxHeartbeats 400000 in
/-- frame.Get of whatever bytes. -/
theorem fget_any (ao : Option Addr) (len cap : Nat) (zs : List Int) (w : World) (hr : Reads w ao len cap (zs.map (.int .u8))) (h8 : isBytes zs) (hlen : len ≤ 140737488351232) :
    Calls Try.prog 56 #[.slice ao len cap] w fun e w' => ∃ ag c, e = .returned (getRV ag c (getR zs)) ∧
      w'.ownsRow w.heap.size 5 1 (.slice ag (getR zs).1.length c) (getR zs).1.length ((getR zs).1.map (.int .u8)) ∧ Below w.heap.size w w' := by
  have hl : zs.length = len := by simpa using hr.length
  have hlc := hr.le
  rcases hgl : getL zs with ⟨n, k, f⟩
  have Hgl : Hid _ := hgl
  clear hgl
  have hferr := scan_err zs 0 0 n k f Hgl.out
  go_enter Try.func56, Try.ntmps56
  go_wp2_with fail
  refine (get_any ao len cap zs w hr h8).mono ?_
  rintro e wa ⟨rfl, rfl⟩
  rw [Hgl.out]
  unfold getV
  by_cases hf : f = 0
  case neg =>
    have hR : Hid (getR zs = ([], 0, f)) := by show _ = _; unfold getR; rw [Hgl.out]; simp [hf]
    have hf2 : f = 2 ∨ f = 3 := by omega
    clear hferr hf
    have hfb : ((f : Int) == 0) = false := by rcases hf2 with rfl | rfl <;> rfl
    go_wp2
    go_ret3
    rw [hR.out]
    exact ⟨none, 0, rfl, World.ownsRow_nil _ _ _ _, Below.refl _ _⟩
  subst hf
  clear hferr
  obtain ⟨k1, k2, -, k4⟩ := get_ok zs h8 n k Hgl.out
  by_cases hn : n ≤ 1048576
  case neg =>
    have hR : Hid (getR zs = ([], 0, 2)) := by show _ = _; rw [getR_at Hgl.out, if_pos (by omega)]
    have hn' : (1048577 : Int) ≤ n := by omega
    have hn2 : (n : Int) ≤ 18446744073709551615 := by omega
    clear k4
    go_wp2
    go_ret3
    rw [hR.out]
    exact ⟨none, 0, rfl, World.ownsRow_nil _ _ _ _, Below.refl _ _⟩
  have hn' : (n : Int) ≤ 1048576 := by omega
  clear k4
  by_cases hsh : len < k + n + 4
  · have hR : Hid (getR zs = ([], 0, 3)) := by show _ = _; rw [getR_at Hgl.out, if_neg (by omega), if_pos (by omega)]
    have hsh' : (len : Int) < k + n + 4 := by omega
    have hk' : (k : Int) ≤ 140737488351232 := by omega
    have hk0 : (0 : Int) ≤ k := by omega
    go_wp2
    go_ret3
    rw [hR.out]
    exact ⟨none, 0, rfl, World.ownsRow_nil _ _ _ _, Below.refl _ _⟩
  · have hsh' : (k : Int) + n + 4 ≤ len := by omega
    have hk' : (k : Int) ≤ 140737488351232 := by omega
    have hk0 : (0 : Int) ≤ k := by omega
    obtain ⟨a1, hs1, hd1⟩ := Reads.mid (P := Try.prog) Try.underlying33 (size_of Try.info5) (ao := ao) hlc k (k + n) (by omega) (by omega)
    obtain ⟨a2, hs2, hd2⟩ := Reads.mid (P := Try.prog) Try.underlying33 (size_of Try.info5) (ao := ao) hlc (k + n) (k + n + 4) (by omega) (by omega)
    have e1 : k + n - k = n := by omega
    have e2 : k + n + 4 - (k + n) = 4 := by omega
    rw [e1] at hs1 hd1
    rw [e2] at hs2 hd2
    clear e1 e2
    have rd1 : ∀ W, Below wa.heap.size wa W → Reads W a1 n (cap - k) (((zs.drop k).take n).map (.int .u8)) := fun W hW => by
      have := hd1 W _ (hr.later hW (Nat.le_refl _)); simpa using this
    have rd2 : ∀ W, Below wa.heap.size wa W → Reads W a2 4 (cap - (k + n)) (((zs.drop (k + n)).take 4).map (.int .u8)) := fun W hW => by
      have := hd2 W _ (hr.later hW (Nat.le_refl _)); simpa using this
    have b1 : isBytes ((zs.drop k).take n) := fun z hz => h8 z (List.mem_of_mem_drop (List.mem_of_mem_take hz))
    have b2 : isBytes ((zs.drop (k + n)).take 4) := fun z hz => h8 z (List.mem_of_mem_drop (List.mem_of_mem_take hz))
    have hR : Hid (getR zs = if (zs.drop (k + n)).take 4 = sum4 (ofL ((zs.drop k).take n)) then ((zs.drop k).take n, k + n + 4, 0) else ([], 0, 4)) := by show _ = _; rw [getR_at Hgl.out, if_neg (by omega), if_neg (by omega)]
    clear hd1 hd2
    generalize hP : (zs.drop k).take n = p at rd1 b1 hR
    generalize hS : (zs.drop (k + n)).take 4 = q at rd2 b2 hR
    have hpl : Hid (p.length = n) := by show _ = _; rw [← hP]; simp; omega
    clear hP hS
    have c1 : ((k + n : Nat) : Int) = (k : Int) + n := by omega
    have c2 : ((k + n + 4 : Nat) : Int) = (k : Int) + n + 4 := by omega
    simp only [c1, c2] at hs1 hs2
    clear c1 c2
    have hwr : IntKind.i64.wrap ((k : Int) + n + 4) = (k : Int) + n + 4 := by rw [IntKind.wrap_i64]; omega
    have hB0 : Below wa.heap.size wa wa := Below.refl _ _
    by_cases hq : q = sum4 (ofL p)
    · have hR' : Hid (getR zs = (p, k + n + 4, 0)) := by show _ = _; rw [hR.out, if_pos hq]
      have hqd : Hid (decide (q = sum4 (ofL p)) = true) := by show _ = _; simp [hq]
      clear hR hq
      go_wp2_with fail
      go_region_held (fun W => Below wa.heap.size wa W) (first | exact Below.refl _ _ | exact Below.drew (Below.refl _ _) | assumption | exact Below.drew (by assumption)) (first | (go_at_call 52; refine (laysum_any wa.heap.size none 0 0 [] a1 n (cap - k) p _ (World.ownsRow_nil _ _ _ _) (Below.size (B := wa.heap.size) (w := wa) (by first | exact Below.refl _ _ | exact Below.drew (Below.refl _ _) | assumption)) (rd1 _ (by first | exact Below.refl _ _ | exact Below.drew (Below.refl _ _) | assumption)) b1 (by omega)).mono ?_; rintro e w3 ⟨ag3, c3, rfl, hown3, hb3⟩; have hb3' : Below wa.heap.size wa w3 := Below.trans (by first | exact Below.refl _ _ | exact Below.drew (Below.refl _ _) | assumption) hb3; clear hb3) | (go_at_call 47; refine (equal_any _ _ _ _ _ _ _ (sum4 (ofL p)) _ (rd2 _ (by assumption)) (by first | exact Reads.own hown3 | exact (Reads.own hown3).later (Below.drew (Below.refl _ _)) (Nat.le_refl _)) b2 (sum4_bytes _)).mono ?_; rintro e w4 ⟨rfl, rfl⟩; rw [hqd.out]))
      go_wp2_with fail
      refine (clone_any a1 n (cap - k) p _ (rd1 _ (by assumption)) (by omega)).mono ?_
      rintro e w5 ⟨ag5, c5, rfl, hown5, hb5⟩
      have hB5 : Below wa.heap.size wa w5 := Grow.trans (by assumption) hb5
      have hs5 : wa.heap.size ≤ w4.heap.size := Below.size (B := wa.heap.size) (by assumption)
      go_wp2
      go_ret3
      rw [hR'.out]
      refine ⟨ag5, c5, ?_, ?_, hB5⟩
      · unfold getRV; simp only [hpl.out]; rfl
      · simp only [hpl.out]; exact own_mono hown5 hs5
    · have hR' : Hid (getR zs = ([], 0, 4)) := by show _ = _; rw [hR.out, if_neg hq]
      have hqd : Hid (decide (q = sum4 (ofL p)) = false) := by show _ = _; simp [hq]
      clear hR hq
      go_wp2_with fail
      go_region_held (fun W => Below wa.heap.size wa W) (first | exact Below.refl _ _ | exact Below.drew (Below.refl _ _) | assumption | exact Below.drew (by assumption)) (first | (go_at_call 52; refine (laysum_any wa.heap.size none 0 0 [] a1 n (cap - k) p _ (World.ownsRow_nil _ _ _ _) (Below.size (B := wa.heap.size) (w := wa) (by first | exact Below.refl _ _ | exact Below.drew (Below.refl _ _) | assumption)) (rd1 _ (by first | exact Below.refl _ _ | exact Below.drew (Below.refl _ _) | assumption)) b1 (by omega)).mono ?_; rintro e w3 ⟨ag3, c3, rfl, hown3, hb3⟩; have hb3' : Below wa.heap.size wa w3 := Below.trans (by first | exact Below.refl _ _ | exact Below.drew (Below.refl _ _) | assumption) hb3; clear hb3) | (go_at_call 47; refine (equal_any _ _ _ _ _ _ _ (sum4 (ofL p)) _ (rd2 _ (by assumption)) (by first | exact Reads.own hown3 | exact (Reads.own hown3).later (Below.drew (Below.refl _ _)) (Nat.le_refl _)) b2 (sum4_bytes _)).mono ?_; rintro e w4 ⟨rfl, rfl⟩; rw [hqd.out]))
      go_wp2
      go_ret3
      rw [hR'.out]
      exact ⟨none, 0, rfl, World.ownsRow_nil _ _ _ _, by assumption⟩
#print axioms fget_any
end Go.Proofs.Ytgnhnhachhfafaa
