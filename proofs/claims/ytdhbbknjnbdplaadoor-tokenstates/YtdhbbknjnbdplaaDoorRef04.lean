/- The contracts of the document's own answers for runes: Size, fits, good, Pending, one. -/
import Derived.Test.YtdhbbknjnbdplaaDoorOwn
import Derived.Test.YtdhbbknjnbdplaaDoorArr
import Derived.Test.YtdhbbknjnbdplaaDoorInfos
import Derived.Test.YtdhbbknjnbdplaaDoorUtfMath
import Derived.Deep.RegionHeld
import Derived.Deep.QuietTactic
import Derived.BigQuiet
namespace Go.Proofs.YtdhbbknjnbdplaaDoor
open Go.RowKit


set_option maxRecDepth 100000 in
theorem rsize_any (c : Int) (w : World) (h0 : 0 ≤ c) (h1 : c ≤ 255) :
    Calls Tryd.prog 47 #[.int .u8 c] w fun e w' => e = .returned (.int .i64 (sizeU c : Nat)) ∧ w' = w := by
  by_cases c1 : c < 128
  · have hE : Hid (sizeU c = 1) := by show _ = _; unfold sizeU; rw [if_pos c1]
    go_enter Tryd.func47, Tryd.ntmps47
    go_wp2
    go_ret
    exact ⟨by rw [hE.out]; rfl, rfl⟩
  have d1 : 128 ≤ c := by omega
  by_cases c2 : c < 194
  · have hE : Hid (sizeU c = 0) := by show _ = _; unfold sizeU; rw [if_neg (by omega), if_neg (by omega), if_neg (by omega), if_neg (by omega)]
    have e3 : c < 224 := by omega
    have e4 : c < 240 := by omega
    clear c1
    go_enter Tryd.func47, Tryd.ntmps47
    go_wp2
    go_ret
    exact ⟨by rw [hE.out]; rfl, rfl⟩
  have d2 : 194 ≤ c := by omega
  by_cases c3 : c ≤ 223
  · have hE : Hid (sizeU c = 2) := by show _ = _; unfold sizeU; rw [if_neg (by omega), if_pos (by omega)]
    clear c1 c2
    go_enter Tryd.func47, Tryd.ntmps47
    go_wp2
    go_ret
    exact ⟨by rw [hE.out]; rfl, rfl⟩
  have d3 : 223 < c := by omega
  have d3' : 224 ≤ c := by omega
  by_cases c4 : c ≤ 239
  · have hE : Hid (sizeU c = 3) := by show _ = _; unfold sizeU; rw [if_neg (by omega), if_neg (by omega), if_pos (by omega)]
    clear c1 c2 c3
    go_enter Tryd.func47, Tryd.ntmps47
    go_wp2
    go_ret
    exact ⟨by rw [hE.out]; rfl, rfl⟩
  have d4 : 239 < c := by omega
  have d4' : 240 ≤ c := by omega
  by_cases c5 : c ≤ 244
  · have hE : Hid (sizeU c = 4) := by show _ = _; unfold sizeU; rw [if_neg (by omega), if_neg (by omega), if_neg (by omega), if_pos (by omega)]
    clear c1 c2 c3 c4
    go_enter Tryd.func47, Tryd.ntmps47
    go_wp2
    go_ret
    exact ⟨by rw [hE.out]; rfl, rfl⟩
  · have hE : Hid (sizeU c = 0) := by show _ = _; unfold sizeU; rw [if_neg (by omega), if_neg (by omega), if_neg (by omega), if_neg (by omega)]
    have d5 : 244 < c := by omega
    clear c1 c2 c3 c4 c5
    go_enter Tryd.func47, Tryd.ntmps47
    go_wp2
    go_ret
    exact ⟨by rw [hE.out]; rfl, rfl⟩

theorem dec_and (a b : Int) (c : Int) : decide (a ≤ c ∧ c ≤ b) = (decide (a ≤ c) && decide (c ≤ b)) := by simp

set_option maxRecDepth 100000 in
theorem rfits_any (f : Int) (n : Nat) (c : Int) (w : World) (hn : n ≤ 4) :
    Calls Tryd.prog 60 #[.int .u8 f, .int .i64 n, .int .u8 c] w fun e w' => e = .returned (.bool (fitsU f n c)) ∧ w' = w := by
  by_cases hn1 : n = 1
  · have hn1' : Hid (n = 1) := hn1
    subst hn1
    clear hn1'
    by_cases hf0 : f = 224
    · subst hf0
      by_cases hlo : c < 160
      · have hE : Hid (fitsU 224 1 c = false) := by show _ = _; unfold fitsU; rw [if_pos (by omega)]; rw [decide_eq_false_iff_not]; omega
        go_enter Tryd.func60, Tryd.ntmps60
        go_wp2
        go_ret
        exact ⟨by rw [hE.out]; rfl, rfl⟩
      have hlo' : 160 ≤ c := by omega
      clear hlo
      have hE : Hid (fitsU 224 1 c = decide (c ≤ 191)) := by show _ = _; unfold fitsU; rw [if_pos (by omega)]; rw [dec_and, decide_eq_true hlo', Bool.true_and]
      go_enter Tryd.func60, Tryd.ntmps60
      go_wp2
      go_ret
      exact ⟨by rw [hE.out]; rfl, rfl⟩
    have hb0 : (f == 224) = false := by simpa using hf0
    by_cases hf1 : f = 237
    · subst hf1
      by_cases hlo : c < 128
      · have hE : Hid (fitsU 237 1 c = false) := by show _ = _; unfold fitsU; rw [if_neg (by omega)]; rw [if_pos (by omega)]; rw [decide_eq_false_iff_not]; omega
        go_enter Tryd.func60, Tryd.ntmps60
        go_wp2
        go_ret
        exact ⟨by rw [hE.out]; rfl, rfl⟩
      have hlo' : 128 ≤ c := by omega
      clear hlo
      have hE : Hid (fitsU 237 1 c = decide (c ≤ 159)) := by show _ = _; unfold fitsU; rw [if_neg (by omega)]; rw [if_pos (by omega)]; rw [dec_and, decide_eq_true hlo', Bool.true_and]
      go_enter Tryd.func60, Tryd.ntmps60
      go_wp2
      go_ret
      exact ⟨by rw [hE.out]; rfl, rfl⟩
    have hb1 : (f == 237) = false := by simpa using hf1
    by_cases hf2 : f = 240
    · subst hf2
      by_cases hlo : c < 144
      · have hE : Hid (fitsU 240 1 c = false) := by show _ = _; unfold fitsU; rw [if_neg (by omega)]; rw [if_neg (by omega)]; rw [if_pos (by omega)]; rw [decide_eq_false_iff_not]; omega
        go_enter Tryd.func60, Tryd.ntmps60
        go_wp2
        go_ret
        exact ⟨by rw [hE.out]; rfl, rfl⟩
      have hlo' : 144 ≤ c := by omega
      clear hlo
      have hE : Hid (fitsU 240 1 c = decide (c ≤ 191)) := by show _ = _; unfold fitsU; rw [if_neg (by omega)]; rw [if_neg (by omega)]; rw [if_pos (by omega)]; rw [dec_and, decide_eq_true hlo', Bool.true_and]
      go_enter Tryd.func60, Tryd.ntmps60
      go_wp2
      go_ret
      exact ⟨by rw [hE.out]; rfl, rfl⟩
    have hb2 : (f == 240) = false := by simpa using hf2
    by_cases hf3 : f = 244
    · subst hf3
      by_cases hlo : c < 128
      · have hE : Hid (fitsU 244 1 c = false) := by show _ = _; unfold fitsU; rw [if_neg (by omega)]; rw [if_neg (by omega)]; rw [if_neg (by omega)]; rw [if_pos (by omega)]; rw [decide_eq_false_iff_not]; omega
        go_enter Tryd.func60, Tryd.ntmps60
        go_wp2
        go_ret
        exact ⟨by rw [hE.out]; rfl, rfl⟩
      have hlo' : 128 ≤ c := by omega
      clear hlo
      have hE : Hid (fitsU 244 1 c = decide (c ≤ 143)) := by show _ = _; unfold fitsU; rw [if_neg (by omega)]; rw [if_neg (by omega)]; rw [if_neg (by omega)]; rw [if_pos (by omega)]; rw [dec_and, decide_eq_true hlo', Bool.true_and]
      go_enter Tryd.func60, Tryd.ntmps60
      go_wp2
      go_ret
      exact ⟨by rw [hE.out]; rfl, rfl⟩
    have hb3 : (f == 244) = false := by simpa using hf3
    by_cases hlo : c < 128
    · have hE : Hid (fitsU f 1 c = false) := by show _ = _; unfold fitsU; rw [if_neg (by omega), if_neg (by omega), if_neg (by omega), if_neg (by omega)]; rw [decide_eq_false_iff_not]; omega
      clear hf0 hf1 hf2 hf3
      go_enter Tryd.func60, Tryd.ntmps60
      go_wp2
      go_ret
      exact ⟨by rw [hE.out]; rfl, rfl⟩
    have hlo' : 128 ≤ c := by omega
    clear hlo
    have hE : Hid (fitsU f 1 c = decide (c ≤ 191)) := by show _ = _; unfold fitsU; rw [if_neg (by omega), if_neg (by omega), if_neg (by omega), if_neg (by omega)]; rw [dec_and, decide_eq_true hlo', Bool.true_and]
    clear hf0 hf1 hf2 hf3
    go_enter Tryd.func60, Tryd.ntmps60
    go_wp2
    go_ret
    exact ⟨by rw [hE.out]; rfl, rfl⟩
  · have hnb : ((n : Int) == 1) = false := by simp; omega
    by_cases hlo : c < 128
    · have hE : Hid (fitsU f n c = false) := by show _ = _; unfold fitsU; rw [if_neg (by omega), if_neg (by omega), if_neg (by omega), if_neg (by omega)]; rw [decide_eq_false_iff_not]; omega
      clear hn1
      go_enter Tryd.func60, Tryd.ntmps60
      go_wp2
      go_ret
      exact ⟨by rw [hE.out]; rfl, rfl⟩
    have hlo' : 128 ≤ c := by omega
    clear hlo
    have hE : Hid (fitsU f n c = decide (c ≤ 191)) := by show _ = _; unfold fitsU; rw [if_neg (by omega), if_neg (by omega), if_neg (by omega), if_neg (by omega)]; rw [dec_and, decide_eq_true hlo', Bool.true_and]
    clear hn1
    go_enter Tryd.func60, Tryd.ntmps60
    go_wp2
    go_ret
    exact ⟨by rw [hE.out]; rfl, rfl⟩

theorem Reads.nn {w : World} {ao : Option Addr} {len cap : Nat} {xs : List Value} (h : Reads w ao len cap xs) : len ≤ 9223372036854775807 := by
  have := h.le; have h2 := h.most; unfold maxLen at h2; omega

set_option maxRecDepth 100000 in
set_option maxHeartbeats 400000 in
theorem rgood_any (ao : Option Addr) (len cap : Nat) (zs : List Int) (w : World) (hr : Reads w ao len cap (zs.map (.int .u8))) (h8 : isBytes zs) :
    Calls Tryd.prog 46 #[.slice ao len cap] w fun e w' => e = .returned (.int .i64 (goodU zs : Nat)) ∧ ∃ m, w' = w.drewN m := by
  have hl : zs.length = len := by simpa using hr.length
  have hnn := hr.nn
  by_cases h0 : len = 0
  · subst h0
    have : zs = [] := List.eq_nil_of_length_eq_zero hl
    subst this
    go_enter Tryd.func46, Tryd.ntmps46
    go_wp2
    go_ret
    exact ⟨rfl, 0, rfl⟩
  obtain ⟨b, off, rfl, hbb, hcell⟩ := hr.at (by omega)
  have hp : (0 : Int) < len := by omega
  have hpN : 0 < len := by omega
  have hpb : ((len : Int) == 0) = false := by simp; omega
  obtain ⟨f, hf, hf8⟩ := h8.get 0
  have c0 := hcell 0 (by omega)
  rw [hf] at c0
  have c0' : w.cell? ⟨b, off, none⟩ = some (.int .u8 (f : Int)) := c0
  have Hz : Hid (zs = (f : Int) :: zs.drop 1) := by
    show _ = _
    have := drop_at zs 0 (by omega)
    rw [List.drop_zero] at this
    rw [hf] at this
    exact this
  clear c0
  by_cases hs0 : sizeU (f : Int) = 0
  · have hE : Hid (goodU zs = 0) := by show _ = _; rw [Hz.out]; exact if_pos hs0
    go_enter Tryd.func46, Tryd.ntmps46
    go_wp2_with fail
    refine (rsize_any f w (by omega) (by omega)).mono ?_
    rintro e wa ⟨rfl, rfl⟩
    rw [hs0]
    clear hs0
    go_wp2
    go_ret
    exact ⟨by rw [hE.out]; rfl, 0, rfl⟩
  have hs4 := size_le (f : Int)
  have hG : Hid (goodU zs = goodT f 1 (sizeU (f : Int) - 1) (zs.drop 1) + 1) := by
    show _ = _
    conv => lhs; rw [Hz.out]
    exact if_neg hs0
  generalize hs : sizeU (f : Int) = s at hs0 hs4 hG
  have Hs : Hid _ := hs
  clear hs
  have hsb : ((s : Int) == 0) = false := by simp; omega
  go_enter Tryd.func46, Tryd.ntmps46
  go_wp2_with fail
  refine (rsize_any f w (by omega) (by omega)).mono ?_
  rintro e wa ⟨rfl, rfl⟩
  rw [Hs.out]
  have hsz : ∀ W, Calls Tryd.prog 47 #[.int .u8 (f : Int)] W fun e w' => e = .returned (.int .i64 (s : Int)) ∧ w' = W := fun W => (rsize_any f W (by omega) (by omega)).mono fun e w' ⟨h1, h2⟩ => ⟨by rw [h1, Hs.out], h2⟩
  go_wp2_with fail
  go_loopw [3] (fun i wr => ∃ n : Nat, i = .int .i64 n ∧ 1 ≤ n ∧ n ≤ len ∧ n ≤ s ∧ Hid (goodU zs = n + goodT f n (s - n) (zs.drop n)) ∧ ∃ m, wr = wa.drewN m) (fun i _ => (4 - intOf i).toNat)
  case atStart => exact ⟨1, rfl, by omega, by omega, by omega, by show _ = _; rw [hG.out, Nat.add_comm], 0, rfl⟩
  case round =>
    obtain ⟨n, rfl, hn1, hn2, hn3, hGn, md, hw⟩ := hrel
    have c0r : wr.cell? ⟨b, off, none⟩ = some (.int .u8 (f : Int)) := by rw [hw]; exact c0'
    have Hw : Hid _ := hw
    clear hw
    by_cases hnl : n = len
    · subst hnl
      have hE : Hid (goodU zs = n) := by
        show _ = _
        rw [hGn.out, List.drop_of_length_le (by omega)]
        cases s - n <;> simp [goodT]
      have hnn' : decide ((n : Int) < n) = false := by simp
      clear hGn hG
      go_wp2_with fail
      go_quiet (fail)
      go_wp2
      go_ret
      exact ⟨by rw [hE.out]; rfl, md + nq, by rw [Hw.out, World.drewN_drewN]⟩
    have hnl' : (n : Int) < len := by omega
    have hnlN : n < len := by omega
    have hnlD : decide (n < len) = true := by simpa using hnlN
    clear hnl h0
    by_cases hns : n = s
    · have hE : Hid (goodU zs = n) := by
        show _ = _
        rw [hGn.out, hns, Nat.sub_self]
        simp [goodT]
      subst hns
      have hns' : decide (n < n) = false := by simp
      clear hGn hG
      go_wp2_with fail
      go_quiet (exact Calls.quiet_of_same (hsz _))
      go_wp2
      go_ret
      exact ⟨by rw [hE.out]; rfl, md + nq, by rw [Hw.out, World.drewN_drewN]⟩
    have hns' : (n : Int) < s := by omega
    have hnsN : n < s := by omega
    have hnsD : decide (n < s) = true := by simpa using hnsN
    clear hns
    obtain ⟨c, hc, hc8⟩ := h8.get n
    have cn := hcell n (by omega)
    rw [hc] at cn
    have cnr : wr.cell? ⟨b, off + n, none⟩ = some (.int .u8 (c : Int)) := by rw [Hw.out]; exact cn
    clear cn
    have hD : Hid (zs.drop n = (c : Int) :: zs.drop (n + 1)) := by show _ = _; rw [drop_at zs n (by omega), hc]
    have hK : Hid (s - n = (s - (n + 1)) + 1) := by show _ = _; omega
    clear hc
    cases hfit : fitsU f n c with
    | false =>
      have hE : Hid (goodU zs = n) := by
        show _ = _
        rw [hGn.out, hD.out, hK.out]
        unfold goodT
        rw [hfit]; simp
      have hft : ∀ W, Calls Tryd.prog 60 #[.int .u8 (f : Int), .int .i64 (n : Int), .int .u8 (c : Int)] W fun e w' => e = .returned (.bool false) ∧ w' = W := fun W => (rfits_any f n c W (by omega)).mono fun e w' ⟨h1, h2⟩ => ⟨by rw [h1, hfit], h2⟩
      clear hGn hG hfit
      go_wp2_with fail
      go_quiet (first | exact Calls.quiet_of_same (hsz _) | exact Calls.quiet_of_same (hft _))
      go_wp2
      go_ret
      exact ⟨by rw [hE.out]; rfl, md + nq, by rw [Hw.out, World.drewN_drewN]⟩
    | true =>
      have hG' : Hid (goodU zs = (n + 1) + goodT f (n + 1) (s - (n + 1)) (zs.drop (n + 1))) := by
        show _ = _
        rw [hGn.out, hD.out, hK.out]
        conv => lhs; unfold goodT
        rw [hfit]; simp; omega
      have hft : ∀ W, Calls Tryd.prog 60 #[.int .u8 (f : Int), .int .i64 (n : Int), .int .u8 (c : Int)] W fun e w' => e = .returned (.bool true) ∧ w' = W := fun W => (rfits_any f n c W (by omega)).mono fun e w' ⟨h1, h2⟩ => ⟨by rw [h1, hfit], h2⟩
      clear hGn hG hfit
      go_wp2_with fail
      go_quiet (first | exact Calls.quiet_of_same (hsz _) | exact Calls.quiet_of_same (hft _))
      go_wp2
      go_roundw
      case rel => exact ⟨n + 1, by go_num, by omega, by omega, by omega, hG', md + nq, by rw [Hw.out, World.drewN_drewN]⟩
      case measure => simp [intOf]; omega
#print axioms rgood_any
end Go.Proofs.YtdhbbknjnbdplaaDoor
