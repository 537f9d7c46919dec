/- The contracts of utf8.FullRune and utf.Pending. -/
import Derived.Test.YtdhbbknjnbdplaaDoorUtfTabs
import Derived.Test.YtdhbbknjnbdplaaDoorUtfFirst
import Derived.Test.YtdhbbknjnbdplaaDoorOwn
import Derived.Test.YtdhbbknjnbdplaaDoorArr
import Derived.Test.YtdhbbknjnbdplaaDoorInfos
import Derived.Test.YtdhbbknjnbdplaaDoorRef04All
import Derived.Deep.RegionHeld
import Derived.Deep.QuietTactic
import Derived.BigQuiet
namespace Go.Proofs.YtdhbbknjnbdplaaDoor
open Go.RowKit
set_option linter.unusedVariables false

/-- What the first byte tells: the table's entry, how many bytes, and what may come second. -/
structure Cls (c x sz i lo hi : Nat) : Prop where
  fx : Lib.firstT c = x
  fsz : sizeU (c : Int) = sz
  flo : Lib.accLo i = lo
  fhi : Lib.accHi i = hi
  ffits : ∀ d : Int, fitsU (c : Int) 1 d = decide ((lo : Int) ≤ d ∧ d ≤ hi)

theorem classes (c : Nat) (hc : c < 256) : (Lib.firstT c = 240 ∧ sizeU (c : Int) = 1) ∨ (Lib.firstT c = 241 ∧ sizeU (c : Int) = 0) ∨ Cls c 2 2 0 128 191 ∨ Cls c 19 3 1 160 191 ∨ Cls c 3 3 0 128 191 ∨ Cls c 35 3 2 128 159 ∨ Cls c 52 4 3 144 191 ∨ Cls c 4 4 0 128 191 ∨ Cls c 68 4 4 128 143 := by
  by_cases h1 : c < 128
  · refine .inl ⟨by simp [Lib.firstT, h1], by unfold sizeU; rw [if_pos (by omega)]⟩
  by_cases h2 : c < 194
  · refine .inr (.inl ⟨by simp [Lib.firstT, h1, h2], by unfold sizeU; rw [if_neg (by omega), if_neg (by omega), if_neg (by omega), if_neg (by omega)]⟩)
  by_cases h3 : c < 224
  · refine .inr (.inr (.inl ⟨by simp [Lib.firstT, h1, h2, h3], by unfold sizeU; rw [if_neg (by omega), if_pos (by omega)], rfl, rfl, fun d => ?_⟩))
    unfold fitsU
    rw [if_neg (by omega), if_neg (by omega), if_neg (by omega), if_neg (by omega)]; rfl
  by_cases h4 : c = 224
  · subst h4
    exact .inr (.inr (.inr (.inl ⟨by decide, by decide, rfl, rfl, fun d => rfl⟩)))
  by_cases h5 : c < 237
  · refine .inr (.inr (.inr (.inr (.inl ⟨by simp [Lib.firstT, h1, h2, h3, h4, h5], by unfold sizeU; rw [if_neg (by omega), if_neg (by omega), if_pos (by omega)], rfl, rfl, fun d => ?_⟩))))
    unfold fitsU
    rw [if_neg (by omega), if_neg (by omega), if_neg (by omega), if_neg (by omega)]; rfl
  by_cases h6 : c = 237
  · subst h6
    exact .inr (.inr (.inr (.inr (.inr (.inl ⟨by decide, by decide, rfl, rfl, fun d => rfl⟩)))))
  by_cases h7 : c < 240
  · refine .inr (.inr (.inr (.inr (.inl ⟨by simp [Lib.firstT, h1, h2, h3, h4, h5, h6, h7], by unfold sizeU; rw [if_neg (by omega), if_neg (by omega), if_pos (by omega)], rfl, rfl, fun d => ?_⟩))))
    unfold fitsU
    rw [if_neg (by omega), if_neg (by omega), if_neg (by omega), if_neg (by omega)]; rfl
  by_cases h8 : c = 240
  · subst h8
    exact .inr (.inr (.inr (.inr (.inr (.inr (.inl ⟨by decide, by decide, rfl, rfl, fun d => rfl⟩))))))
  by_cases h9 : c < 244
  · refine .inr (.inr (.inr (.inr (.inr (.inr (.inr (.inl ⟨by simp [Lib.firstT, h1, h2, h3, h4, h5, h6, h7, h8, h9], by unfold sizeU; rw [if_neg (by omega), if_neg (by omega), if_neg (by omega), if_pos (by omega)], rfl, rfl, fun d => ?_⟩)))))))
    unfold fitsU
    rw [if_neg (by omega), if_neg (by omega), if_neg (by omega), if_neg (by omega)]; rfl
  by_cases h10 : c = 244
  · subst h10
    exact .inr (.inr (.inr (.inr (.inr (.inr (.inr (.inr ⟨by decide, by decide, rfl, rfl, fun d => rfl⟩)))))))
  · refine .inr (.inl ⟨by simp [Lib.firstT, h1, h2, h3, h4, h5, h6, h7, h8, h9, h10], by unfold sizeU; rw [if_neg (by omega), if_neg (by omega), if_neg (by omega), if_neg (by omega)]⟩)

set_option maxRecDepth 100000 in
set_option maxHeartbeats 4000000 in
theorem full_any (ao : Option Addr) (len cap : Nat) (zs : List Int) (w : World) (hr : Reads w ao len cap (zs.map (.int .u8))) (h8 : isBytes zs) (hpos : 0 < len) (ht : Tabs w) :
    Calls Tryd.prog 45 #[.slice ao len cap] w fun e w' => e = .returned (.bool (!decide (pendU zs))) ∧ Below w.heap.size w w' := by
  have hl : zs.length = len := by simpa using hr.length
  obtain ⟨b, off, rfl, hblt, hat⟩ := hr.at hpos
  clear hr
  cases zs with
  | nil => simp at hl; omega
  | cons z r =>
  have hz := h8 z List.mem_cons_self
  obtain ⟨c, rfl⟩ := Int.eq_ofNat_of_zero_le hz.1
  have hc : c < 256 := by omega
  have h0 : w.cell? ⟨b, off, none⟩ = some (.int .u8 c) := hat 0 hpos
  have hf := ht.first c hc
  have hne : ((len : Int) == 0) = false := by simp; omega
  have hci : (c : Int) < 256 := by omega
  rcases classes c hc with ⟨hx, hs⟩ | ⟨hx, hs⟩ | K | K | K | K | K | K | K
  · rw [hx] at hf
    have hP : Hid (decide (pendU ((c : Int) :: r)) = false) := by show _ = _; rw [decide_eq_false_iff_not]; exact pend_short (by omega)
    have hge : (0 : Int) ≤ len := by omega
    clear hx hs hat hl h8
    go_enter Tryd.func45, Tryd.ntmps45
    go_wp2
    go_ret
    exact ⟨by rw [hP.out]; rfl, Below.refl _ _⟩
  · rw [hx] at hf
    have hP : Hid (decide (pendU ((c : Int) :: r)) = false) := by show _ = _; rw [decide_eq_false_iff_not]; exact pend_short (by omega)
    have hge : (1 : Int) ≤ len := by omega
    clear hx hs hat hl h8
    go_enter Tryd.func45, Tryd.ntmps45
    go_wp2
    go_ret
    exact ⟨by rw [hP.out]; rfl, Below.refl _ _⟩
  · have hs := K.fsz
    have hfit := K.ffits
    have ha : w.cell? ⟨1, 0, none⟩ = some (.int .u8 128) := by have := (ht.acc 0 (by decide)).1; rw [K.flo] at this; exact this
    have hb : w.cell? ⟨1, 1, none⟩ = some (.int .u8 191) := by have := (ht.acc 0 (by decide)).2; rw [K.fhi] at this; exact this
    have hg1 : 1 < w.heap.size := by have := World.block_lt_of_cell? w _ ha; simpa using this
    rw [K.fx] at hf
    clear K
    by_cases hge : 2 ≤ len
    · have hP : Hid (decide (pendU ((c : Int) :: r)) = false) := by show _ = _; rw [decide_eq_false_iff_not]; exact pend_short (by simp at hl; omega)
      have hge' : (2 : Int) ≤ len := by omega
      clear hs hat hl h8 hfit ha hb
      go_enter Tryd.func45, Tryd.ntmps45
      go_wp2
      go_ret
      exact ⟨by rw [hP.out]; rfl, Below.refl _ _⟩
    rcases r with _ | ⟨d, r⟩
    · have hP : Hid (decide (pendU [(c : Int)]) = true) := by show _ = _; rw [decide_eq_true_eq]; exact pend_1 (by omega)
      obtain rfl : len = 1 := by simpa using hl.symm
      clear hs hat hl h8 hfit hge
      go_enter Tryd.func45, Tryd.ntmps45
      go_wp2_with fail
      go_quiet (fail)
      go_wp2
      go_ret
      exact ⟨by rw [hP.out]; rfl, Below.trans ((Below.refl w.heap.size w).alloc (Nat.le_refl _) _) ((grow_drewN _ _).mono (by simp))⟩
    · simp at hl; omega
  · have hs := K.fsz
    have hfit := K.ffits
    have ha : w.cell? ⟨1, 2, none⟩ = some (.int .u8 160) := by have := (ht.acc 1 (by decide)).1; rw [K.flo] at this; exact this
    have hb : w.cell? ⟨1, 3, none⟩ = some (.int .u8 191) := by have := (ht.acc 1 (by decide)).2; rw [K.fhi] at this; exact this
    have hg1 : 1 < w.heap.size := by have := World.block_lt_of_cell? w _ ha; simpa using this
    rw [K.fx] at hf
    clear K
    by_cases hge : 3 ≤ len
    · have hP : Hid (decide (pendU ((c : Int) :: r)) = false) := by show _ = _; rw [decide_eq_false_iff_not]; exact pend_short (by simp at hl; omega)
      have hge' : (3 : Int) ≤ len := by omega
      clear hs hat hl h8 hfit ha hb
      go_enter Tryd.func45, Tryd.ntmps45
      go_wp2
      go_ret
      exact ⟨by rw [hP.out]; rfl, Below.refl _ _⟩
    rcases r with _ | ⟨d, r⟩
    · have hP : Hid (decide (pendU [(c : Int)]) = true) := by show _ = _; rw [decide_eq_true_eq]; exact pend_1 (by omega)
      obtain rfl : len = 1 := by simpa using hl.symm
      clear hs hat hl h8 hfit hge
      go_enter Tryd.func45, Tryd.ntmps45
      go_wp2_with fail
      go_quiet (fail)
      go_wp2
      go_ret
      exact ⟨by rw [hP.out]; rfl, Below.trans ((Below.refl w.heap.size w).alloc (Nat.le_refl _) _) ((grow_drewN _ _).mono (by simp))⟩
    rcases r with _ | ⟨e, r⟩
    · obtain rfl : len = 2 := by simpa using hl.symm
      have hd := h8 d (by simp)
      have h1 : w.cell? ⟨b, off + 1, none⟩ = some (.int .u8 d) := by have := hat 1 (by decide); simpa using this
      have hP0 := pend_2 (c := (c : Int)) (d := d) (by omega)
      rw [hfit] at hP0
      clear hs hat hl h8 hfit hge
      by_cases q1 : d < 160
      · have hP : Hid (decide (pendU [(c : Int), d]) = false) := by show _ = _; rw [decide_eq_false_iff_not, hP0]; simp; omega
        have q1' : decide (d < 160) = true := by simpa using q1
        clear hP0
        go_enter Tryd.func45, Tryd.ntmps45
        go_wp2_with fail
        go_quiet (fail)
        go_wp2
        go_ret
        exact ⟨by rw [hP.out]; rfl, Below.trans ((Below.refl w.heap.size w).alloc (Nat.le_refl _) _) ((grow_drewN _ _).mono (by simp))⟩
      have q1' : decide (d < 160) = false := by simpa using q1
      by_cases q2 : 191 < d
      · have hP : Hid (decide (pendU [(c : Int), d]) = false) := by show _ = _; rw [decide_eq_false_iff_not, hP0]; simp; omega
        have q2' : decide (191 < d) = true := by simpa using q2
        clear hP0
        go_enter Tryd.func45, Tryd.ntmps45
        go_wp2_with fail
        go_quiet (fail)
        go_wp2
        go_ret
        exact ⟨by rw [hP.out]; rfl, Below.trans ((Below.refl w.heap.size w).alloc (Nat.le_refl _) _) ((grow_drewN _ _).mono (by simp))⟩
      have q2' : decide (191 < d) = false := by simpa using q2
      have hP : Hid (decide (pendU [(c : Int), d]) = true) := by show _ = _; rw [decide_eq_true_eq, hP0]; simp; omega
      clear hP0
      go_enter Tryd.func45, Tryd.ntmps45
      go_wp2_with fail
      go_quiet (fail)
      go_wp2
      go_ret
      exact ⟨by rw [hP.out]; rfl, Below.trans ((Below.refl w.heap.size w).alloc (Nat.le_refl _) _) ((grow_drewN _ _).mono (by simp))⟩
    · simp at hl; omega
  · have hs := K.fsz
    have hfit := K.ffits
    have ha : w.cell? ⟨1, 0, none⟩ = some (.int .u8 128) := by have := (ht.acc 0 (by decide)).1; rw [K.flo] at this; exact this
    have hb : w.cell? ⟨1, 1, none⟩ = some (.int .u8 191) := by have := (ht.acc 0 (by decide)).2; rw [K.fhi] at this; exact this
    have hg1 : 1 < w.heap.size := by have := World.block_lt_of_cell? w _ ha; simpa using this
    rw [K.fx] at hf
    clear K
    by_cases hge : 3 ≤ len
    · have hP : Hid (decide (pendU ((c : Int) :: r)) = false) := by show _ = _; rw [decide_eq_false_iff_not]; exact pend_short (by simp at hl; omega)
      have hge' : (3 : Int) ≤ len := by omega
      clear hs hat hl h8 hfit ha hb
      go_enter Tryd.func45, Tryd.ntmps45
      go_wp2
      go_ret
      exact ⟨by rw [hP.out]; rfl, Below.refl _ _⟩
    rcases r with _ | ⟨d, r⟩
    · have hP : Hid (decide (pendU [(c : Int)]) = true) := by show _ = _; rw [decide_eq_true_eq]; exact pend_1 (by omega)
      obtain rfl : len = 1 := by simpa using hl.symm
      clear hs hat hl h8 hfit hge
      go_enter Tryd.func45, Tryd.ntmps45
      go_wp2_with fail
      go_quiet (fail)
      go_wp2
      go_ret
      exact ⟨by rw [hP.out]; rfl, Below.trans ((Below.refl w.heap.size w).alloc (Nat.le_refl _) _) ((grow_drewN _ _).mono (by simp))⟩
    rcases r with _ | ⟨e, r⟩
    · obtain rfl : len = 2 := by simpa using hl.symm
      have hd := h8 d (by simp)
      have h1 : w.cell? ⟨b, off + 1, none⟩ = some (.int .u8 d) := by have := hat 1 (by decide); simpa using this
      have hP0 := pend_2 (c := (c : Int)) (d := d) (by omega)
      rw [hfit] at hP0
      clear hs hat hl h8 hfit hge
      by_cases q1 : d < 128
      · have hP : Hid (decide (pendU [(c : Int), d]) = false) := by show _ = _; rw [decide_eq_false_iff_not, hP0]; simp; omega
        have q1' : decide (d < 128) = true := by simpa using q1
        clear hP0
        go_enter Tryd.func45, Tryd.ntmps45
        go_wp2_with fail
        go_quiet (fail)
        go_wp2
        go_ret
        exact ⟨by rw [hP.out]; rfl, Below.trans ((Below.refl w.heap.size w).alloc (Nat.le_refl _) _) ((grow_drewN _ _).mono (by simp))⟩
      have q1' : decide (d < 128) = false := by simpa using q1
      by_cases q2 : 191 < d
      · have hP : Hid (decide (pendU [(c : Int), d]) = false) := by show _ = _; rw [decide_eq_false_iff_not, hP0]; simp; omega
        have q2' : decide (191 < d) = true := by simpa using q2
        clear hP0
        go_enter Tryd.func45, Tryd.ntmps45
        go_wp2_with fail
        go_quiet (fail)
        go_wp2
        go_ret
        exact ⟨by rw [hP.out]; rfl, Below.trans ((Below.refl w.heap.size w).alloc (Nat.le_refl _) _) ((grow_drewN _ _).mono (by simp))⟩
      have q2' : decide (191 < d) = false := by simpa using q2
      have hP : Hid (decide (pendU [(c : Int), d]) = true) := by show _ = _; rw [decide_eq_true_eq, hP0]; simp; omega
      clear hP0
      go_enter Tryd.func45, Tryd.ntmps45
      go_wp2_with fail
      go_quiet (fail)
      go_wp2
      go_ret
      exact ⟨by rw [hP.out]; rfl, Below.trans ((Below.refl w.heap.size w).alloc (Nat.le_refl _) _) ((grow_drewN _ _).mono (by simp))⟩
    · simp at hl; omega
  · have hs := K.fsz
    have hfit := K.ffits
    have ha : w.cell? ⟨1, 4, none⟩ = some (.int .u8 128) := by have := (ht.acc 2 (by decide)).1; rw [K.flo] at this; exact this
    have hb : w.cell? ⟨1, 5, none⟩ = some (.int .u8 159) := by have := (ht.acc 2 (by decide)).2; rw [K.fhi] at this; exact this
    have hg1 : 1 < w.heap.size := by have := World.block_lt_of_cell? w _ ha; simpa using this
    rw [K.fx] at hf
    clear K
    by_cases hge : 3 ≤ len
    · have hP : Hid (decide (pendU ((c : Int) :: r)) = false) := by show _ = _; rw [decide_eq_false_iff_not]; exact pend_short (by simp at hl; omega)
      have hge' : (3 : Int) ≤ len := by omega
      clear hs hat hl h8 hfit ha hb
      go_enter Tryd.func45, Tryd.ntmps45
      go_wp2
      go_ret
      exact ⟨by rw [hP.out]; rfl, Below.refl _ _⟩
    rcases r with _ | ⟨d, r⟩
    · have hP : Hid (decide (pendU [(c : Int)]) = true) := by show _ = _; rw [decide_eq_true_eq]; exact pend_1 (by omega)
      obtain rfl : len = 1 := by simpa using hl.symm
      clear hs hat hl h8 hfit hge
      go_enter Tryd.func45, Tryd.ntmps45
      go_wp2_with fail
      go_quiet (fail)
      go_wp2
      go_ret
      exact ⟨by rw [hP.out]; rfl, Below.trans ((Below.refl w.heap.size w).alloc (Nat.le_refl _) _) ((grow_drewN _ _).mono (by simp))⟩
    rcases r with _ | ⟨e, r⟩
    · obtain rfl : len = 2 := by simpa using hl.symm
      have hd := h8 d (by simp)
      have h1 : w.cell? ⟨b, off + 1, none⟩ = some (.int .u8 d) := by have := hat 1 (by decide); simpa using this
      have hP0 := pend_2 (c := (c : Int)) (d := d) (by omega)
      rw [hfit] at hP0
      clear hs hat hl h8 hfit hge
      by_cases q1 : d < 128
      · have hP : Hid (decide (pendU [(c : Int), d]) = false) := by show _ = _; rw [decide_eq_false_iff_not, hP0]; simp; omega
        have q1' : decide (d < 128) = true := by simpa using q1
        clear hP0
        go_enter Tryd.func45, Tryd.ntmps45
        go_wp2_with fail
        go_quiet (fail)
        go_wp2
        go_ret
        exact ⟨by rw [hP.out]; rfl, Below.trans ((Below.refl w.heap.size w).alloc (Nat.le_refl _) _) ((grow_drewN _ _).mono (by simp))⟩
      have q1' : decide (d < 128) = false := by simpa using q1
      by_cases q2 : 159 < d
      · have hP : Hid (decide (pendU [(c : Int), d]) = false) := by show _ = _; rw [decide_eq_false_iff_not, hP0]; simp; omega
        have q2' : decide (159 < d) = true := by simpa using q2
        clear hP0
        go_enter Tryd.func45, Tryd.ntmps45
        go_wp2_with fail
        go_quiet (fail)
        go_wp2
        go_ret
        exact ⟨by rw [hP.out]; rfl, Below.trans ((Below.refl w.heap.size w).alloc (Nat.le_refl _) _) ((grow_drewN _ _).mono (by simp))⟩
      have q2' : decide (159 < d) = false := by simpa using q2
      have hP : Hid (decide (pendU [(c : Int), d]) = true) := by show _ = _; rw [decide_eq_true_eq, hP0]; simp; omega
      clear hP0
      go_enter Tryd.func45, Tryd.ntmps45
      go_wp2_with fail
      go_quiet (fail)
      go_wp2
      go_ret
      exact ⟨by rw [hP.out]; rfl, Below.trans ((Below.refl w.heap.size w).alloc (Nat.le_refl _) _) ((grow_drewN _ _).mono (by simp))⟩
    · simp at hl; omega
  · have hs := K.fsz
    have hfit := K.ffits
    have ha : w.cell? ⟨1, 6, none⟩ = some (.int .u8 144) := by have := (ht.acc 3 (by decide)).1; rw [K.flo] at this; exact this
    have hb : w.cell? ⟨1, 7, none⟩ = some (.int .u8 191) := by have := (ht.acc 3 (by decide)).2; rw [K.fhi] at this; exact this
    have hg1 : 1 < w.heap.size := by have := World.block_lt_of_cell? w _ ha; simpa using this
    rw [K.fx] at hf
    clear K
    by_cases hge : 4 ≤ len
    · have hP : Hid (decide (pendU ((c : Int) :: r)) = false) := by show _ = _; rw [decide_eq_false_iff_not]; exact pend_short (by simp at hl; omega)
      have hge' : (4 : Int) ≤ len := by omega
      clear hs hat hl h8 hfit ha hb
      go_enter Tryd.func45, Tryd.ntmps45
      go_wp2
      go_ret
      exact ⟨by rw [hP.out]; rfl, Below.refl _ _⟩
    rcases r with _ | ⟨d, r⟩
    · have hP : Hid (decide (pendU [(c : Int)]) = true) := by show _ = _; rw [decide_eq_true_eq]; exact pend_1 (by omega)
      obtain rfl : len = 1 := by simpa using hl.symm
      clear hs hat hl h8 hfit hge
      go_enter Tryd.func45, Tryd.ntmps45
      go_wp2_with fail
      go_quiet (fail)
      go_wp2
      go_ret
      exact ⟨by rw [hP.out]; rfl, Below.trans ((Below.refl w.heap.size w).alloc (Nat.le_refl _) _) ((grow_drewN _ _).mono (by simp))⟩
    rcases r with _ | ⟨e, r⟩
    · obtain rfl : len = 2 := by simpa using hl.symm
      have hd := h8 d (by simp)
      have h1 : w.cell? ⟨b, off + 1, none⟩ = some (.int .u8 d) := by have := hat 1 (by decide); simpa using this
      have hP0 := pend_2 (c := (c : Int)) (d := d) (by omega)
      rw [hfit] at hP0
      clear hs hat hl h8 hfit hge
      by_cases q1 : d < 144
      · have hP : Hid (decide (pendU [(c : Int), d]) = false) := by show _ = _; rw [decide_eq_false_iff_not, hP0]; simp; omega
        have q1' : decide (d < 144) = true := by simpa using q1
        clear hP0
        go_enter Tryd.func45, Tryd.ntmps45
        go_wp2_with fail
        go_quiet (fail)
        go_wp2
        go_ret
        exact ⟨by rw [hP.out]; rfl, Below.trans ((Below.refl w.heap.size w).alloc (Nat.le_refl _) _) ((grow_drewN _ _).mono (by simp))⟩
      have q1' : decide (d < 144) = false := by simpa using q1
      by_cases q2 : 191 < d
      · have hP : Hid (decide (pendU [(c : Int), d]) = false) := by show _ = _; rw [decide_eq_false_iff_not, hP0]; simp; omega
        have q2' : decide (191 < d) = true := by simpa using q2
        clear hP0
        go_enter Tryd.func45, Tryd.ntmps45
        go_wp2_with fail
        go_quiet (fail)
        go_wp2
        go_ret
        exact ⟨by rw [hP.out]; rfl, Below.trans ((Below.refl w.heap.size w).alloc (Nat.le_refl _) _) ((grow_drewN _ _).mono (by simp))⟩
      have q2' : decide (191 < d) = false := by simpa using q2
      have hP : Hid (decide (pendU [(c : Int), d]) = true) := by show _ = _; rw [decide_eq_true_eq, hP0]; simp; omega
      clear hP0
      go_enter Tryd.func45, Tryd.ntmps45
      go_wp2_with fail
      go_quiet (fail)
      go_wp2
      go_ret
      exact ⟨by rw [hP.out]; rfl, Below.trans ((Below.refl w.heap.size w).alloc (Nat.le_refl _) _) ((grow_drewN _ _).mono (by simp))⟩
    rcases r with _ | ⟨f, r⟩
    · obtain rfl : len = 3 := by simpa using hl.symm
      have hd := h8 d (by simp)
      have he := h8 e (by simp)
      have h1 : w.cell? ⟨b, off + 1, none⟩ = some (.int .u8 d) := by have := hat 1 (by decide); simpa using this
      have h2 : w.cell? ⟨b, off + 2, none⟩ = some (.int .u8 e) := by have := hat 2 (by decide); simpa using this
      have hP0 := pend_3 (c := (c : Int)) (d := d) (e := e) (by omega)
      rw [hfit] at hP0
      clear hs hat hl h8 hfit hge
      by_cases q1 : d < 144
      · have hP : Hid (decide (pendU [(c : Int), d, e]) = false) := by show _ = _; rw [decide_eq_false_iff_not, hP0]; simp; omega
        have q1' : decide (d < 144) = true := by simpa using q1
        clear hP0
        go_enter Tryd.func45, Tryd.ntmps45
        go_wp2_with fail
        go_quiet (fail)
        go_wp2
        go_ret
        exact ⟨by rw [hP.out]; rfl, Below.trans ((Below.refl w.heap.size w).alloc (Nat.le_refl _) _) ((grow_drewN _ _).mono (by simp))⟩
      have q1' : decide (d < 144) = false := by simpa using q1
      by_cases q2 : 191 < d
      · have hP : Hid (decide (pendU [(c : Int), d, e]) = false) := by show _ = _; rw [decide_eq_false_iff_not, hP0]; simp; omega
        have q2' : decide (191 < d) = true := by simpa using q2
        clear hP0
        go_enter Tryd.func45, Tryd.ntmps45
        go_wp2_with fail
        go_quiet (fail)
        go_wp2
        go_ret
        exact ⟨by rw [hP.out]; rfl, Below.trans ((Below.refl w.heap.size w).alloc (Nat.le_refl _) _) ((grow_drewN _ _).mono (by simp))⟩
      have q2' : decide (191 < d) = false := by simpa using q2
      by_cases q3 : e < 128
      · have hP : Hid (decide (pendU [(c : Int), d, e]) = false) := by show _ = _; rw [decide_eq_false_iff_not, hP0]; simp; omega
        clear hP0
        go_enter Tryd.func45, Tryd.ntmps45
        go_wp2_with fail
        go_quiet (fail)
        go_wp2
        go_ret
        exact ⟨by rw [hP.out]; rfl, Below.trans ((Below.refl w.heap.size w).alloc (Nat.le_refl _) _) ((grow_drewN _ _).mono (by simp))⟩
      by_cases q4 : 191 < e
      · have hP : Hid (decide (pendU [(c : Int), d, e]) = false) := by show _ = _; rw [decide_eq_false_iff_not, hP0]; simp; omega
        have q3' : 128 ≤ e := by omega
        clear hP0 q3
        go_enter Tryd.func45, Tryd.ntmps45
        go_wp2_with fail
        go_quiet (fail)
        go_wp2
        go_ret
        exact ⟨by rw [hP.out]; rfl, Below.trans ((Below.refl w.heap.size w).alloc (Nat.le_refl _) _) ((grow_drewN _ _).mono (by simp))⟩
      have hP : Hid (decide (pendU [(c : Int), d, e]) = true) := by show _ = _; rw [decide_eq_true_eq, hP0]; simp; omega
      have q3' : 128 ≤ e := by omega
      have q4' : e ≤ 191 := by omega
      clear hP0 q3 q4
      go_enter Tryd.func45, Tryd.ntmps45
      go_wp2_with fail
      go_quiet (fail)
      go_wp2
      go_ret
      exact ⟨by rw [hP.out]; rfl, Below.trans ((Below.refl w.heap.size w).alloc (Nat.le_refl _) _) ((grow_drewN _ _).mono (by simp))⟩
    · simp at hl; omega
  · have hs := K.fsz
    have hfit := K.ffits
    have ha : w.cell? ⟨1, 0, none⟩ = some (.int .u8 128) := by have := (ht.acc 0 (by decide)).1; rw [K.flo] at this; exact this
    have hb : w.cell? ⟨1, 1, none⟩ = some (.int .u8 191) := by have := (ht.acc 0 (by decide)).2; rw [K.fhi] at this; exact this
    have hg1 : 1 < w.heap.size := by have := World.block_lt_of_cell? w _ ha; simpa using this
    rw [K.fx] at hf
    clear K
    by_cases hge : 4 ≤ len
    · have hP : Hid (decide (pendU ((c : Int) :: r)) = false) := by show _ = _; rw [decide_eq_false_iff_not]; exact pend_short (by simp at hl; omega)
      have hge' : (4 : Int) ≤ len := by omega
      clear hs hat hl h8 hfit ha hb
      go_enter Tryd.func45, Tryd.ntmps45
      go_wp2
      go_ret
      exact ⟨by rw [hP.out]; rfl, Below.refl _ _⟩
    rcases r with _ | ⟨d, r⟩
    · have hP : Hid (decide (pendU [(c : Int)]) = true) := by show _ = _; rw [decide_eq_true_eq]; exact pend_1 (by omega)
      obtain rfl : len = 1 := by simpa using hl.symm
      clear hs hat hl h8 hfit hge
      go_enter Tryd.func45, Tryd.ntmps45
      go_wp2_with fail
      go_quiet (fail)
      go_wp2
      go_ret
      exact ⟨by rw [hP.out]; rfl, Below.trans ((Below.refl w.heap.size w).alloc (Nat.le_refl _) _) ((grow_drewN _ _).mono (by simp))⟩
    rcases r with _ | ⟨e, r⟩
    · obtain rfl : len = 2 := by simpa using hl.symm
      have hd := h8 d (by simp)
      have h1 : w.cell? ⟨b, off + 1, none⟩ = some (.int .u8 d) := by have := hat 1 (by decide); simpa using this
      have hP0 := pend_2 (c := (c : Int)) (d := d) (by omega)
      rw [hfit] at hP0
      clear hs hat hl h8 hfit hge
      by_cases q1 : d < 128
      · have hP : Hid (decide (pendU [(c : Int), d]) = false) := by show _ = _; rw [decide_eq_false_iff_not, hP0]; simp; omega
        have q1' : decide (d < 128) = true := by simpa using q1
        clear hP0
        go_enter Tryd.func45, Tryd.ntmps45
        go_wp2_with fail
        go_quiet (fail)
        go_wp2
        go_ret
        exact ⟨by rw [hP.out]; rfl, Below.trans ((Below.refl w.heap.size w).alloc (Nat.le_refl _) _) ((grow_drewN _ _).mono (by simp))⟩
      have q1' : decide (d < 128) = false := by simpa using q1
      by_cases q2 : 191 < d
      · have hP : Hid (decide (pendU [(c : Int), d]) = false) := by show _ = _; rw [decide_eq_false_iff_not, hP0]; simp; omega
        have q2' : decide (191 < d) = true := by simpa using q2
        clear hP0
        go_enter Tryd.func45, Tryd.ntmps45
        go_wp2_with fail
        go_quiet (fail)
        go_wp2
        go_ret
        exact ⟨by rw [hP.out]; rfl, Below.trans ((Below.refl w.heap.size w).alloc (Nat.le_refl _) _) ((grow_drewN _ _).mono (by simp))⟩
      have q2' : decide (191 < d) = false := by simpa using q2
      have hP : Hid (decide (pendU [(c : Int), d]) = true) := by show _ = _; rw [decide_eq_true_eq, hP0]; simp; omega
      clear hP0
      go_enter Tryd.func45, Tryd.ntmps45
      go_wp2_with fail
      go_quiet (fail)
      go_wp2
      go_ret
      exact ⟨by rw [hP.out]; rfl, Below.trans ((Below.refl w.heap.size w).alloc (Nat.le_refl _) _) ((grow_drewN _ _).mono (by simp))⟩
    rcases r with _ | ⟨f, r⟩
    · obtain rfl : len = 3 := by simpa using hl.symm
      have hd := h8 d (by simp)
      have he := h8 e (by simp)
      have h1 : w.cell? ⟨b, off + 1, none⟩ = some (.int .u8 d) := by have := hat 1 (by decide); simpa using this
      have h2 : w.cell? ⟨b, off + 2, none⟩ = some (.int .u8 e) := by have := hat 2 (by decide); simpa using this
      have hP0 := pend_3 (c := (c : Int)) (d := d) (e := e) (by omega)
      rw [hfit] at hP0
      clear hs hat hl h8 hfit hge
      by_cases q1 : d < 128
      · have hP : Hid (decide (pendU [(c : Int), d, e]) = false) := by show _ = _; rw [decide_eq_false_iff_not, hP0]; simp; omega
        have q1' : decide (d < 128) = true := by simpa using q1
        clear hP0
        go_enter Tryd.func45, Tryd.ntmps45
        go_wp2_with fail
        go_quiet (fail)
        go_wp2
        go_ret
        exact ⟨by rw [hP.out]; rfl, Below.trans ((Below.refl w.heap.size w).alloc (Nat.le_refl _) _) ((grow_drewN _ _).mono (by simp))⟩
      have q1' : decide (d < 128) = false := by simpa using q1
      by_cases q2 : 191 < d
      · have hP : Hid (decide (pendU [(c : Int), d, e]) = false) := by show _ = _; rw [decide_eq_false_iff_not, hP0]; simp; omega
        have q2' : decide (191 < d) = true := by simpa using q2
        clear hP0
        go_enter Tryd.func45, Tryd.ntmps45
        go_wp2_with fail
        go_quiet (fail)
        go_wp2
        go_ret
        exact ⟨by rw [hP.out]; rfl, Below.trans ((Below.refl w.heap.size w).alloc (Nat.le_refl _) _) ((grow_drewN _ _).mono (by simp))⟩
      have q2' : decide (191 < d) = false := by simpa using q2
      by_cases q3 : e < 128
      · have hP : Hid (decide (pendU [(c : Int), d, e]) = false) := by show _ = _; rw [decide_eq_false_iff_not, hP0]; simp; omega
        clear hP0
        go_enter Tryd.func45, Tryd.ntmps45
        go_wp2_with fail
        go_quiet (fail)
        go_wp2
        go_ret
        exact ⟨by rw [hP.out]; rfl, Below.trans ((Below.refl w.heap.size w).alloc (Nat.le_refl _) _) ((grow_drewN _ _).mono (by simp))⟩
      by_cases q4 : 191 < e
      · have hP : Hid (decide (pendU [(c : Int), d, e]) = false) := by show _ = _; rw [decide_eq_false_iff_not, hP0]; simp; omega
        have q3' : 128 ≤ e := by omega
        clear hP0 q3
        go_enter Tryd.func45, Tryd.ntmps45
        go_wp2_with fail
        go_quiet (fail)
        go_wp2
        go_ret
        exact ⟨by rw [hP.out]; rfl, Below.trans ((Below.refl w.heap.size w).alloc (Nat.le_refl _) _) ((grow_drewN _ _).mono (by simp))⟩
      have hP : Hid (decide (pendU [(c : Int), d, e]) = true) := by show _ = _; rw [decide_eq_true_eq, hP0]; simp; omega
      have q3' : 128 ≤ e := by omega
      have q4' : e ≤ 191 := by omega
      clear hP0 q3 q4
      go_enter Tryd.func45, Tryd.ntmps45
      go_wp2_with fail
      go_quiet (fail)
      go_wp2
      go_ret
      exact ⟨by rw [hP.out]; rfl, Below.trans ((Below.refl w.heap.size w).alloc (Nat.le_refl _) _) ((grow_drewN _ _).mono (by simp))⟩
    · simp at hl; omega
  · have hs := K.fsz
    have hfit := K.ffits
    have ha : w.cell? ⟨1, 8, none⟩ = some (.int .u8 128) := by have := (ht.acc 4 (by decide)).1; rw [K.flo] at this; exact this
    have hb : w.cell? ⟨1, 9, none⟩ = some (.int .u8 143) := by have := (ht.acc 4 (by decide)).2; rw [K.fhi] at this; exact this
    have hg1 : 1 < w.heap.size := by have := World.block_lt_of_cell? w _ ha; simpa using this
    rw [K.fx] at hf
    clear K
    by_cases hge : 4 ≤ len
    · have hP : Hid (decide (pendU ((c : Int) :: r)) = false) := by show _ = _; rw [decide_eq_false_iff_not]; exact pend_short (by simp at hl; omega)
      have hge' : (4 : Int) ≤ len := by omega
      clear hs hat hl h8 hfit ha hb
      go_enter Tryd.func45, Tryd.ntmps45
      go_wp2
      go_ret
      exact ⟨by rw [hP.out]; rfl, Below.refl _ _⟩
    rcases r with _ | ⟨d, r⟩
    · have hP : Hid (decide (pendU [(c : Int)]) = true) := by show _ = _; rw [decide_eq_true_eq]; exact pend_1 (by omega)
      obtain rfl : len = 1 := by simpa using hl.symm
      clear hs hat hl h8 hfit hge
      go_enter Tryd.func45, Tryd.ntmps45
      go_wp2_with fail
      go_quiet (fail)
      go_wp2
      go_ret
      exact ⟨by rw [hP.out]; rfl, Below.trans ((Below.refl w.heap.size w).alloc (Nat.le_refl _) _) ((grow_drewN _ _).mono (by simp))⟩
    rcases r with _ | ⟨e, r⟩
    · obtain rfl : len = 2 := by simpa using hl.symm
      have hd := h8 d (by simp)
      have h1 : w.cell? ⟨b, off + 1, none⟩ = some (.int .u8 d) := by have := hat 1 (by decide); simpa using this
      have hP0 := pend_2 (c := (c : Int)) (d := d) (by omega)
      rw [hfit] at hP0
      clear hs hat hl h8 hfit hge
      by_cases q1 : d < 128
      · have hP : Hid (decide (pendU [(c : Int), d]) = false) := by show _ = _; rw [decide_eq_false_iff_not, hP0]; simp; omega
        have q1' : decide (d < 128) = true := by simpa using q1
        clear hP0
        go_enter Tryd.func45, Tryd.ntmps45
        go_wp2_with fail
        go_quiet (fail)
        go_wp2
        go_ret
        exact ⟨by rw [hP.out]; rfl, Below.trans ((Below.refl w.heap.size w).alloc (Nat.le_refl _) _) ((grow_drewN _ _).mono (by simp))⟩
      have q1' : decide (d < 128) = false := by simpa using q1
      by_cases q2 : 143 < d
      · have hP : Hid (decide (pendU [(c : Int), d]) = false) := by show _ = _; rw [decide_eq_false_iff_not, hP0]; simp; omega
        have q2' : decide (143 < d) = true := by simpa using q2
        clear hP0
        go_enter Tryd.func45, Tryd.ntmps45
        go_wp2_with fail
        go_quiet (fail)
        go_wp2
        go_ret
        exact ⟨by rw [hP.out]; rfl, Below.trans ((Below.refl w.heap.size w).alloc (Nat.le_refl _) _) ((grow_drewN _ _).mono (by simp))⟩
      have q2' : decide (143 < d) = false := by simpa using q2
      have hP : Hid (decide (pendU [(c : Int), d]) = true) := by show _ = _; rw [decide_eq_true_eq, hP0]; simp; omega
      clear hP0
      go_enter Tryd.func45, Tryd.ntmps45
      go_wp2_with fail
      go_quiet (fail)
      go_wp2
      go_ret
      exact ⟨by rw [hP.out]; rfl, Below.trans ((Below.refl w.heap.size w).alloc (Nat.le_refl _) _) ((grow_drewN _ _).mono (by simp))⟩
    rcases r with _ | ⟨f, r⟩
    · obtain rfl : len = 3 := by simpa using hl.symm
      have hd := h8 d (by simp)
      have he := h8 e (by simp)
      have h1 : w.cell? ⟨b, off + 1, none⟩ = some (.int .u8 d) := by have := hat 1 (by decide); simpa using this
      have h2 : w.cell? ⟨b, off + 2, none⟩ = some (.int .u8 e) := by have := hat 2 (by decide); simpa using this
      have hP0 := pend_3 (c := (c : Int)) (d := d) (e := e) (by omega)
      rw [hfit] at hP0
      clear hs hat hl h8 hfit hge
      by_cases q1 : d < 128
      · have hP : Hid (decide (pendU [(c : Int), d, e]) = false) := by show _ = _; rw [decide_eq_false_iff_not, hP0]; simp; omega
        have q1' : decide (d < 128) = true := by simpa using q1
        clear hP0
        go_enter Tryd.func45, Tryd.ntmps45
        go_wp2_with fail
        go_quiet (fail)
        go_wp2
        go_ret
        exact ⟨by rw [hP.out]; rfl, Below.trans ((Below.refl w.heap.size w).alloc (Nat.le_refl _) _) ((grow_drewN _ _).mono (by simp))⟩
      have q1' : decide (d < 128) = false := by simpa using q1
      by_cases q2 : 143 < d
      · have hP : Hid (decide (pendU [(c : Int), d, e]) = false) := by show _ = _; rw [decide_eq_false_iff_not, hP0]; simp; omega
        have q2' : decide (143 < d) = true := by simpa using q2
        clear hP0
        go_enter Tryd.func45, Tryd.ntmps45
        go_wp2_with fail
        go_quiet (fail)
        go_wp2
        go_ret
        exact ⟨by rw [hP.out]; rfl, Below.trans ((Below.refl w.heap.size w).alloc (Nat.le_refl _) _) ((grow_drewN _ _).mono (by simp))⟩
      have q2' : decide (143 < d) = false := by simpa using q2
      by_cases q3 : e < 128
      · have hP : Hid (decide (pendU [(c : Int), d, e]) = false) := by show _ = _; rw [decide_eq_false_iff_not, hP0]; simp; omega
        clear hP0
        go_enter Tryd.func45, Tryd.ntmps45
        go_wp2_with fail
        go_quiet (fail)
        go_wp2
        go_ret
        exact ⟨by rw [hP.out]; rfl, Below.trans ((Below.refl w.heap.size w).alloc (Nat.le_refl _) _) ((grow_drewN _ _).mono (by simp))⟩
      by_cases q4 : 191 < e
      · have hP : Hid (decide (pendU [(c : Int), d, e]) = false) := by show _ = _; rw [decide_eq_false_iff_not, hP0]; simp; omega
        have q3' : 128 ≤ e := by omega
        clear hP0 q3
        go_enter Tryd.func45, Tryd.ntmps45
        go_wp2_with fail
        go_quiet (fail)
        go_wp2
        go_ret
        exact ⟨by rw [hP.out]; rfl, Below.trans ((Below.refl w.heap.size w).alloc (Nat.le_refl _) _) ((grow_drewN _ _).mono (by simp))⟩
      have hP : Hid (decide (pendU [(c : Int), d, e]) = true) := by show _ = _; rw [decide_eq_true_eq, hP0]; simp; omega
      have q3' : 128 ≤ e := by omega
      have q4' : e ≤ 191 := by omega
      clear hP0 q3 q4
      go_enter Tryd.func45, Tryd.ntmps45
      go_wp2_with fail
      go_quiet (fail)
      go_wp2
      go_ret
      exact ⟨by rw [hP.out]; rfl, Below.trans ((Below.refl w.heap.size w).alloc (Nat.le_refl _) _) ((grow_drewN _ _).mono (by simp))⟩
    · simp at hl; omega
end Go.Proofs.YtdhbbknjnbdplaaDoor
