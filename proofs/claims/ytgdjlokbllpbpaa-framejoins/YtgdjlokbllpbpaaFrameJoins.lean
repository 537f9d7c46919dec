/- For every input FrameJoins answers true, and leaves its arguments as they were. Conditions: none. -/
import Derived.Test.YtgdjlokbllpbpaaRows
import Derived.Test.YtgdjlokbllpbpaaStepRow
import Derived.Test.YtgdjlokbllpbpaaRows03
import Derived.Test.YtgdjlokbllpbpaaRef03
import Derived.Test.YtgdjlokbllpbpaaShown03
import Derived.Test.YtgdjlokbllpbpaaFrameMore
import Derived.Test.YtgdjlokbllpbpaaOpen
import Derived.ProofKit
import Derived.OpenShut
import Derived.ShutString
import Derived.ChangeOld
import Derived.SizedLaws
import Derived.Deep.RegionHeld
import Derived.Deep.QuietTactic
import Derived.BigQuiet
import Derived.Deep.Cut
import Derived.Deep.CutBlock
namespace Go.Proofs.Ytgdjlokbllpbpaa.frameJoins
open Go.ChangeShapes Go.WideShapes Go.ChangeAt Go.RowKit
open Go.ChangeMaps (open_string shut_string)
set_option linter.unusedVariables false

theorem own : ownKnob Try.prog.godebug = none := by kernel_rfl
theorem laidOut : laidOutB Try.prog = true := by kernel_rfl

theorem ok_rows {ls : List (List Int)} {n : Nat} (h8 : ∀ l ∈ ls, isBytes l) (hm : ∀ i, i < 20 → i < ls.length → (ls.getD i []).length ≤ 1000) (hn : n ≤ 20) (hl : n ≤ ls.length) : okRows (ls.take n) := by
  intro p hp
  obtain ⟨i, hi, rfl⟩ := List.mem_iff_getElem.1 hp
  have hi' : i < n := by have := hi; simp at this; omega
  refine ⟨h8 _ (List.mem_of_mem_take hp), ?_⟩
  have := hm i (by omega) (by omega)
  rw [List.getD, List.getElem?_eq_getElem (by omega)] at this
  rw [List.getElem_take]
  exact Nat.le_trans this (by decide)

structure ListsIs (w0 : World) (v u : Value) : Prop where
  out : ∀ W, Below w0.heap.size w0 W → Calls Try.prog 15 #[v, u] W fun e w' => e = .returned (.bool true) ∧ Below W.heap.size W w'
theorem listsIs {w0 : World} {ao bo : Option Addr} {len cap blen bcap : Nat} {ls : List (List Int)} (h1 : ReadsRows w0 ao len cap ls) (h2 : ReadsRows w0 bo blen bcap ls) (h8 : ∀ l ∈ ls, isBytes l) (hl : len ≤ 140737488351232) (hb : blen ≤ 140737488351232) : ListsIs w0 (.slice ao len cap) (.slice bo blen bcap) :=
  ⟨fun W hW => (lists_any _ _ _ _ _ _ _ _ _ (h1.later hW (Nat.le_refl _)) (h2.later hW (Nat.le_refl _)) h8 h8 hl hb).mono fun e w' ⟨he, hb'⟩ => ⟨by rw [he]; simp, hb'⟩⟩

set_option maxRecDepth 100000 in
set_option maxHeartbeats 4000000 in
theorem walk (w : World) (a0 : Option Addr) (len0 cap0 : Nat) (z0 : List (List Int)) (r0 : ReadsRows w a0 len0 cap0 z0) (f0 : ∀ l ∈ z0, isBytes l) (b0 : len0 * 24 ≤ 140737488351232) (a1 : Option Addr) (len1 cap1 : Nat) (z1 : List (List Int)) (r1 : ReadsRows w a1 len1 cap1 z1) (f1 : ∀ l ∈ z1, isBytes l) (b1 : len1 * 24 ≤ 140737488351232) :
    Calls Try.prog 7 #[.slice a0 len0 cap0, .slice a1 len1 cap1] w fun e w' => e = .returned (.bool true) ∧ Below w.heap.size w w' := by
  have hl0 := r0.length
  have hl1 := r1.length
  have hlc0 := r0.le
  have hlc1 := r1.le
  have hb0 : len0 ≤ 140737488351232 := by omega
  have hb1' : len1 ≤ 140737488351232 := by omega
  go_enter Try.func7, Try.ntmps7
  go_wp2_with fail
  refine (shown_any _).mono ?_
  rintro e wa ⟨rfl, hb1⟩
  have ra0 := r0.later hb1 (Nat.le_refl _)
  have ra1 := r1.later hb1 (Nat.le_refl _)
  clear r0 r1
  go_upto_block 0 with (fail)
  go_cut [6] from 16 (fun v wr => wr = wa ∧ Hid (∀ i, i < 20 → i < z0.length → (z0.getD i []).length ≤ 1000))
  case first =>
    go_wp2_with fail
    go_loop [6] (fun i => ∃ j : Nat, i = .int .i64 j ∧ j ≤ len0 ∧ j ≤ 20 ∧ Hid (∀ i, i < j → i < z0.length → (z0.getD i []).length ≤ 1000)) (fun i => (20 - intOf i).toNat)
    case atStart => exact ⟨0, rfl, by omega, by omega, by show ∀ i, _; intro i hi; omega⟩
    case round =>
      obtain ⟨j, rfl, hj, hj2, hall⟩ := hrel
      by_cases hd : j < len0 ∧ j < 20
      · obtain ⟨hd1, hd2⟩ := hd
        have hd1' : (j : Int) < len0 := by omega
        have hd2' : (j : Int) < 20 := by omega
        obtain ⟨b1, o1, rfl, hbb, hat1⟩ := ra0.at (by omega)
        obtain ⟨x1, l1, c1, hc1, rd1⟩ := hat1 j hd1
        have hl1 : (z0.getD j []).length = l1 := by simpa using rd1.length
        clear hat1 rd1
        by_cases h1000 : l1 ≤ 1000
        · have h1' : (l1 : Int) ≤ 1000 := by omega
          have hall' : Hid (∀ i, i < j + 1 → i < z0.length → (z0.getD i []).length ≤ 1000) := by
            show ∀ i, _
            intro i hi hi2
            by_cases hij : i = j
            · rw [hij, hl1]; exact h1000
            · exact hall.out i (by omega) hi2
          clear hall hl1
          go_wp2
          go_round
          case rel => exact ⟨j + 1, by go_num, by omega, by omega, hall'⟩
          case measure => simp [intOf]; omega
        · have h1' : (1001 : Int) ≤ l1 := by omega
          clear hl1 hall
          go_wp2
          go_ret
          exact ⟨rfl, hb1⟩
      · have hmost : Hid (∀ i, i < 20 → i < z0.length → (z0.getD i []).length ≤ 1000) := by
          show ∀ i, _
          intro i hi hi2
          exact hall.out i (by omega) hi2
        have hcase : j = len0 ∨ (j = 20 ∧ (20 : Int) < len0) := by omega
        clear hall hd hj hj2
        rcases hcase with hjj | ⟨hjj, hjlt⟩
        all_goals
          subst hjj
          go_wp2_with fail
          go_meet
          case rel => exact ⟨rfl, hmost⟩
  obtain ⟨hwc, hmost0⟩ := hcut
  rw [hwc]
  clear hwc
  go_upto_block 2 with (fail)
  go_cut [7] from 16 (fun v wr => wr = wa ∧ Hid (∀ i, i < 20 → i < z1.length → (z1.getD i []).length ≤ 1000))
  case first =>
    go_wp2_with fail
    go_loop [7] (fun i => ∃ j : Nat, i = .int .i64 j ∧ j ≤ len1 ∧ j ≤ 20 ∧ Hid (∀ i, i < j → i < z1.length → (z1.getD i []).length ≤ 1000)) (fun i => (20 - intOf i).toNat)
    case atStart => exact ⟨0, rfl, by omega, by omega, by show ∀ i, _; intro i hi; omega⟩
    case round =>
      obtain ⟨j, rfl, hj, hj2, hall⟩ := hrel
      by_cases hd : j < len1 ∧ j < 20
      · obtain ⟨hd1, hd2⟩ := hd
        have hd1' : (j : Int) < len1 := by omega
        have hd2' : (j : Int) < 20 := by omega
        obtain ⟨b1, o1, rfl, hbb, hat1⟩ := ra1.at (by omega)
        obtain ⟨x1, l1, c1, hc1, rd1⟩ := hat1 j hd1
        have hl1 : (z1.getD j []).length = l1 := by simpa using rd1.length
        clear hat1 rd1
        by_cases h1000 : l1 ≤ 1000
        · have h1' : (l1 : Int) ≤ 1000 := by omega
          have hall' : Hid (∀ i, i < j + 1 → i < z1.length → (z1.getD i []).length ≤ 1000) := by
            show ∀ i, _
            intro i hi hi2
            by_cases hij : i = j
            · rw [hij, hl1]; exact h1000
            · exact hall.out i (by omega) hi2
          clear hall hl1
          go_wp2
          go_round
          case rel => exact ⟨j + 1, by go_num, by omega, by omega, hall'⟩
          case measure => simp [intOf]; omega
        · have h1' : (1001 : Int) ≤ l1 := by omega
          clear hl1 hall
          go_wp2
          go_ret
          exact ⟨rfl, hb1⟩
      · have hmost : Hid (∀ i, i < 20 → i < z1.length → (z1.getD i []).length ≤ 1000) := by
          show ∀ i, _
          intro i hi hi2
          exact hall.out i (by omega) hi2
        have hcase : j = len1 ∨ (j = 20 ∧ (20 : Int) < len1) := by omega
        clear hall hd hj hj2
        rcases hcase with hjj | ⟨hjj, hjlt⟩
        all_goals
          subst hjj
          go_wp2_with fail
          go_meet
          case rel => exact ⟨rfl, hmost⟩
  obtain ⟨hwc, hmost1⟩ := hcut
  rw [hwc]
  clear hwc
  go_wp2_with fail
  refine (rows_any _ _ _ _ _ ra0 f0 hmost0.out hb0).mono ?_
  rintro e wb ⟨ab, cb, ae, ce, ma, na, rfl, hna, hma, rda, -, hb2⟩
  have Hna : Hid _ := hna
  have Hma : Hid _ := hma
  clear hna hma
  have rb0 := ra0.later hb2 (Nat.le_refl _)
  have rb1 := ra1.later hb2 (Nat.le_refl _)
  have hB2 := Grow.trans hb1 hb2
  clear ra0 ra1 hb1 hb2
  go_wp2_with fail
  refine (rows_any _ _ _ _ _ rb1 f1 hmost1.out hb1').mono ?_
  rintro e wc ⟨ab2, cb2, ae2, ce2, mb, nb, rfl, hnb, hmb, rdb, -, hb3⟩
  have rc0 := rb0.later hb3 (Nat.le_refl _)
  have rc1 := rb1.later hb3 (Nat.le_refl _)
  have rda3 := rda.later hb3 (Nat.le_refl _)
  have hB3 := Grow.trans hB2 hb3
  clear rb0 rb1 rda hb3 hB2
  have hna := Hna.out
  have hma := Hma.out
  clear Hna Hma
  have hna0 : na ≤ z0.length := by omega
  have hnb0 : nb ≤ z1.length := by omega
  have hna20 : na ≤ 20 := by omega
  have hnb20 : nb ≤ 20 := by omega
  have hokA := ok_rows f0 hmost0.out hna20 hna0
  have hokB := ok_rows f1 hmost1.out hnb20 hnb0
  have hma21 : ma ≤ 21000 := by
    have := recAt_most z0 na (fun i hi => hmost0.out i (by omega)) hna0
    omega
  have hmb21 : mb ≤ 21000 := by
    have := recAt_most z1 nb (fun i hi => hmost1.out i (by omega)) hnb0
    omega
  have HA : Hid ((recs (z0.take na)).length = ma) := hma.symm
  have HB : Hid ((recs (z1.take nb)).length = mb) := hmb.symm
  have Hna : Hid _ := hna
  have Hnb : Hid _ := hnb
  clear hma hmb hmost0 hmost1 hna hnb
  have gA : isBytes (recs (z0.take na)) := recs_bytes _ hokA
  have gB : isBytes (recs (z1.take nb)) := recs_bytes _ hokB
  have S1 : Hid (scanR (recs (z0.take na) ++ recs (z1.take nb)) = (z0.take na ++ z1.take nb, ma + mb)) := by
    show _ = _
    have := scan_recs (z0.take na ++ z1.take nb) [] (fun p hp => (List.mem_append.1 hp).elim (hokA p) (hokB p)) get_nil
    rw [List.append_nil, recs_append] at this
    rw [this, List.length_append, HA.out, HB.out]
  have S2 : Hid (scanR (recs (z0.take na) ++ [255, 255]) = (z0.take na, ma)) := by
    show _ = _
    have := scan_recs (z0.take na) [255, 255] hokA get_255
    rw [this, HA.out]
  have A8 : ∀ l ∈ z0.take na, isBytes l := fun l hl => f0 l (List.mem_of_mem_take hl)
  have B8 : ∀ l ∈ z1.take nb, isBytes l := fun l hl => f1 l (List.mem_of_mem_take hl)
  have C8 : ∀ l ∈ z0.take na ++ z1.take nb, isBytes l := fun l hl => (List.mem_append.1 hl).elim (A8 l) (B8 l)
  have lA : Hid ((z0.take na).length = na) := by show _ = _; simp; omega
  have lB : Hid ((z1.take nb).length = nb) := by show _ = _; simp; omega
  clear hokA hokB f0 f1
  have mx : ma + mb + 40 ≤ maxLen := by unfold maxLen; omega
  -- the first
  go_wp2_with (at_builtin; refine wpList_append_reads rfl (.tmp 62) (.tmp 63) 22 rfl wc.heap.size 5 Try.info5 rfl Try.underlying22 _ _ _ _ rfl (ownsRow_empty wc 5) _ _ _ _ rfl (rda3.later ((Below.refl wc.heap.size wc).alloc (Nat.le_refl _) _) (Nat.le_refl _)) (ints_oneCell _ _) (by omega) (by omega) (by simp) ?_)
  intro ag2 c2 wd hown2 hb3
  have hb3' : Below wc.heap.size wc wd := Below.trans ((Below.refl wc.heap.size wc).alloc (Nat.le_refl _) _) hb3
  have rdb4 := rdb.later hb3' (Nat.le_refl _)
  have hs3 := hb3'.size
  clear hb3
  try simp only [Nat.zero_add, List.nil_append] at hown2
  go_wp2_with (at_builtin; refine wpList_append_reads rfl (.tmp 64) (.tmp 65) 22 rfl wc.heap.size 5 Try.info5 rfl Try.underlying22 _ _ _ _ rfl hown2 _ _ _ _ rfl rdb4 (ints_oneCell _ _) (by omega) (by omega) hs3 ?_)
  intro ag3 c3 we hown3 hb4
  have hb4' : Below wc.heap.size wc we := Below.trans hb3' hb4
  clear hb4 hb3' hs3 hown2 rdb4
  simp only [← List.map_append] at hown3
  have ry := Reads.own hown3
  have re0 := rc0.later hb4' (Nat.le_refl _)
  have re1 := rc1.later hb4' (Nat.le_refl _)
  have rda5 := rda3.later hb4' (Nat.le_refl _)
  have hB5 := Grow.trans hB3 hb4'
  clear hown3 rc0 rc1 rda3 hB3 hb4' rdb
  go_wp2_with fail
  refine (fscan_any _ _ _ _ _ ry (gA.app gB) (by omega)).mono ?_
  rintro e wf ⟨ag6, c6, m6, rfl, rl, hb6⟩
  rw [S1.out] at rl ⊢
  have rf0 := re0.later hb6 (Nat.le_refl _)
  have rf1 := re1.later hb6 (Nat.le_refl _)
  have rda6 := rda5.later hb6 (Nat.le_refl _)
  have hB6 := Grow.trans hB5 hb6
  clear ry re0 re1 rda5 hb6 hB5 S1
  -- the second
  go_wp2_with (at_builtin; refine wpList_append_reads rfl (.tmp 71) (.tmp 72) 22 rfl wf.heap.size 5 Try.info5 rfl Try.underlying22 _ _ _ _ rfl (ownsRow_empty wf 5) _ _ _ _ rfl (rda6.later ((Below.refl wf.heap.size wf).alloc (Nat.le_refl _) _) (Nat.le_refl _)) (ints_oneCell _ _) (by omega) (by omega) (by simp) ?_)
  intro ag7 c7 wg hown7 hb7
  have hb7' : Below wf.heap.size wf wg := Below.trans ((Below.refl wf.heap.size wf).alloc (Nat.le_refl _) _) hb7
  have hs7 := hb7'.size
  clear hb7
  try simp only [Nat.zero_add, List.nil_append] at hown7
  go_wp2_with (at_builtin; refine wpList_append_reads rfl (.tmp 73) (.tmp 74) 22 rfl wf.heap.size 5 Try.info5 rfl Try.underlying22 _ _ _ _ rfl (hown7.alloc _) _ _ _ _ rfl (reads_new _ [.int .u8 255, .int .u8 255] _ (by simp [maxLen])) (ints_oneCell .u8 [255, 255]) (by show ma + 2 ≤ _; omega) (by show (ma + 2) * 1 ≤ _; omega) (by simp; omega) ?_)
  intro ag8 c8 wh hown8 hb8
  have hb8' : Below wf.heap.size wf wh := Below.trans (hb7'.alloc hs7 _) hb8
  have ry : Reads wh ag8 (ma + 2) c8 ((recs (z0.take na) ++ [255, 255]).map (.int .u8)) := by have := Reads.own hown8; simpa using this
  have rh0 := rf0.later hb8' (Nat.le_refl _)
  have rh1 := rf1.later hb8' (Nat.le_refl _)
  have rl8 := rl.later hb8' (Nat.le_refl _)
  have hB8 := Grow.trans hB6 hb8'
  clear hb8 hb8' hb7' hs7 hown7 hown8 rf0 rf1 rl hB6 rda6
  go_wp2_with fail
  refine (fscan_any _ _ _ _ _ ry (gA.app (by simp [isBytes])) (by omega)).mono ?_
  rintro e wi ⟨ag9, c9, m9, rfl, rk, hb9⟩
  rw [S2.out] at rk ⊢
  have ri0 := rh0.later hb9 (Nat.le_refl _)
  have ri1 := rh1.later hb9 (Nat.le_refl _)
  have rl9 := rl8.later hb9 (Nat.le_refl _)
  have hB9 := Grow.trans hB8 hb9
  clear ry rh0 rh1 rl8 hb9 hB8 S2 gA gB
  have hmin0 : (if (20 : Int) < (len0 : Int) then (20 : Int) else (len0 : Int)) = (na : Int) := by have := Hna.out; split <;> omega
  have hmin1 : (if (20 : Int) < (len1 : Int) then (20 : Int) else (len1 : Int)) = (nb : Int) := by have := Hnb.out; split <;> omega
  obtain ⟨vs, rv0, rvs0⟩ := ri0.vals
  obtain ⟨us, rv1, rvs1⟩ := ri1.vals
  obtain ⟨x0, hs0, hd0⟩ := Reads.to (P := Try.prog) Try.underlying33 (size_of Try.infoRow) (ao := a0) (len := len0) (cap := cap0) hlc0 na (by omega)
  obtain ⟨x1, hs1, hd1⟩ := Reads.to (P := Try.prog) Try.underlying33 (size_of Try.infoRow) (ao := a1) (len := len1) (cap := cap1) hlc1 nb (by omega)
  have rd0 : ∀ W, Grow wi W → Reads W x0 na cap0 (vs.take na) := fun W hW => hd0 W vs (rv0.later hW (Nat.le_refl _))
  have rd1 : ∀ W, Grow wi W → Reads W x1 nb cap1 (us.take nb) := fun W hW => hd1 W us (rv1.later hW (Nat.le_refl _))
  have rw0 := rvs0.take na
  have rw1 := rvs1.take nb
  have rk' : ReadsRows wi ag9 m9 c9 (z0.take na) := rk
  have hm9 : m9 ≤ 20 := by have := rk'.length; rw [lA.out] at this; omega
  have rl9' : ReadsRows wi ag6 m6 c6 (z0.take na ++ z1.take nb) := rl9
  have hwr : IntKind.i64.wrap ((ma : Int) + mb) = (ma : Int) + mb := by rw [IntKind.wrap_i64]; omega
  have hsum1 : (ma : Int) + mb ≤ 42000 := by omega
  have hsum0 : (0 : Int) ≤ (ma : Int) + mb := by omega
  have c2 : ListsIs wi (.slice ag9 m9 c9) (.slice x0 na cap0) := listsIs rk' (ReadsRows.of (rd0 wi (Below.refl _ _)) rw0) A8 (by omega) (by omega)
  have hrl := rl9'.length
  rw [List.length_append, lA.out, lB.out] at hrl
  have hm6 : m6 ≤ 40 := by omega
  have mx2 : na + nb + 20 ≤ maxLen := by unfold maxLen; omega
  clear ri0 ri1 rv0 rv1 rvs0 rvs1 hd0 hd1 rk rk' rl9 Hna Hnb hrl lA lB HA HB A8 B8 hna0 hnb0 mx
  go_wp2_with fail
  refine wp_region_held_drew (S := fun W => Grow wi W) (by kernel_rfl) (Below.drew (Below.refl _ _)) (fun hHeld => ?_)
  refine held_take 0 79 (v := ?_) rfl rfl (by kernel_rfl) (by kernel_rfl) (by kernel_rfl) (fun _ _ _ h => h) (Or.inl ⟨by rfl, ?_⟩) (by assumption) ?_
  rotate_left 1
  · (intro w hSw; (try dsimp only at hSw); go_simp; try with_reducible rfl)
  simp only [List.set_cons_zero, List.set_cons_succ]
  refine held_take 1 80 (v := ?_) rfl rfl (by kernel_rfl) (by kernel_rfl) (by kernel_rfl) (fun _ _ _ h => h) (Or.inl ⟨by rfl, ?_⟩) (by assumption) ?_
  rotate_left 1
  · (intro w hSw; (try dsimp only at hSw); go_simp; try with_reducible rfl)
  simp only [List.set_cons_zero, List.set_cons_succ]
  refine held_take 2 81 (v := ?_) rfl rfl (by kernel_rfl) (by kernel_rfl) (by kernel_rfl) (fun _ _ _ h => h) (Or.inl ⟨by rfl, ?_⟩) (by assumption) ?_
  rotate_left 1
  · (intro w hSw; (try dsimp only at hSw); go_simp; try with_reducible rfl)
  simp only [List.set_cons_zero, List.set_cons_succ]
  refine held_take 3 82 (v := ?_) rfl rfl (by kernel_rfl) (by kernel_rfl) (by kernel_rfl) (fun _ _ _ h => h) (Or.inl ⟨by rfl, ?_⟩) (by assumption) ?_
  rotate_left 1
  · (intro w hSw; (try dsimp only at hSw); go_simp; try with_reducible rfl)
  simp only [List.set_cons_zero, List.set_cons_succ]
  refine held_take 4 83 (v := ?_) rfl rfl (by kernel_rfl) (by kernel_rfl) (by kernel_rfl) (fun _ _ _ h => h) (Or.inl ⟨by rfl, ?_⟩) (by assumption) ?_
  rotate_left 1
  · (intro w hSw; (try dsimp only at hSw); go_simp; try with_reducible rfl)
  simp only [List.set_cons_zero, List.set_cons_succ]
  refine held_take 5 84 (v := ?_) rfl rfl (by kernel_rfl) (by kernel_rfl) (by kernel_rfl) (fun _ _ _ h => h) (Or.inl ⟨by rfl, ?_⟩) (by assumption) ?_
  rotate_left 1
  · (intro w hSw; (try dsimp only at hSw); go_simp; try with_reducible rfl)
  simp only [List.set_cons_zero, List.set_cons_succ]
  refine held_take 6 85 (v := ?_) rfl rfl (by kernel_rfl) (by kernel_rfl) (by kernel_rfl) (fun _ _ _ h => h) (Or.inl ⟨by rfl, ?_⟩) (by assumption) ?_
  rotate_left 1
  · (intro w hSw; (try dsimp only at hSw); go_simp; try with_reducible rfl)
  simp only [List.set_cons_zero, List.set_cons_succ]
  refine held_take 7 86 (v := ?_) rfl rfl (by kernel_rfl) (by kernel_rfl) (by kernel_rfl) (fun _ _ _ h => h) (Or.inl ⟨by rfl, ?_⟩) (by assumption) ?_
  rotate_left 1
  · (intro w hSw; (try dsimp only at hSw); go_simp; try with_reducible rfl)
  simp only [List.set_cons_zero, List.set_cons_succ]
  refine held_take 8 87 (v := ?_) rfl rfl (by kernel_rfl) (by kernel_rfl) (by kernel_rfl) (fun _ _ _ h => h) (Or.inl ⟨by rfl, ?_⟩) (by assumption) ?_
  rotate_left 1
  · (intro w hSw; (try dsimp only at hSw); go_simp; try with_reducible rfl)
  simp only [List.set_cons_zero, List.set_cons_succ]
  refine held_take 9 88 (v := ?_) rfl rfl (by kernel_rfl) (by kernel_rfl) (by kernel_rfl) (fun _ _ _ h => h) (Or.inl ⟨by rfl, ?_⟩) (by assumption) ?_
  rotate_left 1
  · (intro w hSw; (try dsimp only at hSw); go_simp; try with_reducible rfl)
  simp only [List.set_cons_zero, List.set_cons_succ]
  refine held_take 10 89 (v := ?_) rfl rfl (by kernel_rfl) (by kernel_rfl) (by kernel_rfl) (fun _ _ _ h => h) (Or.inl ⟨by rfl, ?_⟩) (by assumption) ?_
  rotate_left 1
  · (intro w hSw; (try dsimp only at hSw); go_simp; try with_reducible rfl)
  simp only [List.set_cons_zero, List.set_cons_succ]
  refine held_take 11 90 (v := ?_) rfl rfl (by kernel_rfl) (by kernel_rfl) (by kernel_rfl) (fun _ _ _ h => h) (Or.inl ⟨by rfl, ?_⟩) (by assumption) ?_
  rotate_left 1
  · (intro w hSw; (try dsimp only at hSw); go_simp; try with_reducible rfl)
  simp only [List.set_cons_zero, List.set_cons_succ]
  refine held_take 12 91 (v := ?_) rfl rfl (by kernel_rfl) (by kernel_rfl) (by kernel_rfl) (fun _ _ _ h => h) (Or.inl ⟨by rfl, ?_⟩) (by assumption) ?_
  rotate_left 1
  · (intro w hSw; (try dsimp only at hSw); go_simp; try with_reducible rfl)
  simp only [List.set_cons_zero, List.set_cons_succ]
  refine held_take 13 92 (v := ?_) rfl rfl (by kernel_rfl) (by kernel_rfl) (by kernel_rfl) (fun _ _ _ h => h) (Or.inl ⟨by rfl, ?_⟩) (by assumption) ?_
  rotate_left 1
  · (intro w hSw; (try dsimp only at hSw); go_simp; try with_reducible rfl)
  simp only [List.set_cons_zero, List.set_cons_succ]
  refine held_take 14 93 (v := ?_) rfl rfl (by kernel_rfl) (by kernel_rfl) (by kernel_rfl) (fun _ _ _ h => h) (Or.inl ⟨by rfl, ?_⟩) (by assumption) ?_
  rotate_left 1
  · (intro w hSw; (try dsimp only at hSw); go_simp; try with_reducible rfl)
  simp only [List.set_cons_zero, List.set_cons_succ]
  refine held_take 15 94 (v := ?_) rfl rfl (by kernel_rfl) (by kernel_rfl) (by kernel_rfl) (fun _ _ _ h => h) (Or.inl ⟨by rfl, ?_⟩) (by assumption) ?_
  rotate_left 1
  · (intro w hSw; (try dsimp only at hSw); go_simp; try with_reducible rfl)
  simp only [List.set_cons_zero, List.set_cons_succ]
  refine held_take 16 95 (v := ?_) rfl rfl (by kernel_rfl) (by kernel_rfl) (by kernel_rfl) (fun _ _ _ h => h) (Or.inl ⟨by rfl, ?_⟩) (by assumption) ?_
  rotate_left 1
  · (intro w hSw; (try dsimp only at hSw); go_simp; try with_reducible rfl)
  simp only [List.set_cons_zero, List.set_cons_succ]
  refine held_take 17 96 (v := ?_) rfl rfl (by kernel_rfl) (by kernel_rfl) (by kernel_rfl) (fun _ _ _ h => h) (Or.inl ⟨by rfl, ?_⟩) (by assumption) ?_
  rotate_left 1
  · (intro w hSw; (try dsimp only at hSw); go_simp; try with_reducible rfl)
  simp only [List.set_cons_zero, List.set_cons_succ]
  refine held_take 19 98 (v := ?_) rfl rfl (by kernel_rfl) (by kernel_rfl) (by kernel_rfl) (fun _ _ _ h => h) (Or.inl ⟨by rfl, ?_⟩) (by assumption) ?_
  rotate_left 1
  · (intro w hSw; (try dsimp only at hSw); go_simp; try with_reducible rfl)
  simp only [List.set_cons_zero, List.set_cons_succ]
  refine held_take 20 99 (v := ?_) rfl rfl (by kernel_rfl) (by kernel_rfl) (by kernel_rfl) (fun _ _ _ h => h) (Or.inl ⟨by rfl, ?_⟩) (by assumption) ?_
  rotate_left 1
  · (intro w hSw; (try dsimp only at hSw); go_simp; try with_reducible rfl)
  simp only [List.set_cons_zero, List.set_cons_succ]
  refine held_take 21 100 (v := ?_) rfl rfl (by kernel_rfl) (by kernel_rfl) (by kernel_rfl) (fun _ _ _ h => h) (Or.inl ⟨by rfl, ?_⟩) (by assumption) ?_
  rotate_left 1
  · (intro w hSw; (try dsimp only at hSw); go_simp; try with_reducible rfl)
  simp only [List.set_cons_zero, List.set_cons_succ]
  refine held_take 22 101 (v := ?_) rfl rfl (by kernel_rfl) (by kernel_rfl) (by kernel_rfl) (fun _ _ _ h => h) (Or.inl ⟨by rfl, ?_⟩) (by assumption) ?_
  rotate_left 1
  · (intro w hSw; (try dsimp only at hSw); go_simp; try with_reducible rfl)
  simp only [List.set_cons_zero, List.set_cons_succ]
  refine held_take 23 102 (v := ?_) rfl rfl (by kernel_rfl) (by kernel_rfl) (by kernel_rfl) (fun _ _ _ h => h) (Or.inl ⟨by rfl, ?_⟩) (by assumption) ?_
  rotate_left 1
  · (intro w hSw; (try dsimp only at hSw); go_simp; try with_reducible rfl)
  simp only [List.set_cons_zero, List.set_cons_succ]
  refine held_take 25 104 (v := ?_) rfl rfl (by kernel_rfl) (by kernel_rfl) (by kernel_rfl) (fun _ _ _ h => h) (Or.inl ⟨by rfl, ?_⟩) (by assumption) ?_
  rotate_left 1
  · (intro w hSw; (try dsimp only at hSw); go_simp; try with_reducible rfl)
  simp only [List.set_cons_zero, List.set_cons_succ]
  refine held_take 26 105 (v := ?_) rfl rfl (by kernel_rfl) (by kernel_rfl) (by kernel_rfl) (fun _ _ _ h => h) (Or.inl ⟨by rfl, ?_⟩) (by assumption) ?_
  rotate_left 1
  · (intro w hSw; (try dsimp only at hSw); go_simp; try with_reducible rfl)
  simp only [List.set_cons_zero, List.set_cons_succ]
  refine held_take 27 106 (v := ?_) rfl rfl (by kernel_rfl) (by kernel_rfl) (by kernel_rfl) (fun _ _ _ h => h) (Or.inl ⟨by rfl, ?_⟩) (by assumption) ?_
  rotate_left 1
  · (intro w hSw; (try dsimp only at hSw); go_simp; try with_reducible rfl)
  simp only [List.set_cons_zero, List.set_cons_succ]
  refine held_take 28 107 (v := ?_) rfl rfl (by kernel_rfl) (by kernel_rfl) (by kernel_rfl) (fun _ _ _ h => h) (Or.inl ⟨by rfl, ?_⟩) (by assumption) ?_
  rotate_left 1
  · (intro w hSw; (try dsimp only at hSw); go_simp; try with_reducible rfl)
  simp only [List.set_cons_zero, List.set_cons_succ]
  refine held_take 29 108 (v := ?_) rfl rfl (by kernel_rfl) (by kernel_rfl) (by kernel_rfl) (fun _ _ _ h => h) (Or.inl ⟨by rfl, ?_⟩) (by assumption) ?_
  rotate_left 1
  · (intro w hSw; (try dsimp only at hSw); go_simp; try with_reducible rfl)
  simp only [List.set_cons_zero, List.set_cons_succ]
  refine wpAnyH_ready (rs := [18]) (by kernel_rfl) (by simp) ?_
  refine AllReadyH.cons rfl (fun K hK => ?_) AllReadyH.nil
  go_simp
  refine hK.out _ _ (Below.drew ((Below.refl _ wi).alloc (Nat.le_refl _) _)) (fun hHeld => ?_)
  clear hK K
  try simp only [Act.put]
  try simp only [List.setIfInBounds_toArray]
  try simp only [List.set_cons_zero, List.set_cons_succ]
  refine wpAnyH_ready (rs := [24]) (by kernel_rfl) (by simp) ?_
  refine AllReadyH.cons rfl (fun K hK => ?_) AllReadyH.nil
  refine step_append_row (by rfl) (.tmp 97) (.tmp 102) 33 rfl wi.heap.size 22 Try.infoRow rfl Try.underlying33 _ _ _ _ rfl (World.ownsRow.drew (ownsRow_empty wi 22)) _ _ _ _ rfl (rd0 _ (Below.drew ((Below.refl _ wi).alloc (Nat.le_refl _) _))) rw0.oneCell (by omega) (by omega) (by simp) ?_
  intro ag1 c1 w1 hown1 hb1
  have hb1' : Grow wi w1 := Below.trans (Below.drew ((Below.refl _ wi).alloc (Nat.le_refl _) _)) hb1
  clear hb1
  simp only [Nat.zero_add, List.nil_append] at hown1 ⊢
  refine hK.out _ _ (hb1') (fun hHeld => ?_)
  clear hK K
  try simp only [Act.put]
  try simp only [List.setIfInBounds_toArray]
  try simp only [List.set_cons_zero, List.set_cons_succ]
  refine wpAnyH_ready (rs := [30]) (by kernel_rfl) (by simp) ?_
  refine AllReadyH.cons rfl (fun K hK => ?_) AllReadyH.nil
  refine step_append_row (by rfl) (.tmp 103) (.tmp 108) 33 rfl wi.heap.size 22 Try.infoRow rfl Try.underlying33 _ _ _ _ rfl hown1 _ _ _ _ rfl (rd1 _ hb1') rw1.oneCell (by omega) (by omega) (Below.size hb1') ?_
  intro ag2 c3 w2 hown2 hb2
  have hb2' : Grow wi w2 := Below.trans hb1' hb2
  have c1 : ListsIs w2 (.slice ag6 m6 c6) (.slice ag2 (na + nb) c3) := listsIs (rl9'.later hb2' (Nat.le_refl _)) (ReadsRows.of (Reads.own hown2) ((rw0.append rw1).later hb2' (Nat.le_refl _))) C8 (by omega) (by omega)
  clear hb2 hown2 hown1
  refine hK.out _ _ (hb2') (fun hHeld => ?_)
  clear hK K
  try simp only [Act.put]
  try simp only [List.setIfInBounds_toArray]
  try simp only [List.set_cons_zero, List.set_cons_succ]
  refine wpAnyH_ready (rs := [31]) (by kernel_rfl) (by simp) ?_
  refine AllReadyH.cons rfl (fun K hK => ?_) AllReadyH.nil
  go_simp
  go_wp2_with (go_at_call 15; refine (c1.out _ (Below.refl _ _)).mono ?_; rintro e w3 ⟨rfl, hb3⟩)
  have hb3' : Grow wi w3 := Grow.trans hb2' hb3
  clear hb3 c1
  refine hK.out _ _ (hb3') (fun hHeld => ?_)
  clear hK K
  try simp only [Act.put]
  try simp only [List.setIfInBounds_toArray]
  try simp only [List.set_cons_zero, List.set_cons_succ]
  refine held_take 32 111 (v := ?_) rfl rfl (by kernel_rfl) (by kernel_rfl) (by kernel_rfl) (fun _ _ _ h => h) (Or.inl ⟨by rfl, ?_⟩) (by assumption) ?_
  rotate_left 1
  · (intro w hSw; (try dsimp only at hSw); go_simp; try with_reducible rfl)
  simp only [List.set_cons_zero, List.set_cons_succ]
  refine held_take 33 112 (v := ?_) rfl rfl (by kernel_rfl) (by kernel_rfl) (by kernel_rfl) (fun _ _ _ h => h) (Or.inl ⟨by rfl, ?_⟩) (by assumption) ?_
  rotate_left 1
  · (intro w hSw; (try dsimp only at hSw); go_simp; try with_reducible rfl)
  simp only [List.set_cons_zero, List.set_cons_succ]
  refine held_take 34 113 (v := ?_) rfl rfl (by kernel_rfl) (by kernel_rfl) (by kernel_rfl) (fun _ _ _ h => h) (Or.inl ⟨by rfl, ?_⟩) (by assumption) ?_
  rotate_left 1
  · (intro w hSw; (try dsimp only at hSw); go_simp; try with_reducible rfl)
  simp only [List.set_cons_zero, List.set_cons_succ]
  refine held_take 35 114 (v := ?_) rfl rfl (by kernel_rfl) (by kernel_rfl) (by kernel_rfl) (fun _ _ _ h => h) (Or.inl ⟨by rfl, ?_⟩) (by assumption) ?_
  rotate_left 1
  · (intro w hSw; (try dsimp only at hSw); go_simp; try with_reducible rfl)
  simp only [List.set_cons_zero, List.set_cons_succ]
  refine held_take 36 115 (v := ?_) rfl rfl (by kernel_rfl) (by kernel_rfl) (by kernel_rfl) (fun _ _ _ h => h) (Or.inl ⟨by rfl, ?_⟩) (by assumption) ?_
  rotate_left 1
  · (intro w hSw; (try dsimp only at hSw); go_simp; try with_reducible rfl)
  simp only [List.set_cons_zero, List.set_cons_succ]
  refine held_take 37 116 (v := ?_) rfl rfl (by kernel_rfl) (by kernel_rfl) (by kernel_rfl) (fun _ _ _ h => h) (Or.inl ⟨by rfl, ?_⟩) (by assumption) ?_
  rotate_left 1
  · (intro w hSw; (try dsimp only at hSw); go_simp; try with_reducible rfl)
  simp only [List.set_cons_zero, List.set_cons_succ]
  refine held_take 38 117 (v := ?_) rfl rfl (by kernel_rfl) (by kernel_rfl) (by kernel_rfl) (fun _ _ _ h => h) (Or.inl ⟨by rfl, ?_⟩) (by assumption) ?_
  rotate_left 1
  · (intro w hSw; (try dsimp only at hSw); go_simp; try with_reducible rfl)
  simp only [List.set_cons_zero, List.set_cons_succ]
  refine held_take 39 118 (v := ?_) rfl rfl (by kernel_rfl) (by kernel_rfl) (by kernel_rfl) (fun _ _ _ h => h) (Or.inl ⟨by rfl, ?_⟩) (by assumption) ?_
  rotate_left 1
  · (intro w hSw; (try dsimp only at hSw); go_simp; try with_reducible rfl)
  simp only [List.set_cons_zero, List.set_cons_succ]
  refine wpAnyH_ready (rs := [40]) (by kernel_rfl) (by simp) ?_
  refine AllReadyH.cons rfl (fun K hK => ?_) AllReadyH.nil
  go_simp
  go_wp2_with (go_at_call 15; refine (c2.out _ hb3').mono ?_; rintro e w4 ⟨rfl, hb4⟩)
  have hb4' : Grow wi w4 := Grow.trans hb3' hb4
  clear hb4 c2
  refine hK.out _ _ (hb4') (fun hHeld => ?_)
  clear hK K
  try simp only [Act.put]
  try simp only [List.setIfInBounds_toArray]
  try simp only [List.set_cons_zero, List.set_cons_succ]
  refine held_take 41 120 (v := ?_) rfl rfl (by kernel_rfl) (by kernel_rfl) (by kernel_rfl) (fun _ _ _ h => h) (Or.inl ⟨by rfl, ?_⟩) (by assumption) ?_
  rotate_left 1
  · (intro w hSw; (try dsimp only at hSw); go_simp; try with_reducible rfl)
  simp only [List.set_cons_zero, List.set_cons_succ]
  refine held_take 42 4 (v := ?_) rfl rfl (by kernel_rfl) (by kernel_rfl) (by kernel_rfl) (fun _ _ _ h => h) (Or.inl ⟨by rfl, ?_⟩) (by assumption) ?_
  rotate_left 1
  · (intro w hSw; (try dsimp only at hSw); go_simp; try with_reducible rfl)
  simp only [List.set_cons_zero, List.set_cons_succ]
  refine wpAnyH_done (by kernel_rfl) ?_ _
  go_wp2
  go_ret
  exact ⟨rfl, Grow.trans hB9 hb4'⟩

set_option maxRecDepth 100000 in
theorem lifted (os : Os) (started : os.Started) (H : Type) (enc : TypeId × Value → H) :
    ReturnsInHanded {} Try.checked os 7 .any (Rows.frameJoinsSpec.pre6 enc Try.prog Try.f7 Rows.frameJoinsRow.domain false) (Rows.frameJoinsSpec.post enc Try.prog Try.f7 false true false false) := by
  refine returnsInHanded_of_change_sized (C := Try.checked) own started (by kernel_rfl) Try.func7
    (ChangeSpec.witness6 (enc := enc) (C := Try.checked) false ⟨#[], #[.slice none 0 0, .slice none 0 0], []⟩ 8 (by kernel_rfl) (by kernel_rfl) (by kernel_rfl) (by kernel_rfl)) ?_
  intro W base args ds gs before hval0 hW hcnd hsz0 _
  have hsz : (DataW.weightsEach Try.prog (Try.f7.params.toList ++ Rows.frameJoinsSpec.plain.varTypes Try.prog) (ds ++ gs)).all (· ≤ reachBytes) = true := hsz0
  clear hsz0
  have hval : ∀ (j : Nat) t v, Try.f7.params[j]? = some t → args[j]? = some v → Value.okWide Try.prog W .any base t v := hval0
  have hW' := hW
  obtain ⟨p, q, hA0, hV, rfl, hfz, hnd⟩ := hW
  have hA : DataW.TrodAll enc Try.prog W 0 (fun _ => true) true Try.f7.params.toList args.toList ds p := hA0
  rw [Try.params7] at hA hval hsz
  obtain ⟨v0, vs0, d0, ds0, p0, q0, hargs, rfl, rfl, h0, rr0⟩ := trodAll_cons hA
  obtain ⟨v1, vs1, d1, ds1, p1, q1, rfl, rfl, rfl, h1, rr1⟩ := trodAll_cons rr0
  obtain ⟨rfl, rfl, rfl⟩ := trodAll_nil rr1
  obtain rfl : args = #[v0, v1] := by cases args; simp_all
  obtain ⟨rfl, rfl⟩ := trodVars_none hV
  obtain ⟨a0, len0, cap0, rfl⟩ := okWide_slice Try.underlying33 (hval 0 33 v0 rfl rfl)
  have k0 := h0
  have lt0 : ∀ x ∈ p0, x.block < W.heap.size := by obtain ⟨m, hm⟩ := k0; exact DataW.trod_lt m _ _ _ hm
  obtain ⟨z0, r0, f0, b0⟩ := rows_in Try.underlying33 Try.underlying22 Try.underlying5 (by kernel_rfl) (by kernel_rfl) (B := 24) (by kernel_rfl) hsz (j := 0) rfl rfl h0
  obtain ⟨a1, len1, cap1, rfl⟩ := okWide_slice Try.underlying33 (hval 1 33 v1 rfl rfl)
  have k1 := h1
  have lt1 : ∀ x ∈ p1, x.block < W.heap.size := by obtain ⟨m, hm⟩ := k1; exact DataW.trod_lt m _ _ _ hm
  obtain ⟨z1, r1, f1, b1⟩ := rows_in Try.underlying33 Try.underlying22 Try.underlying5 (by kernel_rfl) (by kernel_rfl) (B := 24) (by kernel_rfl) hsz (j := 1) rfl rfl h1
  clear hA0 hval0
  refine (walk W a0 len0 cap0 z0 r0 f0 b0 a1 len1 cap1 z1 r1 f1 b1).mono fun e W' ⟨he, bel⟩ => ?_
  subst he
  exact ⟨_, rfl, _, _, _, [], _, [], hW', trodAll_mk1 (shut_bool Try.underlying4 _), (trodAll_cons_mk (Below.trod laidOut (by kernel_rfl) (of_decide_eq_true (by kernel_rfl)) k0 bel lt0) (trodAll_cons_mk (Below.trod laidOut (by kernel_rfl) (of_decide_eq_true (by kernel_rfl)) k1 bel lt1) trodAll_mk0)), rfl, bel.frame _, fun h => by cases h⟩

theorem over : Rows.frameJoinsRow.holds Try.pinned (OpenSpec.ofChange Rows.frameJoinsSpec) :=
  OpenClaim.holds_of_wide 7 Try.f7 rfl rfl rfl rfl rfl rfl rfl ⟨rfl, rfl, rfl, rfl, rfl⟩ rfl rfl rfl rfl rfl (by kernel_rfl) Try.func7 (by kernel_rfl)
    (of_decide_eq_true (by kernel_rfl)) (by unfold Func.isWrapper; first | (rw [if_pos (by decide +kernel)]; kernel_rfl) | (rw [if_neg (by decide +kernel)]; exact ⟨rfl, rfl⟩))
    (fun os started H enc _ => lifted os started H enc)
end Go.Proofs.Ytgdjlokbllpbpaa.frameJoins
namespace Go.Proofs.Ytgdjlokbllpbpaa
theorem frameJoins_holds : Rows.FrameJoinsSaid := frameJoins.over
#print axioms frameJoins_holds
end Go.Proofs.Ytgdjlokbllpbpaa
