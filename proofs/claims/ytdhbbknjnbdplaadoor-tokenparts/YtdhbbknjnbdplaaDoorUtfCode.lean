/- The contract of utf.Feed. -/
import Derived.Test.YtdhbbknjnbdplaaDoorUtfFirstPend
namespace Go.Proofs.YtdhbbknjnbdplaaDoor
open Go.RowKit
set_option linter.unusedVariables false

set_option maxRecDepth 100000 in
set_option maxHeartbeats 400000 in
theorem ufeed_any (ao : Option Addr) (len cap : Nat) (ps : List Int) (bo : Option Addr) (blen bcap : Nat) (zs : List Int) (w : World) (hr : Reads w ao len cap (ps.map (.int .u8))) (hk : Reads w bo blen bcap (zs.map (.int .u8))) (p8 : isBytes ps) (h8 : isBytes zs) (hlen : len ≤ 100000) (hblen : blen ≤ 100000)
    (ht : Tabs w := by first | assumption | exact Tabs.grow (by assumption) (by assumption)) :
    Calls Tryd.prog 37 #[.slice ao len cap, .slice bo blen bcap] w fun e w' => ∃ ag c m bg d k, e = .returned (.tuple #[.slice ag m c, .slice bg k d]) ∧ m = (feedU (ps ++ zs)).1.length ∧ k = (feedU (ps ++ zs)).2.length ∧
      w'.ownsRow w.heap.size 21 1 (.slice ag m c) m ((feedU (ps ++ zs)).1.map (.int .i32)) ∧ Reads w' bg k d ((feedU (ps ++ zs)).2.map (.int .u8)) ∧ TypedAt w' bg k 5 ∧ FreshAt w.heap.size bg k ∧ Below w.heap.size w w' := by
  have hl : ps.length = len := by simpa using hr.length
  have hl2 : zs.length = blen := by simpa using hk.length
  have hr1 := hr.later ((Below.refl w.heap.size w).alloc (Nat.le_refl _) (.cells #[.slice ao len cap, .slice bo blen bcap] 22)) (Nat.le_refl _)
  have hk1 := hk.later ((Below.refl w.heap.size w).alloc (Nat.le_refl _) (.cells #[.slice ao len cap, .slice bo blen bcap] 22)) (Nat.le_refl _)
  have hrows : ReadsRows (w.alloc (.cells #[.slice ao len cap, .slice bo blen bcap] 22)) (some ⟨w.heap.size, 0, none⟩) 2 2 [ps, zs] :=
    ReadsRows.of (reads_new w [.slice ao len cap, .slice bo blen bcap] 22 (by show 2 ≤ maxLen; decide)) (RowVals.append (RowVals.one hr1) (RowVals.one hk1))
  have Hfl : Hid ([ps, zs].flatten = ps ++ zs) := by show _ = _; simp
  have hT0 : Tabs (w.alloc (.cells #[.slice ao len cap, .slice bo blen bcap] 22)) := ht.later ((Below.refl w.heap.size w).alloc (Nat.le_refl _) _) (Nat.le_refl _)
  clear hr1 hk1 hr hk
  go_enter Tryd.func37, Tryd.ntmps37
  go_wp2_with fail
  refine (concat_any _ 2 2 [ps, zs] _ hrows (by decide) (by rw [Hfl.out]; simp; omega)).mono ?_
  rintro e wa ⟨bg, cb, L, rfl, hL, hown, hb1⟩
  have hta := Tabs.grow hb1 hT0
  have hba : Below w.heap.size w wa := Below.trans ((Below.refl w.heap.size w).alloc (Nat.le_refl _) _) (hb1.mono (by simp))
  rw [Hfl.out] at hL hown
  have b8 : isBytes (ps ++ zs) := fun z hz => (List.mem_append.1 hz).elim (p8 z) (h8 z)
  have hLb : L ≤ 200000 := by rw [hL]; simp; omega
  have rb := Reads.own hown
  generalize hbs : ps ++ zs = bs at hL hown b8 rb
  have Hbs : Hid _ := hbs
  clear hbs
  clear hb1 hT0 hrows Hfl hl hl2 p8 h8 hlen hblen hown ht
  have hbl := rb.le
  have HL : Hid _ := hL
  clear hL
  go_wp2_with fail
  refine (ufirst_any bg L cb bs wa rb b8 (by omega) hta).mono ?_
  rintro e wb ⟨j, rfl, hj, hF, hb2⟩
  have HF : Hid _ := hF
  have rb2 := rb.later hb2 (Nat.le_refl _)
  have hB2 := Below.trans hba (hb2.mono hba.size)
  obtain ⟨x1, hs1, hd1⟩ := Reads.to (P := Tryd.prog) Tryd.underlying22 (size_of Tryd.infoByte) (ao := bg) (len := L) (cap := cb) hbl j hj
  obtain ⟨x2, hs2, hd2⟩ := Reads.from (P := Tryd.prog) Tryd.underlying22 (size_of Tryd.infoByte) (ao := bg) (len := L) (cap := cb) j hj
  have rx1 : ∀ W, Below wb.heap.size wb W → Reads W x1 j cb ((bs.take j).map (.int .u8)) := fun W hW => by have := hd1 W _ (rb2.later hW (Nat.le_refl _)); simpa using this
  have rx2 : ∀ W, Below wb.heap.size wb W → Reads W x2 (L - j) (cb - j) ((bs.drop j).map (.int .u8)) := fun W hW => by have := hd2 W _ (rb2.later hW (Nat.le_refl _)); simpa using this
  have Hx1 : Hid _ := rx1
  have Hx2 : Hid _ := rx2
  have t8 : isBytes (bs.take j) := fun z hz => b8 z (List.mem_of_mem_take hz)
  have hdl : Hid ((bs.drop j).length = L - j) := by show _ = _; rw [List.length_drop, ← HL.out]
  have hji : (j : Int) ≤ L := by omega
  clear hd1 hd2 rx1 rx2 hF rb hba hta hb2 b8 rb2
  go_wp2_with fail
  first | go_region_held (fun W => Below wb.heap.size wb W) (first | exact Below.refl _ _ | exact Below.drew (Below.refl _ _) | assumption | exact Grow.trans (by assumption) (by assumption)) (first | (go_at_call 23; refine (uall_own _ _ _ _ _ (Hx1.out _ (by first | assumption | exact Below.drew (Below.refl _ _))) t8 (by omega)).mono ?_; rintro e wc ⟨ag, c, m, rfl, hm, hownr, hb3⟩; have Hm : Hid _ := hm; clear hm) | (go_at_call 28; refine (clone_any _ _ _ _ _ (Hx2.out _ (by first | assumption | exact Grow.trans (by assumption) (by assumption))) (by omega)).mono ?_; rintro e wd ⟨pg, d, rfl, hownp, hb4⟩)) | fail
  have hs2 : w.heap.size ≤ wb.heap.size := hB2.size
  have hs3 : wb.heap.size ≤ wc.heap.size := hb3.size
  have hown1 := own_mono (own_later hownr hb4 (Nat.le_refl _)) hs2
  have hown2 := own_mono hownp (Nat.le_trans hs2 hs3)
  have hB4 : Below w.heap.size w wd := Grow.trans (Grow.trans hB2 (Grow.trans (Below.drew (Below.refl _ _)) hb3)) hb4
  clear hownr hownp hb3 hb4 hB2 hs2 hs3 hs1 Hx1 Hx2 t8
  go_wp2
  go_ret2
  rw [Hbs.out, HF.out]
  exact ⟨ag, c, m, pg, d, L - j, rfl, Hm.out, hdl.out.symm, hown1, Reads.own hown2, typed_own hown2, fresh_own hown2, hB4⟩
#print axioms ufeed_any
end Go.Proofs.YtdhbbknjnbdplaaDoor
