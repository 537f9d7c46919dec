/- For every input CrcTurned answers true, and leaves its arguments as they were. Conditions: none. -/
import Derived.Test.YtffkdelnpnokjaaRows
import Derived.Test.YtffkdelnpnokjaaCrcTurn
import Derived.Test.YtffkdelnpnokjaaCrcIs
import Derived.Test.YtffkdelnpnokjaaShown02
import Derived.Test.YtffkdelnpnokjaaOpen
import Derived.ProofKit
import Derived.OpenShut
import Derived.ShutString
import Derived.ChangeOld
import Derived.SizedLaws
import Derived.Deep.RegionHeld
import Derived.Deep.QuietTactic
import Derived.BigQuiet
namespace Go.Proofs.Ytffkdelnpnokjaa.crcTurned
open Go.ChangeShapes Go.WideShapes Go.ChangeAt Go.RowKit
open Go.ChangeMaps (open_string shut_string)
set_option linter.unusedVariables false

theorem own : ownKnob Try.prog.godebug = none := by kernel_rfl
theorem laidOut : laidOutB Try.prog = true := by kernel_rfl

theorem bytes_of {z : List Int} (f : ∀ x ∈ z, (Lit.int .u8 x).wf = true) : isBytes z := fun x hx => bounds_u8 (f x hx)
theorem Try.info5 : (Try.prog.info? 5).map (fun i => (i.zero, i.size, i.bytes)) = some (some (.int .u8 0), 1, 1) := by kernel_rfl

/-- A slice of the call's own that is not empty: where it lies. -/
theorem own_form {w : World} {base e n c : Nat} {ao : Option Addr} {xs : List Value} (h : w.ownsRow base e 1 (.slice ao n c) n xs) (hn : 0 < n) : ∃ g, ao = some ⟨g, 0, none⟩ ∧ base ≤ g ∧ g < w.heap.size := by
  rcases h.2 with ⟨hv, h0⟩ | ⟨g, cap, cur, hv, hb, hg, _⟩
  · omega
  · simp only [Value.slice.injEq] at hv
    obtain ⟨rfl, _, rfl⟩ := hv
    have := h.lt g rfl
    exact ⟨g, rfl, this.1, this.2⟩

theorem own_cell {w : World} {base e n c g : Nat} {zs : List Int} (h : w.ownsRow base e 1 (.slice (some ⟨g, 0, none⟩) n c) n (zs.map (.int .u8))) (k : Nat) (hk : k < n) : w.cell? ⟨g, k, none⟩ = some (.int .u8 (zs.getD k 0)) := by
  have hl := h.1
  rw [h.cellAt k (by omega)]
  have : k < zs.length := by simp at hl; omega
  simp [List.getD, this]

set_option maxRecDepth 100000 in
set_option maxHeartbeats 4000000 in
theorem walk (w : World) (a0 : Option Addr) (len0 cap0 : Nat) (z0 : List Int) (r0 : Reads w a0 len0 cap0 (z0.map (.int .u8))) (f0 : ∀ z ∈ z0, (Lit.int .u8 z).wf = true) (b0 : len0 * 1 ≤ 140737488351232) (a1 : Int) (w1 : (Lit.int .u16 a1).wf = true) (a2 : Int) (w2 : (Lit.int .u8 a2).wf = true) :
    Calls Try.prog 5 #[.slice a0 len0 cap0, .int .u16 a1, .int .u8 a2] w fun e w' => e = .returned (.bool true) ∧ Below w.heap.size w w' := by
  have g1 := bounds_u16 w1
  have g2 := bounds_u8 w2
  obtain ⟨m, rfl⟩ := Int.eq_ofNat_of_zero_le g1.1
  obtain ⟨y, rfl⟩ := Int.eq_ofNat_of_zero_le g2.1
  have h8 := bytes_of f0
  have hl0 : z0.length = len0 := by simpa using r0.length
  go_enter Try.func5, Try.ntmps5
  go_wp2_with fail
  refine (shown_any _).mono ?_
  rintro e wa ⟨rfl, hb1⟩
  have r1 := r0.later hb1 (Nat.le_refl _)
  have hle : (len0 : Int) ≤ 140737488351232 := by omega
  by_cases hl : (20000 : Int) < (len0 : Int)
  · go_wp2
    go_ret
    exact ⟨rfl, hb1⟩
  · by_cases hz : len0 = 0
    · subst hz
      go_wp2
      go_ret
      exact ⟨rfl, hb1⟩
    · have hz1 : ((len0 : Int) == 0) = false := by simp; omega
      have hz2 : (1 : Int) ≤ (len0 : Int) := by omega
      obtain ⟨k, hk, hkl⟩ : ∃ k : Nat, (m : Int) % (len0 : Int) = (k : Int) ∧ k < len0 := ⟨m % len0, by simp, Nat.mod_lt m (by omega)⟩
      have hkl2 : (k : Int) < (len0 : Int) := by omega
      have HK : Hid _ := hk
      clear hk hz
      have mx : len0 ≤ maxLen := by unfold maxLen; omega
      go_wp2_with (at_builtin; refine wpList_append_reads rfl (.tmp 27) (.tmp 28) 22 rfl wa.heap.size 5 Try.info5 rfl Try.underlying22 _ _ _ _ rfl (ownsRow_empty wa 5) _ _ _ _ rfl (r1.later ((Below.refl wa.heap.size wa).alloc (Nat.le_refl _) _) (Nat.le_refl _)) (ints_oneCell _ _) (by omega) (by omega) (by simp) ?_)
      intro ag ca wb hown hb2
      rw [HK.out]
      clear HK
      try simp only [Nat.zero_add, List.nil_append] at hown
      have hb2' : Below wa.heap.size wa wb := Below.trans ((Below.refl wa.heap.size wa).alloc (Nat.le_refl _) _) hb2
      clear hb2
      obtain ⟨ga, rfl, hga, hga2⟩ := own_form hown (by omega)
      obtain ⟨x, hx0, hx8⟩ := h8.get k
      have hc1 := own_cell hown k hkl
      rw [hx0] at hc1
      have hfz := hown.frozenAt k
      have hor := u8_or_nat y 1 (by omega) (by decide)
      have hyl : y ||| 1 < 256 := Nat.or_lt_two_pow (n := 8) (by omega) (by decide)
      have hxo := u8_xor_nat x (y ||| 1) (by omega) hyl
      have hxl : x ^^^ (y ||| 1) < 256 := Nat.xor_lt_two_pow (n := 8) (by omega) hyl
      have Hne : Hid _ := turn_ne x y
      generalize x ^^^ (y ||| 1) = x' at hxo hxl Hne
      generalize y ||| 1 = y' at hor hxo hyl
      have hor' : bits BinOp.or IntKind.u8 (y : Int) 1 = (y' : Int) := hor
      have Hx0 : Hid _ := hx0
      clear hx0 hor
      have hst := (hown.stored k (.int .u8 (x' : Int))).1
      rw [← List.map_set] at hst
      have hb3 : Below wa.heap.size wa (wb.setCell ⟨ga, k, none⟩ (.int .u8 (x' : Int))) := hb2'.setCell hga _
      have hsz : (wb.setCell ⟨ga, k, none⟩ (.int .u8 (x' : Int))).heap.size = wb.heap.size := by simp
      obtain ⟨wc, hwc⟩ : ∃ wc, wc = wb.setCell ⟨ga, k, none⟩ (.int .u8 (x' : Int)) := ⟨_, rfl⟩
      rw [← hwc] at hst hb3 hsz
      have hem := ownsRow_empty wc 5
      rw [hsz] at hem
      have rb3 := r1.later hb3 (Nat.le_refl _)
      have rC := Reads.own hst
      have Hsz : Hid _ := hsz
      have Hwc : Hid (wc = wb.setCell ⟨ga, k, none⟩ (.int .u8 (x' : Int))) := hwc
      clear hsz
      rw [hwc] at hem rb3
      clear hwc
      go_wp2_with (at_builtin; refine wpList_append_reads rfl (.tmp 40) (.tmp 41) 22 rfl wb.heap.size 5 Try.info5 rfl Try.underlying22 _ _ _ _ rfl hem _ _ _ _ rfl (rb3.later ((Below.refl _ _).alloc (Nat.le_refl _) _) (Nat.le_refl _)) (ints_oneCell _ _) (by omega) (by omega) (by simp) ?_)
      intro ag2 cb wd hown2 hb4
      rw [← Hwc.out] at hb4
      have hb4' : Below wc.heap.size wc wd := Below.trans ((Below.refl _ _).alloc (Nat.le_refl _) _) (by rw [Hsz.out]; exact hb4)
      clear hb4 hem rb3 Hwc
      have hbd : Below wa.heap.size wa wd := Grow.trans hb3 hb4'
      obtain ⟨gb, rfl, hgb, hgb2⟩ := own_form hown2 (by omega)
      have hC8 := h8.set (k := k) (y := (x' : Int)) (by omega)
      have HnC : Hid (((ofL (z0.set k (x' : Int)) : Nat) : Int) ≠ ((ofL z0 : Nat) : Int)) := by
        have := turned_set (k := k) (y := (x' : Int)) h8 (by omega) (by omega) (by rw [Hx0.out]; intro h; exact Hne.out (by omega))
        unfold Hid
        omega
      have hE : (((ofL (z0.set k (x' : Int)) : Nat) : Int) == ((ofL z0 : Nat) : Int)) = false := by have := HnC.out; simpa using this
      clear hc1 hfz hor' hxo hown hst
      by_cases hk1 : (k : Int) + 1 < (len0 : Int)
      · have hk1' : (k : Int) + 1 ≤ 140737488351232 := by omega
        obtain ⟨y1, hy0, hy8⟩ := h8.get (k + 1)
        obtain ⟨bb, off, rfl, hbb, hcell⟩ := r1.at (by omega)
        have hgs : wa.heap.size ≤ gb := Nat.le_trans hb2'.size hgb
        have hne1 : (⟨gb, k, none⟩ : Addr) ≠ ⟨bb, off + k, none⟩ := by intro h; have := congrArg Addr.block h; simp only at this; omega
        have e1 : ∀ j, j < len0 → wd.cell? ⟨bb, off + j, none⟩ = some (.int .u8 (z0.getD j 0)) := fun j hj => by rw [hbd.cell (p := ⟨bb, off + j, none⟩) hbb]; exact hcell j hj
        have hB1 := e1 (k + 1) (by omega)
        rw [hy0] at hB1
        have hB0 := e1 k hkl
        rw [Hx0.out] at hB0
        have hD1 := (hown2.stored k (.int .u8 (y1 : Int))).1
        rw [← List.map_set] at hD1
        have hB0' : (wd.setCell ⟨gb, k, none⟩ (.int .u8 (y1 : Int))).cell? ⟨bb, off + k, none⟩ = some (.int .u8 (x : Int)) := by
          rw [World.cell?_setCell_other _ _ _ _ hne1]; exact hB0
        have hc0 := own_cell hown2 k hkl
        have hf0 := hown2.frozenAt k
        have hc1 := own_cell hD1 (k + 1) (by omega)
        have hf1 := hD1.frozenAt (k + 1)
        have hD2 := (hD1.stored (k + 1) (.int .u8 (x : Int))).1
        rw [← List.map_set] at hD2
        have hbx : Below wc.heap.size wd ((wd.setCell ⟨gb, k, none⟩ (.int .u8 (y1 : Int))).setCell ⟨gb, k + 1, none⟩ (.int .u8 (x : Int))) :=
          ((Below.refl _ _).setCell (by rw [Hsz.out]; exact hgb) _).setCell (by rw [Hsz.out]; exact hgb) _
        obtain ⟨wx, hwx⟩ : ∃ wx, wx = (wd.setCell ⟨gb, k, none⟩ (.int .u8 (y1 : Int))).setCell ⟨gb, k + 1, none⟩ (.int .u8 (x : Int)) := ⟨_, rfl⟩
        rw [← hwx] at hbx hD2
        have Hwx : Hid (wx = (wd.setCell ⟨gb, k, none⟩ (.int .u8 (y1 : Int))).setCell ⟨gb, k + 1, none⟩ (.int .u8 (x : Int))) := hwx
        clear hwx hcell
        have hwx' : Below wc.heap.size wc wx := Below.trans hb4' hbx
        have hqw := Grow.trans hb3 hwx'
        have qC := rC.later hwx' (Nat.le_refl _)
        have qB := r1.later hqw (Nat.le_refl _)
        have qD := Reads.own hD2
        have hD8 : isBytes ((z0.set k (y1 : Int)).set (k + 1) (x : Int)) := (h8.set (by omega)).set (by omega)
        have X0 : wx.cell? ⟨bb, off + k, none⟩ = some (.int .u8 (x : Int)) := by rw [hqw.cell (p := ⟨bb, off + k, none⟩) hbb, ← hbd.cell (p := ⟨bb, off + k, none⟩) hbb]; exact hB0
        have X1 : wx.cell? ⟨bb, off + (k + 1), none⟩ = some (.int .u8 (y1 : Int)) := by rw [hqw.cell (p := ⟨bb, off + (k + 1), none⟩) hbb, ← hbd.cell (p := ⟨bb, off + (k + 1), none⟩) hbb]; exact hB1
        have Hy0 : Hid _ := hy0
        clear hy0 hD1 hD2 e1 hown2 hB0 hbx hne1
        have hE2 : Hid (((z0.set k (y1 : Int)).set (k + 1) (x : Int)) = ((z0.set k (z0.getD (k + 1) 0)).set (k + 1) (z0.getD k 0))) := by
          unfold Hid; rw [Hx0.out, Hy0.out]
        have hdec : decide ((len0 : Int) ≤ (k : Int) + 1) = false := by simp; omega
        by_cases hxy : x = y1
        · have hD : (z0.set k (y1 : Int)).set (k + 1) (x : Int) = z0 := by
            rw [hE2.out]; exact swap_eq (by omega) (by rw [Hx0.out, Hy0.out, hxy])
          rw [hD] at qD hD8
          subst hxy
          clear hE2 hD
          go_wp2_with fail
          rw [← Hwx.out]
          clear hB1 hB0' hc0 hf0 hc1 hf1
          go_wp2_with fail
          go_quiet (fail)
          clear X0 X1 hbb hgs hgb hgb2 hga hga2 hb4' hwx' hb3 hbd rC r1 Hsz Hwx hdec hk1 hk1' hb2' hkl hkl2 r0 hyl hxl Hne Hx0 Hy0 hx8 hy8 g1 g2 w1 w2 hle hz1 hz2
          go_wp2_with fail
          refine (of_any _ _ _ _ _ (qC.later (below_drewN (Below.refl _ _) _) (Nat.le_refl _)) hC8).mono ?_
          rintro e we ⟨rfl, hbe⟩
          have hbe' := Grow.trans (below_drewN (Below.refl _ _) _) hbe
          go_wp2_with fail
          refine (of_any _ _ _ _ _ (qB.later hbe' (Nat.le_refl _)) h8).mono ?_
          rintro e wf ⟨rfl, hbf⟩
          have hbf' := Grow.trans hbe' hbf
          clear hbe hbf
          go_wp2_with fail
          refine (of_any _ _ _ _ _ (qD.later hbf' (Nat.le_refl _)) hD8).mono ?_
          rintro e wg ⟨rfl, hbg⟩
          have hbg' := Grow.trans hbf' hbg
          clear hbg
          go_wp2_with fail
          refine (of_any _ _ _ _ _ (qB.later hbg' (Nat.le_refl _)) h8).mono ?_
          rintro e wh ⟨rfl, hbh⟩
          have hbh' := Grow.trans hbg' hbh
          clear hbh qC qB qD
          go_wp2
          go_ret
          exact ⟨by first | rfl | (simp; exact HnC.out), Grow.trans hb1 (Grow.trans hqw hbh')⟩
        · have hD : (((ofL ((z0.set k (y1 : Int)).set (k + 1) (x : Int)) : Nat) : Int) == ((ofL z0 : Nat) : Int)) = false := by
            have := swap_ne h8 (k := k) (by omega) (by rw [Hx0.out, Hy0.out]; omega)
            rw [← hE2.out] at this
            simp; omega
          have hxy1 : ((x : Int) == (y1 : Int)) = false := by simp; omega
          clear hE2 hxy
          go_wp2_with fail
          rw [← Hwx.out]
          clear hB1 hB0' hc0 hf0 hc1 hf1
          go_wp2_with fail
          go_quiet (fail)
          clear X0 X1 hbb hgs hgb hgb2 hga hga2 hb4' hwx' hb3 hbd rC r1 Hsz Hwx hdec hk1 hk1' hb2' hkl hkl2 r0 hyl hxl Hne Hx0 Hy0 hx8 hy8 g1 g2 w1 w2 hle hz1 hz2
          go_wp2_with fail
          refine (of_any _ _ _ _ _ (qC.later (below_drewN (Below.refl _ _) _) (Nat.le_refl _)) hC8).mono ?_
          rintro e we ⟨rfl, hbe⟩
          have hbe' := Grow.trans (below_drewN (Below.refl _ _) _) hbe
          go_wp2_with fail
          refine (of_any _ _ _ _ _ (qB.later hbe' (Nat.le_refl _)) h8).mono ?_
          rintro e wf ⟨rfl, hbf⟩
          have hbf' := Grow.trans hbe' hbf
          clear hbe hbf
          go_wp2_with fail
          refine (of_any _ _ _ _ _ (qD.later hbf' (Nat.le_refl _)) hD8).mono ?_
          rintro e wg ⟨rfl, hbg⟩
          have hbg' := Grow.trans hbf' hbg
          clear hbg
          go_wp2_with fail
          refine (of_any _ _ _ _ _ (qB.later hbg' (Nat.le_refl _)) h8).mono ?_
          rintro e wh ⟨rfl, hbh⟩
          have hbh' := Grow.trans hbg' hbh
          clear hbh qC qB qD
          go_wp2
          go_ret
          exact ⟨by first | rfl | (simp; exact HnC.out), Grow.trans hb1 (Grow.trans hqw hbh')⟩
      · have qC := rC.later hb4' (Nat.le_refl _)
        have qB := r1.later hbd (Nat.le_refl _)
        have qD := Reads.own hown2
        have hD8 := h8
        have hqw := hbd
        go_wp2_with fail
        go_quiet (fail)
        go_wp2_with fail
        refine (of_any _ _ _ _ _ (qC.later (below_drewN (Below.refl _ _) _) (Nat.le_refl _)) hC8).mono ?_
        rintro e we ⟨rfl, hbe⟩
        have hbe' := Grow.trans (below_drewN (Below.refl _ _) _) hbe
        go_wp2_with fail
        refine (of_any _ _ _ _ _ (qB.later hbe' (Nat.le_refl _)) h8).mono ?_
        rintro e wf ⟨rfl, hbf⟩
        have hbf' := Grow.trans hbe' hbf
        clear hbe hbf
        go_wp2_with fail
        refine (of_any _ _ _ _ _ (qD.later hbf' (Nat.le_refl _)) hD8).mono ?_
        rintro e wg ⟨rfl, hbg⟩
        have hbg' := Grow.trans hbf' hbg
        clear hbg
        go_wp2_with fail
        refine (of_any _ _ _ _ _ (qB.later hbg' (Nat.le_refl _)) h8).mono ?_
        rintro e wh ⟨rfl, hbh⟩
        have hbh' := Grow.trans hbg' hbh
        clear hbh qC qB qD
        go_wp2
        go_ret
        exact ⟨by first | rfl | (simp; exact HnC.out), Grow.trans hb1 (Grow.trans hqw hbh')⟩

set_option maxRecDepth 100000 in
theorem lifted (os : Os) (started : os.Started) (H : Type) (enc : TypeId × Value → H) :
    ReturnsInHanded {} Try.checked os 5 .any (Rows.crcTurnedSpec.pre6 enc Try.prog Try.f5 Rows.crcTurnedRow.domain false) (Rows.crcTurnedSpec.post enc Try.prog Try.f5 false true false false) := by
  refine returnsInHanded_of_change_sized (C := Try.checked) own started (by kernel_rfl) Try.func5
    (ChangeSpec.witness6 (enc := enc) (C := Try.checked) false ⟨#[], #[.slice none 0 0, .int .u16 0, .int .u8 0], []⟩ 8 (by kernel_rfl) (by kernel_rfl) (by kernel_rfl) (by kernel_rfl)) ?_
  intro W base args ds gs before hval0 hW hcnd hsz0 _
  have hsz : (DataW.weightsEach Try.prog (Try.f5.params.toList ++ Rows.crcTurnedSpec.plain.varTypes Try.prog) (ds ++ gs)).all (· ≤ reachBytes) = true := hsz0
  clear hsz0
  have hval : ∀ (j : Nat) t v, Try.f5.params[j]? = some t → args[j]? = some v → Value.okWide Try.prog W .any base t v := hval0
  have hW' := hW
  obtain ⟨p, q, hA0, hV, rfl, hfz, hnd⟩ := hW
  have hA : DataW.TrodAll enc Try.prog W 0 (fun _ => true) true Try.f5.params.toList args.toList ds p := hA0
  rw [Try.params5] at hA hval hsz
  obtain ⟨v0, vs0, d0, ds0, p0, q0, hargs, rfl, rfl, h0, rr0⟩ := trodAll_cons hA
  obtain ⟨v1, vs1, d1, ds1, p1, q1, rfl, rfl, rfl, h1, rr1⟩ := trodAll_cons rr0
  obtain ⟨v2, vs2, d2, ds2, p2, q2, rfl, rfl, rfl, h2, rr2⟩ := trodAll_cons rr1
  obtain ⟨rfl, rfl, rfl⟩ := trodAll_nil rr2
  obtain rfl : args = #[v0, v1, v2] := by cases args; simp_all
  obtain ⟨rfl, rfl⟩ := trodVars_none hV
  obtain ⟨a0, len0, cap0, rfl⟩ := okWide_slice Try.underlying22 (hval 0 22 v0 rfl rfl)
  have k0 := h0
  have lt0 : ∀ x ∈ p0, x.block < W.heap.size := by obtain ⟨m, hm⟩ := k0; exact DataW.trod_lt m _ _ _ hm
  obtain ⟨z0, r0, f0, b0⟩ := slice_in Try.underlying22 Try.underlying5 (by kernel_rfl) (B := 1) (by kernel_rfl) hsz (j := 0) rfl rfl h0
  obtain ⟨a1, rfl, rfl, rfl, w1⟩ := open_int Try.underlying28 (hval 1 28 v1 rfl rfl) h1
  obtain ⟨a2, rfl, rfl, rfl, w2⟩ := open_int Try.underlying5 (hval 2 5 v2 rfl rfl) h2
  clear hA0 hval0
  refine (walk W a0 len0 cap0 z0 r0 f0 b0 a1 w1 a2 w2).mono fun e W' ⟨he, bel⟩ => ?_
  subst he
  exact ⟨_, rfl, _, _, _, [], _, [], hW', trodAll_mk1 (shut_bool Try.underlying4 _), (trodAll_cons_mk (Below.trod laidOut (by kernel_rfl) (of_decide_eq_true (by kernel_rfl)) k0 bel lt0) (trodAll_cons_mk (shut_int Try.underlying28 w1) (trodAll_cons_mk (shut_int Try.underlying5 w2) trodAll_mk0))), rfl, bel.frame _, fun h => by cases h⟩

theorem over : Rows.crcTurnedRow.holds Try.pinned (OpenSpec.ofChange Rows.crcTurnedSpec) :=
  OpenClaim.holds_of_wide 5 Try.f5 rfl rfl rfl rfl rfl rfl rfl ⟨rfl, rfl, rfl, rfl, rfl⟩ rfl rfl rfl rfl rfl (by kernel_rfl) Try.func5 (by kernel_rfl)
    (of_decide_eq_true (by kernel_rfl)) (by unfold Func.isWrapper; first | (rw [if_pos (by decide +kernel)]; kernel_rfl) | (rw [if_neg (by decide +kernel)]; exact ⟨rfl, rfl⟩))
    (fun os started H enc _ => lifted os started H enc)
end Go.Proofs.Ytffkdelnpnokjaa.crcTurned
namespace Go.Proofs.Ytffkdelnpnokjaa
theorem crcTurned_holds : Rows.CrcTurnedSaid := crcTurned.over
#print axioms crcTurned_holds
end Go.Proofs.Ytffkdelnpnokjaa
