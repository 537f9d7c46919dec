/- For every input TablePlays answers true, and leaves its arguments as they were. Conditions: none. -/
import Derived.Test.YthnpeeiiekmkcaaRows
import Derived.Test.YthnpeeiiekmkcaaTabLaw
import Derived.Test.YthnpeeiiekmkcaaOpen
import Derived.ProofKit
import Derived.OpenShut
import Derived.ShutString
import Derived.ChangeOld
import Derived.SizedLaws
import Derived.Deep.RegionHeld
import Derived.Deep.RegionHeld3
import Derived.Deep.QuietTactic
import Derived.BigQuiet
import Derived.Deep.Cut
import Derived.Deep.CutBlock
namespace Go.Proofs.Ythnpeeiiekmkcaa.tablePlays
open Go.ChangeShapes Go.WideShapes Go.ChangeAt Go.RowKit
open Go.ChangeMaps (open_string shut_string)
set_option linter.unusedVariables false

theorem own : ownKnob Try.prog.godebug = none := by kernel_rfl
theorem laidOut : laidOutB Try.prog = true := by kernel_rfl


set_option maxRecDepth 100000 in
set_option maxHeartbeats 4000000 in
theorem walk (w : World) (a0 : Int) (w0 : (Lit.int .i64 a0).wf = true) (a1 : Option Addr) (len1 cap1 : Nat) (z1 : List (Int × Wd × Nat)) (r1 : ReadsD w a1 len1 cap1 z1) (f1 : ∀ z ∈ z1, (Lit.int .i64 z.1).wf = true ∧ z.2.1.length ≤ 140737488351232 ∧ z.2.2 ≤ 18446744073709551615) (b1 : len1 * 32 ≤ 140737488351232) :
    Calls Try.prog 3 #[.int .i64 a0, .slice a1 len1 cap1] w fun e w' => e = .returned (.bool true) ∧ Below w.heap.size w w' := by
  have g0 := bounds_i64 w0
  have hlb : len1 ≤ 140737488351232 := by omega
  have hll : z1.length = len1 := r1.length
  clear b1 w0
  go_enter Try.func3, Try.ntmps3
  go_wp2_with fail
  refine (shown_any w).mono ?_
  rintro e wa ⟨rfl, ba⟩
  by_cases hr : a0 < 1 ∨ 65536 < a0
  · have s0 := tabnew_bad a0 wa hr
    go_wp2_with fail
    refine s0.mono ?_
    rintro e wb ⟨rfl, rfl⟩
    rcases (show a0 < 1 ∨ (1 ≤ a0 ∧ 65536 < a0) by omega) with j1 | ⟨j1, j2⟩
    all_goals
      clear hr s0
      go_wp2
      go_ret
      exact ⟨rfl, ba⟩
  obtain ⟨R, rfl⟩ : ∃ R : Nat, a0 = R := Int.eq_ofNat_of_zero_le (by omega)
  have s0 := tabnew_any R wa (by omega) (by omega)
  have i1 : ¬ (R : Int) < 1 := by omega
  have i2 : ¬ (65536 : Int) < R := by omega
  have hR : R ≤ 65536 := by omega
  go_wp2_with fail
  refine s0.mono ?_
  rintro e wb ⟨rfl, h1, b1⟩
  have bb := Below.trans ba (b1.mono ba.size)
  generalize hB : wa.heap.size = B at h1 b1 ⊢
  generalize hb : B + 1 = b at h1 ⊢
  have hwB : w.heap.size ≤ B := by have := ba.size; omega
  clear s0 ba b1 hb hB hr g0
  go_wp2_with fail
  go_loopw [8, 9] (fun xv i wr => ∃ (j : Nat) (v : Value) (es x : List En), i = .int .i64 j ∧ j ≤ len1 ∧ j ≤ 300 ∧ TabAt B wr b B v R es ∧ wr.ownsRow 0 44 2 xv x.length (cellsE x) ∧ Hid (x.Perm es) ∧ Hid (RiseE x) ∧ OffT xv v ∧ Below w.heap.size w wr) (fun _ i _ => (300 - intOf i).toNat)
  case atStart => exact ⟨0, _, [], [], rfl, by omega, by omega, h1, World.ownsRow_nil _ _ _ _, .refl _, .nil, OffT.nil _, bb⟩
  case round =>
    obtain ⟨j, v, es, x, rfl, hj1, hj2, hT, hx, hP, hRi, hO, hBw⟩ := hrel
    clear h1 bb
    by_cases hend : j < len1 ∧ j < 300
    case neg =>
      have hsp : ¬ (j : Int) < len1 ∨ ((j : Int) < len1 ∧ ¬ (j : Int) < 300) := by omega
      have sd := tabdrain_any hT
      clear hend
      rcases hsp with q1 | ⟨q1, q2⟩
      all_goals
        go_wp2_with fail
        refine sd.mono ?_
        rintro e wd ⟨rfl, d, hp, hd, hrow, hT2, ht2⟩
        have hx2 := own2_turned hx hT ht2 hO
        have e1 : d = x := rise_perm hd hRi.out hp hP.out hT.tab.keys hT.tab.pos
        subst e1
        rw [← hp.length_eq] at hrow
        have ss := rsame_any (own2_mono hrow (Nat.zero_le _)) hx2
        rw [decide_eq_true (rfl : d = d)] at ss
        have hBd := Below.trans hBw (ht2.below hT hwB)
        clear sd hrow hT2 ht2 hx2 hT hx hP hRi hO hBw hp hd
        go_wp2_with fail
        refine ss.mono ?_
        rintro e we ⟨rfl, m, rfl⟩
        go_wp2
        go_ret
        exact ⟨rfl, below_drewN hBd m⟩
    obtain ⟨hjl, hj3⟩ := hend
    have q1 : (j : Int) < len1 := by omega
    have q2 : (j : Int) < 300 := by omega
    obtain ⟨⟨dk, k, n⟩, hdj⟩ : ∃ d, z1[j]? = some d := ⟨_, List.getElem?_eq_getElem (by omega)⟩
    obtain ⟨fk, fl, fn⟩ := f1 _ (List.mem_of_getElem? hdj)
    simp only at fk fl fn
    obtain ⟨b1, o1, rfl, hb1, hc1⟩ := (r1.later hBw (Nat.le_refl _)).at (by omega)
    obtain ⟨cd0, cd1, cd2⟩ := hc1 j _ hdj
    simp only at cd0 cd1 cd2
    clear hc1
    have hal : Below wr.heap.size wr (wr.alloc (.cells #[.int .i64 dk, strV k, .int .u64 (n : Int)] 31)) := (Below.refl _ _).alloc (Nat.le_refl _) _
    have hT1 := hT.later hal (Nat.le_refl _)
    have hx1 := own2_later hx hal (Nat.le_refl _)
    have hB1 := Below.trans hBw (hal.mono hBw.size)
    have hD1 := heap_alloc_new wr (.cells #[.int .i64 dk, strV k, .int .u64 (n : Int)] 31)
    have hlt := hT.lt
    have hrl := fun i (h : v.ownBlock = some i) => hT.rowlt h
    have hsz1 : (wr.alloc (.cells #[.int .i64 dk, strV k, .int .u64 (n : Int)] 31)).heap.size = wr.heap.size + 1 := by simp
    by_cases hk0 : dk = 0
    · subst hk0
      have sd := tabdrain_any hT1
      clear hT hx hal
      go_wp2_with fail
      refine sd.mono ?_
      rintro e wd ⟨rfl, d, hp, hd, hrow, hT2, ht2⟩
      have hx2 := own2_turned hx1 hT1 ht2 hO
      have e1 : d = x := rise_perm hd hRi.out hp hP.out hT1.tab.keys hT1.tab.pos
      subst e1
      rw [← hp.length_eq] at hrow
      have ss := rsame_any (own2_mono hrow (Nat.zero_le _)) hx2
      rw [decide_eq_true (rfl : d = d)] at ss
      have hBd := Below.trans hB1 (ht2.below hT1 hwB)
      have hDd : wd.heap[wr.heap.size]? = some (.cells #[.int .i64 0, strV k, .int .u64 (n : Int)] 31 (0, 0)) := (ht2.block wr.heap.size (by omega) (by omega) (by omega) (fun e => by have := hrl _ e; omega)).trans hD1
      clear sd hrow ht2 hx2 hT1 hx1 hP hRi hO hBw hB1 hp hd hD1 hrl hlt hsz1 cd0 cd1 cd2
      go_wp2_with fail
      refine ss.mono ?_
      rintro e we ⟨rfl, m, rfl⟩
      have hTz := hT2.later (below_drewN (Below.refl _ _) m) (Nat.le_refl _)
      have hBz := below_drewN hBd m
      have hDz : (wd.drewN m).heap[wr.heap.size]? = some (.cells #[.int .i64 0, strV k, .int .u64 (n : Int)] 31 (0, 0)) := hDd
      have hxz : (wd.drewN m).ownsRow 0 44 2 (.slice none 0 0) ([] : List En).length (cellsE []) := World.ownsRow_nil _ _ _ _
      generalize wd.drewN m = wz at hTz hBz hDz hxz ⊢
      have hPz : Hid (([] : List En).Perm []) := List.Perm.refl _
      have hRz : Hid (RiseE ([] : List En)) := List.Pairwise.nil
      have hOz : OffT (.slice none 0 0) (.slice none 0 0) := OffT.nil _
      clear ss hBd hDd hT2
      have hG : ∀ W, Below wz.heap.size wz W → Calls Try.prog 15 #[.pointer (some ⟨b, 0, none⟩), strV k] W fun e w' => e = .returned (.int .u64 (getE ([] : List En) k : Nat)) ∧ w' = W := fun W hW => tabget_any (hTz.later hW (Nat.le_refl _)) k (by omega)
      have hQ : ∀ W, Below wz.heap.size wz W → Calls Try.prog 16 #[.slice none 0 0, strV k] W fun e w' => e = .returned (.int .u64 (getE ([] : List En) k : Nat)) ∧ w' = W := fun W hW => by
        have := rget_any (own2_later hxz hW (Nat.le_refl _)) k
        rwa [getR_eq hRz.out, get_perm hPz.out hTz.tab.keys] at this
      have hL : ∀ W, Below wz.heap.size wz W → Calls Try.prog 17 #[.pointer (some ⟨b, 0, none⟩)] W fun e w' => e = .returned (.int .i64 ([] : List En).length) ∧ w' = W := fun W hW => tablen_any (hTz.later hW (Nat.le_refl _))
      have hcW : ∀ W, Below wz.heap.size wz W → W.cell? ⟨wr.heap.size, 1, none⟩ = some (strV k) := fun W hW => blk_one ((hW.block _ (Array.getElem?_eq_some_iff.1 hDz).1).trans hDz)
      have hcW0 := hcW _ (Below.refl _ _)
      have hne : ((([] : List En).length : Int) != ([] : List En).length) = false := by rw [hPz.out.length_eq]; simp
      generalize getE ([] : List En) k = cg at hG hQ
      go_wp2_with fail
      first | go_region_held (fun W => Below wz.heap.size wz W) (first | exact Below.refl _ _ | exact Below.drew (Below.refl _ _) | assumption | exact Grow.trans (by assumption) (by assumption)) (first | (go_at_call 15; refine (hG _ (by first | exact Below.refl _ _ | exact Below.drew (Below.refl _ _) | assumption | exact Grow.trans (by assumption) (by assumption))).mono ?_; rintro e w' ⟨rfl, rfl⟩) | (go_at_call 16; refine (hQ _ (by first | exact Below.refl _ _ | exact Below.drew (Below.refl _ _) | assumption | exact Grow.trans (by assumption) (by assumption))).mono ?_; rintro e w' ⟨rfl, rfl⟩) | (go_at_call 17; refine (hL _ (by first | exact Below.refl _ _ | exact Below.drew (Below.refl _ _) | assumption | exact Grow.trans (by assumption) (by assumption))).mono ?_; rintro e w' ⟨rfl, rfl⟩)) | fail
      all_goals go_wp2
      have hD0 : Below wz.heap.size wz wz.drew := (Below.refl _ _).drew
      exact ⟨⟨j + 1, .slice none 0 0, [], [], by go_num, by omega, by omega, hTz.later hD0 (Nat.le_refl _), own2_later hxz hD0 (Nat.le_refl _), hPz, hRz, hOz, hBz.drew⟩, by simp [intOf]; omega⟩
    · have hkb : (dk == 0) = false := by rw [beq_eq_false_iff_ne]; exact hk0
      have sa := tabadd_any hT1 k n (by omega) fn
      obtain ⟨p1, p2, p3⟩ := add_ref hP.out hRi.out hT1.tab k n
      have hgr : getR x k ≤ 4611686018427387904 := by rw [getR_eq hRi.out, get_perm hP.out hT1.tab.keys]; exact getE_le hT1.tab k
      have hxl : x.length ≤ 65536 := by rw [hP.out.length_eq]; exact Nat.le_trans hT1.tab.most hT1.most
      have P1 : Hid _ := p1
      have P2 : Hid _ := p2
      clear hT hx hal p1 p2
      go_wp2_with fail
      refine sa.mono ?_
      rintro e wd ⟨rfl, v', hT2, ht2⟩
      have hx2 := own2_turned hx1 hT1 ht2 hO
      have hO2 := off_turned hx1 ht2 hO
      have hBd := Below.trans hB1 (ht2.below hT1 hwB)
      have hDd : wd.heap[wr.heap.size]? = some (.cells #[.int .i64 dk, strV k, .int .u64 (n : Int)] 31 (0, 0)) := (ht2.block wr.heap.size (by omega) (by omega) (by omega) (fun e => by have := hrl _ e; omega)).trans hD1
      have cw1 : wd.cell? ⟨wr.heap.size, 1, none⟩ = some (strV k) := blk_one hDd
      have cw2 : wd.cell? ⟨wr.heap.size, 2, none⟩ = some (.int .u64 (n : Int)) := blk_two hDd
      have sr := raddE_any hx2 R R rfl k n fn hgr hxl
      clear sa ht2 hT1 hx1 hP hRi hO hBw hB1 hD1 hrl hlt hsz1 cd0 cd1 cd2 hx2
      go_wp2_with fail
      refine sr.mono ?_
      intro e we hA
      unfold AddOut at hA
      obtain ⟨xv, rfl, hxz, hb3, hw3⟩ := hA
      rw [p3]
      have hTz := hT2.later hb3 (Nat.le_refl _)
      have hBz := Below.trans hBd (hb3.mono hBd.size)
      have hDz : we.heap[wr.heap.size]? = some (.cells #[.int .i64 dk, strV k, .int .u64 (n : Int)] 31 (0, 0)) := (hb3.block _ (Array.getElem?_eq_some_iff.1 hDd).1).trans hDd
      have hOz : OffT xv v' := by
        rcases hw3 with h | h
        · rw [h]; exact hO2
        · exact off_young hT2 h
      have hPz : Hid _ := P1.out
      have hRz : Hid _ := P2.out
      generalize (addE R es k n).2 = cc
      generalize (addE R es k n).1 = ez at hTz hPz
      generalize (addR R x k n).1 = xz at hxz hPz hRz
      obtain ⟨xo, xcap, rfl⟩ := own2_slice hxz
      clear sr hw3 hBd hDd hT2 hb3 hO2 cw1 cw2 p3 P1 P2 hgr hxl hkb
      have hG : ∀ W, Below we.heap.size we W → Calls Try.prog 15 #[.pointer (some ⟨b, 0, none⟩), strV k] W fun e w' => e = .returned (.int .u64 (getE ez k : Nat)) ∧ w' = W := fun W hW => tabget_any (hTz.later hW (Nat.le_refl _)) k (by omega)
      have hQ : ∀ W, Below we.heap.size we W → Calls Try.prog 16 #[.slice xo xz.length xcap, strV k] W fun e w' => e = .returned (.int .u64 (getE ez k : Nat)) ∧ w' = W := fun W hW => by
        have := rget_any (own2_later hxz hW (Nat.le_refl _)) k
        rwa [getR_eq hRz.out, get_perm hPz.out hTz.tab.keys] at this
      have hL : ∀ W, Below we.heap.size we W → Calls Try.prog 17 #[.pointer (some ⟨b, 0, none⟩)] W fun e w' => e = .returned (.int .i64 ez.length) ∧ w' = W := fun W hW => tablen_any (hTz.later hW (Nat.le_refl _))
      have hcW : ∀ W, Below we.heap.size we W → W.cell? ⟨wr.heap.size, 1, none⟩ = some (strV k) := fun W hW => blk_one ((hW.block _ (Array.getElem?_eq_some_iff.1 hDz).1).trans hDz)
      have hcW0 := hcW _ (Below.refl _ _)
      have hne : ((ez.length : Int) != xz.length) = false := by rw [hPz.out.length_eq]; simp
      generalize getE ez k = cg at hG hQ
      go_wp2_with fail
      first | go_region_held (fun W => Below we.heap.size we W) (first | exact Below.refl _ _ | exact Below.drew (Below.refl _ _) | assumption | exact Grow.trans (by assumption) (by assumption)) (first | (go_at_call 15; refine (hG _ (by first | exact Below.refl _ _ | exact Below.drew (Below.refl _ _) | assumption | exact Grow.trans (by assumption) (by assumption))).mono ?_; rintro e w' ⟨rfl, rfl⟩) | (go_at_call 16; refine (hQ _ (by first | exact Below.refl _ _ | exact Below.drew (Below.refl _ _) | assumption | exact Grow.trans (by assumption) (by assumption))).mono ?_; rintro e w' ⟨rfl, rfl⟩) | (go_at_call 17; refine (hL _ (by first | exact Below.refl _ _ | exact Below.drew (Below.refl _ _) | assumption | exact Grow.trans (by assumption) (by assumption))).mono ?_; rintro e w' ⟨rfl, rfl⟩)) | fail
      all_goals go_wp2
      have hD0 : Below we.heap.size we we.drew := (Below.refl _ _).drew
      exact ⟨⟨j + 1, v', ez, xz, by go_num, by omega, by omega, hTz.later hD0 (Nat.le_refl _), own2_later hxz hD0 (Nat.le_refl _), hPz, hRz, hOz, hBz.drew⟩, by simp [intOf]; omega⟩

set_option maxRecDepth 100000 in
theorem lifted (os : Os) (started : os.Started) (H : Type) (enc : TypeId × Value → H) :
    ReturnsInHanded {} Try.checked os 3 .any (Rows.tablePlaysSpec.pre6 enc Try.prog Try.f3 Rows.tablePlaysRow.domain false) (Rows.tablePlaysSpec.post enc Try.prog Try.f3 false true false false) := by
  refine returnsInHanded_of_change_sized (C := Try.checked) own started (by kernel_rfl) Try.func3
    (ChangeSpec.witness6 (enc := enc) (C := Try.checked) false ⟨#[], #[.int .i64 0, .slice none 0 0], []⟩ 8 (by kernel_rfl) (by kernel_rfl) (by kernel_rfl) (by kernel_rfl)) ?_
  intro W base args ds gs before hval0 hW hcnd hsz0 _
  have hsz : (DataW.weightsEach Try.prog (Try.f3.params.toList ++ Rows.tablePlaysSpec.plain.varTypes Try.prog) (ds ++ gs)).all (· ≤ reachBytes) = true := hsz0
  clear hsz0
  have hval : ∀ (j : Nat) t v, Try.f3.params[j]? = some t → args[j]? = some v → Value.okWide Try.prog W .any base t v := hval0
  have hW' := hW
  obtain ⟨p, q, hA0, hV, rfl, hfz, hnd⟩ := hW
  have hA : DataW.TrodAll enc Try.prog W 0 (fun _ => true) true Try.f3.params.toList args.toList ds p := hA0
  rw [Try.params3] at hA hval hsz
  obtain ⟨v0, vs0, d0, ds0, p0, q0, hargs, rfl, rfl, h0, rr0⟩ := trodAll_cons hA
  obtain ⟨v1, vs1, d1, ds1, p1, q1, rfl, rfl, rfl, h1, rr1⟩ := trodAll_cons rr0
  obtain ⟨rfl, rfl, rfl⟩ := trodAll_nil rr1
  obtain rfl : args = #[v0, v1] := by cases args; simp_all
  obtain ⟨rfl, rfl⟩ := trodVars_none hV
  obtain ⟨a0, rfl, rfl, rfl, w0⟩ := open_int Try.underlying3 (hval 0 3 v0 rfl rfl) h0
  obtain ⟨a1, len1, cap1, rfl⟩ := okWide_slice Try.underlying22 (hval 1 22 v1 rfl rfl)
  have k1 := h1
  have lt1 : ∀ x ∈ p1, x.block < W.heap.size := by obtain ⟨m, hm⟩ := k1; exact DataW.trod_lt m _ _ _ hm
  obtain ⟨z1, r1, f1, b1⟩ := deeds_in Try.underlying22 Try.underlying31 (by kernel_rfl) rfl rfl rfl (by kernel_rfl) (by kernel_rfl) (by kernel_rfl) Try.underlying3 Try.underlying9 Try.underlying29 (B := 32) (by kernel_rfl) hsz (j := 1) rfl rfl h1
  clear hA0 hval0
  refine (walk W a0 w0 a1 len1 cap1 z1 r1 f1 b1).mono fun e W' ⟨he, bel⟩ => ?_
  subst he
  exact ⟨_, rfl, _, _, _, [], _, [], hW', trodAll_mk1 (shut_bool Try.underlying4 _), (trodAll_cons_mk (shut_int Try.underlying3 w0) (trodAll_cons_mk (Below.trod laidOut (by kernel_rfl) (of_decide_eq_true (by kernel_rfl)) k1 bel lt1) trodAll_mk0)), rfl, bel.frame _, fun h => by cases h⟩

theorem over : Rows.tablePlaysRow.holds Try.pinned (OpenSpec.ofChange Rows.tablePlaysSpec) :=
  OpenClaim.holds_of_wide 3 Try.f3 rfl rfl rfl rfl rfl rfl rfl ⟨rfl, rfl, rfl, rfl, rfl⟩ rfl rfl rfl rfl rfl (by kernel_rfl) Try.func3 (by kernel_rfl)
    (of_decide_eq_true (by kernel_rfl)) (by unfold Func.isWrapper; first | (rw [if_pos (by decide +kernel)]; kernel_rfl) | (rw [if_neg (by decide +kernel)]; exact ⟨rfl, rfl⟩))
    (fun os started H enc _ => lifted os started H enc)
end Go.Proofs.Ythnpeeiiekmkcaa.tablePlays
namespace Go.Proofs.Ythnpeeiiekmkcaa
theorem tablePlays_holds : Rows.TablePlaysSaid := tablePlays.over
#print axioms tablePlays_holds
end Go.Proofs.Ythnpeeiiekmkcaa
