/- For every input TokenBack answers true, and leaves its arguments as they were. Conditions: none. -/
import Derived.Test.YtdhbbknjnbdplaaDoorBase
import Derived.ProofKit
import Derived.OpenShut
import Derived.SizedLaws
import Derived.Test.YtdhbbknjnbdplaaDoorRows
import Derived.Test.YtdhbbknjnbdplaaDoorCards
import Derived.Test.YtdhbbknjnbdplaaDoorTie
import Derived.Test.YtdhbbknjnbdplaaDoorTokenCode
import Derived.Test.YtdhbbknjnbdplaaDoorTokenPut
import Derived.Test.YtdhbbknjnbdplaaDoorShown07
import Derived.ShutString
import Derived.ChangeOld
import Derived.Deep.RegionHeld
import Derived.Deep.RegionHeld3
import Derived.Deep.QuietTactic
import Derived.BigQuiet
import Derived.Deep.Cut
import Derived.Deep.CutBlock
import Derived.Lay
import Derived.LaidOnce
import Derived.SevenTiedAt
namespace Go.Proofs.YtdhbbknjnbdplaaDoor
open Go.ChangeShapes Go.WideShapes Go.ChangeAt Go.RowKit

theorem slice_in {H : Type} {enc : TypeId × Value → H} {P : Program} {W : World} {k : IntKind} {t e : TypeId} {B : Nat} (hu : P.underlying t = some (.slice e)) (he : P.underlying e = some (.int k)) (hc : P.cellsOf e = 1) (hB : P.bytesOf e = B)
    {ts : List TypeId} {ds : List (DataW H)} (hsz : (DataW.weightsEach P ts ds).all (· ≤ reachBytes) = true) {j : Nat} {a : Option Addr} {len cap : Nat} {d : DataW H} {p : List MemPlace} (ht : ts[j]? = some t) (hd : ds[j]? = some d)
    (h : DataW.Trod enc P W 0 (fun _ => true) true t (.slice a len cap) d p) :
    ∃ zs : List Int, Reads W a len cap (zs.map (.int k)) ∧ (∀ z ∈ zs, (Lit.int k z).wf = true) ∧ len * B ≤ 140737488351232 := by
  obtain ⟨fuel, hf⟩ := h
  rcases open_ints hu he hc hf with ⟨hcs, _⟩ | ⟨x, l, c, zs, hcs, _, hl, hm, hz, hx, hcell, hwz⟩
  · simp [Value.cells] at hcs
    obtain ⟨rfl, rfl, rfl⟩ := hcs
    exact ⟨[], Reads.nil W, fun z hz => by simp at hz, by omega⟩
  · simp [Value.cells] at hcs
    obtain ⟨rfl, rfl, rfl⟩ := hcs
    simp only [if_true] at hz
    simp only [Prod.mk.injEq] at hx
    have hb := sized_slice hsz (e := e) ht (by rw [hd, hx.1]) hu
    rw [hB] at hb
    simp only [lits, List.length_map, List.length_take, List.length_drop, reachBytes] at hb
    refine ⟨zs.take len, ⟨by simp; omega, hl, hm, fun h => (by cases h), fun y hy i u hu => ?_⟩, fun z hz => hwz z (List.mem_of_mem_take hz), ?_⟩
    · cases hy
      have hi : i < len := by
        have := (List.getElem?_eq_some_iff.1 hu).1
        simp at this; omega
      rw [hcell i (by omega)]
      simp [hi, List.getElem?_eq_getElem (show i < zs.length by omega)] at hu
      simp [List.getD, List.getElem?_eq_getElem (show i < zs.length by omega), hu]
    · have e1 : min len zs.length + (zs.length - len) = cap := by omega
      rw [e1] at hb
      exact Nat.le_trans (Nat.mul_le_mul_right B hl) hb
end Go.Proofs.YtdhbbknjnbdplaaDoor

namespace Go.Proofs.YtdhbbknjnbdplaaDoor.tokenBack
open Go.ChangeShapes Go.WideShapes Go.ChangeAt Go.RowKit
open Go.ChangeMaps (open_string shut_string)
set_option linter.unusedVariables false

theorem own : ownKnob Tryd.prog.godebug = none := by kernel_rfl
theorem laidOut : laidOutB Tryd.prog = true := by kernel_rfl

theorem bytes_of {z : List Int} (f : ∀ x ∈ z, (Lit.int .u8 x).wf = true) : isBytes z := fun x hx => bounds_u8 (f x hx)
theorem small_range {ws : List Int} (h : smallT ws) : ∀ z ∈ ws, -2147483648 ≤ z ∧ z ≤ 2147483647 := fun z hz => by have := h z hz; omega

set_option maxRecDepth 100000 in
set_option maxHeartbeats 4000000 in
theorem walk (w : World) (a0 : Option Addr) (len0 cap0 : Nat) (z0 : List Int) (r0 : Reads w a0 len0 cap0 (z0.map (.int .u8))) (f0 : ∀ z ∈ z0, (Lit.int .u8 z).wf = true) (b0 : len0 * 1 ≤ 140737488351232) (ht : Tabs w) :
    Calls Tryd.prog 6 #[.slice a0 len0 cap0] w fun e w' => e = .returned (.bool true) ∧ Below w.heap.size w w' := by
  have h80 : isBytes z0 := bytes_of f0
  have hl : z0.length = len0 := by simpa using r0.length
  go_enter Tryd.func6, Tryd.ntmps6
  go_wp2_with fail
  refine (shown_any w ht).mono ?_
  rintro e w1 ⟨rfl, hb1⟩
  have rd0 := r0.later hb1 (Nat.le_refl _)
  have ht1 := Tabs.grow hb1 ht
  go_wp2_with fail
  refine (tget_any _ _ _ z0 w1 rd0 h80 (by omega) ht1).mono ?_
  rintro e w2 ⟨pg, pd, pk, bg, d, k, mk, lg, er, rfl, hmk, hlg, her, hpk, hk, ⟨hrp, _, _⟩, ⟨hrw, _, _⟩, hb2⟩
  have hB2 : Below w.heap.size w w2 := Below.trans hb1 (hb2.mono hb1.size)
  have hx : Below w2.heap.size w2 (w2.alloc (.cells #[.slice pg pk pd, .slice bg k d, .bool mk, .bool lg] 34)) := (Below.refl _ _).alloc (Nat.le_refl _) _
  have hB3 := Below.trans hB2 (hx.mono hB2.size)
  cases hG : getT z0 with
  | none =>
    rw [hG] at hmk hlg her hpk hk
    have e1 : mk = false := hmk
    have e2 : lg = false := hlg
    have e3 : er = 2 := her
    have e4 : pk = 0 := hpk
    have e5 : k = 0 := hk
    subst e1; subst e2; subst e3; subst e4; subst e5
    clear hmk hlg her hpk hk hrp hrw hb2 hb1 rd0 ht1 hB2 hx
    go_wp2
    go_ret
    exact ⟨rfl, hB3⟩
  | some s =>
    obtain ⟨hpg, hpd, hw32, hsm⟩ := put_get h80 hG
    rw [hG] at hmk hlg her hpk hk hrp hrw
    have e3 : er = 0 := her
    subst e3
    have hpl : s.pend.length ≤ 3 := by rcases hpd with h | h; rw [h]; simp; exact h.2.1
    have hpk' : pk = s.pend.length := hpk
    have hk' : k = s.word.length := hk
    have Hput : Hid (putT s.pend s.word mk lg = z0) := by show _ = _; rw [hmk, hlg]; exact hpg
    have rp3 : Reads _ pg pk pd (s.pend.map (.int .u8)) := hrp.later hx (Nat.le_refl _)
    have rw3 : Reads _ bg k d (s.word.map (.int .i32)) := hrw.later hx (Nat.le_refl _)
    have rd3 := r0.later hB3 (Nat.le_refl _)
    have k3 := heap_alloc_new w2 (.cells #[.slice pg pk pd, .slice bg k d, .bool mk, .bool lg] 34)
    have hpkl : pk ≤ 3 := by omega
    have hkl : k ≤ 32 := by omega
    have hsr := small_range hsm
    clear hmk hlg her hpk hk hrp hrw hb2 hb1 rd0 ht1 hB2 hpg hpk' hk' hpd hpl hw32 hsm
    go_upto_region 5 with (fail)
    generalize hwi : w2.alloc (.cells #[.slice pg pk pd, .slice bg k d, .bool mk, .bool lg] 34) = wi at hx hB3 rp3 rw3 rd3 k3 ⊢
    have hc0 : ∀ W, Below wi.heap.size wi W → W.cell? ⟨w2.heap.size, 0, none⟩ = some (.slice pg pk pd) := fun W hW => (blk4 ((hW.block _ (lt_of_block k3)).trans k3)).1
    have hc1 : ∀ W, Below wi.heap.size wi W → W.cell? ⟨w2.heap.size, 1, none⟩ = some (.slice bg k d) := fun W hW => (blk4 ((hW.block _ (lt_of_block k3)).trans k3)).2.1
    have hc2 : ∀ W, Below wi.heap.size wi W → W.cell? ⟨w2.heap.size, 2, none⟩ = some (.bool mk) := fun W hW => (blk4 ((hW.block _ (lt_of_block k3)).trans k3)).2.2.1
    have hc3 : ∀ W, Below wi.heap.size wi W → W.cell? ⟨w2.heap.size, 3, none⟩ = some (.bool lg) := fun W hW => (blk4 ((hW.block _ (lt_of_block k3)).trans k3)).2.2.2.1
    have q1 : ∀ W, Below wi.heap.size wi W → (convert 22 9 (.slice a0 len0 cap0)).run Tryd.prog W = .ok (.string (strOfNums z0)) W := fun W hW => conv_of Tryd.underlying22 Tryd.underlying5 Tryd.underlying9 (rd3.later hW (Nat.le_refl _))
    clear hwi k3 rd3 hx r0 ht hG
    first | go_region_held (fun W => Below wi.heap.size wi W) (first | exact Below.refl _ _ | exact Below.drew (Below.refl _ _) | assumption | exact Grow.trans (by assumption) (by assumption)) (first | (go_at_call 15; refine (tput_any _ _ _ s.pend _ _ _ s.word _ _ _ (rp3.later (by first | assumption | exact Below.drew (Below.refl _ _)) (Nat.le_refl _)) (rw3.later (by first | assumption | exact Below.drew (Below.refl _ _)) (Nat.le_refl _)) hsr (by omega) (by omega)).mono ?_; rintro e wp ⟨ag, c, m, rfl, hm, hro, hbp⟩; clear hm; rw [Hput.out] at hro; have hcv := conv_of Tryd.underlying22 Tryd.underlying5 Tryd.underlying9 hro)) | fail
    all_goals go_wp2
    all_goals go_ret
    all_goals exact ⟨by simp, Below.trans hB3 (Below.mono (by assumption) hB3.size)⟩

set_option maxRecDepth 100000 in
theorem lifted (os : Os) (started : os.Started) (H : Type) (enc : TypeId × Value → H) :
    ReturnsInHanded {} Tryd.checked os 6 .any (fun w args => (Rows.tokenBackSpec.pre enc Tryd.prog Tryd.f6 [] false w args ∧ laidMetH Tryd.prog tabLaid w) ∧ sizedMet enc Tryd.prog Tryd.f6 (OpenSpec.ofChange Rows.tokenBackSpec) false w args) (Rows.tokenBackSpec.post enc Tryd.prog Tryd.f6 false true false false) := by
  refine returnsInHanded_of_change_and (C := Tryd.checked) (X := fun w _ => laidMetH Tryd.prog tabLaid w) (fun _ _ _ hh h => h.of_heap hh) own started (by kernel_rfl) Tryd.func6
    (ChangeSpec.witness_shaped (enc := enc) (C := Tryd.checked) (os := os) (X := fun w _ => laidMetH Tryd.prog tabLaid w) false (World.laidAll Tryd.prog os tabLaid) #[.slice none 0 0] 8 (World.laidAll_os _ _ _)
      (World.shaped_of_ZipB (by kernel_rfl) (by kernel_rfl)) (by kernel_rfl) (by kernel_rfl) (by kernel_rfl)
      (by rw [MakeChecks.laidMetH_plain _ _ _ (by kernel_rfl)]; exact laidMet_laidAll _ (by kernel_rfl) (by kernel_rfl))) ?_
  intro W base args ds gs before hval0 hW hcnd hsz0 hL _
  rw [MakeChecks.laidMetH_plain _ _ _ (by kernel_rfl)] at hL
  have ht : Tabs W := tabs_of hL
  clear hL
  have hsz : (DataW.weightsEach Tryd.prog (Tryd.f6.params.toList ++ Rows.tokenBackSpec.plain.varTypes Tryd.prog) (ds ++ gs)).all (· ≤ reachBytes) = true := hsz0
  clear hsz0
  have hval : ∀ (j : Nat) t v, Tryd.f6.params[j]? = some t → args[j]? = some v → Value.okWide Tryd.prog W .any base t v := hval0
  have hW' := hW
  obtain ⟨p, q, hA0, hV, rfl, hfz, hnd⟩ := hW
  have hA : DataW.TrodAll enc Tryd.prog W 0 (fun _ => true) true Tryd.f6.params.toList args.toList ds p := hA0
  rw [Tryd.params6] at hA hval hsz
  obtain ⟨v0, vs0, d0, ds0, p0, q0, hargs, rfl, rfl, h0, rr0⟩ := trodAll_cons hA
  obtain ⟨rfl, rfl, rfl⟩ := trodAll_nil rr0
  obtain rfl : args = #[v0] := by cases args; simp_all
  obtain ⟨rfl, rfl⟩ := trodVars_none hV
  obtain ⟨a0, len0, cap0, rfl⟩ := okWide_slice Tryd.underlying22 (hval 0 22 v0 rfl rfl)
  have k0 := h0
  have lt0 : ∀ x ∈ p0, x.block < W.heap.size := by obtain ⟨m, hm⟩ := k0; exact DataW.trod_lt m _ _ _ hm
  obtain ⟨z0, r0, f0, b0⟩ := slice_in Tryd.underlying22 Tryd.underlying5 (by kernel_rfl) (B := 1) (by kernel_rfl) hsz (j := 0) rfl rfl h0
  clear hA0 hval0
  refine (walk W a0 len0 cap0 z0 r0 f0 b0 ht).mono fun e W' ⟨he, bel⟩ => ?_
  subst he
  exact ⟨_, rfl, _, _, _, [], _, [], hW', trodAll_mk1 (shut_bool Tryd.underlying4 _), (trodAll_cons_mk (Below.trod laidOut (by kernel_rfl) (of_decide_eq_true (by kernel_rfl)) k0 bel lt0) trodAll_mk0), rfl, bel.frame _, fun h => by cases h⟩

theorem over : Rows.tokenBackRow.holds Tryd.pinned (OpenSpec.ofChange Rows.tokenBackSpec) :=
  OpenClaim.holds_of_wide 6 Tryd.f6 rfl rfl rfl rfl rfl rfl rfl ⟨rfl, rfl, rfl, rfl, rfl⟩ rfl rfl rfl rfl rfl (by kernel_rfl) Tryd.func6 (by kernel_rfl)
    (of_decide_eq_true (by kernel_rfl)) (by unfold Func.isWrapper; first | (rw [if_pos (by decide +kernel)]; kernel_rfl) | (rw [if_neg (by decide +kernel)]; exact ⟨rfl, rfl⟩))
    (fun os started H enc _ => lifted os started H enc)
end Go.Proofs.YtdhbbknjnbdplaaDoor.tokenBack
namespace Go.Proofs.YtdhbbknjnbdplaaDoor
theorem tokenBack_holds : Rows.TokenBackCardSaid :=
  Claim7.holds_tied_plain_at .later [] [.data, .data, .data, .pinned] true (true, "4104aba0c4a0260579566373d89a73fc2f2ff9297c441085109a77544f10a7ba") false tokenBack.over (fun _ h => by cases h) (by kernel_rfl) (fun _ h => by cases h) tokenBack_row_tie rfl ⟨rfl, rfl⟩ (by kernel_rfl) rfl
    (fun f fn hf hfn => by
      obtain rfl : f = 6 := Option.some.inj ((show Tryd.prog.funcNamed "mantelet/manteletlaw07.TokenBack" = some 6 by kernel_rfl).symm.trans hf) |>.symm
      obtain rfl : fn = Tryd.f6 := (Option.some.inj (Tryd.func6.symm.trans hfn)).symm
      exact ⟨by kernel_rfl, fun j t ht => by
        rw [Tryd.params6] at ht
        have hm : t ∈ [22] := by simpa using Array.mem_of_getElem? ht
        have hall : ([22].all fun u => !Tryd.prog.wantsStandIn u) = true := by kernel_rfl
        exact (show Tryd.prog.wantsStandIn t = false by simpa using List.all_eq_true.1 hall t hm)⟩)
    (by kernel_rfl)
#print axioms tokenBack_holds
end Go.Proofs.YtdhbbknjnbdplaaDoor
