/- For every input TokenMany answers true, and leaves its arguments as they were. Conditions: none. -/
import Derived.Test.YtdhbbknjnbdplaaDoorBase
import Derived.ProofKit
import Derived.OpenShut
import Derived.SizedLaws
import Derived.Test.YtdhbbknjnbdplaaDoorRows
import Derived.Test.YtdhbbknjnbdplaaDoorCards
import Derived.Test.YtdhbbknjnbdplaaDoorTie
import Derived.Test.YtdhbbknjnbdplaaDoorTokenCode
import Derived.Test.YtdhbbknjnbdplaaDoorRef07
import Derived.Test.YtdhbbknjnbdplaaDoorShown07
import Derived.ShutString
import Derived.ChangeOld
import Derived.Deep.RegionHeld
import Derived.Deep.RegionHeld3
import Derived.Deep.QuietTactic
import Derived.BigQuiet
import Derived.Deep.Cut
import Derived.Deep.CutBlock
import Derived.Lay
import Derived.LaidOnce
import Derived.SevenTiedAt
namespace Go.Proofs.YtdhbbknjnbdplaaDoor
open Go.ChangeShapes Go.WideShapes Go.ChangeAt Go.RowKit

theorem slice_in {H : Type} {enc : TypeId × Value → H} {P : Program} {W : World} {k : IntKind} {t e : TypeId} {B : Nat} (hu : P.underlying t = some (.slice e)) (he : P.underlying e = some (.int k)) (hc : P.cellsOf e = 1) (hB : P.bytesOf e = B)
    {ts : List TypeId} {ds : List (DataW H)} (hsz : (DataW.weightsEach P ts ds).all (· ≤ reachBytes) = true) {j : Nat} {a : Option Addr} {len cap : Nat} {d : DataW H} {p : List MemPlace} (ht : ts[j]? = some t) (hd : ds[j]? = some d)
    (h : DataW.Trod enc P W 0 (fun _ => true) true t (.slice a len cap) d p) :
    ∃ zs : List Int, Reads W a len cap (zs.map (.int k)) ∧ (∀ z ∈ zs, (Lit.int k z).wf = true) ∧ len * B ≤ 140737488351232 := by
  obtain ⟨fuel, hf⟩ := h
  rcases open_ints hu he hc hf with ⟨hcs, _⟩ | ⟨x, l, c, zs, hcs, _, hl, hm, hz, hx, hcell, hwz⟩
  · simp [Value.cells] at hcs
    obtain ⟨rfl, rfl, rfl⟩ := hcs
    exact ⟨[], Reads.nil W, fun z hz => by simp at hz, by omega⟩
  · simp [Value.cells] at hcs
    obtain ⟨rfl, rfl, rfl⟩ := hcs
    simp only [if_true] at hz
    simp only [Prod.mk.injEq] at hx
    have hb := sized_slice hsz (e := e) ht (by rw [hd, hx.1]) hu
    rw [hB] at hb
    simp only [lits, List.length_map, List.length_take, List.length_drop, reachBytes] at hb
    refine ⟨zs.take len, ⟨by simp; omega, hl, hm, fun h => (by cases h), fun y hy i u hu => ?_⟩, fun z hz => hwz z (List.mem_of_mem_take hz), ?_⟩
    · cases hy
      have hi : i < len := by
        have := (List.getElem?_eq_some_iff.1 hu).1
        simp at this; omega
      rw [hcell i (by omega)]
      simp [hi, List.getElem?_eq_getElem (show i < zs.length by omega)] at hu
      simp [List.getD, List.getElem?_eq_getElem (show i < zs.length by omega), hu]
    · have e1 : min len zs.length + (zs.length - len) = cap := by omega
      rw [e1] at hb
      exact Nat.le_trans (Nat.mul_le_mul_right B hl) hb
end Go.Proofs.YtdhbbknjnbdplaaDoor

namespace Go.Proofs.YtdhbbknjnbdplaaDoor.tokenMany
open Go.ChangeShapes Go.WideShapes Go.ChangeAt Go.RowKit
open Go.ChangeMaps (open_string shut_string)
set_option linter.unusedVariables false

theorem own : ownKnob Tryd.prog.godebug = none := by kernel_rfl
theorem laidOut : laidOutB Tryd.prog = true := by kernel_rfl

theorem bytes_of {z : List Int} (f : ∀ x ∈ z, (Lit.int .u8 x).wf = true) : isBytes z := fun x hx => bounds_u8 (f x hx)

set_option maxRecDepth 100000 in
set_option maxHeartbeats 4000000 in
theorem walk (w : World) (a0 : Option Addr) (len0 cap0 : Nat) (z0 : List Int) (r0 : Reads w a0 len0 cap0 (z0.map (.int .u8))) (f0 : ∀ z ∈ z0, (Lit.int .u8 z).wf = true) (b0 : len0 * 1 ≤ 140737488351232) (a1 : Option Addr) (len1 cap1 : Nat) (z1 : List Int) (r1 : Reads w a1 len1 cap1 (z1.map (.int .u8))) (f1 : ∀ z ∈ z1, (Lit.int .u8 z).wf = true) (b1 : len1 * 1 ≤ 140737488351232) (ht : Tabs w) :
    Calls Tryd.prog 7 #[.slice a0 len0 cap0, .slice a1 len1 cap1] w fun e w' => e = .returned (.bool true) ∧ Below w.heap.size w w' := by
  have h80 : isBytes z0 := bytes_of f0
  have h81 : isBytes z1 := bytes_of f1
  have hl : z0.length = len0 := by simpa using r0.length
  have hl1 : z1.length = len1 := by simpa using r1.length
  by_cases h5 : 2000 < len0 ∨ 2000 < len1
  · by_cases h6 : 2000 < len0
    · have hi : (2000 : Int) < len0 := by omega
      go_enter Tryd.func7, Tryd.ntmps7
      go_wp2_with fail
      refine (shown_any w ht).mono ?_
      rintro e w1 ⟨rfl, hb1⟩
      go_wp2
      go_ret
      exact ⟨rfl, hb1⟩
    · have hi : (len0 : Int) ≤ 2000 := by omega
      have hi1 : (2000 : Int) < len1 := by omega
      go_enter Tryd.func7, Tryd.ntmps7
      go_wp2_with fail
      refine (shown_any w ht).mono ?_
      rintro e w1 ⟨rfl, hb1⟩
      go_wp2
      go_ret
      exact ⟨rfl, hb1⟩
  have hi : (len0 : Int) ≤ 2000 := by omega
  have hi1 : (len1 : Int) ≤ 2000 := by omega
  go_enter Tryd.func7, Tryd.ntmps7
  go_wp2_with fail
  refine (shown_any w ht).mono ?_
  rintro e w1 ⟨rfl, hb1⟩
  have rd0 := r0.later hb1 (Nat.le_refl _)
  have ht1 := Tabs.grow hb1 ht
  clear h5
  go_wp2_with fail
  refine (tfeedT [] (by simp [isBytes]) none 0 0 none 0 0 false false rfl rfl _ _ _ z0 w1 (Reads.nil _) (Reads.nil _) rd0 h80 (by omega) ht1).mono ?_
  rintro e w2 ⟨ag, c, m, pg, pd, pk, bg, d, k, mk, lg, ts, rfl, hmk, hlg, hm, htold, hcnt, hot, ⟨hrp, _, _⟩, how, hb2⟩
  simp only [List.nil_append] at hmk hlg hrp how
  have Hmk : Hid _ := hmk
  have Hlg : Hid _ := hlg
  have hB2 : Below w.heap.size w w2 := Below.trans hb1 (hb2.mono hb1.size)
  have hx2 : Below w2.heap.size w2 (w2.alloc (.cells #[.slice pg pk pd, .slice bg k d, .bool mk, .bool lg] 34)) := (Below.refl _ _).alloc (Nat.le_refl _) _
  have hB2' := Below.trans hB2 (hx2.mono hB2.size)
  have rp2 := hrp.later hx2 (Nat.le_refl _)
  have rw2 := (Reads.own how).later hx2 (Nat.le_refl _)
  have rd1 := r1.later hB2' (Nat.le_refl _)
  have ht2 := Tabs.grow hB2' ht
  clear hmk hlg hm htold hcnt hot hrp how hb2 hb1 rd0 ht1 hB2
  go_wp2_with fail
  refine (tfeedT z0 h80 _ _ _ _ _ _ _ _ Hmk.out Hlg.out _ _ _ z1 _ rp2 rw2 rd1 h81 (by omega) ht2).mono ?_
  rintro e w3 ⟨ag3, c3, m3, pg3, pd3, pk3, bg3, d3, k3, mk3, lg3, ts3, rfl, hmk3, hlg3, hm3, htold3, hcnt3, hot3, ⟨hrp3, _, _⟩, how3, hb3⟩
  have Hmk3 : Hid _ := hmk3
  have Hlg3 : Hid _ := hlg3
  have hB3 : Below w.heap.size w w3 := Below.trans hB2' (hb3.mono hB2'.size)
  have hx3 : Below w3.heap.size w3 (w3.alloc (.cells #[.slice pg3 pk3 pd3, .slice bg3 k3 d3, .bool mk3, .bool lg3] 34)) := (Below.refl _ _).alloc (Nat.le_refl _) _
  have hB3' := Below.trans hB3 (hx3.mono hB3.size)
  have rp3 := hrp3.later hx3 (Nat.le_refl _)
  have rw3 := (Reads.own how3).later hx3 (Nat.le_refl _)
  have ht3 := Tabs.grow hB3' ht
  have Hcnt : Hid _ := hcnt3
  have hm3l : m3 ≤ 2001 := by omega
  have b8 : isBytes (z0 ++ z1) := fun z hz => (List.mem_append.1 hz).elim (h80 z) (h81 z)
  clear hmk3 hlg3 hm3 htold3 hcnt3 hot3 hrp3 how3 hb3 rp2 rw2 rd1 ht2 hx2 hB2' hB3
  go_wp2_with fail
  refine (tendT (z0 ++ z1) b8 _ _ _ _ _ _ _ _ Hmk3.out Hlg3.out _ rp3 rw3 ht3).mono ?_
  rintro e w4 ⟨ag4, c4, m4, rfl, hm4, ho4, hb4⟩
  have hn1 : (m3 : Int) + m4 ≤ (len1 : Int) + 1 := by have := Hcnt.out; omega
  have hm4l : (m4 : Int) ≤ 2001 := by omega
  have hm3i : (m3 : Int) ≤ 2001 := by omega
  have hB4 : Below w.heap.size w w4 := Below.trans hB3' (hb4.mono hB3'.size)
  have rd4 := r0.later hB4 (Nat.le_refl _)
  have ht4 := Tabs.grow hB4 ht
  clear hm4 ho4 hb4 rp3 rw3 ht3 hx3 hB3'
  go_wp2_with fail
  refine (tall_any _ _ _ z0 w4 rd4 h80 (by omega) ht4).mono ?_
  rintro e w5 ⟨ag5, c5, m5, rfl, hm5, ho5, hb5⟩
  have hn5 : (m5 : Int) ≤ len0 := by have := words_count z0; omega
  have hB5 : Below w.heap.size w w5 := Below.trans hB4 (hb5.mono hB4.size)
  clear hm5 ho5 hb5 rd4 ht4 hB4
  go_wp2
  go_ret
  exact ⟨by simp, hB5⟩

set_option maxRecDepth 100000 in
theorem lifted (os : Os) (started : os.Started) (H : Type) (enc : TypeId × Value → H) :
    ReturnsInHanded {} Tryd.checked os 7 .any (fun w args => (Rows.tokenManySpec.pre enc Tryd.prog Tryd.f7 [] false w args ∧ laidMetH Tryd.prog tabLaid w) ∧ sizedMet enc Tryd.prog Tryd.f7 (OpenSpec.ofChange Rows.tokenManySpec) false w args) (Rows.tokenManySpec.post enc Tryd.prog Tryd.f7 false true false false) := by
  refine returnsInHanded_of_change_and (C := Tryd.checked) (X := fun w _ => laidMetH Tryd.prog tabLaid w) (fun _ _ _ hh h => h.of_heap hh) own started (by kernel_rfl) Tryd.func7
    (ChangeSpec.witness_shaped (enc := enc) (C := Tryd.checked) (os := os) (X := fun w _ => laidMetH Tryd.prog tabLaid w) false (World.laidAll Tryd.prog os tabLaid) #[.slice none 0 0, .slice none 0 0] 8 (World.laidAll_os _ _ _)
      (World.shaped_of_ZipB (by kernel_rfl) (by kernel_rfl)) (by kernel_rfl) (by kernel_rfl) (by kernel_rfl)
      (by rw [MakeChecks.laidMetH_plain _ _ _ (by kernel_rfl)]; exact laidMet_laidAll _ (by kernel_rfl) (by kernel_rfl))) ?_
  intro W base args ds gs before hval0 hW hcnd hsz0 hL _
  rw [MakeChecks.laidMetH_plain _ _ _ (by kernel_rfl)] at hL
  have ht : Tabs W := tabs_of hL
  clear hL
  have hsz : (DataW.weightsEach Tryd.prog (Tryd.f7.params.toList ++ Rows.tokenManySpec.plain.varTypes Tryd.prog) (ds ++ gs)).all (· ≤ reachBytes) = true := hsz0
  clear hsz0
  have hval : ∀ (j : Nat) t v, Tryd.f7.params[j]? = some t → args[j]? = some v → Value.okWide Tryd.prog W .any base t v := hval0
  have hW' := hW
  obtain ⟨p, q, hA0, hV, rfl, hfz, hnd⟩ := hW
  have hA : DataW.TrodAll enc Tryd.prog W 0 (fun _ => true) true Tryd.f7.params.toList args.toList ds p := hA0
  rw [Tryd.params7] at hA hval hsz
  obtain ⟨v0, vs0, d0, ds0, p0, q0, hargs, rfl, rfl, h0, rr0⟩ := trodAll_cons hA
  obtain ⟨v1, vs1, d1, ds1, p1, q1, rfl, rfl, rfl, h1, rr1⟩ := trodAll_cons rr0
  obtain ⟨rfl, rfl, rfl⟩ := trodAll_nil rr1
  obtain rfl : args = #[v0, v1] := by cases args; simp_all
  obtain ⟨rfl, rfl⟩ := trodVars_none hV
  obtain ⟨a0, len0, cap0, rfl⟩ := okWide_slice Tryd.underlying22 (hval 0 22 v0 rfl rfl)
  have k0 := h0
  have lt0 : ∀ x ∈ p0, x.block < W.heap.size := by obtain ⟨m, hm⟩ := k0; exact DataW.trod_lt m _ _ _ hm
  obtain ⟨z0, r0, f0, b0⟩ := slice_in Tryd.underlying22 Tryd.underlying5 (by kernel_rfl) (B := 1) (by kernel_rfl) hsz (j := 0) rfl rfl h0
  obtain ⟨a1, len1, cap1, rfl⟩ := okWide_slice Tryd.underlying22 (hval 1 22 v1 rfl rfl)
  have k1 := h1
  have lt1 : ∀ x ∈ p1, x.block < W.heap.size := by obtain ⟨m, hm⟩ := k1; exact DataW.trod_lt m _ _ _ hm
  obtain ⟨z1, r1, f1, b1⟩ := slice_in Tryd.underlying22 Tryd.underlying5 (by kernel_rfl) (B := 1) (by kernel_rfl) hsz (j := 1) rfl rfl h1
  clear hA0 hval0
  refine (walk W a0 len0 cap0 z0 r0 f0 b0 a1 len1 cap1 z1 r1 f1 b1 ht).mono fun e W' ⟨he, bel⟩ => ?_
  subst he
  exact ⟨_, rfl, _, _, _, [], _, [], hW', trodAll_mk1 (shut_bool Tryd.underlying4 _), (trodAll_cons_mk (Below.trod laidOut (by kernel_rfl) (of_decide_eq_true (by kernel_rfl)) k0 bel lt0) (trodAll_cons_mk (Below.trod laidOut (by kernel_rfl) (of_decide_eq_true (by kernel_rfl)) k1 bel lt1) trodAll_mk0)), rfl, bel.frame _, fun h => by cases h⟩

theorem over : Rows.tokenManyRow.holds Tryd.pinned (OpenSpec.ofChange Rows.tokenManySpec) :=
  OpenClaim.holds_of_wide 7 Tryd.f7 rfl rfl rfl rfl rfl rfl rfl ⟨rfl, rfl, rfl, rfl, rfl⟩ rfl rfl rfl rfl rfl (by kernel_rfl) Tryd.func7 (by kernel_rfl)
    (of_decide_eq_true (by kernel_rfl)) (by unfold Func.isWrapper; first | (rw [if_pos (by decide +kernel)]; kernel_rfl) | (rw [if_neg (by decide +kernel)]; exact ⟨rfl, rfl⟩))
    (fun os started H enc _ => lifted os started H enc)
end Go.Proofs.YtdhbbknjnbdplaaDoor.tokenMany
namespace Go.Proofs.YtdhbbknjnbdplaaDoor
theorem tokenMany_holds : Rows.TokenManyCardSaid :=
  Claim7.holds_tied_plain_at .later [] [.data, .data, .data, .pinned] true (true, "4104aba0c4a0260579566373d89a73fc2f2ff9297c441085109a77544f10a7ba") false tokenMany.over (fun _ h => by cases h) (by kernel_rfl) (fun _ h => by cases h) tokenMany_row_tie rfl ⟨rfl, rfl⟩ (by kernel_rfl) rfl
    (fun f fn hf hfn => by
      obtain rfl : f = 7 := Option.some.inj ((show Tryd.prog.funcNamed "mantelet/manteletlaw07.TokenMany" = some 7 by kernel_rfl).symm.trans hf) |>.symm
      obtain rfl : fn = Tryd.f7 := (Option.some.inj (Tryd.func7.symm.trans hfn)).symm
      exact ⟨by kernel_rfl, fun j t ht => by
        rw [Tryd.params7] at ht
        have hm : t ∈ [22, 22] := by simpa using Array.mem_of_getElem? ht
        have hall : ([22, 22].all fun u => !Tryd.prog.wantsStandIn u) = true := by kernel_rfl
        exact (show Tryd.prog.wantsStandIn t = false by simpa using List.all_eq_true.1 hall t hm)⟩)
    (by kernel_rfl)
#print axioms tokenMany_holds
end Go.Proofs.YtdhbbknjnbdplaaDoor
