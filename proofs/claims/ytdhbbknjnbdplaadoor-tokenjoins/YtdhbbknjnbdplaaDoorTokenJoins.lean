/- For every input TokenJoins answers true, and leaves its arguments as they were. Conditions: none. -/
import Derived.Test.YtdhbbknjnbdplaaDoorBase
import Derived.ProofKit
import Derived.OpenShut
import Derived.SizedLaws
import Derived.Test.YtdhbbknjnbdplaaDoorRows
import Derived.Test.YtdhbbknjnbdplaaDoorCards
import Derived.Test.YtdhbbknjnbdplaaDoorTie
import Derived.Test.YtdhbbknjnbdplaaDoorTokenCode
import Derived.Test.YtdhbbknjnbdplaaDoorRef07
import Derived.Test.YtdhbbknjnbdplaaDoorShown07
import Derived.ShutString
import Derived.ChangeOld
import Derived.Deep.RegionHeld
import Derived.Deep.RegionHeld3
import Derived.Deep.QuietTactic
import Derived.BigQuiet
import Derived.Deep.Cut
import Derived.Deep.CutBlock
import Derived.Lay
import Derived.LaidOnce
import Derived.SevenTiedAt
namespace Go.Proofs.YtdhbbknjnbdplaaDoor
open Go.ChangeShapes Go.WideShapes Go.ChangeAt Go.RowKit

theorem slice_in {H : Type} {enc : TypeId × Value → H} {P : Program} {W : World} {k : IntKind} {t e : TypeId} {B : Nat} (hu : P.underlying t = some (.slice e)) (he : P.underlying e = some (.int k)) (hc : P.cellsOf e = 1) (hB : P.bytesOf e = B)
    {ts : List TypeId} {ds : List (DataW H)} (hsz : (DataW.weightsEach P ts ds).all (· ≤ reachBytes) = true) {j : Nat} {a : Option Addr} {len cap : Nat} {d : DataW H} {p : List MemPlace} (ht : ts[j]? = some t) (hd : ds[j]? = some d)
    (h : DataW.Trod enc P W 0 (fun _ => true) true t (.slice a len cap) d p) :
    ∃ zs : List Int, Reads W a len cap (zs.map (.int k)) ∧ (∀ z ∈ zs, (Lit.int k z).wf = true) ∧ len * B ≤ 140737488351232 := by
  obtain ⟨fuel, hf⟩ := h
  rcases open_ints hu he hc hf with ⟨hcs, _⟩ | ⟨x, l, c, zs, hcs, _, hl, hm, hz, hx, hcell, hwz⟩
  · simp [Value.cells] at hcs
    obtain ⟨rfl, rfl, rfl⟩ := hcs
    exact ⟨[], Reads.nil W, fun z hz => by simp at hz, by omega⟩
  · simp [Value.cells] at hcs
    obtain ⟨rfl, rfl, rfl⟩ := hcs
    simp only [if_true] at hz
    simp only [Prod.mk.injEq] at hx
    have hb := sized_slice hsz (e := e) ht (by rw [hd, hx.1]) hu
    rw [hB] at hb
    simp only [lits, List.length_map, List.length_take, List.length_drop, reachBytes] at hb
    refine ⟨zs.take len, ⟨by simp; omega, hl, hm, fun h => (by cases h), fun y hy i u hu => ?_⟩, fun z hz => hwz z (List.mem_of_mem_take hz), ?_⟩
    · cases hy
      have hi : i < len := by
        have := (List.getElem?_eq_some_iff.1 hu).1
        simp at this; omega
      rw [hcell i (by omega)]
      simp [hi, List.getElem?_eq_getElem (show i < zs.length by omega)] at hu
      simp [List.getD, List.getElem?_eq_getElem (show i < zs.length by omega), hu]
    · have e1 : min len zs.length + (zs.length - len) = cap := by omega
      rw [e1] at hb
      exact Nat.le_trans (Nat.mul_le_mul_right B hl) hb
end Go.Proofs.YtdhbbknjnbdplaaDoor

namespace Go.Proofs.YtdhbbknjnbdplaaDoor.tokenJoins
open Go.ChangeShapes Go.WideShapes Go.ChangeAt Go.RowKit
open Go.ChangeMaps (open_string shut_string)
set_option linter.unusedVariables false

theorem own : ownKnob Tryd.prog.godebug = none := by kernel_rfl
theorem laidOut : laidOutB Tryd.prog = true := by kernel_rfl

theorem bytes_of {z : List Int} (f : ∀ x ∈ z, (Lit.int .u8 x).wf = true) : isBytes z := fun x hx => bounds_u8 (f x hx)

set_option maxRecDepth 100000 in
set_option maxHeartbeats 4000000 in
theorem walk (w : World) (a0 : Option Addr) (len0 cap0 : Nat) (z0 : List Int) (r0 : Reads w a0 len0 cap0 (z0.map (.int .u8))) (f0 : ∀ z ∈ z0, (Lit.int .u8 z).wf = true) (b0 : len0 * 1 ≤ 140737488351232) (a1 : Option Addr) (len1 cap1 : Nat) (z1 : List Int) (r1 : Reads w a1 len1 cap1 (z1.map (.int .u8))) (f1 : ∀ z ∈ z1, (Lit.int .u8 z).wf = true) (b1 : len1 * 1 ≤ 140737488351232) (ht : Tabs w) :
    Calls Tryd.prog 8 #[.slice a0 len0 cap0, .slice a1 len1 cap1] w fun e w' => e = .returned (.bool true) ∧ Below w.heap.size w w' := by
  have h80 : isBytes z0 := bytes_of f0
  have h81 : isBytes z1 := bytes_of f1
  have hl : z0.length = len0 := by simpa using r0.length
  have hl1 : z1.length = len1 := by simpa using r1.length
  by_cases h5 : 2000 < len0 ∨ 2000 < len1
  · by_cases h6 : 2000 < len0
    · have hi : (2000 : Int) < len0 := by omega
      go_enter Tryd.func8, Tryd.ntmps8
      go_wp2_with fail
      refine (shown_any w ht).mono ?_
      rintro e w1 ⟨rfl, hb1⟩
      go_wp2
      go_ret
      exact ⟨rfl, hb1⟩
    · have hi : (len0 : Int) ≤ 2000 := by omega
      have hi1 : (2000 : Int) < len1 := by omega
      go_enter Tryd.func8, Tryd.ntmps8
      go_wp2_with fail
      refine (shown_any w ht).mono ?_
      rintro e w1 ⟨rfl, hb1⟩
      go_wp2
      go_ret
      exact ⟨rfl, hb1⟩
  have hi : (len0 : Int) ≤ 2000 := by omega
  have hi1 : (len1 : Int) ≤ 2000 := by omega
  have mx : len0 + len1 + 20 ≤ maxLen := by unfold maxLen; omega
  go_enter Tryd.func8, Tryd.ntmps8
  go_wp2_with fail
  refine (shown_any w ht).mono ?_
  rintro e w1 ⟨rfl, hb1⟩
  have rd0 := r0.later hb1 (Nat.le_refl _)
  have rd1 := r1.later hb1 (Nat.le_refl _)
  have ht1 := Tabs.grow hb1 ht
  have hx : Below w1.heap.size w1 (w1.alloc (.cells #[] 5)) := (Below.refl _ _).alloc (Nat.le_refl _) _
  clear h5
  go_wp2_with (at_builtin; refine wpList_append_reads rfl (.tmp 17) (.tmp 18) 22 rfl w1.heap.size 5 Tryd.infoByte rfl Tryd.underlying22 _ _ _ _ rfl (ownsRow_empty w1 5) _ _ _ _ rfl (rd0.later hx (Nat.le_refl _)) (ints_oneCell _ _) (by omega) (by omega) (by simp) ?_)
  intro ag2 c2 w2 ho2 hb2
  have hB2 : Below w1.heap.size w1 w2 := Below.trans hx hb2
  have hs2 := hB2.size
  clear hx hb2
  go_wp2_with (at_builtin; refine wpList_append_reads rfl (.tmp 19) (.tmp 20) 22 rfl w1.heap.size 5 Tryd.infoByte rfl Tryd.underlying22 _ _ _ _ rfl (ho2.alloc _) _ _ _ _ rfl (reads_one _ _ _) (ints_oneCell .u8 [10]) (by omega) (by omega) (by simp; omega) ?_)
  intro ag3 c3 w3 ho3 hb3
  have hB3 : Below w1.heap.size w1 w3 := Below.trans (hB2.alloc hs2 _) hb3
  have hs3 := hB3.size
  have rd13 := rd1.later hB3 (Nat.le_refl _)
  clear hb3 hB2 hs2 ho2
  go_wp2_with (at_builtin; refine wpList_append_reads rfl (.tmp 21) (.tmp 22) 22 rfl w1.heap.size 5 Tryd.infoByte rfl Tryd.underlying22 _ _ _ _ rfl ho3 _ _ _ _ rfl rd13 (ints_oneCell _ _) (by omega) (by omega) hs3 ?_)
  intro ag4 c4 w4 ho4 hb4
  have hB4 : Below w1.heap.size w1 w4 := Below.trans hB3 hb4
  have hs4 := hB4.size
  have e4 : (z0.map (.int .u8) ++ Value.int .u8 10 :: z1.map (.int .u8)) = (z0 ++ 10 :: z1).map (.int .u8) := by simp
  rw [e4] at ho4
  have rb := Reads.own ho4
  have b8 : isBytes (z0 ++ 10 :: z1) := fun z hz => by
    rcases List.mem_append.1 hz with h | h
    · exact h80 z h
    · rcases List.mem_cons.1 h with h | h
      · subst h; decide
      · exact h81 z h
  have hbl : len0 + 1 + len1 ≤ 100000 := by omega
  have rd04 := rd0.later hB4 (Nat.le_refl _)
  have rd14 := rd1.later hB4 (Nat.le_refl _)
  have ht4 := Tabs.grow hB4 ht1
  have hBw : Below w.heap.size w w4 := Below.trans hb1 (hB4.mono hb1.size)
  clear hB3 hb4 hs3 rd13 ho3 rd0 rd1 ht1 e4 ho4 hB4 hb1 hs4
  go_wp2_with fail
  refine (tall_any _ _ _ (z0 ++ 10 :: z1) w4 rb b8 hbl ht4).mono ?_
  rintro e w5 ⟨ag5, c5, m5, rfl, hm5, ho5, hb5⟩
  rw [token_joins] at ho5
  have hB5 : Below w.heap.size w w5 := Below.trans hBw (hb5.mono hBw.size)
  have rd05 := rd04.later hb5 (Nat.le_refl _)
  have rd15 := rd14.later hb5 (Nat.le_refl _)
  have ht5 := Tabs.grow hb5 ht4
  have hx5 : Below w5.heap.size w5 (w5.alloc (.cells #[] 9)) := (Below.refl _ _).alloc (Nat.le_refl _) _
  have rd06 := rd05.later hx5 (Nat.le_refl _)
  have rd16 := rd15.later hx5 (Nat.le_refl _)
  have ht6 := Tabs.grow hx5 ht5
  have re5 := (Reads.own ho5).later hx5 (Nat.le_refl _)
  have hoe := ownsRow_empty w5 9
  have Hre5 : Hid _ := Reads.own ho5
  have Hrd1 : Hid _ := rd15
  have Ht5 : Hid _ := ht5
  clear rd04 rd14 ht4 rd05 rd15 ht5 hb5 ho5 rb hBw hm5
  go_wp2_with fail
  refine (tall_any _ _ _ z0 _ rd06 h80 (by omega) ht6).mono ?_
  rintro e w7 ⟨ag7, c7, m7, rfl, hm7, ho7, hb7⟩
  have hwc7 := words_count z0
  have hoe7 := own_later hoe hb7 (Nat.le_refl _)
  have rd17 := rd16.later hb7 (Nat.le_refl _)
  have ht7 := Tabs.grow hb7 ht6
  have re7 := re5.later hb7 (Nat.le_refl _)
  have hB7 : Below w5.heap.size w5 w7 := Below.trans hx5 (hb7.mono (by simp))
  have hm7l : m7 ≤ 2000 := by omega
  have hs7 := hB7.size
  clear hm7 hwc7 hoe rd06 rd16 ht6 re5 hb7 hx5
  go_wp2_with (at_builtin; refine wpList_append_wanted (by rfl) (.tmp 28) (.tmp 30) 25 rfl w5.heap.size 9 Tryd.infoStr rfl Tryd.underlying25 _ _ _ _ rfl hoe7 _ _ _ _ rfl (Reads.own ho7) (words_oneCell _) (by unfold maxLen; omega) (by omega) hs7 ?_)
  intro ag8 c8 w8 ho8 hg8 hb8
  have hk8 : KeptBut 9 w7 w8 := KeptBut.grown hoe7 hg8
  have hB8 : Below w5.heap.size w5 w8 := Below.trans hB7 hb8
  have re8 : Reads w8 ag5 m5 c5 _ := (Hre5.out).later hB8 (Nat.le_refl _)
  have rd18 := (Hrd1.out).later hB8 (Nat.le_refl _)
  have ht8 := Tabs.grow hB8 Ht5.out
  have hs8 := hB8.size
  clear hk8 hg8 hb8 hB7 rd17 ht7 re7 ho7 hoe7 hs7
  go_wp2_with fail
  refine (tall_any _ _ _ z1 _ rd18 h81 (by omega) ht8).mono ?_
  rintro e w9 ⟨ag9, c9, m9, rfl, hm9, ho9, hb9⟩
  have hwc9 := words_count z1
  have hm9l : m9 ≤ 2000 := by omega
  have ho89 := own_later ho8 hb9 (Nat.le_refl _)
  have hB9 : Below w5.heap.size w5 w9 := Below.trans hB8 (hb9.mono hs8)
  have hs9 := hB9.size
  clear hm9 hwc9 ho8 hB8 re8 rd18 ht8 hb9 hs8
  go_wp2_with (at_builtin; refine wpList_append_wanted (by rfl) (.tmp 31) (.tmp 33) 25 rfl w5.heap.size 9 Tryd.infoStr rfl Tryd.underlying25 _ _ _ _ rfl ho89 _ _ _ _ rfl (Reads.own ho9) (words_oneCell _) (by unfold maxLen; omega) (by omega) hs9 ?_)
  intro ag10 c10 w10 ho10 hg10 hb10
  have hB10 : Below w5.heap.size w5 w10 := Below.trans hB9 hb10
  have rs := (Hre5.out).later hB10 (Nat.le_refl _)
  rw [← List.map_append] at ho10
  have rt := Reads.own ho10
  have hBz : Below w.heap.size w w10 := Below.trans hB5 (hB10.mono hB5.size)
  clear ho10 hg10 hb10 hB10 hB9 ho89 ho9 hs9 hB5
  go_wp2_with fail
  refine (sameV_eq _ _ _ _ _ _ _ _ rs rt).mono ?_
  rintro e w11 ⟨rfl, hb11⟩
  have hBe : Below w.heap.size w w11 := Below.trans hBz (hb11.mono hBz.size)
  clear rs rt hb11 hBz
  go_wp2
  go_ret
  exact ⟨rfl, hBe⟩

set_option maxRecDepth 100000 in
theorem lifted (os : Os) (started : os.Started) (H : Type) (enc : TypeId × Value → H) :
    ReturnsInHanded {} Tryd.checked os 8 .any (fun w args => (Rows.tokenJoinsSpec.pre enc Tryd.prog Tryd.f8 [] false w args ∧ laidMetH Tryd.prog tabLaid w) ∧ sizedMet enc Tryd.prog Tryd.f8 (OpenSpec.ofChange Rows.tokenJoinsSpec) false w args) (Rows.tokenJoinsSpec.post enc Tryd.prog Tryd.f8 false true false false) := by
  refine returnsInHanded_of_change_and (C := Tryd.checked) (X := fun w _ => laidMetH Tryd.prog tabLaid w) (fun _ _ _ hh h => h.of_heap hh) own started (by kernel_rfl) Tryd.func8
    (ChangeSpec.witness_shaped (enc := enc) (C := Tryd.checked) (os := os) (X := fun w _ => laidMetH Tryd.prog tabLaid w) false (World.laidAll Tryd.prog os tabLaid) #[.slice none 0 0, .slice none 0 0] 8 (World.laidAll_os _ _ _)
      (World.shaped_of_ZipB (by kernel_rfl) (by kernel_rfl)) (by kernel_rfl) (by kernel_rfl) (by kernel_rfl)
      (by rw [MakeChecks.laidMetH_plain _ _ _ (by kernel_rfl)]; exact laidMet_laidAll _ (by kernel_rfl) (by kernel_rfl))) ?_
  intro W base args ds gs before hval0 hW hcnd hsz0 hL _
  rw [MakeChecks.laidMetH_plain _ _ _ (by kernel_rfl)] at hL
  have ht : Tabs W := tabs_of hL
  clear hL
  have hsz : (DataW.weightsEach Tryd.prog (Tryd.f8.params.toList ++ Rows.tokenJoinsSpec.plain.varTypes Tryd.prog) (ds ++ gs)).all (· ≤ reachBytes) = true := hsz0
  clear hsz0
  have hval : ∀ (j : Nat) t v, Tryd.f8.params[j]? = some t → args[j]? = some v → Value.okWide Tryd.prog W .any base t v := hval0
  have hW' := hW
  obtain ⟨p, q, hA0, hV, rfl, hfz, hnd⟩ := hW
  have hA : DataW.TrodAll enc Tryd.prog W 0 (fun _ => true) true Tryd.f8.params.toList args.toList ds p := hA0
  rw [Tryd.params8] at hA hval hsz
  obtain ⟨v0, vs0, d0, ds0, p0, q0, hargs, rfl, rfl, h0, rr0⟩ := trodAll_cons hA
  obtain ⟨v1, vs1, d1, ds1, p1, q1, rfl, rfl, rfl, h1, rr1⟩ := trodAll_cons rr0
  obtain ⟨rfl, rfl, rfl⟩ := trodAll_nil rr1
  obtain rfl : args = #[v0, v1] := by cases args; simp_all
  obtain ⟨rfl, rfl⟩ := trodVars_none hV
  obtain ⟨a0, len0, cap0, rfl⟩ := okWide_slice Tryd.underlying22 (hval 0 22 v0 rfl rfl)
  have k0 := h0
  have lt0 : ∀ x ∈ p0, x.block < W.heap.size := by obtain ⟨m, hm⟩ := k0; exact DataW.trod_lt m _ _ _ hm
  obtain ⟨z0, r0, f0, b0⟩ := slice_in Tryd.underlying22 Tryd.underlying5 (by kernel_rfl) (B := 1) (by kernel_rfl) hsz (j := 0) rfl rfl h0
  obtain ⟨a1, len1, cap1, rfl⟩ := okWide_slice Tryd.underlying22 (hval 1 22 v1 rfl rfl)
  have k1 := h1
  have lt1 : ∀ x ∈ p1, x.block < W.heap.size := by obtain ⟨m, hm⟩ := k1; exact DataW.trod_lt m _ _ _ hm
  obtain ⟨z1, r1, f1, b1⟩ := slice_in Tryd.underlying22 Tryd.underlying5 (by kernel_rfl) (B := 1) (by kernel_rfl) hsz (j := 1) rfl rfl h1
  clear hA0 hval0
  refine (walk W a0 len0 cap0 z0 r0 f0 b0 a1 len1 cap1 z1 r1 f1 b1 ht).mono fun e W' ⟨he, bel⟩ => ?_
  subst he
  exact ⟨_, rfl, _, _, _, [], _, [], hW', trodAll_mk1 (shut_bool Tryd.underlying4 _), (trodAll_cons_mk (Below.trod laidOut (by kernel_rfl) (of_decide_eq_true (by kernel_rfl)) k0 bel lt0) (trodAll_cons_mk (Below.trod laidOut (by kernel_rfl) (of_decide_eq_true (by kernel_rfl)) k1 bel lt1) trodAll_mk0)), rfl, bel.frame _, fun h => by cases h⟩

theorem over : Rows.tokenJoinsRow.holds Tryd.pinned (OpenSpec.ofChange Rows.tokenJoinsSpec) :=
  OpenClaim.holds_of_wide 8 Tryd.f8 rfl rfl rfl rfl rfl rfl rfl ⟨rfl, rfl, rfl, rfl, rfl⟩ rfl rfl rfl rfl rfl (by kernel_rfl) Tryd.func8 (by kernel_rfl)
    (of_decide_eq_true (by kernel_rfl)) (by unfold Func.isWrapper; first | (rw [if_pos (by decide +kernel)]; kernel_rfl) | (rw [if_neg (by decide +kernel)]; exact ⟨rfl, rfl⟩))
    (fun os started H enc _ => lifted os started H enc)
end Go.Proofs.YtdhbbknjnbdplaaDoor.tokenJoins
namespace Go.Proofs.YtdhbbknjnbdplaaDoor
theorem tokenJoins_holds : Rows.TokenJoinsCardSaid :=
  Claim7.holds_tied_plain_at .later [] [.data, .data, .data, .pinned] true (true, "4104aba0c4a0260579566373d89a73fc2f2ff9297c441085109a77544f10a7ba") false tokenJoins.over (fun _ h => by cases h) (by kernel_rfl) (fun _ h => by cases h) tokenJoins_row_tie rfl ⟨rfl, rfl⟩ (by kernel_rfl) rfl
    (fun f fn hf hfn => by
      obtain rfl : f = 8 := Option.some.inj ((show Tryd.prog.funcNamed "mantelet/manteletlaw07.TokenJoins" = some 8 by kernel_rfl).symm.trans hf) |>.symm
      obtain rfl : fn = Tryd.f8 := (Option.some.inj (Tryd.func8.symm.trans hfn)).symm
      exact ⟨by kernel_rfl, fun j t ht => by
        rw [Tryd.params8] at ht
        have hm : t ∈ [22, 22] := by simpa using Array.mem_of_getElem? ht
        have hall : ([22, 22].all fun u => !Tryd.prog.wantsStandIn u) = true := by kernel_rfl
        exact (show Tryd.prog.wantsStandIn t = false by simpa using List.all_eq_true.1 hall t hm)⟩)
    (by kernel_rfl)
#print axioms tokenJoins_holds
end Go.Proofs.YtdhbbknjnbdplaaDoor
