/- For every input NumBack answers true, and leaves its arguments as they were. Conditions: none. -/
import Derived.Test.YtnlgghfiddmfkaaRows
import Derived.Test.YtnlgghfiddmfkaaShown
import Derived.Test.YtnlgghfiddmfkaaOpen
import Derived.Test.YtnlgghfiddmfkaaCuts
import Derived.Test.YtnlgghfiddmfkaaMath
import Derived.ProofKit
import Derived.OpenShut
import Derived.ShutString
import Derived.ChangeOld
import Derived.SizedLaws
import Derived.Deep.RegionHeld
import Derived.Deep.QuietTactic
import Derived.BigQuiet
namespace Go.Proofs.Ytnlgghfiddmfkaa.numBack
open Go.ChangeShapes Go.WideShapes Go.ChangeAt Go.RowKit
open Go.ChangeMaps (open_string shut_string)
set_option linter.unusedVariables false

theorem own : ownKnob Try.prog.godebug = none := by kernel_rfl
theorem laidOut : laidOutB Try.prog = true := by kernel_rfl

theorem bytes_of {z : List Int} (f : ∀ x ∈ z, (Lit.int .u8 x).wf = true) : isBytes z := fun x hx => bounds_u8 (f x hx)

set_option maxRecDepth 100000 in
set_option maxHeartbeats 4000000 in
theorem walk (w : World) (a0 : Int) (w0 : (Lit.int .u64 a0).wf = true) (a1 : Option Addr) (len1 cap1 : Nat) (z1 : List Int) (r1 : Reads w a1 len1 cap1 (z1.map (.int .u8))) (f1 : ∀ z ∈ z1, (Lit.int .u8 z).wf = true) (b1 : len1 * 1 ≤ 140737488351232) :
    Calls Try.prog 4 #[.int .u64 a0, .slice a1 len1 cap1] w fun e w' => e = .returned (.bool true) ∧ Below w.heap.size w w' := by
  have g0 := bounds_u64 w0
  obtain ⟨n, rfl⟩ := Int.eq_ofNat_of_zero_le g0.1
  have h8 := bytes_of f1
  have hn8 := encode_bytes n (by omega)
  have lk := encode_len n
  go_enter Try.func4, Try.ntmps4
  go_wp2_with fail
  refine (shown_any _).mono ?_
  rintro e wa ⟨rfl, hb1⟩
  go_wp2_with fail
  refine (put_any none 0 0 [] n _ (Reads.nil _) (by decide) (by omega)).mono ?_
  rintro e wb ⟨g, c, k, hk, rfl, hown, hb2⟩
  have Hk : Hid (k = (encode n).length) := by rw [hk, Nat.zero_add]; rfl
  have lk2 : k ≤ 10 := by have := Hk.out; omega
  clear hk
  have hb := Grow.trans hb1 hb2
  have r1b := r1.later hb (Nat.le_refl _)
  have rp := Reads.owned hown
  simp only [List.nil_append] at rp
  have mx : k + len1 ≤ maxLen := by unfold maxLen; omega
  go_wp2_with (at_builtin; refine wpList_append_reads rfl (.tmp 17) (.tmp 18) 22 rfl wb.heap.size 5 Try.info5 rfl Try.underlying22 _ _ _ _ rfl (ownsRow_empty wb 5) _ _ _ _ rfl (rp.later ((Below.refl wb.heap.size wb).alloc (Nat.le_refl _) _) (Nat.le_refl _)) (ints_oneCell _ _) (by omega) (by omega) (by simp) ?_)
  intro ag c2 wc hown2 hb3
  have hb3' : Grow wb wc := Below.trans ((Below.refl wb.heap.size wb).alloc (Nat.le_refl _) _) hb3
  have r1c := r1b.later hb3' (Nat.le_refl _)
  clear hb3
  go_wp2_with (at_builtin; refine wpList_append_reads rfl (.tmp 19) (.tmp 20) 22 rfl wb.heap.size 5 Try.info5 rfl Try.underlying22 _ _ _ _ rfl hown2 _ _ _ _ rfl r1c (ints_oneCell _ _) (by omega) (by omega) hb3'.size ?_)
  intro ag2 c3 wd hown3 hb4
  have hbd : Grow wb wd := Below.trans hb3' hb4
  have hbw : Grow w wd := Grow.trans hb hbd
  have rj := Reads.own hown3
  rw [← List.map_append] at rj
  clear hb4 hown2 hown3
  go_wp2_with fail
  refine (get_any _ _ _ _ _ rj (fun z hz => by rcases List.mem_append.1 hz with h | h; exact hn8 z h; exact h8 z h)).mono ?_
  rintro e we ⟨rfl, rfl⟩
  rw [get_back n z1 (by omega), ← Hk.out]
  unfold getV
  have r1d := r1.later hbw (Nat.le_refl _)
  have rpd := rp.later hbd (Nat.le_refl _)
  go_wp2_with fail
  refine (get_any _ _ _ _ _ r1d h8).mono ?_
  rintro e we ⟨rfl, rfl⟩
  rcases hgl : getL z1 with ⟨x, i, f⟩
  have hl1 : z1.length = len1 := by simpa using r1.length
  unfold getV
  rcases scan_err z1 0 0 x i f hgl with rfl | ⟨hf, rfl, rfl⟩
  · obtain ⟨i1, i2, he, hx⟩ := get_ok z1 h8 x i hgl
    have He : Hid _ := he
    clear hgl he
    have i2' : (i : Int) ≤ (len1 : Int) := by omega
    have i1' : (1 : Int) ≤ (i : Int) := by omega
    obtain ⟨x1, hs1, hr1⟩ := Reads.to (P := Try.prog) (t := 22) Try.underlying22 (size_of Try.info5) (ao := a1) (len := len1) (cap := cap1) r1.le i (by omega)
    have q1 : ∀ W, Below we.heap.size we W → (convert 22 9 (.slice x1 i cap1)).run Try.prog W = .ok (.string (strOfNums (encode x))) W := fun W hW => by
      rw [He.out]
      exact conv_of Try.underlying22 Try.underlying5 Try.underlying9 (by rw [List.map_take]; exact hr1 W _ (r1d.later hW (Nat.le_refl _)))
    clear hr1
    go_wp2_with fail
    first | go_region_held (fun W => Below we.heap.size we W) (first | exact Below.refl _ _ | exact Below.drew (Below.refl _ _) | assumption | exact Grow.trans (by assumption) (by assumption)) (first | (go_at_call 15; refine (put_any none 0 0 [] _ _ (Reads.nil _) (by decide) (by omega)).mono ?_; rintro e w' ⟨g, c, k, hk, rfl, hown, hb⟩; have Hk : Hid _ := hk; clear hk; have hcv := conv_of Try.underlying22 Try.underlying5 Try.underlying9 (Reads.owned hown); simp only [List.nil_append] at hcv)) | fail
    go_wp2
    go_ret
    exact ⟨rfl, Grow.trans hbw (by assumption)⟩
  · clear hgl
    rcases hf with rfl | rfl
    all_goals
      go_wp2_with fail
      go_quiet (fail)
      go_wp2
      go_ret
      exact ⟨rfl, below_drewN hbw _⟩

set_option maxRecDepth 100000 in
theorem lifted (os : Os) (started : os.Started) (H : Type) (enc : TypeId × Value → H) :
    ReturnsInHanded {} Try.checked os 4 .any (Rows.numBackSpec.pre6 enc Try.prog Try.f4 Rows.numBackRow.domain false) (Rows.numBackSpec.post enc Try.prog Try.f4 false true false false) := by
  refine returnsInHanded_of_change_sized (C := Try.checked) own started (by kernel_rfl) Try.func4
    (ChangeSpec.witness6 (enc := enc) (C := Try.checked) false ⟨#[], #[.int .u64 0, .slice none 0 0], []⟩ 8 (by kernel_rfl) (by kernel_rfl) (by kernel_rfl) (by kernel_rfl)) ?_
  intro W base args ds gs before hval0 hW hcnd hsz0 _
  have hsz : (DataW.weightsEach Try.prog (Try.f4.params.toList ++ Rows.numBackSpec.plain.varTypes Try.prog) (ds ++ gs)).all (· ≤ reachBytes) = true := hsz0
  clear hsz0
  have hval : ∀ (j : Nat) t v, Try.f4.params[j]? = some t → args[j]? = some v → Value.okWide Try.prog W .any base t v := hval0
  have hW' := hW
  obtain ⟨p, q, hA0, hV, rfl, hfz, hnd⟩ := hW
  have hA : DataW.TrodAll enc Try.prog W 0 (fun _ => true) true Try.f4.params.toList args.toList ds p := hA0
  rw [Try.params4] at hA hval hsz
  obtain ⟨v0, vs0, d0, ds0, p0, q0, hargs, rfl, rfl, h0, rr0⟩ := trodAll_cons hA
  obtain ⟨v1, vs1, d1, ds1, p1, q1, rfl, rfl, rfl, h1, rr1⟩ := trodAll_cons rr0
  obtain ⟨rfl, rfl, rfl⟩ := trodAll_nil rr1
  obtain rfl : args = #[v0, v1] := by cases args; simp_all
  obtain ⟨rfl, rfl⟩ := trodVars_none hV
  obtain ⟨a0, rfl, rfl, rfl, w0⟩ := open_int Try.underlying23 (hval 0 23 v0 rfl rfl) h0
  obtain ⟨a1, len1, cap1, rfl⟩ := okWide_slice Try.underlying22 (hval 1 22 v1 rfl rfl)
  have k1 := h1
  have lt1 : ∀ x ∈ p1, x.block < W.heap.size := by obtain ⟨m, hm⟩ := k1; exact DataW.trod_lt m _ _ _ hm
  obtain ⟨z1, r1, f1, b1⟩ := slice_in Try.underlying22 Try.underlying5 (by kernel_rfl) (B := 1) (by kernel_rfl) hsz (j := 1) rfl rfl h1
  clear hA0 hval0
  refine (walk W a0 w0 a1 len1 cap1 z1 r1 f1 b1).mono fun e W' ⟨he, bel⟩ => ?_
  subst he
  exact ⟨_, rfl, _, _, _, [], _, [], hW', trodAll_mk1 (shut_bool Try.underlying4 _), (trodAll_cons_mk (shut_int Try.underlying23 w0) (trodAll_cons_mk (Below.trod laidOut (by kernel_rfl) (of_decide_eq_true (by kernel_rfl)) k1 bel lt1) trodAll_mk0)), rfl, bel.frame _, fun h => by cases h⟩

theorem over : Rows.numBackRow.holds Try.pinned (OpenSpec.ofChange Rows.numBackSpec) :=
  OpenClaim.holds_of_wide 4 Try.f4 rfl rfl rfl rfl rfl rfl rfl ⟨rfl, rfl, rfl, rfl, rfl⟩ rfl rfl rfl rfl rfl (by kernel_rfl) Try.func4 (by kernel_rfl)
    (of_decide_eq_true (by kernel_rfl)) (by unfold Func.isWrapper; first | (rw [if_pos (by decide +kernel)]; kernel_rfl) | (rw [if_neg (by decide +kernel)]; exact ⟨rfl, rfl⟩))
    (fun os started H enc _ => lifted os started H enc)
end Go.Proofs.Ytnlgghfiddmfkaa.numBack
namespace Go.Proofs.Ytnlgghfiddmfkaa
theorem numBack_holds : Rows.NumBackSaid := numBack.over
#print axioms numBack_holds
end Go.Proofs.Ytnlgghfiddmfkaa
