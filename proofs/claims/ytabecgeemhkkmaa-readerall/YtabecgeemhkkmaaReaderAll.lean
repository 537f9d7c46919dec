/- For every input ReaderAll answers true, and leaves its arguments as they were. Conditions: none. -/
import Derived.Test.YtabecgeemhkkmaaRows
import Derived.Test.YtabecgeemhkkmaaShown10
import Derived.Test.YtabecgeemhkkmaaOpen09
import Derived.ProofKit
import Derived.OpenShut
import Derived.ShutString
import Derived.ChangeOld
import Derived.SizedLaws
import Derived.Deep.RegionHeld
import Derived.Deep.RegionHeld3
import Derived.Deep.QuietTactic
import Derived.BigQuiet
import Derived.Deep.Cut
import Derived.Deep.CutBlock
namespace Go.Proofs.Ytabecgeemhkkmaa.readerAll
open Go.ChangeShapes Go.WideShapes Go.ChangeAt Go.RowKit
open Go.ChangeMaps (open_string shut_string)
set_option linter.unusedVariables false

theorem own : ownKnob Try.prog.godebug = none := by kernel_rfl
theorem laidOut : laidOutB Try.prog = true := by kernel_rfl

theorem dec_nil : decL [] = ([], 2) := by decide +kernel

set_option maxRecDepth 100000 in
set_option maxHeartbeats 4000000 in
theorem walk (w : World) (a0 : Option Addr) (len0 cap0 : Nat) (z0 : List En) (r0 : ReadsE w a0 len0 cap0 (cellsE z0)) (f0 : ∀ z ∈ z0, z.1.length ≤ 140737488351232 ∧ z.2 ≤ 18446744073709551615) (b0 : len0 * 24 ≤ 140737488351232) (a1 : Int) (w1 : (Lit.int .u8 a1).wf = true) :
    Calls Try.prog 10 #[.slice a0 len0 cap0, .int .u8 a1] w fun e w' => e = .returned (.bool true) ∧ Below w.heap.size w w' := by
  have hw : ∀ e ∈ z0, e.1.length ≤ 140737488355328 := fun e he => by have := (f0 e he).1; omega
  have hb : ∀ e ∈ z0, e.2 ≤ 18446744073709551615 := fun e he => (f0 e he).2
  obtain ⟨x1, rfl, hx1⟩ := u8_nat w1
  obtain ⟨n, hn, n1, n2⟩ : ∃ n : Nat, 1 + (x1 : Int) % 255 = (n : Nat) ∧ 1 ≤ n ∧ n ≤ 255 := ⟨1 + x1 % 255, by omega, by omega, by omega⟩
  have hz := r0.count
  clear w1 b0 f0
  go_enter Try.func10, Try.ntmps10
  go_wp2_with fail
  refine (shown10_any w).mono ?_
  rintro e w1 ⟨rfl, hB1⟩
  by_cases hf1 : z0.length ≤ 200
  case neg =>
    have hli : (200 : Int) < len0 := by omega
    clear hf1
    go_wp2
    go_ret
    exact ⟨rfl, hB1⟩
  have hli : ¬ (200 : Int) < len0 := by omega
  have hr1 := r0.later hB1 (Nat.le_refl _)
  obtain ⟨X, c, R, f, hX, hcf, hXb, hXl, hXd⟩ : ∃ X c R f, encR z0 n = (X, c) ∧ ((mayE z0 = 0 ∧ c = 0 ∧ R = z0 ∧ f = 0) ∨ (c ≠ 0 ∧ R = [] ∧ f = 2)) ∧ isBytes X ∧ X.length ≤ 61900 ∧ decL X = (R, f) := by
    by_cases hm : mayE z0 = 0
    · obtain ⟨e1, e2, e3, e4⟩ := law_run hf1 hm n1 n2
      exact ⟨_, _, _, _, e1, .inl ⟨hm, rfl, rfl, rfl⟩, e3, e2, e4⟩
    · refine ⟨[], mayE z0, [], 2, ?_, .inr ⟨hm, rfl, rfl⟩, fun z hz => by simp at hz, by simp, dec_nil⟩
      unfold encR
      rw [if_pos ⟨n1, n2⟩, if_neg hm]
  have p1 := encode_any hr1 hb hw (by omega) (n : Nat) n (.inl rfl) (by omega)
  rw [hX] at p1
  unfold EncOut at p1
  clear hX
  go_wp2_with fail
  refine p1.mono ?_
  rintro e w3 ⟨g3, c3, m3, rfl, hm3, ho3, hG3⟩
  have hB3 := hB1.trans (hG3.mono hB1.size)
  have hm3' : m3 ≤ 100000 := by rw [hm3]; show X.length ≤ _; omega
  have p2 := open_any (Reads.own ho3) hXb hm3'
  try simp only at p2
  rw [hXd] at p2
  clear p1 hm3 hG3 hB1 hr1 ho3 hXb hXl hXd
  go_wp2_with fail
  refine p2.mono ?_
  rintro e w5 ⟨hG5, r, rfl, hr⟩
  have hB5 := hB3.trans (hG5.mono hB3.size)
  have hsz5 : w.heap.size ≤ w3.heap.size := hB3.size
  clear p2 hG5 hB3
  rcases hcf with ⟨hm, rfl, hRz, rfl⟩ | ⟨hc, rfl, rfl⟩
  rotate_left
  · have hci : ¬ (c : Int) = 0 := by omega
    have hcb : ((c : Int) != 0) = true := by rw [bne_iff_ne]; exact hci
    obtain ⟨_, rfl⟩ : (2 : Nat) ≠ 0 ∧ r = none := by
      rcases hr with h | ⟨h, _⟩
      · exact h
      · exact absurd h (by decide)
    clear hr hc
    go_wp2
    go_ret
    exact ⟨rfl, hB5⟩
  rw [hRz] at hr
  clear hRz
  obtain ⟨rb, rfl, hrb, hat⟩ : ∃ rb, r = some ⟨rb, 0, none⟩ ∧ w3.heap.size ≤ rb ∧ RdAt w5.heap.size w5 rb z0 := by
    rcases hr with ⟨h, _⟩ | ⟨_, h⟩
    · exact absurd rfl h
    · exact h
  have hrlt := hat.rb_lt
  have hrw : w.heap.size ≤ rb := Nat.le_trans hsz5 hrb
  subst hz
  clear hr hm hrb hsz5
  go_wp2_with fail
  go_loopw [10, 11] (fun gv iv wr => ∃ (i : Nat) (ag : Option Addr) (cg : Nat), iv = .int .i64 (i : Nat) ∧ gv = .slice ag i cg ∧ i ≤ z0.length ∧ wr.ownsRow w5.heap.size 44 2 (.slice ag i cg) i (cellsE (z0.take i)) ∧ RdAt w5.heap.size wr rb (z0.drop i) ∧ Below w.heap.size w wr ∧ w5.heap.size ≤ wr.heap.size) (fun _ iv _ => (z0.length - intOf iv).toNat)
  case atStart => exact ⟨0, none, 0, rfl, rfl, Nat.zero_le _, World.ownsRow_nil _ _ _ _, hat, hB5, Nat.le_refl _⟩
  case round =>
    obtain ⟨i, ag, cg, rfl, rfl, hi, hrow, hat, hB, hs5⟩ := hrel
    clear hB5
    by_cases hil : i < z0.length
    case neg =>
      have hie : i = z0.length := by omega
      subst hie
      have hd0 : z0.drop z0.length = [] := List.drop_of_length_le (by omega)
      have ht0 : z0.take z0.length = z0 := List.take_of_length_le (by omega)
      rw [hd0] at hat
      rw [ht0] at hrow
      have pn := next_any hat
      clear hd0 ht0 hil
      go_wp2_with fail
      refine pn.mono ?_
      rintro e w6 hn6
      have he6 : e = .returned (peekV []) := hn6.1
      subst he6
      have hB6 := hn6.below hB hB.size hrw
      have hat6 : RdAt w5.heap.size w6 rb [] := hn6.2.2
      have hrow6 := own2_block hrow (fun k hk => hn6.2.1.block k (hrow.lt k hk).2 (fun e' => by cases e'; have := (hrow.lt _ hk).1; omega))
      obtain ⟨W6, hW6⟩ : ∃ W6, W6 = w6.alloc (.cells #[strV [], .int .u64 0] 44) := ⟨_, rfl⟩
      have hG6 : Grow w6 W6 := by rw [hW6]; exact (Below.refl _ _).alloc (Nat.le_refl _) _
      have hB7 := hB6.trans (hG6.mono hB6.size)
      have pl := left_any (hat6.later hG6)
      have ps := rsameE_any (ReadsE.own (own2_later hrow6 hG6 (Nat.le_refl _))) (r0.later hB7 (Nat.le_refl _))
      rw [decide_eq_true (show (z0 : List En) = z0 from rfl)] at ps
      have HW6 : Hid _ := hW6
      unfold peekV
      clear pn hn6 hB6 hrow hrow6 hG6 hat hB hW6 hat6
      go_wp2_with fail
      rw [← HW6.out]
      refine pl.mono ?_
      rintro e w7 ⟨rfl, rfl⟩
      clear pl
      go_wp2_with fail
      refine ps.mono ?_
      rintro e w8 ⟨rfl, mm, rfl⟩
      go_wp2
      go_ret
      exact ⟨rfl, below_drewN hB7 _⟩
    have hlt : (i : Int) < z0.length := by omega
    obtain ⟨⟨ek, en⟩, he⟩ : ∃ e, z0[i]? = some e := ⟨_, List.getElem?_eq_getElem hil⟩
    have hdr : z0.drop i = (ek, en) :: z0.drop (i + 1) := by
      rw [List.drop_eq_getElem_cons hil]
      have := (List.getElem?_eq_some_iff.1 he).2
      rw [this]
    have htk : Hid (cellsE (z0.take (i + 1)) = cellsE (z0.take i) ++ cellsE [(ek, en)]) := by show _ = _; rw [← cells_app, List.take_add_one, he]; rfl
    have hll : (z0.drop i).length = z0.length - i := by simp
    have pl := left_any hat
    rw [hll] at pl
    rw [hdr] at hat
    have pp := peek_any hat
    unfold peekV at pp
    simp only at pp
    have hsub : (z0.length : Int) - i = ((z0.length - i : Nat) : Int) := by omega
    have hwr : IntKind.i64.wrap ((z0.length - i : Nat) : Int) = ((z0.length - i : Nat) : Int) := by simp [IntKind.wrap, IntKind.bits, IntKind.signed]; omega
    clear hdr he hll
    generalize hM : z0.length - i = M at *
    clear hM
    go_wp2_with fail
    refine pl.mono ?_
    rintro e w6 ⟨rfl, rfl⟩
    clear pl
    go_wp2_with fail
    refine pp.mono ?_
    rintro e w7 ⟨rfl, hG7⟩
    obtain ⟨W7, hW7⟩ : ∃ W7, W7 = w7.alloc (.cells #[strV ek, .int .u64 (en : Nat)] 44) := ⟨_, rfl⟩
    have hG7' : Grow w7 W7 := by rw [hW7]; exact (Below.refl _ _).alloc (Nat.le_refl _) _
    have hG67 : Grow w6 W7 := Grow.trans hG7 hG7'
    have kx : W7.heap[w7.heap.size]? = some (.cells #[strV ek, .int .u64 (en : Nat)] 44 (0, 0)) := by rw [hW7]; exact Array.getElem?_push_size
    have hat7 := hat.later hG67
    have hB7 := hB.trans (hG67.mono hB.size)
    have hrow7 := own2_later hrow hG67 (Nat.le_refl _)
    have hxr : w7.heap.size ≠ rb := by have := hG7.size; omega
    have hs7 : w5.heap.size ≤ W7.heap.size := Nat.le_trans hs5 hG67.size
    have p4 := next_any hat7
    have HW7 : Hid _ := hW7
    clear pp hG7 hG7' hG67 hat hB hrow hW7
    go_wp2_with fail
    rw [← HW7.out]
    refine p4.mono ?_
    rintro e w8 hn8
    have he8 : e = .returned (peekV ((ek, en) :: z0.drop (i + 1))) := hn8.1
    subst he8
    have kx8 := hn8.block kx hxr
    have hB8 := hn8.below hB7 hB7.size hrw
    have hat8 : RdAt w5.heap.size w8 rb (z0.drop (i + 1)) := hn8.2.2
    have hs8 : w5.heap.size ≤ w8.heap.size := Nat.le_trans hs7 hn8.2.1.size
    have hrow8 := own2_block hrow7 (fun k hk => hn8.2.1.block k (hrow7.lt k hk).2 (fun e' => by cases e'; have := (hrow7.lt _ hk).1; omega))
    obtain ⟨W8, hW8⟩ : ∃ W8, W8 = w8.alloc (.cells #[strV ek, .int .u64 (en : Nat)] 44) := ⟨_, rfl⟩
    have hG8 : Grow w8 W8 := by rw [hW8]; exact (Below.refl _ _).alloc (Nat.le_refl _) _
    have ky : W8.heap[w8.heap.size]? = some (.cells #[strV ek, .int .u64 (en : Nat)] 44 (0, 0)) := by rw [hW8]; exact Array.getElem?_push_size
    have cx := blk2 (cells_later kx8 hG8)
    have cy := blk2 ky
    have hB9 := hB8.trans (hG8.mono hB8.size)
    have hat9 := hat8.later hG8
    have hrow9 := own2_later hrow8 hG8 (Nat.le_refl _)
    have hs9 : w5.heap.size ≤ W8.heap.size := Nat.le_trans hs8 hG8.size
    have hra := own2_later hrow9 ((Below.refl _ _).alloc (Nat.le_refl _) (.cells #[strV ek, .int .u64 (en : Nat)] 44)) (Nat.le_refl _)
    have hBa := hB9.alloc hB9.size (.cells #[strV ek, .int .u64 (en : Nat)] 44)
    have hata := hat9.later ((Below.refl _ _).alloc (Nat.le_refl _) (.cells #[strV ek, .int .u64 (en : Nat)] 44))
    have hsa : w5.heap.size ≤ (W8.alloc (.cells #[strV ek, .int .u64 (en : Nat)] 44)).heap.size := by simp; omega
    have hrea := reads_en W8 ek en
    have hsm := en_diff ek en
    have HW8 : Hid _ := hW8
    unfold peekV
    clear p4 hn8 hat7 hat8 hat9 hB7 hB8 hrow7 hrow8 kx kx8 hG8 hs7 hs8 hrow9 HW7 ky hW8 hB9
    have hW8' := HW8.out
    rw [hW8'] at cx cy hra hBa hata hsa hrea
    clear hW8' HW8
    try rw [World.size_alloc] at hrea
    go_wp2_with (at_builtin; go_loud (refine wpList_append_en rfl _ _ rfl w5.heap.size _ _ _ _ rfl hra _ _ _ _ rfl hrea (cells_one _) (by unfold maxLen; omega) (by omega) hsa ?_); intro ag4 c4 w9 hrow4 hg4 hb4 hwh4)
    have hat4 := hata.kept hg4 (fun e' => by have := (hra.lt _ e').1; omega) (fun k cur e' hk _ => by have := (hra.lt _ e').1; omega)
    have hB4 := hBa.grown hg4 hBa.size (fun k hk => by have := (hra.lt _ hk).1; have := hrlt; omega)
    have hs4 : w5.heap.size ≤ w9.heap.size := Nat.le_trans hsa hg4.size
    rw [← htk.out] at hrow4
    go_roundw
    case rel => exact ⟨i + 1, ag4, c4, by go_num, rfl, by omega, hrow4, hat4, hB4, hs4⟩
    case measure => simp [intOf]; omega

set_option maxRecDepth 100000 in
theorem lifted (os : Os) (started : os.Started) (H : Type) (enc : TypeId × Value → H) :
    ReturnsInHanded {} Try.checked os 10 .any (Rows.readerAllSpec.pre6 enc Try.prog Try.f10 Rows.readerAllRow.domain false) (Rows.readerAllSpec.post enc Try.prog Try.f10 false true false false) := by
  refine returnsInHanded_of_change_sized (C := Try.checked) own started (by kernel_rfl) Try.func10
    (ChangeSpec.witness6 (enc := enc) (C := Try.checked) false ⟨#[], #[.slice none 0 0, .int .u8 0], []⟩ 8 (by kernel_rfl) (by kernel_rfl) (by kernel_rfl) (by kernel_rfl)) ?_
  intro W base args ds gs before hval0 hW hcnd hsz0 _
  have hsz : (DataW.weightsEach Try.prog (Try.f10.params.toList ++ Rows.readerAllSpec.plain.varTypes Try.prog) (ds ++ gs)).all (· ≤ reachBytes) = true := hsz0
  clear hsz0
  have hval : ∀ (j : Nat) t v, Try.f10.params[j]? = some t → args[j]? = some v → Value.okWide Try.prog W .any base t v := hval0
  have hW' := hW
  obtain ⟨p, q, hA0, hV, rfl, hfz, hnd⟩ := hW
  have hA : DataW.TrodAll enc Try.prog W 0 (fun _ => true) true Try.f10.params.toList args.toList ds p := hA0
  rw [Try.params10] at hA hval hsz
  obtain ⟨v0, vs0, d0, ds0, p0, q0, hargs, rfl, rfl, h0, rr0⟩ := trodAll_cons hA
  obtain ⟨v1, vs1, d1, ds1, p1, q1, rfl, rfl, rfl, h1, rr1⟩ := trodAll_cons rr0
  obtain ⟨rfl, rfl, rfl⟩ := trodAll_nil rr1
  obtain rfl : args = #[v0, v1] := by cases args; simp_all
  obtain ⟨rfl, rfl⟩ := trodVars_none hV
  obtain ⟨a0, len0, cap0, rfl⟩ := okWide_slice Try.underlying22 (hval 0 22 v0 rfl rfl)
  have k0 := h0
  have lt0 : ∀ x ∈ p0, x.block < W.heap.size := by obtain ⟨m, hm⟩ := k0; exact DataW.trod_lt m _ _ _ hm
  obtain ⟨z0, r0, f0, b0⟩ := entries_in Try.underlying22 Try.underlying44 (by kernel_rfl) rfl rfl (by kernel_rfl) (by kernel_rfl) Try.underlying9 Try.underlying42 (B := 24) (by kernel_rfl) hsz (j := 0) rfl rfl h0
  obtain ⟨a1, rfl, rfl, rfl, w1⟩ := open_int Try.underlying5 (hval 1 5 v1 rfl rfl) h1
  clear hA0 hval0
  refine (walk W a0 len0 cap0 z0 r0 f0 b0 a1 w1).mono fun e W' ⟨he, bel⟩ => ?_
  subst he
  exact ⟨_, rfl, _, _, _, [], _, [], hW', trodAll_mk1 (shut_bool Try.underlying4 _), (trodAll_cons_mk (Below.trod laidOut (by kernel_rfl) (of_decide_eq_true (by kernel_rfl)) k0 bel lt0) (trodAll_cons_mk (shut_int Try.underlying5 w1) trodAll_mk0)), rfl, bel.frame _, fun h => by cases h⟩

theorem over : Rows.readerAllRow.holds Try.pinned (OpenSpec.ofChange Rows.readerAllSpec) :=
  OpenClaim.holds_of_wide 10 Try.f10 rfl rfl rfl rfl rfl rfl rfl ⟨rfl, rfl, rfl, rfl, rfl⟩ rfl rfl rfl rfl rfl (by kernel_rfl) Try.func10 (by kernel_rfl)
    (of_decide_eq_true (by kernel_rfl)) (by unfold Func.isWrapper; first | (rw [if_pos (by decide +kernel)]; kernel_rfl) | (rw [if_neg (by decide +kernel)]; exact ⟨rfl, rfl⟩))
    (fun os started H enc _ => lifted os started H enc)
end Go.Proofs.Ytabecgeemhkkmaa.readerAll
namespace Go.Proofs.Ytabecgeemhkkmaa
theorem readerAll_holds : Rows.ReaderAllSaid := readerAll.over
#print axioms readerAll_holds
end Go.Proofs.Ytabecgeemhkkmaa
