/- For every input ReaderTwo answers true, and leaves its arguments as they were. Conditions: none. -/
import Derived.Test.YtabecgeemhkkmaaRows
import Derived.Test.YtabecgeemhkkmaaShown10
import Derived.Test.YtabecgeemhkkmaaOpen09
import Derived.ProofKit
import Derived.OpenShut
import Derived.ShutString
import Derived.ChangeOld
import Derived.SizedLaws
import Derived.Deep.RegionHeld
import Derived.Deep.RegionHeld3
import Derived.Deep.QuietTactic
import Derived.BigQuiet
import Derived.Deep.Cut
import Derived.Deep.CutBlock
namespace Go.Proofs.Ytabecgeemhkkmaa.readerTwo
open Go.ChangeShapes Go.WideShapes Go.ChangeAt Go.RowKit
open Go.ChangeMaps (open_string shut_string)
set_option linter.unusedVariables false

theorem own : ownKnob Try.prog.godebug = none := by kernel_rfl
theorem laidOut : laidOutB Try.prog = true := by kernel_rfl

theorem grown_set (W : World) (b i : Nat) (v : Value) : W.grownBy (W.setCell ⟨b, i, none⟩ v) (some b) := ⟨rfl, rfl, rfl, by simp [World.setCell], fun k _ hk => Below.heap_setCell _ _ _ _ (fun e => hk (by rw [e]))⟩
theorem own_row_type {w : World} {base e n c g : Nat} {xs : List Value} (h : w.ownsRow base e 1 (.slice (some ⟨g, 0, none⟩) n c) n xs) : ∃ cur, w.heap[g]? = some (.cells cur e (0, 0)) := by
  rcases h.2 with ⟨h1, _⟩ | ⟨g', cap', cur, h1, _, h3, _⟩
  · cases h1
  · simp only [Value.slice.injEq, Option.some.injEq, Addr.mk.injEq, and_true, true_and] at h1
    obtain ⟨rfl, _⟩ := h1
    exact ⟨cur, h3⟩

set_option maxRecDepth 100000 in
set_option maxHeartbeats 4000000 in
theorem walk (w : World) (a0 : Option Addr) (len0 cap0 : Nat) (z0 : List En) (r0 : ReadsE w a0 len0 cap0 (cellsE z0)) (f0 : ∀ z ∈ z0, z.1.length ≤ 140737488351232 ∧ z.2 ≤ 18446744073709551615) (b0 : len0 * 24 ≤ 140737488351232) (a1 : Int) (w1 : (Lit.int .u8 a1).wf = true) (a2 : Int) (w2 : (Lit.int .u8 a2).wf = true) :
    Calls Try.prog 12 #[.slice a0 len0 cap0, .int .u8 a1, .int .u8 a2] w fun e w' => e = .returned (.bool true) ∧ Below w.heap.size w w' := by
  have hw : ∀ e ∈ z0, e.1.length ≤ 140737488355328 := fun e he => by have := (f0 e he).1; omega
  have hb : ∀ e ∈ z0, e.2 ≤ 18446744073709551615 := fun e he => (f0 e he).2
  obtain ⟨x1, rfl, hx1⟩ := u8_nat w1
  obtain ⟨x2, rfl, hx2⟩ := u8_nat w2
  obtain ⟨n, hn, n1, n2⟩ : ∃ n : Nat, 1 + (x1 : Int) % 255 = (n : Nat) ∧ 1 ≤ n ∧ n ≤ 255 := ⟨1 + x1 % 255, by omega, by omega, by omega⟩
  have hz := r0.count
  subst hz
  clear w1 w2 b0 f0
  go_enter Try.func12, Try.ntmps12
  go_wp2_with fail
  refine (shown10_any w).mono ?_
  rintro e w1 ⟨rfl, hB1⟩
  by_cases hf1 : z0.length ≤ 100
  case neg =>
    have hli : (100 : Int) < z0.length := by omega
    clear hf1
    go_wp2
    go_ret
    exact ⟨rfl, hB1⟩
  have hli : ¬ (100 : Int) < z0.length := by omega
  have hr1 := r0.later hB1 (Nat.le_refl _)
  have pm := may_any hr1 hb hw
  go_wp2_with fail
  refine pm.mono ?_
  rintro e w2 ⟨rfl, hG2⟩
  have hB2 := hB1.trans (hG2.mono hB1.size)
  have hr2 := hr1.later hG2 (Nat.le_refl _)
  clear pm hG2 hB1 hr1
  by_cases hm : mayE z0 = 0
  case neg =>
    have hmi : ¬ ((mayE z0 : Nat) : Int) = 0 := by omega
    have hmb : (((mayE z0 : Nat) : Int) != 0) = true := by rw [bne_iff_ne]; exact hmi
    generalize mayE z0 = mz at *
    clear hm
    go_wp2
    go_ret
    exact ⟨rfl, hB2⟩
  obtain ⟨en1, ln1, by1, dn1⟩ := law_run (by omega) hm n1 n2
  have p1 := encode_any hr2 hb hw (by omega) (n : Nat) n (.inl rfl) (by omega)
  rw [en1] at p1
  unfold EncOut at p1
  rw [hm]
  generalize runL z0 n = X at *
  clear hm en1
  go_wp2_with fail
  refine p1.mono ?_
  rintro e w3 ⟨g3, c3, m3, rfl, hm3, ho3, hG3⟩
  have hB3 := hB2.trans (hG3.mono hB2.size)
  have hm3' : m3 ≤ 100000 := by omega
  have hq : Reads w3 g3 m3 c3 (X.map (.int .u8)) := Reads.own ho3
  have ho3' : w3.ownsRow w.heap.size 5 1 (.slice g3 m3 c3) m3 (X.map (.int .u8)) := own_mono ho3 hB2.size
  have p2 := open_any hq by1 hm3'
  rw [dn1] at p2
  clear p1 hm3 hG3 hB2 hr2 ho3
  go_wp2_with fail
  refine p2.mono ?_
  rintro e w4 ⟨hG4, r, rfl, ⟨hbad, _⟩ | ⟨_, rb, rfl, hrb, hat⟩⟩
  · exact absurd rfl hbad
  have hB4 := hB3.trans (hG4.mono hB3.size)
  have p3 := open_any (hq.later hG4 (Nat.le_refl _)) by1 hm3'
  rw [dn1] at p3
  have ho4 := own_later ho3' hG4 (Nat.le_refl _)
  have hrw : w.heap.size ≤ rb := Nat.le_trans hB3.size hrb
  have hat : RdAt w4.heap.size w4 rb z0 := hat
  clear p2 hq ho3' hG4 hB3 hrb
  go_wp2_with fail
  refine p3.mono ?_
  rintro e w5 ⟨hG5, r, rfl, ⟨hbad, _⟩ | ⟨_, sb, rfl, hsb, has⟩⟩
  · exact absurd rfl hbad
  have hB5 := hB4.trans (hG5.mono hB4.size)
  have has : RdAt w5.heap.size w5 sb z0 := has
  have ho5 := own_later ho4 hG5 (Nat.le_refl _)
  have hsw : w.heap.size ≤ sb := Nat.le_trans hB4.size hsb
  have hrs : rb < sb := Nat.lt_of_lt_of_le hat.rb_lt hsb
  have hat5 := hat.later hG5
  clear p3 ho4 hG5 hB4 hsb dn1 ln1 by1 hat
  go_wp2_with fail
  go_loopw [14] (fun iv wr => ∃ (i : Nat) (xs : List Value), iv = .int .i64 (i : Nat) ∧ i ≤ m3 ∧ wr.ownsRow w.heap.size 5 1 (.slice g3 m3 c3) m3 xs ∧ RdAt w4.heap.size wr rb z0 ∧ RdAt w5.heap.size wr sb z0 ∧ Below w.heap.size w wr) (fun iv _ => (m3 - intOf iv).toNat)
  case atStart => exact ⟨0, _, rfl, Nat.zero_le _, ho5, hat5, has, hB5⟩
  case round =>
    obtain ⟨i, xs, rfl, hi, hown, hatr, hats, hB⟩ := hrel
    clear ho5 hat5 has hB5
    by_cases him : i < m3
    case pos =>
      have hii : (i : Int) < m3 := by omega
      obtain ⟨ga, rfl⟩ := row_some hown (by omega)
      obtain ⟨cur, hcur⟩ := own_row_type hown
      obtain ⟨vr, hvr⟩ := hatr.lt
      obtain ⟨vs, hvs⟩ := hats.lt
      have hn1 : (some ga : Option Nat) ≠ some rb := fun e => by cases e; rw [hcur] at hvr; simp at hvr
      have hn2 : (some ga : Option Nat) ≠ some sb := fun e => by cases e; rw [hcur] at hvs; simp at hvs
      have hg := grown_set wr ga i (.int .u8 0)
      have hx : ∀ k cur', (some ga : Option Nat) = some k → wr.heap[k]? ≠ some (.cells cur' 44 (0, 0)) := fun k cur' e h => by cases e; rw [hcur] at h; simp at h
      have hatr2 := hatr.kept hg hn1 (fun k cur' e _ => hx k cur' e)
      have hats2 := hats.kept hg hn2 (fun k cur' e _ => hx k cur' e)
      have hga := (hown.lt ga rfl).1
      have hB2 := hB.setCell (p := ⟨ga, i, none⟩) hga (.int .u8 0)
      have hst := (hown.stored i (.int .u8 0)).1
      have hfz := hown.frozenAt i
      have hxl : i < xs.length := by have := hown.1; omega
      have hcl : wr.cell? ⟨ga, i, none⟩ = some xs[i] := by
        rw [hown.cellAt i (by omega)]; exact List.getElem?_eq_getElem hxl
      generalize xs[i] = xi at hcl
      clear hatr hats hB hvr hvs hcur hg hx hn1 hn2 hown
      go_wp2_with fail
      go_roundw
      case rel => exact ⟨i + 1, _, by go_num, by omega, hst, hatr2, hats2, hB2⟩
      case measure => simp [intOf]; omega
    have hii : ¬ (i : Int) < m3 := by omega
    obtain ⟨k, hk, hkl⟩ : ∃ k : Nat, (x2 : Int) % ((z0.length : Int) + 1) = (k : Int) ∧ k ≤ z0.length := ⟨x2 % (z0.length + 1), by
      rw [show ((z0.length : Int) + 1) = ((z0.length + 1 : Nat) : Int) by omega, ← Int.natCast_emod], by have := Nat.mod_lt x2 (show 0 < z0.length + 1 by omega); omega⟩
    have hz1 : ¬ ((z0.length : Int) + 1) = 0 := by omega
    have Hk : Hid _ := hk
    obtain ⟨w6, hw6⟩ : ∃ w6, w6 = wr := ⟨_, rfl⟩
    clear hown him
    go_wp2_with fail
    go_loopw [16] (fun iv wr => ∃ (i : Nat), iv = .int .i64 (i : Nat) ∧ i ≤ k ∧ RdAt w4.heap.size wr rb (z0.drop i) ∧ RdAt w5.heap.size wr sb z0 ∧ Below w.heap.size w wr) (fun iv _ => (k - intOf iv).toNat)
    case atStart => exact ⟨0, rfl, Nat.zero_le _, hatr, hats, hB⟩
    case round =>
      obtain ⟨i2, rfl, hi2, hatr, hats, hB⟩ := hrel
      by_cases hik : i2 < k
      case pos =>
        have hii2 : (i2 : Int) < k := by omega
        have pn := next_any hatr
        go_wp2_with fail
        refine pn.mono ?_
        rintro e w7 hn7
        have he7 := hn7.1
        subst he7
        have hB7 := hn7.below hB hB.size hrw
        have hat7 : RdAt w4.heap.size w7 rb (z0.drop (i2 + 1)) := by
          have := hn7.2.2
          rw [List.tail_drop] at this
          exact this
        obtain ⟨vr, hvr⟩ := hatr.lt
        have hats7 := hats.kept hn7.2.1 (fun e => by cases e; omega) (fun q cur' e _ h => by cases e; rw [hvr] at h; simp at h)
        clear pn hn7 hatr hats hB hvr
        generalize peekV (z0.drop i2) = pv
        go_wp2_with fail
        go_roundw
        case rel => exact ⟨i2 + 1, by go_num, by omega, hat7, hats7, hB7⟩
        case measure => simp [intOf]; omega
      have hii2 : ¬ (i2 : Int) < k := by omega
      have hik2 : i2 = k := by omega
      subst hik2
      clear hik
      go_wp2_with fail
      go_loopw [17] (fun iv wr => ∃ (i : Nat), iv = .int .i64 (i : Nat) ∧ i ≤ z0.length ∧ RdAt w4.heap.size wr rb (z0.drop i2) ∧ RdAt w5.heap.size wr sb (z0.drop i) ∧ Below w.heap.size w wr) (fun iv _ => (z0.length - intOf iv).toNat)
      case atStart => exact ⟨0, rfl, Nat.zero_le _, hatr, hats, hB⟩
      case round =>
        obtain ⟨i3, rfl, hi3, hatr, hats, hB⟩ := hrel
        by_cases hil : i3 < z0.length
        case neg =>
          have hie : i3 = z0.length := by omega
          subst hie
          have hd0 : z0.drop z0.length = [] := List.drop_of_length_le (by omega)
          rw [hd0] at hats
          have pl := left_any hatr
          rw [List.length_drop] at pl
          have ps := left_any hats
          have hsub : (z0.length : Int) - i2 = ((z0.length - i2 : Nat) : Int) := by omega
          have hwr : IntKind.i64.wrap ((z0.length - i2 : Nat) : Int) = ((z0.length - i2 : Nat) : Int) := by simp [IntKind.wrap, IntKind.bits, IntKind.signed]; omega
          generalize hM : z0.length - i2 = M at *
          clear hd0 hatr hats hM hil
          go_wp2_with fail
          refine pl.mono ?_
          rintro e w8 ⟨rfl, rfl⟩
          clear pl
          go_wp2_with fail
          refine ps.mono ?_
          rintro e w9 ⟨rfl, rfl⟩
          go_wp2
          go_ret
          exact ⟨rfl, hB⟩
        have hlt : (i3 : Int) < z0.length := by omega
        obtain ⟨⟨ek, en⟩, he⟩ : ∃ e, z0[i3]? = some e := ⟨_, List.getElem?_eq_getElem hil⟩
        have hdr : z0.drop i3 = (ek, en) :: z0.drop (i3 + 1) := by
          rw [List.drop_eq_getElem_cons hil]
          have := (List.getElem?_eq_some_iff.1 he).2
          rw [this]
        rw [hdr] at hats
        have pn := next_any hats
        obtain ⟨b, off, hao, hbl, hc⟩ := r0.at (by omega)
        obtain ⟨c1, c2⟩ := hc i3 _ he
        clear hdr he hc
        subst hao
        go_wp2_with fail
        refine pn.mono ?_
        rintro e w7 hn7
        have he7 : e = .returned (peekV ((ek, en) :: z0.drop (i3 + 1))) := hn7.1
        subst he7
        have hB7 := hn7.below hB hB.size hsw
        have hat7 : RdAt w5.heap.size w7 sb (z0.drop (i3 + 1)) := hn7.2.2
        obtain ⟨vs, hvs⟩ := hats.lt
        have hatr7 := hatr.kept hn7.2.1 (fun e => by cases e; omega) (fun q cur' e _ h => by cases e; rw [hvs] at h; simp at h)
        obtain ⟨W7, hW7⟩ : ∃ W7, W7 = w7.alloc (.cells #[strV ek, .int .u64 (en : Nat)] 44) := ⟨_, rfl⟩
        have hG7 : Grow w7 W7 := by rw [hW7]; exact (Below.refl _ _).alloc (Nat.le_refl _) _
        have kx : W7.heap[w7.heap.size]? = some (.cells #[strV ek, .int .u64 (en : Nat)] 44 (0, 0)) := by rw [hW7]; exact Array.getElem?_push_size
        have cx := blk2 kx
        have hB8 := hB7.trans (hG7.mono hB7.size)
        have hat8 := hat7.later hG7
        have hatr8 := hatr7.later hG7
        have d1 := (hB8.cell (p := ⟨b, off + i3 * 2, none⟩) hbl).trans c1
        have d2 := (hB8.cell (p := ⟨b, off + i3 * 2 + 1, none⟩) hbl).trans c2
        have hsm := en_diff ek en
        have hdd : ∀ q, Grow W7 (W7.drewN q) := fun q => below_drewN (Below.refl _ _) q
        have hW7' := hW7
        rw [hW7'] at cx d1 d2 hB8 hat8 hatr8 hdd
        unfold peekV
        clear pn hn7 hatr hats hB hvs hB7 hat7 hatr7 hG7 kx hW7' c1 c2 hW7
        go_wp2_with fail
        go_quiet (fail)
        go_wp2
        go_roundw
        case rel => exact ⟨i3 + 1, by go_num, by omega, hatr8.later (hdd _), hat8.later (hdd _), below_drewN hB8 _⟩
        case measure => simp [intOf]; omega

set_option maxRecDepth 100000 in
theorem lifted (os : Os) (started : os.Started) (H : Type) (enc : TypeId × Value → H) :
    ReturnsInHanded {} Try.checked os 12 .any (Rows.readerTwoSpec.pre6 enc Try.prog Try.f12 Rows.readerTwoRow.domain false) (Rows.readerTwoSpec.post enc Try.prog Try.f12 false true false false) := by
  refine returnsInHanded_of_change_sized (C := Try.checked) own started (by kernel_rfl) Try.func12
    (ChangeSpec.witness6 (enc := enc) (C := Try.checked) false ⟨#[], #[.slice none 0 0, .int .u8 0, .int .u8 0], []⟩ 8 (by kernel_rfl) (by kernel_rfl) (by kernel_rfl) (by kernel_rfl)) ?_
  intro W base args ds gs before hval0 hW hcnd hsz0 _
  have hsz : (DataW.weightsEach Try.prog (Try.f12.params.toList ++ Rows.readerTwoSpec.plain.varTypes Try.prog) (ds ++ gs)).all (· ≤ reachBytes) = true := hsz0
  clear hsz0
  have hval : ∀ (j : Nat) t v, Try.f12.params[j]? = some t → args[j]? = some v → Value.okWide Try.prog W .any base t v := hval0
  have hW' := hW
  obtain ⟨p, q, hA0, hV, rfl, hfz, hnd⟩ := hW
  have hA : DataW.TrodAll enc Try.prog W 0 (fun _ => true) true Try.f12.params.toList args.toList ds p := hA0
  rw [Try.params12] at hA hval hsz
  obtain ⟨v0, vs0, d0, ds0, p0, q0, hargs, rfl, rfl, h0, rr0⟩ := trodAll_cons hA
  obtain ⟨v1, vs1, d1, ds1, p1, q1, rfl, rfl, rfl, h1, rr1⟩ := trodAll_cons rr0
  obtain ⟨v2, vs2, d2, ds2, p2, q2, rfl, rfl, rfl, h2, rr2⟩ := trodAll_cons rr1
  obtain ⟨rfl, rfl, rfl⟩ := trodAll_nil rr2
  obtain rfl : args = #[v0, v1, v2] := by cases args; simp_all
  obtain ⟨rfl, rfl⟩ := trodVars_none hV
  obtain ⟨a0, len0, cap0, rfl⟩ := okWide_slice Try.underlying22 (hval 0 22 v0 rfl rfl)
  have k0 := h0
  have lt0 : ∀ x ∈ p0, x.block < W.heap.size := by obtain ⟨m, hm⟩ := k0; exact DataW.trod_lt m _ _ _ hm
  obtain ⟨z0, r0, f0, b0⟩ := entries_in Try.underlying22 Try.underlying44 (by kernel_rfl) rfl rfl (by kernel_rfl) (by kernel_rfl) Try.underlying9 Try.underlying42 (B := 24) (by kernel_rfl) hsz (j := 0) rfl rfl h0
  obtain ⟨a1, rfl, rfl, rfl, w1⟩ := open_int Try.underlying5 (hval 1 5 v1 rfl rfl) h1
  obtain ⟨a2, rfl, rfl, rfl, w2⟩ := open_int Try.underlying5 (hval 2 5 v2 rfl rfl) h2
  clear hA0 hval0
  refine (walk W a0 len0 cap0 z0 r0 f0 b0 a1 w1 a2 w2).mono fun e W' ⟨he, bel⟩ => ?_
  subst he
  exact ⟨_, rfl, _, _, _, [], _, [], hW', trodAll_mk1 (shut_bool Try.underlying4 _), (trodAll_cons_mk (Below.trod laidOut (by kernel_rfl) (of_decide_eq_true (by kernel_rfl)) k0 bel lt0) (trodAll_cons_mk (shut_int Try.underlying5 w1) (trodAll_cons_mk (shut_int Try.underlying5 w2) trodAll_mk0))), rfl, bel.frame _, fun h => by cases h⟩

theorem over : Rows.readerTwoRow.holds Try.pinned (OpenSpec.ofChange Rows.readerTwoSpec) :=
  OpenClaim.holds_of_wide 12 Try.f12 rfl rfl rfl rfl rfl rfl rfl ⟨rfl, rfl, rfl, rfl, rfl⟩ rfl rfl rfl rfl rfl (by kernel_rfl) Try.func12 (by kernel_rfl)
    (of_decide_eq_true (by kernel_rfl)) (by unfold Func.isWrapper; first | (rw [if_pos (by decide +kernel)]; kernel_rfl) | (rw [if_neg (by decide +kernel)]; exact ⟨rfl, rfl⟩))
    (fun os started H enc _ => lifted os started H enc)
end Go.Proofs.Ytabecgeemhkkmaa.readerTwo
namespace Go.Proofs.Ytabecgeemhkkmaa
theorem readerTwo_holds : Rows.ReaderTwoSaid := readerTwo.over
#print axioms readerTwo_holds
end Go.Proofs.Ytabecgeemhkkmaa
