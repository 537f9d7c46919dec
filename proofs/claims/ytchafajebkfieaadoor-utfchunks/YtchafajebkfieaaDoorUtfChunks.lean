/- For every input UtfChunks answers true, and leaves its arguments as they were. Conditions: none. -/
import Derived.Test.YtchafajebkfieaaDoorRows
import Derived.Test.YtchafajebkfieaaDoorCards
import Derived.Test.YtchafajebkfieaaDoorTie
import Derived.Test.YtchafajebkfieaaDoorUtfConv
import Derived.Test.YtchafajebkfieaaDoorUtfCode
import Derived.Test.YtchafajebkfieaaDoorShown04
import Derived.Test.YtchafajebkfieaaDoorRows2
import Derived.Test.YtchafajebkfieaaDoorOpen
import Derived.ProofKit
import Derived.OpenShut
import Derived.ShutString
import Derived.ChangeOld
import Derived.SizedLaws
import Derived.Deep.RegionHeld
import Derived.Deep.QuietTactic
import Derived.BigQuiet
import Derived.Deep.Cut
import Derived.Deep.CutBlock
import Derived.Lay
import Derived.LaidOnce
import Derived.SevenTiedAt
namespace Go.Proofs.YtchafajebkfieaaDoor.utfChunks
open Go.ChangeShapes Go.WideShapes Go.ChangeAt Go.RowKit
open Go.ChangeMaps (open_string shut_string)
set_option linter.unusedVariables false

theorem own : ownKnob Tryd.prog.godebug = none := by kernel_rfl
theorem laidOut : laidOutB Tryd.prog = true := by kernel_rfl

def catU (ls : List (List Int)) : List Int := ls.flatten
theorem cat_next (ls : List (List Int)) (j : Nat) (h : j < ls.length) : catU (ls.take (j + 1)) = catU (ls.take j) ++ ls.getD j [] := by
  have e : ls.take (j + 1) = ls.take j ++ [ls.getD j []] := by rw [List.take_add_one, List.getD, List.getElem?_eq_getElem h]; rfl
  rw [e]; simp [catU]
theorem feed_len (b : List Int) : (feedU b).1.length ≤ b.length := by
  have h1 := feed_all b
  have h2 := all_le b
  have h3 := congrArg List.length h1
  rw [List.length_append] at h3
  omega
theorem feed_few (b : List Int) : (feedU b).2.length ≤ 3 := by
  rcases feed_rest b with h | h
  · rw [h]; simp
  · exact h.2.1
theorem feed_bytes {z : List Int} (h : isBytes z) : isBytes (feedU z).2 := fun x hx => by
  obtain ⟨a, ha⟩ := feed_end z
  exact h x (by rw [ha]; exact List.mem_append_right _ hx)

set_option maxRecDepth 100000 in
set_option maxHeartbeats 4000000 in
theorem walk (w : World) (a0 : Option Addr) (len0 cap0 : Nat) (z0 : List (List Int)) (r0 : ReadsRows w a0 len0 cap0 z0) (f0 : ∀ l ∈ z0, isBytes l) (b0 : len0 * 24 ≤ 140737488351232) (ht : Tabs w) :
    Calls Tryd.prog 4 #[.slice a0 len0 cap0] w fun e w' => e = .returned (.bool true) ∧ Below w.heap.size w w' := by
  have hl0 := r0.length
  have hb0 : len0 ≤ 140737488351232 := by omega
  go_enter Tryd.func4, Tryd.ntmps4
  go_wp2_with fail
  refine (shown_any _).mono ?_
  rintro e wa ⟨rfl, hb1⟩
  have ra := r0.later hb1 (Nat.le_refl _)
  have hta := Tabs.grow hb1 ht
  clear r0
  go_wp2_with fail
  go_loopw [4, 5, 6, 7] (fun va vl vp vi wr => ∃ (j : Nat) (ag : Option Addr) (c n : Nat) (lg : Option Addr) (lc m : Nat) (pg : Option Addr) (d k X : Nat) (bs : List Int), vi = .int .i64 j ∧ va = .slice ag n c ∧ vl = .slice lg m lc ∧ vp = .slice pg k d ∧ j ≤ len0 ∧ j ≤ 40 ∧ n ≤ j * 1000 ∧ isBytes bs ∧
      wr.ownsRow wa.heap.size 5 1 (.slice ag n c) n (bs.map (.int .u8)) ∧ wr.ownsRow wa.heap.size 21 1 (.slice lg m lc) m ((feedU bs).1.map (.int .i32)) ∧ Reads wr pg k d ((feedU bs).2.map (.int .u8)) ∧ TypedAt wr pg k 5 ∧ FreshAt X pg k ∧ Hid (∀ q, (Value.slice ag n c).ownBlock = some q → q < X) ∧ Below wa.heap.size wa wr) (fun _ _ _ vi _ => (40 - intOf vi).toNat)
  case atStart => exact ⟨0, none, 0, 0, none, 0, 0, none, 0, 0, 0, [], rfl, rfl, rfl, rfl, by omega, by omega, by omega, by simp [isBytes], World.ownsRow_nil _ _ _ _, World.ownsRow_nil _ _ _ _, Reads.nil _, TypedAt.nil _ _, FreshAt.nil _, by show ∀ q, _; intro q hq; simp [Value.ownBlock] at hq, Below.refl _ _⟩
  case round =>
    obtain ⟨j, ag, c, n, lg, lc, m, pg, d, k, X, bs, rfl, rfl, rfl, rfl, hj, hj2, hn, b8, hown, hownl, rp, tp, fp, hX, hb⟩ := hrel
    have hsz := hb.size
    have hbl : bs.length = n := by have := hown.1; simpa using this
    have hml : (feedU bs).1.length = m := by have := hownl.1; simpa using this
    have hkl : (feedU bs).2.length = k := by simpa using rp.length
    have hfl := feed_len bs
    have hff := feed_few bs
    have p8 := feed_bytes b8
    by_cases hd : j < len0 ∧ j < 40
    · obtain ⟨hd1, hd2⟩ := hd
      have hd1' : (j : Int) < len0 := by omega
      have hd2' : (j : Int) < 40 := by omega
      obtain ⟨b1, o1, rfl, hbb, hat1⟩ := ra.at (by omega)
      obtain ⟨x1, l1, c1, hc1, rd1⟩ := hat1 j hd1
      have hc1' : wr.cell? ⟨b1, o1 + j, none⟩ = some (.slice x1 l1 c1) := by rw [hb.cell hbb]; exact hc1
      have rd1' := rd1.later hb (Nat.le_refl _)
      have hl1 : (z0.getD j []).length = l1 := by simpa using rd1.length
      have y8 : isBytes (z0.getD j []) := by rw [List.getD, List.getElem?_eq_getElem (by omega)]; exact f0 _ (List.getElem_mem _)
      clear hat1
      generalize z0.getD j [] = x at rd1 rd1' hl1 y8
      by_cases h1000 : l1 ≤ 1000
      case neg =>
        have h1' : (1001 : Int) ≤ l1 := by omega
        have hB := Grow.trans hb1 hb
        clear hl1 h1000 hc1
        go_wp2
        go_ret
        exact ⟨rfl, hB⟩
      have h1' : (l1 : Int) ≤ 1000 := by omega
      have mx : n + l1 + m + 4000 ≤ maxLen := by unfold maxLen; omega
      go_wp2_with (at_builtin; refine wpList_append_grown rfl (.tmp 28) (.tmp 32) 22 rfl wa.heap.size 5 Tryd.infoByte rfl Tryd.underlying22 _ _ _ _ rfl hown _ _ _ _ rfl rd1' (ints_oneCell _ _) (by omega) (by omega) hsz ?_)
      intro ag2 c2 w2 hown2 hg2 hb2
      have hownl2 := own_apart hownl hown (by decide) hg2
      have rp2 := reads_young rp fp hX.out hg2
      have tp2 := typed_young tp fp hX.out hg2
      have hB2 : Below wa.heap.size wa w2 := hb.trans hb2
      have hc2 : w2.cell? ⟨b1, o1 + j, none⟩ = some (.slice x1 l1 c1) := by rw [hB2.cell hbb]; exact hc1
      have rd2 := rd1.later hB2 (Nat.le_refl _)
      have hsz2 := hB2.size
      have hX2 : Hid (∀ q, (Value.slice ag2 (n + l1) c2).ownBlock = some q → q < w2.heap.size) := fun q hq => (hown2.lt q hq).2
      have hFP : Hid (feedU (bs ++ x) = ((feedU bs).1 ++ (feedU ((feedU bs).2 ++ x)).1, (feedU ((feedU bs).2 ++ x)).2)) := feed_parts bs x
      have hPe : Hid ((feedU (bs ++ x)).2 = [] ∨ pendU (feedU (bs ++ x)).2) := feed_rest (bs ++ x)
      have bx8 : isBytes (bs ++ x) := fun z hz => (List.mem_append.1 hz).elim (b8 z) (y8 z)
      have hfl2 := feed_len (bs ++ x)
      have hff2 := feed_few (bs ++ x)
      rw [← List.map_append] at hown2
      clear hb hsz hown hownl rp tp fp hX hg2 hb2 rd1' hc1'
      go_wp2_with fail
      refine (ufeed_any _ _ _ _ _ _ _ _ _ rp2 rd2 p8 y8 (by omega) (by omega)).mono ?_
      rintro e w3 ⟨mg, mc, mm, qg, qd, qk, rfl, hmm, hqk, hownm, rq, tq, fq, hb3⟩
      rcases hF : feedU ((feedU bs).2 ++ x) with ⟨R, Q'⟩
      rw [hF] at hmm hqk hownm rq
      have HFP : Hid (feedU (bs ++ x) = ((feedU bs).1 ++ R, Q')) := by show _ = _; rw [hFP.out, hF]
      rw [HFP.out] at hfl2 hff2
      have hPe' : Hid (Q' = [] ∨ pendU Q') := by have := hPe.out; rw [HFP.out] at this; exact this
      have q8 : isBytes Q' := by have := feed_bytes bx8; rw [HFP.out] at this; exact this
      simp only [List.length_append] at hfl2 hff2
      have hmm' : mm ≤ n + l1 := by simp only at hmm; omega
      have hmt : m + mm ≤ n + l1 := by simp only at hmm; omega
      have hqk3 : (qk : Int) ≤ 3 := by simp only at hqk; omega
      have Hqk : Hid (Q'.length = qk) := hqk.symm
      clear hmm hqk hF hFP hPe rp2 rd2
      have hown3 := own_later hown2 hb3 (Nat.le_refl _)
      have hownl3 := own_later hownl2 hb3 (Nat.le_refl _)
      have rmore := Reads.own hownm
      have hB3 : Below wa.heap.size wa w3 := hB2.trans (hb3.mono hsz2)
      have hsz3 := hB3.size
      clear hownm hown2 hownl2 hb3 hB2 tp2
      go_wp2_with (at_builtin; refine wpList_append_grown rfl (.tmp 43) (.tmp 44) 24 rfl wa.heap.size 21 Tryd.infoRune rfl Tryd.underlying24 _ _ _ _ rfl hownl3 _ _ _ _ rfl rmore (ints_oneCell _ _) (by omega) (by omega) hsz3 ?_)
      intro lg4 lc4 w4 hownl4 hg4 hb4
      have hown4 := own_apart hown3 hownl3 (by decide) hg4
      have rq4 := reads_apart rq tq hownl3 (by decide) hg4
      have tq4 := TypedAt.apart tq hownl3 (by decide) hg4
      have hB4 : Below wa.heap.size wa w4 := hB3.trans hb4
      rw [← List.map_append] at hownl4
      clear hown3 hownl3 rq tq hg4 hb4 hB3 hsz3 rmore hsz2
      have hE : Hid (feedU (bs ++ x) = ((feedU bs).1 ++ R, Q')) := HFP
      clear HFP
      by_cases hq0 : qk = 0
      · subst hq0
        go_wp2
        go_roundw
        case rel => exact ⟨j + 1, ag2, c2, n + l1, lg4, lc4, m + mm, qg, qd, 0, w2.heap.size, bs ++ x, by go_num, rfl, rfl, rfl, by omega, by omega, by omega, bx8, hown4, by rw [hE.out]; exact hownl4, by rw [hE.out]; exact rq4, tq4, fq, hX2, hB4⟩
        case measure => simp [intOf]; omega
      · have hq0' : (0 : Int) < qk := by omega
        have hpd : Hid (decide (pendU Q') = true) := by
          show _ = _
          rw [decide_eq_true_eq]
          rcases hPe'.out with h | h
          · have := Hqk.out; rw [h] at this; simp at this; omega
          · exact h
        clear hq0 hPe'
        go_wp2_with fail
        refine (upending_any _ _ _ _ _ rq4 q8 (by omega)).mono ?_
        rintro e w5 ⟨rfl, hb5⟩
        rw [hpd.out]
        have hown5 := own_later hown4 hb5 (Nat.le_refl _)
        have hownl5 := own_later hownl4 hb5 (Nat.le_refl _)
        have rq5 := rq4.later hb5 (Nat.le_refl _)
        have tq5 := tq4.later hb5 (Nat.le_refl _)
        have hB5 : Below wa.heap.size wa w5 := hB4.trans (hb5.mono hB4.size)
        clear hown4 hownl4 rq4 tq4 hb5 hB4
        go_wp2
        go_roundw
        case rel => exact ⟨j + 1, ag2, c2, n + l1, lg4, lc4, m + mm, qg, qd, qk, w2.heap.size, bs ++ x, by go_num, rfl, rfl, rfl, by omega, by omega, by omega, bx8, hown5, by rw [hE.out]; exact hownl5, by rw [hE.out]; exact rq5, tq5, fq, hX2, hB5⟩
        case measure => simp [intOf]; omega
    · have hcase : j = len0 ∨ (j = 40 ∧ (40 : Int) < len0) := by omega
      have hA : Hid (allU bs = (feedU bs).1 ++ allU (feedU bs).2) := feed_all bs
      have hPl := all_le (feedU bs).2
      have hAl := all_le bs
      have mx : m + 4000 ≤ maxLen := by unfold maxLen; omega
      have hB := Grow.trans hb1 hb
      clear hd tp fp hX
      rcases hcase with hjj | ⟨hjj, hjlt⟩
      all_goals
        subst hjj
        go_wp2_with fail
        refine (uend_any _ _ _ _ _ rp p8 (by omega)).mono ?_
        rintro e w5 ⟨eg, ec, em, rfl, hem, rend, hb5⟩
        have hown5 := own_later hown hb5 (Nat.le_refl _)
        have hownl5 := own_later hownl hb5 (Nat.le_refl _)
        have hB5 := Grow.trans hB hb5
        have hs5 : wa.heap.size ≤ w5.heap.size := Nat.le_trans hsz hb5.size
        have hem' : em ≤ 3 := by omega
        clear hem
        go_wp2_with (at_builtin; refine wpList_append_grown rfl (.tmp 60) (.tmp 62) 24 rfl wa.heap.size 21 Tryd.infoRune rfl Tryd.underlying24 _ _ _ _ rfl hownl5 _ _ _ _ rfl rend (ints_oneCell _ _) (by omega) (by omega) hs5 ?_)
        intro lg6 lc6 w6 hownl6 hg6 hb6
        have hown6 := own_apart hown5 hownl5 (by decide) hg6
        have hB6 : Below w.heap.size w w6 := Below.trans (B := w.heap.size) hB5 (hb6.mono hb1.size)
        rw [← List.map_append, ← hA.out] at hownl6
        have rl6 := Reads.own hownl6
        have rall6 := Reads.own hown6
        clear hown5 hownl5 hg6 hb6 hownl6 hown6 hB5 hs5 rend hb5
        go_wp2_with fail
        refine (uall_any _ _ _ _ _ rall6 b8 (by omega)).mono ?_
        rintro e w7 ⟨tg, tc, tm, rfl, htm, rt, hb7⟩
        clear htm
        have rl7 := rl6.later hb7 (Nat.le_refl _)
        have rall7 := rall6.later hb7 (Nat.le_refl _)
        have hB7 := Grow.trans hB6 hb7
        clear rl6 rall6 hb7 hB6
        go_wp2_with fail
        refine (same_any _ _ _ _ _ _ _ _ _ rl7 rt).mono ?_
        rintro e w8 ⟨rfl, q8', rfl⟩
        simp only [decide_true]
        have hgd := grow_drewN w7 q8'
        generalize w7.drewN q8' = w8 at hgd
        have rl8 := rl7.later hgd (Nat.le_refl _)
        have rall8 := rall7.later hgd (Nat.le_refl _)
        have hB8 := Grow.trans hB7 hgd
        have v1 := conv_of Tryd.underlying22 Tryd.underlying5 Tryd.underlying9 rall8
        obtain ⟨cq, w9, hc9, r9, hb9⟩ := conv_to_runes (P := Tryd.prog) (s := 9) (t := 24) Tryd.underlying9 Tryd.underlying24 Tryd.underlying21 bs b8 (by omega) w8
        have rl9 := rl8.later hb9 (Nat.le_refl _)
        have hB9 := Grow.trans hB8 hb9
        clear rl7 rall7 rall8 hgd hB7 rt rl8 hB8
        go_wp2_with fail
        refine (same_any _ _ _ _ _ _ _ _ _ rl9 r9).mono ?_
        rintro e w10 ⟨rfl, q10, rfl⟩
        simp only [decide_true]
        have hB10 := Grow.trans hB9 (grow_drewN w9 q10)
        clear v1 hc9 rl9 r9 hB9
        go_wp2
        go_ret
        exact ⟨rfl, hB10⟩

set_option maxRecDepth 100000 in
theorem lifted (os : Os) (started : os.Started) (H : Type) (enc : TypeId × Value → H) :
    ReturnsInHanded {} Tryd.checked os 4 .any (fun w args => (Rows.utfChunksSpec.pre enc Tryd.prog Tryd.f4 [] false w args ∧ laidMetH Tryd.prog tabLaid w) ∧ sizedMet enc Tryd.prog Tryd.f4 (OpenSpec.ofChange Rows.utfChunksSpec) false w args) (Rows.utfChunksSpec.post enc Tryd.prog Tryd.f4 false true false false) := by
  refine returnsInHanded_of_change_and (C := Tryd.checked) (X := fun w _ => laidMetH Tryd.prog tabLaid w) (fun _ _ _ hh h => h.of_heap hh) own started (by kernel_rfl) Tryd.func4
    (ChangeSpec.witness_shaped (enc := enc) (C := Tryd.checked) (os := os) (X := fun w _ => laidMetH Tryd.prog tabLaid w) false (World.laidAll Tryd.prog os tabLaid) #[.slice none 0 0] 8 (World.laidAll_os _ _ _)
      (World.shaped_of_ZipB (by kernel_rfl) (by kernel_rfl)) (by kernel_rfl) (by kernel_rfl) (by kernel_rfl)
      (by rw [MakeChecks.laidMetH_plain _ _ _ (by kernel_rfl)]; exact laidMet_laidAll _ (by kernel_rfl) (by kernel_rfl))) ?_
  intro W base args ds gs before hval0 hW hcnd hsz0 hL _
  rw [MakeChecks.laidMetH_plain _ _ _ (by kernel_rfl)] at hL
  have ht : Tabs W := tabs_of hL
  clear hL
  have hsz : (DataW.weightsEach Tryd.prog (Tryd.f4.params.toList ++ Rows.utfChunksSpec.plain.varTypes Tryd.prog) (ds ++ gs)).all (· ≤ reachBytes) = true := hsz0
  clear hsz0
  have hval : ∀ (j : Nat) t v, Tryd.f4.params[j]? = some t → args[j]? = some v → Value.okWide Tryd.prog W .any base t v := hval0
  have hW' := hW
  obtain ⟨p, q, hA0, hV, rfl, hfz, hnd⟩ := hW
  have hA : DataW.TrodAll enc Tryd.prog W 0 (fun _ => true) true Tryd.f4.params.toList args.toList ds p := hA0
  rw [Tryd.params4] at hA hval hsz
  obtain ⟨v0, vs0, d0, ds0, p0, q0, hargs, rfl, rfl, h0, rr0⟩ := trodAll_cons hA
  obtain ⟨rfl, rfl, rfl⟩ := trodAll_nil rr0
  obtain rfl : args = #[v0] := by cases args; simp_all
  obtain ⟨rfl, rfl⟩ := trodVars_none hV
  obtain ⟨a0, len0, cap0, rfl⟩ := okWide_slice Tryd.underlying31 (hval 0 31 v0 rfl rfl)
  have k0 := h0
  have lt0 : ∀ x ∈ p0, x.block < W.heap.size := by obtain ⟨m, hm⟩ := k0; exact DataW.trod_lt m _ _ _ hm
  obtain ⟨z0, r0, f0, b0⟩ := rows_in Tryd.underlying31 Tryd.underlying22 Tryd.underlying5 (by kernel_rfl) (by kernel_rfl) (B := 24) (by kernel_rfl) hsz (j := 0) rfl rfl h0
  clear hA0 hval0
  refine (walk W a0 len0 cap0 z0 r0 f0 b0 ht).mono fun e W' ⟨he, bel⟩ => ?_
  subst he
  exact ⟨_, rfl, _, _, _, [], _, [], hW', trodAll_mk1 (shut_bool Tryd.underlying4 _), (trodAll_cons_mk (Below.trod laidOut (by kernel_rfl) (of_decide_eq_true (by kernel_rfl)) k0 bel lt0) trodAll_mk0), rfl, bel.frame _, fun h => by cases h⟩

theorem over : Rows.utfChunksRow.holds Tryd.pinned (OpenSpec.ofChange Rows.utfChunksSpec) :=
  OpenClaim.holds_of_wide 4 Tryd.f4 rfl rfl rfl rfl rfl rfl rfl ⟨rfl, rfl, rfl, rfl, rfl⟩ rfl rfl rfl rfl rfl (by kernel_rfl) Tryd.func4 (by kernel_rfl)
    (of_decide_eq_true (by kernel_rfl)) (by unfold Func.isWrapper; first | (rw [if_pos (by decide +kernel)]; kernel_rfl) | (rw [if_neg (by decide +kernel)]; exact ⟨rfl, rfl⟩))
    (fun os started H enc _ => lifted os started H enc)
end Go.Proofs.YtchafajebkfieaaDoor.utfChunks
namespace Go.Proofs.YtchafajebkfieaaDoor
theorem utfChunks_holds : Rows.UtfChunksCardSaid :=
  Claim7.holds_tied_plain_at .later [] [.data, .pinned] true (true, "34594bd829618d443fc004d0488f0d7e5db30fb524e68a9fca37628f9cfa13e2") false utfChunks.over (fun _ h => by cases h) (by kernel_rfl) (fun _ h => by cases h) utfChunks_row_tie rfl ⟨rfl, rfl⟩ (by kernel_rfl) rfl
    (fun f fn hf hfn => by
      obtain rfl : f = 4 := Option.some.inj ((show Tryd.prog.funcNamed "mantelet/manteletlaw04.UtfChunks" = some 4 by kernel_rfl).symm.trans hf) |>.symm
      obtain rfl : fn = Tryd.f4 := (Option.some.inj (Tryd.func4.symm.trans hfn)).symm
      exact ⟨by kernel_rfl, fun j t ht => by
        rw [Tryd.params4] at ht
        have hm : t ∈ [31] := by simpa using Array.mem_of_getElem? ht
        have hall : ([31].all fun u => !Tryd.prog.wantsStandIn u) = true := by kernel_rfl
        exact (show Tryd.prog.wantsStandIn t = false by simpa using List.all_eq_true.1 hall t hm)⟩)
    (by kernel_rfl)
#print axioms utfChunks_holds
end Go.Proofs.YtchafajebkfieaaDoor
