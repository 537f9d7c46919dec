/- The document's own Runs. -/
import Derived.Test.YtknfjonaepggnaaRef11
import Derived.Test.YtknfjonaepggnaaRef09Dec
import Derived.Test.YtknfjonaepggnaaLoserRunsM
namespace Go.Proofs.Ytknfjonaepggnaa
open Go.RowKit
set_option linter.unusedVariables false
set_option linter.unusedSimpArgs false

set_option maxRecDepth 100000 in
set_option maxHeartbeats 8000000 in
theorem rruns_any {w : World} {ao : Option Addr} {len cap : Nat} {rs : List (List Int)} (h : ReadsRows w ao len cap rs) (h8 : ∀ r ∈ rs, isBytes r) (hr1 : ∀ r ∈ rs, r.length ≤ 100000000) (ht : (decAll rs).flatten.length ≤ 400000) (hl : len ≤ 100000)
    (sz : Int) (s : Nat) (hs : sz = s ∨ (sz < 0 ∧ s = 0)) (hsz : sz ≤ 9223372036854775807) :
    Calls Try.prog 19 #[.slice ao len cap, .int .i64 sz] w fun e w' => EncOut w (runsM rs s) e w' := by
  have hlx := h.length
  have Hlx : Hid _ := hlx
  clear hlx
  go_enter Try.func19, Try.ntmps19
  go_wp2_with fail
  go_loopw [6, 7] (fun v i wr => ∃ (j : Nat) (ag : Option Addr) (cc : Nat) (vs : List Value), v = .slice ag j cc ∧ i = .int .i64 (j : Nat) ∧ j ≤ len ∧ Hid (∀ r ∈ rs.take j, (decL r).2 = 0) ∧ Hid (wr.ownsRow w.heap.size 49 1 (.slice ag j cc) j vs) ∧ Hid (ListsT wr vs (decAll (rs.take j))) ∧ Hid (Below w.heap.size w wr)) (fun _ i _ => (len - intOf i).toNat)
  case atStart => exact ⟨0, none, 0, [], rfl, rfl, Nat.zero_le _, (show ∀ r ∈ rs.take 0, (decL r).2 = 0 from fun r hr => by simp at hr), World.ownsRow_nil _ _ _ _, ListsT.nil _, Below.refl _ _⟩
  case round =>
    obtain ⟨j, ag, cc, vs, rfl, rfl, hj, hA, hrow, hL, hB⟩ := hrel
    have hsz0 := hB.out.size
    by_cases hjl : j < len
    · have hji : (j : Int) < len := by omega
      obtain ⟨b, off, rfl, hbl, hc⟩ := h.at (by omega)
      obtain ⟨ai, li, ci, c0, hr0⟩ := hc j hjl
      obtain ⟨r, hr⟩ : ∃ r, rs[j]? = some r := ⟨_, List.getElem?_eq_getElem (by rw [Hlx.out]; exact hjl)⟩
      have hrm := List.mem_of_getElem? hr
      have hre : rs.getD j [] = r := by simp [List.getD_eq_getElem?_getD, hr]
      rw [hre] at hr0
      have c1 : wr.cell? ⟨b, off + j, none⟩ = some (.slice ai li ci) := (hB.out.cell (p := ⟨b, off + j, none⟩) hbl).trans c0
      have hli : li ≤ 100000000 := by have := hr0.length; simp at this; have := hr1 r hrm; omega
      have pd := rdecode_any (hr0.later hB.out (Nat.le_refl _)) (h8 r hrm) hli
      unfold DecOut at pd
      have Hr : Hid _ := hr
      have Hrm : Hid _ := hrm
      clear hc c0 hr hrm hre hr0 hli
      by_cases hd : (decL r).2 = 0
      case neg =>
        have hE : Hid (runsM rs s = ([], 2)) := runs_bad Hrm.out hd
        rw [dec_two hd] at pd
        clear hd hL hrow hA
        go_wp2_with fail
        refine pd.mono ?_
        rintro e w1 ⟨ag1, c2, m, rfl, hm, ho, hG⟩
        have HB2 : Hid _ := hB.out.trans (hG.mono hsz0)
        clear pd hm ho hG c1
        go_wp2
        go_ret2
        rw [hE.out]
        exact EncOut.bad HB2.out
      rw [hd] at pd
      have hA2 : Hid (∀ x ∈ rs.take (j + 1), (decL x).2 = 0) := by
        show ∀ x ∈ _, _
        intro x hx
        rw [List.take_add_one, Hr.out] at hx
        rcases List.mem_append.1 hx with hx | hx
        · exact hA.out x hx
        · simp at hx; subst hx; exact hd
      have hnx : Hid (decAll (rs.take (j + 1)) = decAll (rs.take j) ++ [(decL r).1]) := decAll_next Hr.out
      generalize (decL r).1 = l at *
      clear hA hd
      go_wp2_with fail
      refine pd.mono ?_
      rintro e w1 ⟨ag1, c2, m, rfl, hm, ho, hG⟩
      have hrow1 := own_later hrow.out hG (Nat.le_refl _)
      have hL1 := hL.out.grow hG
      have hG2 : Grow w1 (w1.alloc (.cells #[.slice ag1 m c2] 49)) := (Below.refl _ _).alloc (Nat.le_refl _) _
      have hL2 := (hL1.snoc ho).grow hG2
      have hB2 := hB.out.trans (hG.mono hsz0)
      have hone1 : ∀ u ∈ [Value.slice ag1 m c2], u.oneCell' = true := fun u hu => by simp at hu; subst hu; rfl
      have hm1 : j + 1 ≤ maxLen := by unfold maxLen; omega
      have hm2 : (j + 1) * 24 ≤ 140737488355328 := by omega
      have hrow2 := own_later hrow1 hG2 (Nat.le_refl _)
      have hty : ∀ k, (Value.slice ag j cc).ownBlock = some k → ∃ cur t, t ≠ 64 ∧ (w1.alloc (.cells #[.slice ag1 m c2] 49)).heap[k]? = some (.cells cur t (0, 0)) := fun k hk => by
        obtain ⟨cur, hc⟩ := own1_type hrow2 hk
        exact ⟨cur, _, by decide, hc⟩
      have HB3 : Hid _ := hB2.trans (hG2.mono hB2.size)
      have HL2 : Hid _ := hL2
      have Hty : Hid _ := hty
      have hb3 := hB2.size
      clear pd hm ho hG hrow hL hrow1 hL1 hB2 hL2 hty c1 hG2
      go_wp2_with (at_builtin; refine wpList_append_grown rfl _ _ 45 rfl w.heap.size 49 Try.infoEs rfl Try.underlying45 _ _ _ _ rfl hrow2 _ _ _ _ rfl (reads_one _ _ _) hone1 hm1 hm2 (Nat.le_trans hb3 (by simp)) ?_; intro ag2 c3 w4 hr4 hg4 hb4)
      have hL4 : Hid (ListsT w4 (vs ++ [.slice ag1 m c2]) (decAll (rs.take (j + 1)))) := by rw [hnx.out]; exact HL2.out.row hg4 Hty.out
      have HB4 : Hid _ := HB3.out.trans hb4
      have Hr4 : Hid _ := hr4
      clear hr4 hg4 hb4 HL2 Hty hrow2 HB3
      go_wp2
      go_roundw
      case rel => exact ⟨j + 1, ag2, c3, _, rfl, by go_num, by omega, hA2, Hr4, hL4, HB4⟩
      case measure => simp [intOf]; omega
    · have hje : j = len := by omega
      subst hje
      have hni : ¬ (j : Int) < j := by omega
      have htk : rs.take j = rs := List.take_of_length_le (by rw [Hlx.out]; exact Nat.le_refl _)
      rw [htk] at hA hL
      have hE : Hid (runsM rs s = if (mergeL (decAll rs)).2 = 0 then encR (mergeL (decAll rs)).1 s else ([], (mergeL (decAll rs)).2)) := runs_ok hA.out
      have pm := rmerge_any (Reads.own hrow.out) hL.out.vals dec_small (by omega)
      unfold MergeOut at pm
      obtain ⟨hma, hmb⟩ := merge_all (decAll rs)
      unfold totL at hmb
      have hml : (mergeL (decAll rs)).1.length ≤ 100000000000 := by omega
      clear hA hL hrow htk hjl hj hmb
      generalize mergeL (decAll rs) = q at *
      obtain ⟨y, d⟩ := q
      simp only at pm hma hml
      have Hma : Hid _ := hma
      clear hma
      go_wp2_with fail
      refine pm.mono ?_
      rintro e w1 ⟨v1, rfl, ho, hG⟩
      obtain ⟨a1, c1, rfl⟩ := own2_slice ho
      have hB2 := hB.out.trans (hG.mono hsz0)
      by_cases hd : d = 0
      case neg =>
        have hE2 : Hid (runsM rs s = ([], d)) := by show _ = _; rw [hE.out, if_neg hd]
        have hdi : ¬ (d : Int) = 0 := by omega
        clear hd pm ho hG hE
        go_wp2
        go_ret2
        rw [hE2.out]
        exact EncOut.bad hB2
      subst hd
      have hE2 : Hid (runsM rs s = encR y s) := by show _ = _; rw [hE.out]; rfl
      have pe := rencode_any (ReadsE.own ho) (fun e he => (may_small Hma.out e he).2) (fun e he => by have := (may_small Hma.out e he).1; omega) hml sz s hs hsz
      unfold EncOut at pe
      have hs2 := hB2.size
      clear pm ho hG hE
      go_wp2_with fail
      refine pe.mono ?_
      rintro e w2 ⟨a2, c2, m2, rfl, hm2, ho2, hG2⟩
      have hB3 := hB2.trans (hG2.mono hs2)
      have Hm2 : Hid _ := hm2
      have Ho2 : Hid _ := ho2
      clear pe hm2 ho2 hG2
      go_wp2
      go_ret2
      rw [hE2.out]
      exact ⟨a2, c2, m2, rfl, Hm2.out, own_mono Ho2.out hs2, hB3⟩
#print axioms rruns_any
end Go.Proofs.Ytknfjonaepggnaa
