/- The landed Merge of passes: all passes but the last one by pass, the last one by loser.Runs. -/
import Derived.Test.YtknfjonaepggnaaPassesOne
namespace Go.Proofs.Ytknfjonaepggnaa
open Go.RowKit
set_option linter.unusedVariables false
set_option linter.unusedSimpArgs false

theorem runsM_err {rs : List (List Int)} {s : Nat} (hl : rs.length ≤ 256) (h : (runsM rs s).2 ≠ 0) : (runsM rs s).1 = [] := by
  unfold runsM at h ⊢
  by_cases ha : rs.all (fun r => decide ((decL r).2 = 0)) = true
  · rw [if_pos ha] at h ⊢
    by_cases hm : (mergeL (decAll rs)).2 = 0
    · rw [if_pos hm] at h ⊢
      unfold encR at h ⊢
      by_cases h1 : 1 ≤ s ∧ s ≤ 255
      · rw [if_pos h1] at h ⊢
        by_cases h2 : mayE (mergeL (decAll rs)).1 = 0
        · rw [if_pos h2] at h; exact absurd rfl h
        · rw [if_neg h2]
      · rw [if_neg h1]
    · rw [if_neg hm]
  · rw [if_neg ha]
/-- The last pass, of one group. -/
theorem pass_last {F : Nat} {rs : List (List Int)} {k s : Nat} (hl : rs.length ≤ 256) (h2 : 2 ≤ rs.length) (hk : 2 ≤ k) (h : upN rs.length k = 1) : passM (F + 1) rs k s = runsM rs s := by
  have hle : rs.length ≤ k := by have := (ups_le (n := rs.length) (k := k) (t := 1) (by omega)).1 (by omega); omega
  have hp : partAt rs k 0 = rs := by unfold partAt; rw [Nat.zero_mul, List.drop_zero, List.take_of_length_le hle]
  rw [passM_next (by omega), h]
  have e1 : partsM rs k s 1 = if (runsM rs s).2 = 0 then ([(runsM rs s).1], 0) else ([], (runsM rs s).2) := by
    show (if (partsM rs k s 0).2 = 0 then (if (runsM (partAt rs k 0) s).2 = 0 then ((partsM rs k s 0).1 ++ [(runsM (partAt rs k 0) s).1], 0) else ([], (runsM (partAt rs k 0) s).2)) else partsM rs k s 0) = _
    rw [hp, if_pos (show (partsM rs k s 0).2 = 0 from rfl)]; rfl
  rw [e1]
  by_cases hz : (runsM rs s).2 = 0
  · rw [if_pos hz]
    show ((runsM rs s).1, 0) = _
    rw [← hz]
  · rw [if_neg hz, if_neg hz]
    show ([], (runsM rs s).2) = _
    rw [← runsM_err hl hz]
#print axioms pass_last

set_option maxRecDepth 100000 in
set_option maxHeartbeats 4000000 in
theorem pmerge_nat (k s F : Nat) (k1 : 2 ≤ k) (k2 : k ≤ 8) (s1 : 1 ≤ s) (s2 : s ≤ 255) (rs : List (List Int)) (w : World) (ao : Option Addr) (len cap : Nat) (hF : rs.length ≤ F) (h256 : rs.length ≤ 256) (hlen : 2 ≤ len) (h : ReadsRows w ao len cap rs) (hb : ∀ r ∈ rs, isBytes r ∧ r.length ≤ 100000000) (ht : totL (decAll rs) ≤ 200000) :
    Calls Try.prog 14 #[.slice ao len cap, .int .i64 (k : Nat), .int .i64 (s : Nat)] w fun e w' => EncOut w (passM F rs k s) e w' := by
  have hlx := h.length
  have i3 : ¬ (s : Int) < 1 := by omega
  have i4 : ¬ (255 : Int) < s := by omega
  have i5 : ¬ (256 : Int) < len := by omega
  have pm := fmay_yes k w (by omega) (by omega)
  have pp := passes_any (len : Nat) (k : Nat) w (by omega) (by omega) (by omega) (by omega)
  have hz : passesZ (len : Nat) (k : Nat) = passesN len k := by unfold passesZ; rw [nat_fan (by omega) (by omega) k1 k2]; simp
  rw [hz] at pp
  have hp1 : passesN len k ≠ 0 := fun h0 => by have := (passes_zero (n := len) k1 (by omega)).1 h0; omega
  have h16 := passes_16 (n := len) k1 (by omega) (by omega)
  obtain ⟨q, hq⟩ : ∃ q, passesN len k = q + 1 := ⟨passesN len k - 1, by omega⟩
  rw [hq] at pp h16
  have e1 : ((q + 1 : Nat) : Int) - 1 = (q : Nat) := by omega
  have Hq : Hid (passesN len k + 0 = q + 1) := hq
  have H0 : Hid (ReadsRows w ao len cap rs) := h
  have Hb0 : Hid ((∀ r ∈ rs, isBytes r ∧ r.length ≤ 100000000) ∧ totL (decAll rs) ≤ 200000) := ⟨hb, ht⟩
  have hl256 : len ≤ 256 := by omega
  have HF : Hid (len ≤ F) := by show _ ≤ _; omega
  clear hlx h hb ht hF h256 hz hp1 hq
  obtain ⟨Y, hY⟩ : ∃ Y, Y = passM F rs k s := ⟨_, rfl⟩
  rw [← hY]
  have HY : Hid _ := hY
  clear hY
  obtain ⟨qq, hqq⟩ : ∃ qq : Int, qq = ((q + 1 : Nat) : Int) := ⟨_, rfl⟩
  rw [← hqq] at pp e1
  have hqb : qq ≤ 17 := by omega
  have hqc : 1 ≤ qq := by omega
  clear hqq
  go_enter Try.func14, Try.ntmps14
  go_wp2_with fail
  refine pm.mono ?_
  rintro e wa ⟨rfl, rfl⟩
  clear pm
  go_wp2_with fail
  refine pp.mono ?_
  rintro e w1 ⟨rfl, hG1⟩
  have HG1 : Hid _ := hG1
  have H1 : Hid _ := H0.out.later hG1 (Nat.le_refl _)
  clear pp hG1 H0
  go_wp2_with fail
  go_loopw [8, 30] (fun v i wr => ∃ (t : Nat) (rs' : List (List Int)) (F' : Nat) (ao' : Option Addr) (len' cap' : Nat), v = .slice ao' len' cap' ∧ i = .int .i64 (t : Nat) ∧ t ≤ q ∧ 2 ≤ len' ∧ len' ≤ 256 ∧ Hid (ReadsRows wr ao' len' cap' rs') ∧
    Hid ((∀ r ∈ rs', isBytes r ∧ r.length ≤ 100000000) ∧ totL (decAll rs') ≤ 200000) ∧ Hid (Y = passM F' rs' k s ∧ len' ≤ F') ∧ Hid (passesN len' k + t = q + 1) ∧ Hid (Below w.heap.size w wr)) (fun _ i _ => (q - intOf i).toNat)
  case atStart => exact ⟨0, rs, F, ao, len, cap, rfl, rfl, Nat.zero_le _, hlen, hl256, H1, Hb0, ⟨HY.out, HF.out⟩, Hq.out, HG1.out⟩
  case round =>
    obtain ⟨t, rs', F', ao', len', cap', rfl, rfl, htq, hl1, hl2, hR, hfit, hY2, hpN, hB⟩ := hrel
    clear H1 Hb0 HF HY i5 hlen hl256 Hq HG1
    have hR2 := hR.out
    have hlx := hR2.length
    obtain ⟨hY3, hF3⟩ := hY2.out
    obtain ⟨F2, rfl⟩ : ∃ F2, F' = F2 + 1 := ⟨F' - 1, by omega⟩
    have hN := passes_next (n := len') k1 hl1
    have hup := ups_pos (n := len') (k := k) (by omega) (by omega)
    have hul := ups_lt (n := len') k1 hl1
    have hpo := hpN.out
    by_cases htm : t < q
    · have hti : (t : Int) < q := by omega
      have hu2 : upN len' k ≠ 1 := fun h1 => by rw [h1, passes_one] at hN; omega
      have pg := ppass_any k s k1 k2 s1 s2 rs' wr ao' len' cap' (by omega) hl2 hR2 hfit.out.1 hfit.out.2
      have hE := passM_next (F := F2) (k := k) (s := s) (rs := rs') (by omega)
      rw [hlx] at hE
      have hstp := fun h => parts_fit (k := k) (m := upN len' k) s1 s2 hfit.out.2 h
      have hpl := partsM_len rs' k s (upN len' k)
      obtain ⟨u, hu⟩ : ∃ u, u = upN len' k := ⟨_, rfl⟩
      rw [← hu] at pg hul hup hE hu2 hN hstp hpl
      obtain ⟨⟨ps, d⟩, hps⟩ : ∃ x, x = partsM rs' k s u := ⟨_, rfl⟩
      rw [← hps] at pg hE hstp hpl
      simp only at hE hstp hpl
      rw [hE] at hY3
      unfold PassOut at pg
      simp only at pg
      have HY3 : Hid _ := hY3
      have Hst : Hid _ := hstp
      have Hpl : Hid _ := hpl
      have Hn : Hid (passesN u k + (t + 1) = q + 1) := by show _ = _; omega
      have Hb : Hid _ := hB.out
      have hu3 : 2 ≤ u := by omega
      have hu4 : u ≤ 256 := by omega
      have hF4 : u ≤ F2 := by omega
      clear hE hY3 hY2 hpN hB hR hR2 hlx hN hup hul hpo hu hps hstp hpl hfit hF3 hu2 htm
      go_wp2_with fail
      refine pg.mono ?_
      rintro e w2 ⟨an, cc, j, vs, rfl, hj, ho, hro, hG⟩
      clear pg
      have HBz : Hid (Below w.heap.size w w2) := Hb.out.trans (hG.mono Hb.out.size)
      by_cases hd : d = 0
      · subst hd
        have hju : j = u := by rw [hj]; exact Hpl.out rfl
        subst hju
        have HR : Hid (ReadsRows w2 an j cc ps) := ReadsRows.of (Reads.own ho) hro.vals
        have HY4 : Hid (Y = passM F2 ps k s ∧ j ≤ F2) := ⟨by rw [HY3.out, if_pos rfl, if_neg (by omega)], hF4⟩
        have Hfit : Hid _ := Hst.out rfl
        clear hj ho hro hG HY3 Hst Hpl Hb hF4
        go_wp2
        go_roundw
        case rel => exact ⟨t + 1, ps, F2, an, j, cc, rfl, by go_num, by omega, hu3, hu4, HR, Hfit, HY4, Hn, HBz⟩
        case measure => simp [intOf]; omega
      · have hdi : ¬ (d : Int) = 0 := by omega
        have HY4 : Hid (Y = ([], d)) := by show _ = _; rw [HY3.out, if_neg hd]
        clear hj ho hro hG HY3 Hst Hpl Hb hF4 hd
        go_wp2
        go_ret2
        rw [HY4.out]
        exact EncOut.bad HBz.out
    · have hti : ¬ (t : Int) < q := by omega
      have hu1 : upN len' k = 1 := (passes_zero k1 hup).1 (by omega)
      have hE := pass_last (F := F2) (rs := rs') (k := k) (s := s) (by omega) (by omega) k1 (by rw [hlx]; exact hu1)
      rw [hE] at hY3
      have pr := runs_any hR2 (fun r hr => (hfit.out.1 r hr).1) (fun r hr => (hfit.out.1 r hr).2) (by have := hfit.out.2; unfold totL at this; omega) (by omega) (s : Nat) s (.inl rfl) (by omega)
      rw [← hY3] at pr
      unfold EncOut at pr
      have Hb : Hid _ := hB.out
      clear hE hY3 hY2 hpN hB hR hR2 hlx hN hup hul hpo hfit hF3 hu1 htm
      go_wp2_with fail
      refine pr.mono ?_
      rintro e w2 ⟨ag, c, m, rfl, hm, ho, hG⟩
      have Hm : Hid _ := hm
      have Ho : Hid _ := own_mono ho Hb.out.size
      have HBz : Hid (Below w.heap.size w w2) := Hb.out.trans (hG.mono Hb.out.size)
      clear pr hm ho hG Hb
      go_wp2
      go_ret2
      exact ⟨ag, c, m, rfl, Hm.out, Ho.out, HBz.out⟩
#print axioms pmerge_nat
set_option maxRecDepth 100000 in
set_option maxHeartbeats 4000000 in
theorem pmerge_short (k s : Nat) (k1 : 2 ≤ k) (k2 : k ≤ 8) (s1 : 1 ≤ s) (s2 : s ≤ 255) (rs : List (List Int)) (w : World) (ao : Option Addr) (len cap : Nat) (h2 : len < 2) (h : ReadsRows w ao len cap rs) (hb : ∀ r ∈ rs, isBytes r ∧ r.length ≤ 100000000) (ht : totL (decAll rs) ≤ 200000) :
    Calls Try.prog 14 #[.slice ao len cap, .int .i64 (k : Nat), .int .i64 (s : Nat)] w fun e w' => EncOut w (runsM rs s) e w' := by
  have i3 : ¬ (s : Int) < 1 := by omega
  have i4 : ¬ (255 : Int) < s := by omega
  have i5 : ¬ (256 : Int) < len := by omega
  have pm := fmay_yes k w (by omega) (by omega)
  have pp := passes_any (len : Nat) (k : Nat) w (by omega) (by omega) (by omega) (by omega)
  have hz : passesZ (len : Nat) (k : Nat) = 0 := by
    unfold passesZ
    by_cases h1 : len = 1
    · subst h1; split
      · exact passes_one _
      · rfl
    · have : len = 0 := by omega
      subst this; rfl
  rw [hz] at pp
  have H0 : Hid _ := h
  have Hb : Hid _ := hb
  have Ht : Hid _ := ht
  clear h2 hz h hb ht
  go_enter Try.func14, Try.ntmps14
  go_wp2_with fail
  refine pm.mono ?_
  rintro e wa ⟨rfl, rfl⟩
  clear pm
  go_wp2_with fail
  refine pp.mono ?_
  rintro e w1 ⟨rfl, hG1⟩
  have pr := runs_any (H0.out.later hG1 (Nat.le_refl _)) (fun r hr => (Hb.out r hr).1) (fun r hr => (Hb.out r hr).2) (by have := Ht.out; unfold totL at this; omega) (by omega) (s : Nat) s (.inl rfl) (by omega)
  unfold EncOut at pr
  have HG1 : Hid _ := hG1
  clear pp hG1 H0 Hb Ht
  go_wp2_with fail
  refine wp_loop_rounds 1 ?_
  rw [rounds_succ]
  go_wp2_with fail
  refine pr.mono ?_
  rintro e w2 ⟨ag, c, m, rfl, hm, ho, hG⟩
  have Hm : Hid _ := hm
  have Ho : Hid _ := own_mono ho HG1.out.size
  have HBz : Hid (Below w.heap.size w w2) := HG1.out.trans (hG.mono HG1.out.size)
  clear pr hm ho hG
  go_wp2
  go_ret2
  exact ⟨ag, c, m, rfl, Hm.out, Ho.out, HBz.out⟩
#print axioms pmerge_short
set_option maxRecDepth 100000 in
set_option maxHeartbeats 4000000 in
theorem pmerge_any {w : World} {ao : Option Addr} {len cap : Nat} {rs : List (List Int)} (k sz : Int) (h : ReadsRows w ao len cap rs) (hb : ∀ r ∈ rs, isBytes r ∧ r.length ≤ 100000000) (ht : totL (decAll rs) ≤ 200000) (hk : k ≤ 9223372036854775807) (hz : sz ≤ 9223372036854775807) :
    Calls Try.prog 14 #[.slice ao len cap, .int .i64 k, .int .i64 sz] w fun e w' => EncOut w (mergeZ rs k sz) e w' := by
  have hlx := h.length
  by_cases hv : 2 ≤ k ∧ k ≤ 8 ∧ 1 ≤ sz ∧ sz ≤ 255
  · have hE : mergeZ rs k sz = if 256 < rs.length then ([], 6) else passM rs.length rs k.toNat sz.toNat := by unfold mergeZ; rw [if_pos hv]
    obtain ⟨kn, rfl⟩ := Int.eq_ofNat_of_zero_le (show 0 ≤ k by omega)
    obtain ⟨sn, rfl⟩ := Int.eq_ofNat_of_zero_le (show 0 ≤ sz by omega)
    by_cases h256 : 256 < rs.length
    · rw [if_pos h256] at hE
      have HE : Hid _ := hE
      have i3 : ¬ (sn : Int) < 1 := by omega
      have i4 : ¬ (255 : Int) < sn := by omega
      have i5 : (256 : Int) < len := by omega
      have hlm : len ≤ 9223372036854775807 := by have := Nat.le_trans h.le h.most; unfold maxLen at this; omega
      have pm := fmay_yes kn w (by omega) (by omega)
      clear hE h256 hlx hv
      go_enter Try.func14, Try.ntmps14
      go_wp2_with fail
      refine pm.mono ?_
      rintro e wa ⟨rfl, rfl⟩
      clear pm
      go_wp2
      go_ret2
      rw [HE.out]
      exact EncOut.bad (Below.refl _ _)
    · rw [if_neg h256] at hE
      rw [hE, Int.toNat_natCast, Int.toNat_natCast]
      by_cases h2 : len < 2
      · rw [pass_short (by omega)]
        exact pmerge_short kn sn (by omega) (by omega) (by omega) (by omega) rs w ao len cap h2 h hb ht
      · exact pmerge_nat kn sn rs.length (by omega) (by omega) (by omega) (by omega) rs w ao len cap (Nat.le_refl _) (by omega) (by omega) h hb ht
  · have hE : Hid (mergeZ rs k sz = ([], 1)) := by show _ = _; unfold mergeZ; rw [if_neg hv]
    by_cases h1 : k < 2 ∨ 8 < k
    · have pm := fmay_no k w h1
      clear hv h1
      go_enter Try.func14, Try.ntmps14
      go_wp2_with fail
      refine pm.mono ?_
      rintro e wa ⟨rfl, rfl⟩
      clear pm
      go_wp2
      go_ret2
      rw [hE.out]
      exact EncOut.bad (Below.refl _ _)
    · have pm := fmay_yes k w (by omega) (by omega)
      have hsp : sz < 1 ∨ (¬ sz < 1 ∧ 255 < sz) := by omega
      clear hv h1
      rcases hsp with h1 | ⟨h1, h2⟩
      all_goals go_enter Try.func14, Try.ntmps14
      all_goals go_wp2_with fail
      all_goals refine pm.mono ?_
      all_goals rintro e wa ⟨rfl, rfl⟩
      all_goals clear pm
      all_goals go_wp2
      all_goals go_ret2
      all_goals rw [hE.out]
      all_goals exact EncOut.bad (Below.refl _ _)
#print axioms pmerge_any
end Go.Proofs.Ytknfjonaepggnaa
