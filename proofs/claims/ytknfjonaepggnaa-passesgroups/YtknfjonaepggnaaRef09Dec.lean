/- The document's own Decode. -/
import Derived.Test.YtknfjonaepggnaaRef09All
import Derived.Test.YtknfjonaepggnaaRunRead
namespace Go.Proofs.Ytknfjonaepggnaa
open Go.RowKit
set_option linter.unusedVariables false
set_option linter.unusedSimpArgs false

theorem take_size {was : Wd} {b : List Int} (h8 : isBytes b) {e : En} {n : Nat} (h : takeE was b = some (e, n)) : 1 ≤ n ∧ n ≤ b.length ∧ e.1.length ≤ was.length + n := by
  unfold takeE at h
  split at h
  · split at h
    · split at h
      · rename_i h1 h2 h3
        simp only [Option.some.injEq, Prod.mk.injEq] at h
        obtain ⟨he, hn⟩ := h
        rcases g1 : getL b with ⟨x, i, f⟩
        rw [g1] at h1 h2 h3 he hn
        simp only at h1 h2 h3 he hn
        rcases g2 : getL (b.drop i) with ⟨m, k, f2⟩
        rw [g2] at h2 h3 he hn
        simp only at h2 h3 he hn
        rcases g3 : getL (b.drop (i + k + m)) with ⟨c, j, f3⟩
        rw [g3] at h3 he hn
        simp only at h3 he hn
        have d8 : ∀ j, isBytes (b.drop j) := fun j z hz => h8 z (List.mem_of_mem_drop hz)
        have o1 := get_ok b h8 x i (by rw [g1, h1.1])
        have o2 := get_ok _ (d8 i) m k (by rw [g2, h2.1])
        have o3 := get_ok _ (d8 _) c j (by rw [g3, h3])
        rw [List.length_drop] at o2 o3
        refine ⟨by omega, by omega, ?_⟩
        rw [← he]
        simp [wordI]
        omega
      · cases h
    · cases h
  · cases h
theorem takesE_next {k n : Nat} {was : Wd} {b : List Int} {e : En} (h : takeE was b = some (e, n)) : takesE (k + 1) was b = (takesE k e.1 (b.drop n)).map (e :: ·) := by
  rw [takesE, h]
theorem takesE_none {k : Nat} {was : Wd} {b : List Int} (h : takeE was b = none) : takesE (k + 1) was b = none := by
  rw [takesE, h]
theorem cand_next {r : List Int} {rs : List (List Int)} {n i : Nat} (g : getL r = (n, i, 0)) (hn : n ≤ 255) : candE (r :: rs) = match takesE n [] (r.drop i) with
    | none => none
    | some l => (candE rs).map (l ++ ·) := by
  rw [candE, g]
  simp only
  rw [if_pos ⟨trivial, hn⟩]
  cases takesE n [] (r.drop i) <;> rfl
theorem cand_bad {r : List Int} {rs : List (List Int)} {n i f : Nat} (g : getL r = (n, i, f)) (h : ¬ (f = 0 ∧ n ≤ 255)) : candE (r :: rs) = none := by
  rw [candE, g]
  simp only
  rw [if_neg h]

set_option maxRecDepth 100000 in
set_option maxHeartbeats 8000000 in
theorem rdecode_any {w : World} {ao : Option Addr} {len cap : Nat} {zs : List Int} (h : Reads w ao len cap (zs.map (.int .u8))) (h8 : isBytes zs) (hl : len ≤ 100000000) :
    Calls Try.prog 24 #[.slice ao len cap] w fun e w' => DecOut w (decL zs) e w' := by
  have hlx : zs.length = len := by simpa using h.length
  have ps := rfscan_any ao len cap zs w h h8 (by omega)
  have s1 := scan_bytes h8
  have s2 := scan_len zs
  have s3 := scan_rows zs
  have hD : Hid (decL zs = match candR (scanR zs).1 with
    | none => ([], 2)
    | some (l, s) => if (encR l s).2 = 0 ∧ (encR l s).1 = zs then (l, 0) else ([], 2)) := by show _ = _; rfl
  generalize hrows : (scanR zs).1 = rows at *
  generalize hend : (scanR zs).2 = q at *
  clear hrows hend
  rw [hlx] at s2 s3
  have Hlx : Hid _ := hlx
  clear hlx
  go_enter Try.func24, Try.ntmps24
  go_wp2_with fail
  refine ps.mono ?_
  rintro e w1 ⟨ar, cr, mr, rfl, hrr, hG1⟩
  have hmr := hrr.length
  clear ps
  by_cases hc2 : 2 ≤ mr
  case neg =>
    have hE : Hid (decL zs = ([], 2)) := by show _ = _; rw [hD.out]; unfold candR; rw [if_neg (fun hh => hc2 (by omega))]
    have i2 : (mr : Int) < 2 := by omega
    clear hc2 hmr
    go_wp2
    go_ret2
    rw [hE.out]
    exact DecOut.bad hG1
  have i2 : ¬ (mr : Int) < 2 := by omega
  obtain ⟨br, off, har, hbl, hcr⟩ := hrr.at (by omega)
  obtain ⟨a0, l0, c0, cc0, hr0⟩ := hcr 0 (by omega)
  obtain ⟨r0, hr0e⟩ : ∃ r0, rows.getD 0 [] = r0 := ⟨_, rfl⟩
  have hr0m : r0 ∈ rows := by
    rw [← hr0e]
    simp [List.getD, List.getElem?_eq_getElem (show 0 < rows.length by omega)]
  rw [hr0e] at hr0
  have pn := rget_any _ _ _ _ w1 hr0 (s1 r0 hr0m)
  rcases hg0 : getL r0 with ⟨sz, k0, f0⟩
  rw [hg0] at pn
  unfold getV at pn
  have hsz64 : sz ≤ 18446744073709551615 := by
    by_cases hf : f0 = 0
    · have := get_ok r0 (s1 r0 hr0m) sz k0 (by rw [hg0, hf]); omega
    · have := scan_err r0 0 0 sz k0 f0 hg0; omega
  have hD2 : Hid (decL zs = if f0 = 0 ∧ sz ≤ 255 then
      (match candE (rows.drop 1).dropLast with
      | none => ([], 2)
      | some l => if (encR l sz).2 = 0 ∧ (encR l sz).1 = zs then (l, 0) else ([], 2))
    else ([], 2)) := by
    show _ = _
    rw [hD.out]
    unfold candR
    rw [hr0e, hg0]
    by_cases hx : f0 = 0 ∧ sz ≤ 255
    · rw [if_pos hx, if_pos ⟨by omega, hx⟩]
      cases candE (rows.drop 1).dropLast <;> rfl
    · rw [if_neg hx, if_neg (fun hh => hx hh.2)]
  rw [Nat.add_zero] at cc0
  clear hD hr0e hg0 hr0 hr0m
  subst har
  go_wp2_with fail
  refine pn.mono ?_
  rintro e w2 ⟨rfl, rfl⟩
  clear pn cc0
  by_cases hc : f0 = 0 ∧ sz ≤ 255
  case neg =>
    have hE : Hid (decL zs = ([], 2)) := by show _ = _; rw [hD2.out, if_neg hc]
    have hsp : ¬ (f0 : Int) = 0 ∨ ((f0 : Int) = 0 ∧ (255 : Int) < sz) := by omega
    clear hc hmr
    rcases hsp with i1 | ⟨i1, i2⟩
    all_goals go_wp2
    all_goals go_ret2
    all_goals rw [hE.out]
    all_goals exact DecOut.bad hG1
  have hD3 : Hid (decL zs = match candE (rows.drop 1).dropLast with
      | none => ([], 2)
      | some l => if (encR l sz).2 = 0 ∧ (encR l sz).1 = zs then (l, 0) else ([], 2)) := by show _ = _; rw [hD2.out, if_pos hc]
  obtain ⟨hf0, hsz⟩ := hc
  subst hf0
  have i3 : ¬ (255 : Int) < sz := by omega
  clear hD2
  obtain ⟨M, hM⟩ : ∃ M, M = mr - 1 := ⟨_, rfl⟩
  have hwm2 : (mr : Int) - 1 = (M : Nat) := by omega
  have hwm3 : IntKind.i64.wrap (M : Int) = (M : Nat) := by simp [IntKind.wrap, IntKind.bits, IntKind.signed]; omega
  have hml : M ≤ 25000000 := by omega
  have hbs : ∀ i, 1 ≤ i → i < M → (rows.drop 1).dropLast.drop (i - 1) = rows.getD i [] :: (rows.drop 1).dropLast.drop i := fun i h1 h2 => by
    have hlt : i - 1 < (rows.drop 1).dropLast.length := by simp; omega
    rw [List.drop_eq_getElem_cons hlt]
    congr 1
    · simp [List.getElem_dropLast, List.getD, List.getElem?_eq_getElem (show i < rows.length by omega)]
      congr 1; omega
    · congr 1; omega
  have hbe : ∀ i, M ≤ i → (rows.drop 1).dropLast.drop (i - 1) = [] := fun i h1 => List.drop_of_length_le (by simp; omega)
  have hmem : ∀ i, i < mr → rows.getD i [] ∈ rows := fun i hi => by simp [List.getD, List.getElem?_eq_getElem (show i < rows.length by omega)]
  have hMr : M < mr := by omega
  have hG1s := hG1.size
  have HB : Hid (Below w.heap.size w w2) := hG1
  generalize (rows.drop 1).dropLast = brows at *
  have Hbs : Hid _ := hbs
  have Hbe : Hid _ := hbe
  have Hmem : Hid _ := hmem
  have Hs1 : Hid _ := s1
  have Hs3 : Hid _ := s3
  have Hcr : Hid _ := hcr
  have Hrr : Hid _ := hrr
  clear hbs hbe hmem s1 s3 hcr s2 hM hmr hrr hG1
  go_wp2_with fail
  go_loopw [9, 10] (fun ov iv wr => ∃ (i : Nat) (ag : Option Addr) (c m : Nat) (es : List En), iv = .int .i64 (i : Nat) ∧ ov = .slice ag m c ∧ 1 ≤ i ∧ i ≤ M + 1 ∧ m ≤ 255 * i ∧ Hid (es.length = m) ∧ Hid (∀ e ∈ es, e.2 ≤ 18446744073709551615 ∧ e.1.length ≤ 100000000) ∧
      wr.ownsRow w2.heap.size 64 2 (.slice ag m c) m (cellsE es) ∧ Hid (candE brows = (candE (brows.drop (i - 1))).map (es ++ ·)) ∧ Below w2.heap.size w2 wr) (fun _ iv _ => (M + 1 - intOf iv).toNat)
  case atStart => exact ⟨1, none, 0, 0, [], rfl, rfl, Nat.le_refl _, by omega, by omega, rfl, fun e he => by simp at he, World.ownsRow_nil _ _ _ _, by show _ = _; simp, Below.refl _ _⟩
  case round =>
    obtain ⟨i, ag, c, m, es, rfl, rfl, hi1, hi2, hm, hes, hbd, hrow, hC, hB⟩ := hrel
    by_cases hlt : i < M
    case neg =>
      have hC2 : Hid (candE brows = some es) := by show _ = _; rw [hC.out, Hbe.out i (by omega)]; simp [candE]
      have hD4 : Hid (decL zs = if (encR es sz).2 = 0 ∧ (encR es sz).1 = zs then (es, 0) else ([], 2)) := by show _ = _; rw [hD3.out, hC2.out]
      have hlti : ¬ (i : Int) < M := by omega
      have pe := rencode_any (ReadsE.own hrow) (fun e he => (hbd.out e he).1) (fun e he => by have := (hbd.out e he).2; omega) (by omega) (sz : Nat) sz (.inl rfl) (by omega)
      have wsz : IntKind.i64.wrap (sz : Int) = sz := by rw [IntKind.wrap_i64]; omega
      clear hC hD3 hC2 hlt
      go_wp2_with fail
      refine pe.mono ?_
      rintro e w3 ⟨ae, ce, me, rfl, hme, hre, hG3⟩
      have hB3 := hB.trans (hG3.mono hB.size)
      have hrow3 := own2_later hrow hG3 (Nat.le_refl _)
      have hBw := HB.out.trans (hB3.mono hG1s)
      clear pe hB hrow
      by_cases hz : (encR es sz).2 = 0
      case neg =>
        have hE : Hid (decL zs = ([], 2)) := by show _ = _; rw [hD4.out, if_neg (fun hh => hz hh.1)]
        generalize (encR es sz).2 = ec at *
        have hzi : ¬ (ec : Int) = 0 := by omega
        clear hz hme hD4
        go_wp2
        go_ret2
        rw [hE.out]
        exact DecOut.bad hBw
      have h1 := enc_ok.1 hz
      have he := enc_is h1
      have hby : isBytes (runL es sz) := recs_bytes _ (run_rows (run_ok h1 (by rw [hes.out]; omega)))
      rw [hz] at *
      rw [he] at hre hme
      simp only at hre hme
      have hE0 : Hid (decL zs = if runL es sz = zs then (es, 0) else ([], 2)) := by
        show _ = _
        rw [hD4.out, he]
        simp
      generalize runL es sz = rb at *
      have q1 := conv_of Try.underlying30 Try.underlying5 Try.underlying9 (Reads.own hre)
      have q2 := conv_of Try.underlying30 Try.underlying5 Try.underlying9 (h.later hBw (Nat.le_refl _))
      have hsb := str_beq hby h8
      clear he hme hD4 h1 hz hby
      by_cases hq : rb = zs
      case neg =>
        have hE : Hid (decL zs = ([], 2)) := by show _ = _; rw [hE0.out, if_neg hq]
        rw [decide_eq_false hq] at hsb
        clear hq hE0
        go_wp2
        go_ret2
        rw [hE.out]
        exact DecOut.bad hBw
      have hE : Hid (decL zs = (es, 0)) := by show _ = _; rw [hE0.out, if_pos hq]
      rw [decide_eq_true hq] at hsb
      clear hq hE0
      go_wp2
      go_ret2
      rw [hE.out]
      exact ⟨ag, c, m, rfl, hes.out.symm, own2_mono hrow3 hG1s, hBw⟩
    have hlti : (i : Int) < M := by omega
    obtain ⟨ai, li, ci, cci, hri⟩ := Hcr.out i (by omega)
    have hrm := Hmem.out i (by omega)
    have r8 := Hs1.out _ hrm
    have rl := Hs3.out _ hrm
    have hC2 := hC.out
    rw [Hbs.out i hi1 hlt] at hC2
    generalize rows.getD i [] = r at hri r8 rl hC2
    have hli : r.length = li := by simpa using hri.length
    have cc : ∀ W, Below w2.heap.size w2 W → W.cell? ⟨br, off + i, none⟩ = some (.slice ai li ci) := fun W hW => (hW.cell (p := ⟨br, off + i, none⟩) hbl).trans cci
    have hrr : ∀ W, Below w2.heap.size w2 W → Reads W ai li ci (r.map (.int .u8)) := fun W hW => hri.later hW (Nat.le_refl _)
    have pg := rget_any _ _ _ _ wr (hrr _ hB) r8
    rcases hg : getL r with ⟨n, at0, f⟩
    have Hg : Hid _ := hg
    have hat := get_len_le r8 hg
    have hn64 : n ≤ 18446744073709551615 := by
      by_cases hf : f = 0
      · have := get_ok r r8 n at0 (by rw [hg, hf]); omega
      · have := scan_err r 0 0 n at0 f hg; omega
    rw [hg] at pg
    unfold getV at pg
    have HC2 : Hid _ := hC2
    have cw := cc _ hB
    have himr : (i : Int) < mr := by omega
    rw [hli] at hat rl
    have Hli : Hid _ := hli
    clear hg hC2 hC hrm cci hri hli
    go_wp2_with fail
    refine pg.mono ?_
    rintro e w3 ⟨rfl, hw3⟩
    subst hw3
    clear pg
    by_cases hc : f = 0 ∧ n ≤ 255
    case neg =>
      have hE : Hid (decL zs = ([], 2)) := by show _ = _; rw [hD3.out, HC2.out, cand_bad Hg.out hc]; rfl
      have hBw := HB.out.trans (hB.mono hG1s)
      have hsp : ¬ (f : Int) = 0 ∨ ((f : Int) = 0 ∧ (255 : Int) < n) := by omega
      clear hc
      rcases hsp with j1 | ⟨j1, j2⟩
      all_goals go_wp2
      all_goals go_ret2
      all_goals rw [hE.out]
      all_goals exact DecOut.bad hBw
    obtain ⟨hf, hn⟩ := hc
    subst hf
    have hC3 : Hid (candE brows = match takesE (n - 0) [] (r.drop at0) with
        | none => none
        | some l => (candE (brows.drop i)).map ((es ++ [] ++ l) ++ ·)) := by
      show _ = _
      rw [HC2.out, cand_next Hg.out hn, Nat.sub_zero]
      cases takesE n [] (r.drop at0) with
      | none => rfl
      | some l =>
        simp only [Option.map_map]
        congr 1
        funext x
        simp
    have hnj : ¬ (255 : Int) < n := by omega
    have wn : IntKind.i64.wrap (n : Int) = n := by rw [IntKind.wrap_i64]; omega
    have hrow0 : w3.ownsRow w2.heap.size 64 2 (.slice ag (m + 0) c) (m + 0) (cellsE (es ++ [])) := by simpa using hrow
    have hbd0 : Hid (∀ e ∈ es ++ [], e.2 ≤ 18446744073709551615 ∧ e.1.length ≤ 100000000) := by show ∀ e ∈ es ++ [], _; simpa using hbd.out
    clear HC2 hrow hn64 hlt
    go_wp2_with fail
    go_loopw [9, 12, 14, 15] (fun ov av sv kv wq => ∃ (at' k : Nat) (ag' : Option Addr) (c' : Nat) (was : Wd) (cur : List En), kv = .int .i64 (k : Nat) ∧ av = .int .i64 (at' : Nat) ∧ sv = strV was ∧ ov = .slice ag' (m + k) c' ∧ k ≤ n ∧ at' ≤ li ∧ was.length ≤ at' ∧ Hid (cur.length = k) ∧
        Hid (∀ e ∈ es ++ cur, e.2 ≤ 18446744073709551615 ∧ e.1.length ≤ 100000000) ∧ wq.ownsRow w2.heap.size 64 2 (.slice ag' (m + k) c') (m + k) (cellsE (es ++ cur)) ∧
        Hid (candE brows = match takesE (n - k) was (r.drop at') with
          | none => none
          | some l => (candE (brows.drop i)).map ((es ++ cur ++ l) ++ ·)) ∧ Below w2.heap.size w2 wq) (fun _ _ _ kv _ => (n - intOf kv).toNat)
    case atStart => exact ⟨at0, 0, ag, c, [], [], rfl, rfl, rfl, rfl, Nat.zero_le _, hat, by simp, rfl, hbd0, hrow0, hC3, hB⟩
    case round =>
      obtain ⟨at', k, ag', c', was, cur, rfl, rfl, rfl, rfl, hk, hal, hwl, hcur, hbd', hrow, hC4, hBq⟩ := hrel
      clear hrow0 hB hC3 cw hbd0
      by_cases hkn : k < n
      case neg =>
        have hke : n - k = 0 := by omega
        have hkk : k = n := by omega
        have hki : ¬ (k : Int) < n := by omega
        have hC5 : Hid (candE brows = (candE (brows.drop (i + 1 - 1))).map ((es ++ cur) ++ ·)) := by
          show _ = _
          rw [hC4.out, hke, Nat.add_sub_cancel]
          simp [takesE]
        have hes5 : Hid ((es ++ cur).length = m + k) := by show _ = _; rw [List.length_append, hes.out, hcur.out]
        clear hC4 hke hkk hkn
        go_wp2_with fail
        go_roundw
        case rel => exact ⟨i + 1, ag', c', m + k, es ++ cur, by go_num, rfl, by omega, by omega, by omega, hes5, hbd', hrow, hC5, hBq⟩
        case measure => simp [intOf]; omega
      have hki : (k : Int) < n := by omega
      have cw := cc _ hBq
      have hali : (at' : Int) ≤ li := by omega
      obtain ⟨x1, hs1, hd1⟩ := Reads.from (P := Try.prog) Try.underlying30 (size_of Try.infoByte) (ao := ai) (len := li) (cap := ci) at' hal
      have hr1 := hd1 _ _ (hrr _ hBq)
      rw [← List.map_drop] at hr1
      have d8 : isBytes (r.drop at') := fun z hz => r8 z (List.mem_of_mem_drop hz)
      have pt := rtake_any (was := was) (by omega) hr1 d8 (by omega)
      obtain ⟨j', hj'⟩ : ∃ j', n - k = j' + 1 := ⟨n - k - 1, by omega⟩
      have Hj' : Hid _ := hj'
      have hnb : ∀ b, (Value.slice ag' (m + k) c').ownBlock = some b → b < wr.heap.size := fun b hb => (hrow.lt b hb).2
      clear hd1 hr1 hj'
      rcases ht : takeE was (r.drop at') with _ | ⟨⟨ek, en⟩, sz'⟩
      · rw [ht] at pt
        have hE : Hid (decL zs = ([], 2)) := by show _ = _; rw [hD3.out, hC4.out, Hj'.out, takesE_none ht]
        clear ht hC4
        unfold TakeOut takeV at pt
        go_wp2_with fail
        refine pt.mono ?_
        rintro e w4 ⟨rfl, hG4⟩
        have hB4 := hBq.trans (hG4.mono hBq.size)
        have hBw := HB.out.trans (hB4.mono hG1s)
        have hsw := hBw.size
        clear pt hG4
        go_wp2
        go_ret2
        rw [hE.out]
        exact DecOut.bad (hBw.alloc hsw _)
      · rw [ht] at pt
        obtain ⟨z1, z2, z3⟩ := take_size d8 ht
        rw [List.length_drop, Hli.out] at z2
        simp only at z3
        have hen := take_u64 d8 ht
        simp only at hen
        have hC5 : Hid (candE brows = match takesE (n - (k + 1)) ek (r.drop (at' + sz')) with
          | none => none
          | some l => (candE (brows.drop i)).map ((es ++ (cur ++ [(ek, en)]) ++ l) ++ ·)) := by
          show _ = _
          rw [hC4.out, Hj'.out, takesE_next ht, show n - (k + 1) = j' by have := Hj'.out; omega, List.drop_drop]
          cases takesE j' ek (r.drop (at' + sz')) with
          | none => rfl
          | some l =>
            simp only [Option.map_some]
            congr 1
            funext x
            simp
        have hcur2 : Hid ((cur ++ [(ek, en)]).length = k + 1) := by show _ = _; rw [List.length_append, hcur.out]; rfl
        have hbd2 : Hid (∀ e ∈ es ++ (cur ++ [(ek, en)]), e.2 ≤ 18446744073709551615 ∧ e.1.length ≤ 100000000) := by
          show ∀ e ∈ es ++ (cur ++ [(ek, en)]), _
          intro e he
          rw [← List.append_assoc] at he
          rcases List.mem_append.1 he with he | he
          · exact hbd'.out e he
          · simp only [List.mem_singleton] at he
            subst he
            exact ⟨hen, by simp only; omega⟩
        have hsz1 : ¬ (sz' : Int) = 0 := by omega
        have hal2 : at' + sz' ≤ li := by omega
        have hwl2 : ek.length ≤ at' + sz' := by omega
        have hmk : m + k + 1 ≤ 7000000000 := by omega
        clear ht hC4 hbd' hcur z1 z2 z3
        unfold TakeOut takeV at pt
        go_wp2_with fail
        refine pt.mono ?_
        rintro e w4 ⟨rfl, hG4⟩
        have hB4 := hBq.trans (hG4.mono hBq.size)
        have hs4 := hB4.size
        have hrow4 := own2_later hrow hG4 (Nat.le_refl _)
        have k4 : (w4.alloc (.cells #[strV ek, .int .u64 (en : Nat)] 64)).heap[w4.heap.size]? = some (.cells #[strV ek, .int .u64 (en : Nat)] 64 (0, 0)) := Array.getElem?_push_size
        have hB5 := hB4.alloc hs4 (.cells #[strV ek, .int .u64 (en : Nat)] 64)
        have hs5 := hB5.size
        have hB6 := hB5.alloc hs5 (.cells #[strV ek, .int .u64 (en : Nat)] 64)
        have hs6 := hB6.size
        have k6 := cells_later k4 ((Below.refl _ _).alloc (Nat.le_refl _) (.cells #[strV ek, .int .u64 (en : Nat)] 64))
        have hrow6 := own2_later (own2_later hrow4 ((Below.refl _ _).alloc (Nat.le_refl _) (.cells #[strV ek, .int .u64 (en : Nat)] 64)) (Nat.le_refl _)) ((Below.refl _ _).alloc (Nat.le_refl _) (.cells #[strV ek, .int .u64 (en : Nat)] 64)) (Nat.le_refl _)
        have hre := reads_en (w4.alloc (.cells #[strV ek, .int .u64 (en : Nat)] 64)) ek en
        rw [World.size_alloc] at hre
        have hne4 : (Value.slice ag' (m + k) c').ownBlock ≠ some w4.heap.size := fun e' => by have := hnb _ e'; have := hG4.size; omega
        clear pt hG4 hrow hrow4 k4 hB5 hB4
        go_wp2_with (at_builtin; go_loud (refine wpList_append_en rfl _ _ rfl w2.heap.size _ _ _ _ rfl hrow6 _ _ _ _ rfl hre (cells_one _) (by unfold maxLen; omega) (by omega) hs6 ?_); intro ag7 c7 w7 hrow7 hg7 hb7 hwh7; have k7 := (hg7.block _ (Array.getElem?_eq_some_iff.1 k6).1 (fun e' => hne4 e'.symm)).trans k6; have cz7 := (blk2 k7).1; have hB7 := hB6.trans hb7)
        rw [← cells_app, List.append_assoc] at hrow7
        clear hwh7 hg7 hb7 k6 hB6 hrow6 k7 hs5 hs6
        go_roundw
        case rel => exact ⟨at' + sz', k + 1, ag7, c7, ek, _, by go_num, by go_num, rfl, rfl, by omega, hal2, hwl2, hcur2, hbd2, hrow7, hC5, hB7⟩
        case measure => simp [intOf]; omega
#print axioms rdecode_any
end Go.Proofs.Ytknfjonaepggnaa
