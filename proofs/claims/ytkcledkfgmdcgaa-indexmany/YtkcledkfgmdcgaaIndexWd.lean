/- index.Word. -/
import Derived.Test.YtkcledkfgmdcgaaIndexCnt
namespace Go.Proofs.Ytkcledkfgmdcgaa
open Go.RowKit
set_option linter.unusedVariables false
set_option linter.unusedSimpArgs false

def iBy (acc : Wd) : List Value := (acc.map fun c => (c.toNat : Int)).map (.int .u8)
theorem iBy_snoc (acc : Wd) (c : UInt8) : iBy (acc ++ [c]) = iBy acc ++ [.int .u8 (c.toNat : Nat)] := by simp [iBy]
theorem istr_of (cur : Wd) : strOfNums (cur.map fun c => (c.toNat : Int)) = ⟨cur.toArray⟩ := by
  unfold strOfNums
  congr 1
  congr 1
  rw [List.map_map]
  refine (List.map_congr_left (g := id) fun x _ => ?_).trans (List.map_id _)
  simp
/-- The words at a place of a state: its own, or what an edge leads on to. -/
theorem nth_go {S : List Stt} (hS : GoodS S) {n : Nat} {f : Bool} {es : List (UInt8 × Nat)} (hs : S[n]? = some (f, es)) {i : Nat} {v : Wd} (hv : (langS S n)[i]? = some v) (hg : ¬ (f = true ∧ i = 0)) :
    ∃ p d q v', i = oneF f + p ∧ pickE S es p = some (d, q) ∧ d ∈ es ∧ v = d.1 :: v' ∧ (langS S d.2)[q]? = some v' ∧ p ≤ (langS S n).length := by
  have h1 := lang_nth hS hs i
  rw [hv, if_neg hg] at h1
  have hof : (if f then 1 else 0) = oneF f := rfl
  simp only [hof] at h1
  have hi : oneF f ≤ i := by
    cases f with
    | false => exact Nat.zero_le _
    | true =>
      have : i ≠ 0 := fun h => hg ⟨rfl, h⟩
      show 1 ≤ i
      omega
  have hlt := (List.getElem?_eq_some_iff.1 h1.symm).1
  obtain ⟨⟨d, q⟩, hp, hd, hq⟩ := pick_in S hlt
  have h2 := flat_at S es (i - oneF f)
  rw [hp, ← h1] at h2
  simp only at h2 hd hq
  have hv2 : (langS S d.2)[q]? = some ((langS S d.2)[q]'hq) := List.getElem?_eq_getElem hq
  rw [hv2] at h2
  have hil := (List.getElem?_eq_some_iff.1 hv).1
  exact ⟨i - oneF f, d, q, _, by omega, hp, hd, by simpa using h2, hv2, by omega⟩

set_option maxRecDepth 100000 in
set_option maxHeartbeats 4000000 in
theorem iword_not {w : World} {ao : Option Addr} {len cap : Nat} {A : List StZ} (h : ReadsA w ao len cap A) (hl : len ≤ 10000000000000) (hz : ∀ s ∈ A, ∀ e ∈ s.2, -9223372036854775808 ≤ e.2 ∧ e.2 ≤ 9223372036854775807) (hM : ¬ MayP A) (n : Int) (hn0 : -9223372036854775808 ≤ n) (hn1 : n ≤ 9223372036854775807) :
    Calls Try.prog 16 #[.slice ao len cap, .int .i64 n] w fun e w' => e = .returned (.tuple #[strV [], .bool false]) ∧ Below w.heap.size w w' := by
  have p1 := icounts_not h hl hz hM
  clear h hz hM
  go_enter Try.func16, Try.ntmps16
  go_wp2_with fail
  refine p1.mono ?_
  rintro e w1 ⟨ag, c, rfl, hB1⟩
  have HB1 : Hid _ := hB1
  clear hB1 p1
  go_wp2
  go_ret2
  exact ⟨rfl, HB1.out⟩

set_option maxRecDepth 100000 in
set_option maxHeartbeats 4000000 in
theorem iword_gen {w : World} {ao : Option Addr} {len cap : Nat} {zs : List Wd} (h : ReadsA w ao len cap (zA (buildL zs))) (hne : [] ∉ zs) (hr : RiseW zs) (hs : (buildL zs).length ≤ 10000000000000) (n : Int) (hn0 : -9223372036854775808 ≤ n) (hn1 : n ≤ 9223372036854775807) :
    Calls Try.prog 16 #[.slice ao len cap, .int .i64 n] w fun e w' => e = .returned (.tuple #[strV (if (countsR (buildL zs)).2 = 0 then wordR zs n else ([], false)).1, .bool (if (countsR (buildL zs)).2 = 0 then wordR zs n else ([], false)).2]) ∧ Below w.heap.size w w' := by
  have p1 := icounts_gen h hne hr hs
  by_cases h0 : ∀ i, i < (buildL zs).length → (langS (buildL zs) i).length ≤ 4611686018427387904
  case neg =>
    have e0 : countsR (buildL zs) = ([], 5) := by unfold countsR; rw [if_neg h0]
    rw [e0] at p1 ⊢
    simp only at p1
    clear h hne hr hs h0 e0
    go_enter Try.func16, Try.ntmps16
    go_wp2_with fail
    refine p1.mono ?_
    rintro e w1 ⟨ag, m, c, rfl, _, hB1⟩
    have HB1 : Hid _ := hB1
    clear hB1 p1
    go_wp2
    go_ret2
    exact ⟨rfl, HB1.out⟩
  have e0 : countsR (buildL zs) = (countsL (buildL zs), 0) := by unfold countsR; rw [if_pos h0]
  rw [e0] at p1 ⊢
  simp only [if_pos] at p1 ⊢
  have hS := build_good zs
  have hroot : langS (buildL zs) ((buildL zs).length - 1) = zs := build_lang hr
  have h1 := (build_len zs).1
  obtain ⟨S, hSe⟩ : ∃ S, S = buildL zs := ⟨_, rfl⟩
  rw [← hSe] at h hs hS p1 h0 hroot h1
  have hlen : len = S.length := by rw [← h.count, zA_len]
  rw [← hlen] at hroot
  have HR : Hid _ := h
  have Hlen : Hid (S.length = len) := hlen.symm
  have HS : Hid _ := hS
  have H0 : Hid _ := h0
  have hll : len ≤ 10000000000000 := by omega
  obtain ⟨m0, hm0⟩ : ∃ m0 : Nat, len = m0 + 1 := ⟨len - 1, by omega⟩
  have e1 : (len : Int) - 1 = (m0 : Nat) := by omega
  have hm1 : m0 < len := by omega
  have hm1i : (m0 : Int) < len := by omega
  rw [show len - 1 = m0 by omega] at hroot
  have HRoot : Hid _ := hroot
  obtain ⟨z, hz⟩ : ∃ z, z = zs.length := ⟨_, rfl⟩
  have hz62 : z ≤ 4611686018427387904 := by rw [hz, ← hroot]; exact h0 m0 (by omega)
  have Hz : Hid (zs.length = z) := hz.symm
  have hout : n < 0 ∨ (z : Int) ≤ n → wordR zs n = ([], false) := fun hh => word_out (by rw [← hz]; exact hh)
  obtain ⟨b, off, hao, hb, hcl⟩ := h.at (by omega)
  subst hao
  have Hcl : Hid _ := hcl
  have Hb : Hid (b < w.heap.size) := hb
  clear h hne hr hs h0 e0 hS h1 hlen hm0 hcl hSe HR hroot hb hz
  go_enter Try.func16, Try.ntmps16
  go_wp2_with fail
  refine p1.mono ?_
  rintro e w1 ⟨ag, m, c, rfl, hrc, hB1⟩
  have hml : m = len := by
    have := hrc.length
    simp only [zN, List.length_map, counts_len, Hlen.out] at this
    omega
  subst hml
  obtain ⟨gb, go', hag, hgb, hgc⟩ := hrc.at15 (by omega)
  subst hag
  have hcnt : CntAt w1 gb go' m S m := ⟨hgb, Nat.le_refl _, fun t ht => hgc t _ (by simp [zN, counts_at (S := S) (i := t) (by rw [Hlen.out]; exact ht)])⟩
  have HCnt : Hid _ := hcnt
  have HB1 : Hid _ := hB1
  have hws : w.heap.size ≤ w1.heap.size := hB1.size
  have hcm : w1.cell? ⟨gb, go' + m0, none⟩ = some (.int .u64 (z : Nat)) := by rw [hcnt.2.2 m0 hm1, HRoot.out, Hz.out]
  clear hB1 p1 hrc hgc hcnt hgb
  by_cases hneg : n < 0
  · have hE : Hid (wordR zs n = ([], false)) := hout (.inl hneg)
    clear hout
    go_wp2
    go_ret2
    exact ⟨by rw [hE.out]; rfl, HB1.out⟩
  obtain ⟨N, rfl⟩ : ∃ N : Nat, n = N := ⟨n.toNat, by omega⟩
  by_cases hbig : z ≤ N
  · have hE : Hid (wordR zs N = ([], false)) := hout (.inr (by omega))
    have hbi : (z : Int) ≤ N := by omega
    clear hout
    go_wp2
    go_ret2
    exact ⟨by rw [hE.out]; rfl, HB1.out⟩
  have hbi : ¬ (z : Int) ≤ N := by omega
  have hN62 : N ≤ 4611686018427387904 := by omega
  obtain ⟨u, hu⟩ : ∃ u, zs[N]? = some u := ⟨_, List.getElem?_eq_getElem (by rw [Hz.out]; omega)⟩
  have hE : Hid (wordR zs N = (u, true)) := word_at hu
  have Hu : Hid ((langS S m0)[N]? = some u) := by show _ = _; rw [HRoot.out]; exact hu
  clear hout hu
  go_wp2_with fail
  go_loopw [8, 9, 10] (fun vc vw vp wr => ∃ (cur pl a c : Nat) (ag : Option Addr) (acc v : Wd), vc = .int .i64 (cur : Nat) ∧ vp = .int .u64 (pl : Nat) ∧ vw = .slice ag a c ∧ cur < m ∧ pl ≤ 4611686018427387904 ∧ a + cur ≤ m ∧ Hid (acc.length = a) ∧ Hid ((langS S cur)[pl]? = some v) ∧ Hid (acc ++ v = u) ∧ Hid (wr.ownsRow w1.heap.size 5 1 (.slice ag a c) a (iBy acc)) ∧ Hid (Below w.heap.size w wr) ∧ Hid (Below w1.heap.size w1 wr)) (fun vc _ _ _ => (intOf vc).toNat)
  case atStart => exact ⟨m0, N, 0, 0, none, [], u, rfl, rfl, rfl, hm1, hN62, by omega, rfl, Hu.out, rfl, World.ownsRow_nil _ _ _ _, HB1.out, Below.refl _ _⟩
  case round =>
    obtain ⟨cur, pl, a, c2, ag, acc, v, rfl, rfl, rfl, hcur, hpl, hac, hal, hv, hacc, hrow, hB, hB'⟩ := hrel
    clear hcm
    obtain ⟨⟨f, es⟩, hs⟩ : ∃ s, S[cur]? = some s := ⟨_, List.getElem?_eq_getElem (by rw [Hlen.out]; exact hcur)⟩
    obtain ⟨eg, ec, c1, c2', er⟩ := Hcl.out cur _ (zA_at hs)
    simp only [zE_len] at c1 c2' er
    obtain ⟨kk, hkk⟩ : ∃ kk, kk = es.length := ⟨_, rfl⟩
    rw [← hkk] at c2' er
    have x1 : wr.cell? ⟨b, off + cur * 2, none⟩ = some (.bool f) := (hB.out.cell (p := ⟨b, off + cur * 2, none⟩) Hb.out).trans c1
    have x2 : wr.cell? ⟨b, off + cur * 2 + 1, none⟩ = some (.slice eg kk ec) := (hB.out.cell (p := ⟨b, off + cur * 2 + 1, none⟩) Hb.out).trans c2'
    have hci : (cur : Int) < m := by omega
    by_cases hend : f = true ∧ pl = 0
    · obtain ⟨rfl, rfl⟩ := hend
      have hvn : v = [] := by
        have h1 := lang_nth HS.out hs 0
        rw [hv.out, if_pos ⟨rfl, rfl⟩] at h1
        exact Option.some.inj h1
      have hau : acc = u := by have := hacc.out; rw [hvn, List.append_nil] at this; exact this
      have hcv := conv_of (P := Try.prog) (t := 62) (e := 5) (s := 9) Try.underlying62 Try.underlying5 Try.underlying9 (W := wr) (zs := acc.map fun c => (c.toNat : Int)) (Reads.own hrow.out)
      rw [istr_of, hau] at hcv
      have HB : Hid _ := hB.out
      clear hvn hau hv hacc hrow hB hB' hal hs c1 c2' er hkk
      go_wp2
      go_ret2
      exact ⟨by rw [hE.out]; rfl, HB.out⟩
    · obtain ⟨p, d, q, v', hpl2, hpk, hde, hvc, hv2, hpn⟩ := nth_go HS.out hs hv.out hend
      have hdl := HS.out.low cur _ hs d hde
      have hp62 : p ≤ 4611686018427387904 := Nat.le_trans hpn (H0.out cur (by rw [Hlen.out]; exact hcur))
      have hq62 : q ≤ 4611686018427387904 := by
        have h1 := (List.getElem?_eq_some_iff.1 hv2).1
        have h2 := H0.out d.2 (by rw [Hlen.out]; omega)
        omega
      have p2 := lead_any HS.out hs (er.later hB.out (Nat.le_refl _)) hkk.symm (cm := c) (CntAt.later HCnt.out hB'.out) (by omega) hll p hp62 hpk
      rw [← hpl2] at p2
      have hO := hrow.out
      have HB : Hid _ := hB.out
      have HB' : Hid _ := hB'.out
      have hxs := HB'.out.size
      have hac2 : a ≤ 10000000000000 := by omega
      have Hal : Hid ((acc ++ [d.1]).length = a + 1) := by show _ = _; rw [List.length_append, hal.out]; rfl
      have Hacc : Hid ((acc ++ [d.1]) ++ v' = u) := by show _ = _; rw [List.append_assoc, ← hacc.out, hvc]; rfl
      have Hv2 : Hid _ := hv2
      have hone : ∀ u ∈ [Value.int .u8 (d.1.toNat : Nat)], u.oneCell' = true := by simp [Value.oneCell']
      have hm1' : a + 1 ≤ maxLen := by unfold maxLen; omega
      have hm2 : (a + 1) * 1 ≤ 140737488355328 := by omega
      have hsnoc := iBy_snoc acc d.1
      have Hac : Hid (a + 1 + d.2 ≤ m) := by show _ ≤ _; omega
      have hd2m : d.2 < m := by omega
      have Hd2c : Hid (d.2 < cur) := hdl
      obtain ⟨dc, dt⟩ := d
      simp only at hone hsnoc Hac hd2m Hd2c Hal Hacc Hv2 p2
      have hpf : 0 < (pl : Int) ∨ (pl = 0 ∧ f = false) := by
        by_cases h : 0 < (pl : Int)
        · exact .inl h
        · refine .inr ⟨by omega, ?_⟩
          cases f with
          | false => rfl
          | true => exact absurd ⟨rfl, by omega⟩ hend
      clear hend hpl2 hpk hde hvc hv2 hpn hdl hp62 hv hacc hrow hB hB' hal hs c1 c2' er hkk hac hpl
      rcases hpf with hp0 | ⟨rfl, rfl⟩
      all_goals
        (try rw [show ((0 : Nat) : Int) = 0 from rfl] at p2)
        go_wp2_with fail
        refine p2.mono ?_
        rintro e w2 ⟨rfl, hB2⟩
        go_upto_region 11 with (fail)
        obtain ⟨W3, hW3⟩ : ∃ W3, W3 = w2.alloc (.cells #[.int .u8 (dc.toNat : Nat), .int .i64 (dt : Nat)] 47) := ⟨_, rfl⟩
        rw [← hW3]
        have e3 : W3.heap[w2.heap.size]? = some (.cells #[.int .u8 (dc.toNat : Nat), .int .i64 (dt : Nat)] 47 (0, 0)) := by rw [hW3]; exact heap_alloc_new _ _
        have z1 : W3.cell? ⟨w2.heap.size, 0, none⟩ = some (.int .u8 (dc.toNat : Nat)) := cell_of e3 0
        have HO3 : Hid (W3.ownsRow w1.heap.size 5 1 (.slice ag a c2) a (iBy acc)) := by
          show World.ownsRow _ _ _ _ _ _ _
          rw [hW3]; exact (own_later hO hB2 (Nat.le_refl _)).alloc _
        have hne := own_type HO3.out e3 (by decide)
        have E3 : Hid _ := e3
        have hBw3 : Below wr.heap.size wr W3 := by rw [hW3]; exact hB2.alloc hB2.size _
        have HBw : Hid (Below w.heap.size w W3) := HB.out.trans (hBw3.mono HB.out.size)
        have HBw' : Hid (Below w1.heap.size w1 W3) := HB'.out.trans (hBw3.mono HB'.out.size)
        have hsz3 : w1.heap.size ≤ W3.heap.size := HBw'.out.size
        clear hW3 e3 hB2 p2 x1 x2 hO hBw3
        go_wp2_with (at_builtin; refine wpList_append_grown rfl _ _ 62 rfl w1.heap.size 5 Try.infoByte rfl Try.underlying62 _ _ _ _ rfl (HO3.out.alloc _) _ _ _ _ rfl (reads_one _ _ _) hone hm1' hm2 (Nat.le_trans hsz3 (by simp)) ?_; intro ag3 c3 w4 hr4 hg4 hb4; have k1 := keep_two E3.out hg4 hne 0; have k2 : w4.cell? ⟨w2.heap.size, 1, none⟩ = some (.int .i64 (dt : Nat)) := keep_two E3.out hg4 hne 1; clear z1 k1)
        rw [← hsnoc] at hr4
        have HR4 : Hid _ := hr4
        have hB4 : Below w1.heap.size W3 w4 := ((Below.refl _ _).alloc hsz3 _).trans hb4
        have HB5 : Hid (Below w.heap.size w w4) := HBw.out.trans (hB4.mono hws)
        have HB6 : Hid (Below w1.heap.size w1 w4) := HBw'.out.trans hB4
        clear hr4 hg4 hb4 hB4 hsnoc hne HBw HBw' HO3
        go_wp2
        go_roundw
        case rel => exact ⟨dt, q, a + 1, c3, ag3, acc ++ [dc], v', rfl, rfl, rfl, hd2m, hq62, Hac.out, Hal.out, Hv2.out, Hacc.out, HR4.out, HB5.out, HB6.out⟩
        case measure => have := Hd2c.out; simp [intOf]; omega
#print axioms iword_gen
end Go.Proofs.Ytkcledkfgmdcgaa
