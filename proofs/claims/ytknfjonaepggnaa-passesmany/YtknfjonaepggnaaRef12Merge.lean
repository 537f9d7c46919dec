/- The document's own Merge, few at a time. -/
import Derived.Test.YtknfjonaepggnaaRef12
import Derived.Test.YtknfjonaepggnaaRef11Runs
namespace Go.Proofs.Ytknfjonaepggnaa
open Go.RowKit
set_option linter.unusedVariables false
set_option linter.unusedSimpArgs false

theorem Try.infoBs : (Try.prog.info? 30).map (fun i => (i.zero, i.size, i.bytes)) = some (some (.slice none 0 0), 1, 24) := by kernel_rfl
theorem part_mid {α : Type} {l : List α} {k i n : Nat} (hn : l.length = n) : (l.drop (i * k)).take (min (i * k + k) n - i * k) = partAt l k i := by
  unfold partAt
  apply List.ext_getElem?
  intro j
  by_cases h : j < min (i * k + k) n - i * k
  · rw [List.getElem?_take_of_lt h, List.getElem?_take_of_lt (by omega)]
  · rw [List.getElem?_take_eq_none (by omega)]
    symm
    by_cases hj : j < k
    · rw [List.getElem?_take_of_lt hj, List.getElem?_drop, List.getElem?_eq_none (by omega)]
    · rw [List.getElem?_take_eq_none (by omega)]
theorem RowVals.part {w : World} {vs : List Value} {ls : List (List Int)} (h : RowVals w vs ls) (k i : Nat) : RowVals w (partAt vs k i) (partAt ls k i) := (h.drop (i * k)).take k
theorem pass_short {F : Nat} {rs : List (List Int)} {k s : Nat} (h : rs.length < 2) : passM F rs k s = runsM rs s := by
  cases F with
  | zero => rfl
  | succ F => rw [passM, if_pos h]
theorem partsM_stop {rs : List (List Int)} {k s j d : Nat} (h : partsM rs k s j = ([], d)) (hd : d ≠ 0) : ∀ m, j ≤ m → partsM rs k s m = ([], d)
  | 0, hm => by obtain rfl : j = 0 := by omega
                exact h
  | m + 1, hm => by
    by_cases he : j = m + 1
    · subst he; exact h
    · have ih := partsM_stop h hd m (by omega)
      rw [partsM, ih, if_neg hd]
theorem partsM_ok {rs : List (List Int)} {k s : Nat} (h1 : 1 ≤ s) (h2 : s ≤ 255) : ∀ m, (partsM rs k s m).2 = 0 → (partsM rs k s m).1 = (List.range m).map fun i => runL (mergeL (partAt (decAll rs) k i)).1 s
  | 0, _ => rfl
  | m + 1, h => by
    rw [partsM] at h ⊢
    split at h
    · rename_i g1
      rw [if_pos g1]
      split at h
      · rename_i g2
        rw [if_pos g2]
        have ih := partsM_ok h1 h2 m g1
        obtain ⟨_, _, g3⟩ := runs_is h1 h2 g2
        rw [decAll_part] at g3
        rw [ih, List.range_succ, List.map_append, g3]; rfl
      · rename_i g2; exact absurd h g2
    · rename_i g1; exact absurd h g1
/-- What a pass leaves may be merged again. -/
theorem parts_fit {rs : List (List Int)} {k s m : Nat} (h1 : 1 ≤ s) (h2 : s ≤ 255) (ht : totL (decAll rs) ≤ 200000) (h : (partsM rs k s m).2 = 0) : (∀ r ∈ (partsM rs k s m).1, isBytes r ∧ r.length ≤ 100000000) ∧ totL (decAll (partsM rs k s m).1) ≤ 200000 := by
  rw [partsM_ok h1 h2 m h]
  constructor
  · intro r hr
    obtain ⟨i, _, rfl⟩ := List.mem_map.1 hr
    obtain ⟨m1, m2⟩ := merge_all (partAt (decAll rs) k i)
    have h3 := (tot_cut ((decAll rs).drop (i * k)) k).1
    have h4 := (tot_cut (decAll rs) (i * k)).2
    unfold partAt at m2
    have hl : (mergeL (partAt (decAll rs) k i)).1.length ≤ 200000 := by unfold partAt; omega
    have hok := run_ok (s := s) ⟨h1, h2, m1⟩ (by omega)
    have := run_len_le hok
    exact ⟨recs_bytes _ (run_rows hok), by omega⟩
  · rw [(dec_parts (ls := decAll rs) (k := k) (m := m) h1 h2 (by omega)).1]
    have := tot_merged (decAll rs) k m
    omega
theorem passM_next {F : Nat} {rs : List (List Int)} {k s : Nat} (h : ¬ rs.length < 2) : passM (F + 1) rs k s = if (partsM rs k s (upN rs.length k)).2 = 0 then
        (if (partsM rs k s (upN rs.length k)).1.length = 1 then ((partsM rs k s (upN rs.length k)).1.headD [], 0) else passM F (partsM rs k s (upN rs.length k)).1 k s)
      else ([], (partsM rs k s (upN rs.length k)).2) := by rw [passM, if_neg h]

set_option maxRecDepth 100000 in
set_option maxHeartbeats 4000000 in
theorem rpass_short (k s : Nat) (k1 : 2 ≤ k) (k2 : k ≤ 8) (s1 : 1 ≤ s) (s2 : s ≤ 255) (rs : List (List Int)) (w : World) (ao : Option Addr) (len cap : Nat) (h2 : len < 2) (h : ReadsRows w ao len cap rs) (hb : ∀ r ∈ rs, isBytes r ∧ r.length ≤ 100000000) (ht : totL (decAll rs) ≤ 200000) :
    Calls Try.prog 15 #[.slice ao len cap, .int .i64 (k : Nat), .int .i64 (s : Nat)] w fun e w' => EncOut w (runsM rs s) e w' := by
  have i1 : ¬ (k : Int) < 2 := by omega
  have i2 : ¬ (8 : Int) < k := by omega
  have i3 : ¬ (s : Int) < 1 := by omega
  have i4 : ¬ (255 : Int) < s := by omega
  have i5 : ¬ (256 : Int) < len := by omega
  have i6 : (len : Int) < 2 := by omega
  have pr := rruns_any h (fun r hr => (hb r hr).1) (fun r hr => (hb r hr).2) (by unfold totL at ht; omega) (by omega) (s : Nat) s (.inl rfl) (by omega)
  unfold EncOut at pr
  clear h2
  go_enter Try.func15, Try.ntmps15
  go_wp2_with fail
  refine pr.mono ?_
  rintro e w1 ⟨a1, c1, m1, rfl, hm1, ho, hG⟩
  have Hm1 : Hid _ := hm1
  have Ho : Hid _ := ho
  clear pr hm1 ho
  go_wp2
  go_ret2
  exact ⟨a1, c1, m1, rfl, Hm1.out, Ho.out, hG⟩
set_option maxRecDepth 100000 in
set_option maxHeartbeats 8000000 in
theorem rpass_any (k s : Nat) (k1 : 2 ≤ k) (k2 : k ≤ 8) (s1 : 1 ≤ s) (s2 : s ≤ 255) : ∀ (F : Nat) (rs : List (List Int)) (w : World) (ao : Option Addr) (len cap : Nat), rs.length ≤ F → rs.length ≤ 256 → ReadsRows w ao len cap rs → (∀ r ∈ rs, isBytes r ∧ r.length ≤ 100000000) → totL (decAll rs) ≤ 200000 →
    Calls Try.prog 15 #[.slice ao len cap, .int .i64 (k : Nat), .int .i64 (s : Nat)] w fun e w' => EncOut w (passM F rs k s) e w' := by
  intro F
  induction F with
  | zero =>
    intro rs w ao len cap hF h256 h hb ht
    have hlx := h.length
    rw [pass_short (by omega)]
    exact rpass_short k s k1 k2 s1 s2 rs w ao len cap (by omega) h hb ht
  | succ F ih =>
    intro rs w ao len cap hF h256 h hb ht
    have hlx := h.length
    have Hlx : Hid _ := hlx
    have i1 : ¬ (k : Int) < 2 := by omega
    have i2 : ¬ (8 : Int) < k := by omega
    have i3 : ¬ (s : Int) < 1 := by omega
    have i4 : ¬ (255 : Int) < s := by omega
    have i5 : ¬ (256 : Int) < len := by omega
    by_cases h2 : len < 2
    · rw [pass_short (by omega)]
      exact rpass_short k s k1 k2 s1 s2 rs w ao len cap h2 h hb ht
    have i6 : ¬ (len : Int) < 2 := by omega
    have hE := passM_next (F := F) (k := k) (s := s) (rs := rs) (by omega)
    have hz : groupsZ (len : Nat) (k : Nat) = groupsL len k := by unfold groupsZ; rw [nat_fan (by omega) (by omega) k1 k2]; simp
    have pg := rgroups_any (len : Nat) (k : Nat) w (by omega) (by omega) (by omega) (by omega)
    rw [hz, groups_len] at pg
    have hul := ups_lt (n := len) k1 (by omega)
    have hup := ups_pos (n := len) (k := k) (by omega) (by omega)
    obtain ⟨u, hu⟩ : ∃ u, u = upN len k := ⟨_, rfl⟩
    rw [hlx, ← hu] at hE
    rw [← hu] at pg hul hup
    have HE : Hid _ := hE
    have Hu : Hid _ := hu
    have hul2 : u ≤ 256 := by omega
    clear hz hu hlx hE
    go_enter Try.func15, Try.ntmps15
    go_wp2_with fail
    refine pg.mono ?_
    rintro e w1 ⟨ag, cg, rfl, ho, hG⟩
    have hgr := ReadsE.own ho
    have hr1 := h.later hG (Nat.le_refl _)
    have HG : Hid _ := hG
    clear pg ho hG h
    go_wp2_with fail
    go_loopw [9, 10] (fun v i wr => ∃ (j : Nat) (an : Option Addr) (cc : Nat) (vs : List Value), v = .slice an j cc ∧ i = .int .i64 (j : Nat) ∧ j ≤ u ∧ Hid ((partsM rs k s j).2 = 0) ∧ Hid (wr.ownsRow w1.heap.size 30 1 (.slice an j cc) j vs) ∧ Hid (RowOwns wr w1.heap.size vs (partsM rs k s j).1) ∧ Hid (Below w1.heap.size w1 wr)) (fun _ i _ => (u - intOf i).toNat)
    case atStart => exact ⟨0, none, 0, [], rfl, rfl, Nat.zero_le _, rfl, World.ownsRow_nil _ _ _ _, RowOwns.nil _ _, Below.refl _ _⟩
    case round =>
      obtain ⟨j, an, cc, vs, rfl, rfl, hj, hA, hrow, hO, hB⟩ := hrel
      have hsz0 := hB.out.size
      by_cases hju : j < u
      · have hji : (j : Int) < u := by omega
        have hj0 : (0 : Int) ≤ j := by omega
        obtain ⟨bg, og, rfl, hbg, hcg⟩ := hgr.atP (by omega)
        have hga := groups_at (n := len) (k := k) (i := j) (by rw [← Hu.out]; exact hju)
        obtain ⟨lo, hlo⟩ : ∃ lo, lo = j * k := ⟨_, rfl⟩
        obtain ⟨hi, hhi⟩ : ∃ hi, hi = min (j * k + k) len := ⟨_, rfl⟩
        have hlt : j * k < len := (lt_ups (by omega)).1 (by rw [← Hu.out]; exact hju)
        have hcc := hcg j _ hga
        simp only at hcc
        rw [← hhi, ← hlo] at hcc
        have e1 : ∀ W, Below wr.heap.size wr W → W.cell? ⟨bg, og + j * 2, none⟩ = some (.int .i64 (lo : Nat)) := fun W hW => ((Below.trans hB.out (hW.mono hsz0)).cell (p := ⟨bg, og + j * 2, none⟩) hbg).trans hcc.1
        have e2 : ∀ W, Below wr.heap.size wr W → W.cell? ⟨bg, og + j * 2 + 1, none⟩ = some (.int .i64 (hi : Nat)) := fun W hW => ((Below.trans hB.out (hW.mono hsz0)).cell (p := ⟨bg, og + j * 2 + 1, none⟩) hbg).trans hcc.2
        obtain ⟨vr, hR, hV⟩ := hr1.vals
        obtain ⟨x1, hs1, hd1⟩ := Reads.mid (P := Try.prog) Try.underlying28 Try.sizeOf30 (ao := ao) (len := len) (cap := cap) hr1.le lo hi (by omega) (by omega)
        have hpl : (partAt rs k j).length = hi - lo := by rw [← part_mid (n := len) Hlx.out, List.length_take, List.length_drop, Hlx.out]; omega
        have hpart : ∀ W, Below wr.heap.size wr W → ReadsRows W x1 (hi - lo) (cap - lo) (partAt rs k j) := fun W hW => by
          have hb1 : Below w1.heap.size w1 W := hB.out.trans (hW.mono hsz0)
          have q := hd1 _ _ (hR.later hb1 (Nat.le_refl _))
          rw [hlo, hhi, part_mid (n := len) hR.length] at q
          rw [hlo, hhi]
          exact ReadsRows.of q ((hV.part k j).later hb1 (Nat.le_refl _))
        have pr := fun W (hW : Below wr.heap.size wr W) => rruns_any (hpart W hW) (fun r hr => (hb r (part_sub hr)).1) (fun r hr => (hb r (part_sub hr)).2) (by
          rw [decAll_part]
          have h3 := (tot_cut ((decAll rs).drop (j * k)) k).1
          have h4 := (tot_cut (decAll rs) (j * k)).2
          unfold totL at h3 h4 ht
          unfold partAt
          omega) (by omega) (s : Nat) s (.inl rfl) (by omega)
        unfold EncOut at pr
        have hpn : partsM rs k s (j + 1) = if (partsM rs k s j).2 = 0 then (if (runsM (partAt rs k j) s).2 = 0 then ((partsM rs k s j).1 ++ [(runsM (partAt rs k j) s).1], 0) else ([], (runsM (partAt rs k j) s).2)) else partsM rs k s j := rfl
        rw [if_pos hA.out] at hpn
        obtain ⟨⟨y, d⟩, hy⟩ : ∃ q, q = runsM (partAt rs k j) s := ⟨_, rfl⟩
        rw [← hy] at hpn pr
        simp only at hpn pr
        have Hpn : Hid _ := hpn
        have hlh : lo ≤ hi := by omega
        have hhl : hi ≤ len := by omega
        have hcl := hr1.le
        have hl0 : (0 : Int) ≤ lo := by omega
        have HB : Hid _ := hB.out
        have c1 := e1 _ (Below.refl _ _)
        have c2 := e2 _ (Below.refl _ _)
        clear hga hcg hcc hlo hhi hlt hR hV hd1 hpl hpart hpn hy hB
        go_wp2_with fail
        go_region_held (fun W => Below wr.heap.size wr W) (first | exact Below.refl _ _ | exact Below.drew (Below.refl _ _) | assumption | exact Below.drew (by assumption) | exact Grow.trans (Below.drew (Below.refl _ _)) (by assumption) | exact Grow.trans (Below.refl _ _) (by assumption)) (first | (go_at_call 19; refine (pr _ (by first | exact Below.refl _ _ | exact Below.drew (Below.refl _ _) | assumption)).mono ?_; rintro e w2 ⟨a2, c2, m2, rfl, hm2, ho2, hG2⟩))
        subst hm2
        have hG3 : Below wr.heap.size wr w2 := Grow.trans (Below.drew (Below.refl _ _)) hG2
        have hB2 := HB.out.trans (hG3.mono hsz0)
        by_cases hd : d = 0
        case neg =>
          have hp1 : partsM rs k s (j + 1) = ([], d) := by rw [Hpn.out, if_neg hd]
          have hpu := partsM_stop hp1 hd u hju
          have hE2 : Hid (passM (F + 1) rs k s = ([], d)) := by show _ = _; rw [HE.out, hpu, if_neg hd]
          have hdi : ¬ (d : Int) = 0 := by omega
          have hBz := HG.out.trans (hB2.mono HG.out.size)
          clear hd hp1 hpu pr ho2 hG2 hG3 hO hrow hB2 HB e1 e2
          go_wp2
          go_ret2
          rw [hE2.out]
          exact EncOut.bad hBz
        subst hd
        have hp1 : partsM rs k s (j + 1) = ((partsM rs k s j).1 ++ [y], 0) := by rw [Hpn.out, if_pos rfl]
        have hrow1 := own_later hrow.out hG3 (Nat.le_refl _)
        have hO1 := (hO.out.later hG3 (Nat.le_refl _)).snoc (l := y) rfl (own_mono ho2 (show w1.heap.size ≤ _ from hsz0))
        have hGa : Grow w2 (w2.alloc (.cells #[.slice a2 y.length c2] 30)) := (Below.refl _ _).alloc (Nat.le_refl _) _
        have hrow2 := own_later hrow1 hGa (Nat.le_refl _)
        have hO2 := hO1.later hGa (Nat.le_refl _)
        have hB3 := hB2.trans (hGa.mono hB2.size)
        have hone1 : ∀ u ∈ [Value.slice a2 y.length c2], u.oneCell' = true := fun u hu => by simp at hu; subst hu; rfl
        have hm1 : j + 1 ≤ maxLen := by unfold maxLen; omega
        have hm2 : (j + 1) * 24 ≤ 140737488355328 := by omega
        have hb3 := hB2.size
        have HO2 : Hid _ := hO2
        have HB3 : Hid _ := hB3
        have Hrow2 : Hid _ := hrow2
        have Hp1 : Hid _ := hp1
        clear pr ho2 hG2 hG3 hO hrow hrow1 hO1 hGa hO2 hB2 hB3 HB e1 e2 hp1 Hpn hA
        go_wp2_with (at_builtin; refine wpList_append_grown rfl _ _ 28 rfl w1.heap.size 30 Try.infoBs rfl Try.underlying28 _ _ _ _ rfl hrow2 _ _ _ _ rfl (reads_one _ _ _) hone1 hm1 hm2 (Nat.le_trans hb3 (by simp)) ?_; intro ag2 c3 w4 hr4 hg4 hb4)
        have HO4 : Hid (RowOwns w4 w1.heap.size (vs ++ [.slice a2 y.length c2]) (partsM rs k s (j + 1)).1) := by rw [Hp1.out]; exact HO2.out.apart Hrow2.out (by decide) hg4
        have HA4 : Hid ((partsM rs k s (j + 1)).2 = 0) := by show _ = _; rw [Hp1.out]
        have HB4 : Hid _ := HB3.out.trans hb4
        have Hr4 : Hid _ := hr4
        clear hr4 hg4 hb4 HO2 Hrow2 hrow2 HB3
        go_wp2
        go_roundw
        case rel => exact ⟨j + 1, ag2, c3, _, rfl, by go_num, by omega, HA4, Hr4, HO4, HB4⟩
        case measure => simp [intOf]; omega
      · have hje : j = u := by omega
        subst hje
        have hni : ¬ (j : Int) < j := by omega
        have hpl := partsM_len rs k s j hA.out
        have hE := HE.out
        rw [hA.out, if_pos rfl, hpl] at hE
        have hfit := parts_fit s1 s2 ht hA.out
        obtain ⟨parts, hparts⟩ : ∃ parts, parts = (partsM rs k s j).1 := ⟨_, rfl⟩
        rw [← hparts] at hE hpl hfit hO
        have hBz : Below w.heap.size w wr := HG.out.trans (hB.out.mono HG.out.size)
        have hgb := HG.out.size
        clear hA hparts hju hj
        by_cases hj1 : j = 1
        · subst hj1
          obtain ⟨y, hy⟩ : ∃ y, parts[0]? = some y := ⟨_, List.getElem?_eq_getElem (by omega)⟩
          have hh : parts.headD [] = y := by
            cases parts with
            | nil => simp at hy
            | cons a l => simp at hy; simpa using hy
          have hE2 : Hid (passM (F + 1) rs k s = (y, 0)) := by show _ = _; rw [hE, if_pos rfl, hh]
          obtain ⟨v, hv⟩ : ∃ v, vs[0]? = some v := ⟨_, List.getElem?_eq_getElem (by rw [hO.out.length]; omega)⟩
          obtain ⟨ai, ci, rfl, hro⟩ := hO.out.row 0 v y hv hy
          obtain ⟨bn, on, rfl, _, hcn⟩ := (Reads.own hrow.out).atV (by omega)
          have cn := hcn 0 _ hv
          rw [Nat.add_zero] at cn
          obtain ⟨yl, hyl⟩ : ∃ yl, yl = y.length := ⟨_, rfl⟩
          rw [← hyl] at cn hro
          have Hro : Hid _ := hro
          have Hyl : Hid _ := hyl
          clear hE hpl hfit hO hrow hcn hv hy hh hro ih hyl
          go_wp2
          go_ret2
          rw [hE2.out]
          exact ⟨ai, ci, yl, rfl, Hyl.out, own_mono Hro.out hgb, hBz⟩
        · have hE2 : Hid (passM (F + 1) rs k s = passM F parts k s) := by show _ = _; rw [hE, if_neg hj1]
          have hj1i : ((j : Int) == 1) = false := by rw [beq_eq_false_iff_ne]; omega
          have hj1n : ¬ (j : Int) = 1 := by omega
          have pr := ih parts wr an j cc (by have := Hlx.out; omega) (by omega) (ReadsRows.of (Reads.own hrow.out) hO.out.vals) hfit.1 hfit.2
          unfold EncOut at pr
          have hsz9 := hBz.size
          clear hE hpl hfit hO hrow ih
          go_wp2_with fail
          refine pr.mono ?_
          rintro e w3 ⟨a3, c3, m3, rfl, hm3, ho3, hG3⟩
          have Hm3 : Hid _ := hm3
          have Ho3 : Hid _ := ho3
          have hB9 := hBz.trans (hG3.mono hsz9)
          clear pr hm3 ho3 hG3
          go_wp2
          go_ret2
          rw [hE2.out]
          exact ⟨a3, c3, m3, rfl, Hm3.out, own_mono Ho3.out hsz9, hB9⟩
/-- Merge, whatever the fan and the size. -/
def mergeZ (rs : List (List Int)) (k sz : Int) : List Int × Nat :=
  if 2 ≤ k ∧ k ≤ 8 ∧ 1 ≤ sz ∧ sz ≤ 255 then (if 256 < rs.length then ([], 6) else passM rs.length rs k.toNat sz.toNat) else ([], 1)
set_option maxRecDepth 100000 in
set_option maxHeartbeats 4000000 in
theorem rpmerge_any {w : World} {ao : Option Addr} {len cap : Nat} {rs : List (List Int)} (k sz : Int) (h : ReadsRows w ao len cap rs) (hb : ∀ r ∈ rs, isBytes r ∧ r.length ≤ 100000000) (ht : totL (decAll rs) ≤ 200000) (hk : k ≤ 9223372036854775807) (hz : sz ≤ 9223372036854775807) :
    Calls Try.prog 15 #[.slice ao len cap, .int .i64 k, .int .i64 sz] w fun e w' => EncOut w (mergeZ rs k sz) e w' := by
  have hlx := h.length
  by_cases hv : 2 ≤ k ∧ k ≤ 8 ∧ 1 ≤ sz ∧ sz ≤ 255
  · have hE : mergeZ rs k sz = if 256 < rs.length then ([], 6) else passM rs.length rs k.toNat sz.toNat := by unfold mergeZ; rw [if_pos hv]
    obtain ⟨kn, rfl⟩ := Int.eq_ofNat_of_zero_le (show 0 ≤ k by omega)
    obtain ⟨sn, rfl⟩ := Int.eq_ofNat_of_zero_le (show 0 ≤ sz by omega)
    by_cases h256 : 256 < rs.length
    · rw [if_pos h256] at hE
      have HE : Hid _ := hE
      have i1 : ¬ (kn : Int) < 2 := by omega
      have i2 : ¬ (8 : Int) < kn := by omega
      have i3 : ¬ (sn : Int) < 1 := by omega
      have i4 : ¬ (255 : Int) < sn := by omega
      have i5 : (256 : Int) < len := by omega
      have hlm : len ≤ 9223372036854775807 := by have := Nat.le_trans h.le h.most; unfold maxLen at this; omega
      clear hE h256 hlx hv
      go_enter Try.func15, Try.ntmps15
      go_wp2
      go_ret2
      rw [HE.out]
      exact EncOut.bad (Below.refl _ _)
    · rw [if_neg h256] at hE
      rw [hE]
      exact rpass_any kn sn (by omega) (by omega) (by omega) (by omega) rs.length rs w ao len cap (Nat.le_refl _) (by omega) h hb ht
  · have hE : Hid (mergeZ rs k sz = ([], 1)) := by show _ = _; unfold mergeZ; rw [if_neg hv]
    have hsp : k < 2 ∨ (¬ k < 2 ∧ 8 < k) ∨ (¬ k < 2 ∧ ¬ 8 < k ∧ sz < 1) ∨ (¬ k < 2 ∧ ¬ 8 < k ∧ ¬ sz < 1 ∧ 255 < sz) := by omega
    clear hv
    rcases hsp with h1 | ⟨h1, h2⟩ | ⟨h1, h2, h3⟩ | ⟨h1, h2, h3, h4⟩
    all_goals go_enter Try.func15, Try.ntmps15
    all_goals go_wp2
    all_goals go_ret2
    all_goals rw [hE.out]
    all_goals exact EncOut.bad (Below.refl _ _)
#print axioms rpmerge_any
#print axioms rpass_any
end Go.Proofs.Ytknfjonaepggnaa
