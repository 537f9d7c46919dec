/- The landed pass of passes: what one pass makes of runs. -/
import Derived.Test.YtknfjonaepggnaaPassesCode
import Derived.Test.YtknfjonaepggnaaLoserRunsC
namespace Go.Proofs.Ytknfjonaepggnaa
open Go.RowKit
set_option linter.unusedVariables false
set_option linter.unusedSimpArgs false

theorem RowOwns.mono {w : World} {b b' : Nat} {vs : List Value} {ls : List (List Int)} (h : RowOwns w b vs ls) (hle : b' ≤ b) : RowOwns w b' vs ls :=
  ⟨h.length, fun i v l hv hl => by
    obtain ⟨ai, ci, rfl, hr⟩ := h.row i v l hv hl
    exact ⟨ai, ci, rfl, own_mono hr hle⟩⟩
def PassOut (w : World) (q : List (List Int) × Nat) (e : Ending) (w' : World) : Prop :=
  ∃ an cc j vs, e = .returned (.tuple #[.slice an j cc, .int .i64 (q.2 : Nat)]) ∧ j = q.1.length ∧ w'.ownsRow w.heap.size 30 1 (.slice an j cc) j vs ∧ RowOwns w' w.heap.size vs q.1 ∧ Below w.heap.size w w'
theorem PassOut.bad {w w' : World} {d : Nat} (h : Below w.heap.size w w') : PassOut w ([], d) (.returned (.tuple #[.slice none 0 0, .int .i64 (d : Nat)])) w' :=
  ⟨none, 0, 0, [], rfl, rfl, World.ownsRow_nil _ _ _ _, RowOwns.nil _ _, h⟩

set_option maxRecDepth 100000 in
set_option maxHeartbeats 4000000 in
theorem ppass_any (k s : Nat) (k1 : 2 ≤ k) (k2 : k ≤ 8) (s1 : 1 ≤ s) (s2 : s ≤ 255) (rs' : List (List Int)) (w : World) (ao' : Option Addr) (len' cap' : Nat) (hl1 : 1 ≤ len') (hl2 : len' ≤ 256) (h : ReadsRows w ao' len' cap' rs') (hb : ∀ r ∈ rs', isBytes r ∧ r.length ≤ 100000000) (ht : totL (decAll rs') ≤ 200000) :
    Calls Try.prog 18 #[.slice ao' len' cap', .int .i64 (k : Nat), .int .i64 (s : Nat)] w fun e w' => PassOut w (partsM rs' k s (upN len' k)) e w' := by
  have Hlx : Hid _ := h.length
  have hz : groupsZ (len' : Nat) (k : Nat) = groupsL len' k := by unfold groupsZ; rw [nat_fan (by omega) (by omega) k1 k2]; simp
  have pg := groups_any (len' : Nat) (k : Nat) w (by omega) (by omega) (by omega) (by omega)
  rw [hz, groups_len] at pg
  have hul : upN len' k ≤ 256 := (ups_le (by omega)).2 (by have : 256 * 1 ≤ 256 * k := Nat.mul_le_mul_left _ (by omega); omega)
  obtain ⟨u, hu⟩ : ∃ u, u = upN len' k := ⟨_, rfl⟩
  rw [← hu] at pg hul
  rw [← hu]
  have Hu : Hid _ := hu
  have Hb : Hid (∀ r ∈ rs', isBytes r ∧ r.length ≤ 100000000) := hb
  have Ht : Hid (totL (decAll rs') ≤ 200000) := ht
  have H0 : Hid _ := h
  clear hz hu h hb ht
  go_enter Try.func18, Try.ntmps18
  go_wp2_with fail
  refine pg.mono ?_
  rintro e w1 ⟨ag, cg, rfl, ho, hG⟩
  have hgr := ReadsE.own ho
  have hr1 := H0.out.later hG (Nat.le_refl _)
  have HG : Hid _ := hG
  clear pg ho hG H0
  go_wp2_with fail
  go_loopw [8, 18] (fun v i wr => ∃ (j : Nat) (an : Option Addr) (cc : Nat) (vs : List Value), v = .slice an j cc ∧ i = .int .i64 (j : Nat) ∧ j ≤ u ∧ Hid ((partsM rs' k s j).2 = 0) ∧ Hid (wr.ownsRow w1.heap.size 30 1 (.slice an j cc) j vs) ∧ Hid (RowOwns wr w1.heap.size vs (partsM rs' k s j).1) ∧ Hid (Below w1.heap.size w1 wr)) (fun _ i _ => (u - intOf i).toNat)
  case atStart => exact ⟨0, none, 0, [], rfl, rfl, Nat.zero_le _, rfl, World.ownsRow_nil _ _ _ _, RowOwns.nil _ _, Below.refl _ _⟩
  case round =>
    obtain ⟨j, an, cc, vs, rfl, rfl, hj, hA, hrow, hO, hB⟩ := hrel
    have hsz0 := hB.out.size
    by_cases hju : j < u
    · have hji : (j : Int) < u := by omega
      obtain ⟨bg, og, rfl, hbg, hcg⟩ := hgr.atP (by omega)
      have hga := groups_at (n := len') (k := k) (i := j) (by rw [← Hu.out]; exact hju)
      obtain ⟨lo, hlo⟩ : ∃ lo, lo = j * k := ⟨_, rfl⟩
      obtain ⟨hi, hhi⟩ : ∃ hi, hi = min (j * k + k) len' := ⟨_, rfl⟩
      have hlt : j * k < len' := (lt_ups (by omega)).1 (by rw [← Hu.out]; exact hju)
      have hcc := hcg j _ hga
      simp only at hcc
      rw [← hhi, ← hlo] at hcc
      have c1 : wr.cell? ⟨bg, og + j * 2, none⟩ = some (.int .i64 (lo : Nat)) := (hB.out.cell (p := ⟨bg, og + j * 2, none⟩) hbg).trans hcc.1
      have c2 : wr.cell? ⟨bg, og + j * 2 + 1, none⟩ = some (.int .i64 (hi : Nat)) := (hB.out.cell (p := ⟨bg, og + j * 2 + 1, none⟩) hbg).trans hcc.2
      obtain ⟨vr, hRv, hV⟩ := hr1.vals
      obtain ⟨x1, hs1, hd1⟩ := Reads.mid (P := Try.prog) Try.underlying28 Try.sizeOf30 (ao := ao') (len := len') (cap := cap') hr1.le lo hi (by omega) (by omega)
      have hpl : (partAt rs' k j).length = hi - lo := by rw [← part_mid (n := len') Hlx.out, List.length_take, List.length_drop, Hlx.out]; omega
      have hpart : ∀ W, Below wr.heap.size wr W → ReadsRows W x1 (hi - lo) (cap' - lo) (partAt rs' k j) := fun W hW => by
        have hb1 : Below w1.heap.size w1 W := hB.out.trans (hW.mono hsz0)
        have q := hd1 _ _ (hRv.later hb1 (Nat.le_refl _))
        rw [hlo, hhi, part_mid (n := len') hRv.length] at q
        rw [hlo, hhi]
        exact ReadsRows.of q ((hV.part k j).later hb1 (Nat.le_refl _))
      have pr := fun W (hW : Below wr.heap.size wr W) => runs_any (hpart W hW) (fun r hr => (Hb.out r (part_sub hr)).1) (fun r hr => (Hb.out r (part_sub hr)).2) (by
        rw [decAll_part]
        have h3 := (tot_cut ((decAll rs').drop (j * k)) k).1
        have h4 := (tot_cut (decAll rs') (j * k)).2
        have h5 := Ht.out
        unfold totL at h3 h4 h5
        unfold partAt
        omega) (by omega) (s : Nat) s (.inl rfl) (by omega)
      unfold EncOut at pr
      have hpn : partsM rs' k s (j + 1) = if (partsM rs' k s j).2 = 0 then (if (runsM (partAt rs' k j) s).2 = 0 then ((partsM rs' k s j).1 ++ [(runsM (partAt rs' k j) s).1], 0) else ([], (runsM (partAt rs' k j) s).2)) else partsM rs' k s j := rfl
      rw [if_pos hA.out] at hpn
      obtain ⟨⟨y, d⟩, hy⟩ : ∃ q, q = runsM (partAt rs' k j) s := ⟨_, rfl⟩
      rw [← hy] at hpn pr
      simp only at hpn pr
      have Hpn : Hid _ := hpn
      have PR : Hid _ := pr
      have hlh : lo ≤ hi := by omega
      have hhl : hi ≤ len' := by omega
      have hcl := hr1.le
      have hl0 : (0 : Int) ≤ lo := by omega
      have HB : Hid _ := hB.out
      have HR1 : Hid _ := hr1
      have HGR : Hid _ := hgr
      clear hga hcg hcc hlo hhi hlt hRv hV hd1 hpl hpart hpn hy hB pr hr1 hgr
      go_wp2_with fail
      have hGa0 : Below wr.heap.size wr (wr.alloc (.cells #[.int .i64 (lo : Nat), .int .i64 (hi : Nat)] 25)) := (Below.refl _ _).alloc (Nat.le_refl _) _
      refine (PR.out _ hGa0).mono ?_
      rintro e w2 ⟨a2, c2', m2, rfl, hm2, ho2, hG2⟩
      subst hm2
      have hG3 : Below wr.heap.size wr w2 := hGa0.trans (hG2.mono hGa0.size)
      have ho3 := own_mono ho2 (show wr.heap.size ≤ _ from hGa0.size)
      have hB2 := HB.out.trans (hG3.mono hsz0)
      clear hGa0 hG2 ho2 PR
      by_cases hd : d = 0
      case neg =>
        have hp1 : partsM rs' k s (j + 1) = ([], d) := by rw [Hpn.out, if_neg hd]
        have hpu := partsM_stop hp1 hd u hju
        have HE2 : Hid (partsM rs' k s u = ([], d)) := hpu
        have hdi : ¬ (d : Int) = 0 := by omega
        have HBz : Hid _ := HG.out.trans (hB2.mono HG.out.size)
        clear hd hp1 hpu ho3 hG3 hO hrow hB2 HB hs1 c1 c2
        go_wp2
        go_ret2
        rw [HE2.out]
        exact PassOut.bad HBz.out
      subst hd
      have hp1 : partsM rs' k s (j + 1) = ((partsM rs' k s j).1 ++ [y], 0) := by rw [Hpn.out, if_pos rfl]
      have hrow1 := own_later hrow.out hG3 (Nat.le_refl _)
      have hO1 := (hO.out.later hG3 (Nat.le_refl _)).snoc (l := y) rfl (own_mono ho3 (show w1.heap.size ≤ _ from hsz0))
      have hGa : Grow w2 (w2.alloc (.cells #[.slice a2 y.length c2'] 30)) := (Below.refl _ _).alloc (Nat.le_refl _) _
      have hrow2 := own_later hrow1 hGa (Nat.le_refl _)
      have hO2 := hO1.later hGa (Nat.le_refl _)
      have hB3 := hB2.trans (hGa.mono hB2.size)
      have hone1 : ∀ u ∈ [Value.slice a2 y.length c2'], u.oneCell' = true := fun u hu => by simp at hu; subst hu; rfl
      have hm1 : j + 1 ≤ maxLen := by unfold maxLen; omega
      have hm2 : (j + 1) * 24 ≤ 140737488355328 := by omega
      have hb3 := hB3.size
      have HO2 : Hid _ := hO2
      have HB3 : Hid _ := hB3
      have Hrow2 : Hid _ := hrow2
      have Hp1 : Hid _ := hp1
      clear ho3 hG3 hO hrow hrow1 hO1 hGa hO2 hB2 hB3 HB hs1 c1 c2 hp1 Hpn hA
      go_wp2_with (at_builtin; refine wpList_append_grown rfl _ _ 28 rfl w1.heap.size 30 Try.infoBs rfl Try.underlying28 _ _ _ _ rfl hrow2 _ _ _ _ rfl (reads_one _ _ _) hone1 hm1 hm2 (Nat.le_trans hb3 (by simp)) ?_; intro ag2 c3 w4 hr4 hg4 hb4)
      have HO4 : Hid (RowOwns w4 w1.heap.size (vs ++ [.slice a2 y.length c2']) (partsM rs' k s (j + 1)).1) := by rw [Hp1.out]; exact HO2.out.apart Hrow2.out (by decide) hg4
      have HA4 : Hid ((partsM rs' k s (j + 1)).2 = 0) := by show _ = _; rw [Hp1.out]
      have HB4 : Hid _ := HB3.out.trans hb4
      have Hr4 : Hid _ := hr4
      clear hr4 hg4 hb4 HO2 Hrow2 hrow2 HB3
      go_wp2
      go_roundw
      case rel => exact ⟨j + 1, ag2, c3, _, rfl, by go_num, by omega, HA4, Hr4, HO4, HB4⟩
      case measure => simp [intOf]; omega
    · have hje : j = u := by omega
      subst hje
      have hni : ¬ (j : Int) < j := by omega
      have hpl := partsM_len rs' k s j hA.out
      have Hpl : Hid _ := hpl
      have hgb := HG.out.size
      have HBz : Hid _ := HG.out.trans (hB.out.mono hgb)
      have Ho : Hid _ := hO.out.mono hgb
      have Hr : Hid _ := own_mono hrow.out hgb
      clear hju hj hpl hrow hO hB
      go_wp2
      go_ret2
      rw [show partsM rs' k s j = ((partsM rs' k s j).1, 0) by rw [← hA.out]]
      exact ⟨an, cc, j, vs, rfl, Hpl.out.symm, Hr.out, Ho.out, HBz.out⟩
#print axioms ppass_any
end Go.Proofs.Ytknfjonaepggnaa
