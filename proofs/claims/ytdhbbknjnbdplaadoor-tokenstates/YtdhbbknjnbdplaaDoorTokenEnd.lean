/- token.End (over a scratch token: told, under := words.Feed(s.Under, utf.End(s.Pend)); append(told, words.End(under)...)). -/
import Derived.Test.YtdhbbknjnbdplaaDoorTokenCode
import Derived.Test.YtdhbbknjnbdplaaDoorTokenGetL
import Derived.Deep.RegionHeld
import Derived.Deep.Cut
namespace Go.Proofs.YtdhbbknjnbdplaaDoor
open Go.RowKit
set_option linter.unusedVariables false
set_option linter.unusedSimpArgs false

set_option maxRecDepth 100000 in
set_option maxHeartbeats 4000000 in
theorem tend_any (po : Option Addr) (plen pcap : Nat) (ps : List Int) (ao : Option Addr) (len cap : Nat) (u : UnderW) (mk lg : Bool) (hmk : u.mark = mk) (hlg : u.long = lg) (w : World)
    (hp : Reads w po plen pcap (ps.map (.int .u8))) (p8 : isBytes ps) (hplen : plen ≤ 100000) (hr : Reads w ao len cap (u.word.map (.int .i32))) (hok : OkW u)
    (htb : Tabs w := by first | assumption | exact Tabs.grow (by assumption) (by assumption)) :
    Calls Tryd.prog 21 #[.agg #[.slice po plen pcap, .slice ao len cap, .bool mk, .bool lg]] w fun e w' => ∃ ag c m, e = .returned (.slice ag m c) ∧ m = (endT ps u).length ∧
      w'.ownsRow w.heap.size 9 1 (.slice ag m c) m ((endT ps u).map wordV) ∧ Below w.heap.size w w' := by
  have hl : ps.length = plen := by simpa using hp.length
  have hle := all_leT ps
  have hfl := feed_len (allU ps) u
  have hrg := all_range p8
  have hB0 : Below w.heap.size w (w.alloc (.cells #[.slice po plen pcap, .slice ao len cap, .bool mk, .bool lg] 34)) := (Below.refl _ _).alloc (Nat.le_refl _) _
  have k0 := heap_alloc_new w (.cells #[.slice po plen pcap, .slice ao len cap, .bool mk, .bool lg] 34)
  have rp0 := hp.later hB0 (Nat.le_refl _)
  have rw0 := hr.later hB0 (Nat.le_refl _)
  have ht0 := Tabs.grow hB0 htb
  have Hmk : Hid _ := hmk
  have Hlg : Hid _ := hlg
  have hokF := feed_ok (allU ps) hok
  clear hp hr htb hmk hlg
  go_enter Tryd.func21, Tryd.ntmps21
  go_upto_region 1 with (fail)
  generalize hw0 : w.alloc (.cells #[.slice po plen pcap, .slice ao len cap, .bool mk, .bool lg] 34) = w0 at hB0 k0 rp0 rw0 ht0 ⊢
  have ha0 : ∀ W, Below w0.heap.size w0 W → W.cell? ⟨w.heap.size, 0, none⟩ = some (.slice po plen pcap) := fun W hW => (blk4 ((hW.block _ (lt_of_block k0)).trans k0)).1
  have ha1 : ∀ W, Below w0.heap.size w0 W → W.cell? ⟨w.heap.size, 1, none⟩ = some (.slice ao len cap) := fun W hW => (blk4 ((hW.block _ (lt_of_block k0)).trans k0)).2.1
  have ha2 : ∀ W, Below w0.heap.size w0 W → W.cell? ⟨w.heap.size, 2, none⟩ = some (.bool mk) := fun W hW => (blk4 ((hW.block _ (lt_of_block k0)).trans k0)).2.2.1
  have ha3 : ∀ W, Below w0.heap.size w0 W → W.cell? ⟨w.heap.size, 3, none⟩ = some (.bool lg) := fun W hW => (blk4 ((hW.block _ (lt_of_block k0)).trans k0)).2.2.2.1
  generalize hF : feedW u (allU ps) = F at hfl hokF
  have HF : Hid _ := hF
  clear hw0 hF k0
  go_cut [3, 4] from 5 (fun v3 v wc => ∃ (B : Nat) (tg : Option Addr) (tm tc : Nat) (bg : Option Addr) (k d : Nat) (mk lg : Bool), v3 = .slice tg tm tc ∧ v = .pointer (some ⟨B, 0, none⟩) ∧ wc.heap[B]? = some (Obj.cells #[.slice bg k d, .bool mk, .bool lg] 32 (0, 0)) ∧ Hid (mk = F.2.mark) ∧ Hid (lg = F.2.long) ∧ tm = F.1.length ∧ wc.ownsRow w0.heap.size 9 1 (.slice tg tm tc) tm (F.1.map wordV) ∧ Reads wc bg k d (F.2.word.map (.int .i32)) ∧ Below w0.heap.size w0 wc)
  case first =>
    go_region_held (fun W => Below w0.heap.size w0 W) (first | exact Below.refl _ _ | exact Below.drew (Below.refl _ _) | assumption | exact Grow.trans (by assumption) (by assumption) | exact Below.alloc (by assumption) (Below.size (by assumption)) _ | exact Below.alloc (Grow.trans (Grow.trans (Below.drew (Below.refl _ _)) (by assumption)) (by assumption)) (Below.size (Grow.trans (Grow.trans (Below.drew (Below.refl _ _)) (by assumption)) (by assumption))) _ | exact below_set3 (by assumption) (Nat.le_refl _) _ _ _ | exact below_set3 (by assumption) (Below.size (Grow.trans (Below.drew (Below.refl _ _)) (by assumption))) _ _ _) (first | (go_at_call 39; refine (uend_any _ _ _ ps _ (rp0.later (by first | assumption | exact Below.drew (Below.refl _ _)) (Nat.le_refl _)) p8 (by omega)).mono ?_; rintro e wa ⟨rg, rc, rm, rfl, hrm, hra, hba⟩; have hrml : rm ≤ 1000000000 := Nat.le_trans (Nat.le_of_eq hrm) (by omega); clear hrm; try (have hz1 := (hba.block w0.heap.size (by simp)).trans (heap_alloc_new _ _))) | (go_at_call 38; refine (wfeed_v _ _ _ u _ _ Hmk.out Hlg.out _ _ _ (allU ps) _ (rw0.later (by first | assumption | exact Below.drew (Below.refl _ _)) (Nat.le_refl _)) hok (by first | exact hra | exact hra.later ((Below.refl _ _).alloc (Nat.le_refl _) _) (Nat.le_refl _)) hrg hrml (ht0.later (by first | assumption | exact Below.drew (Below.refl _ _)) (Nat.le_refl _))).mono ?_; rw [HF.out]; rintro e wb ⟨tg, tc, tm, bg, d, k, mk2, lg2, rfl, hmk2, hlg2, hm2, hk2, hot, hou, hbb⟩; have Hmk2 : Hid _ := hmk2; have Hlg2 : Hid _ := hlg2; have Hm2 : Hid _ := hm2; clear hmk2 hlg2 hm2 hk2; (try (have hz2 := (hbb.block _ (lt_of_block hz1)).trans hz1; have cz2 := blk3 hz2)); (try (have hz3 := (hbb.block wa.heap.size (by simp)).trans (heap_alloc_new _ _); have cz3 := blk3 hz3))))
    · have hxa : Below wb.heap.size wb (wb.alloc (.cells #[.slice bg k d, .bool mk2, .bool lg2] 32)) := (Below.refl _ _).alloc (Nat.le_refl _) _
      have g1 := own_mono (own_later hot hxa (Nat.le_refl _)) (show w0.heap.size ≤ _ from hba.size)
      have g2 := (Reads.own hou).later hxa (Nat.le_refl _)
      go_wp2_with fail
      go_meet
      case rel => exact ⟨wb.heap.size, tg, tm, tc, bg, k, d, mk2, lg2, rfl, rfl, heap_alloc_new _ _, Hmk2.out, Hlg2.out, Hm2.out, g1, g2, by assumption⟩
    · have hot' := own_mono hot (show w0.heap.size ≤ _ from Nat.le_trans hba.size (by simp))
      have g1 := own_set3 hot' (own_type hot hz3 (by decide)) (.slice bg k d) (.bool mk2) (.bool lg2)
      have g2 := Reads.own (own_set3 hou (own_type hou hz3 (by decide)) (.slice bg k d) (.bool mk2) (.bool lg2))
      have g3 := blk3_set hz3 (.slice bg k d) (.bool mk2) (.bool lg2)
      go_wp2_with fail
      go_meet
      case rel => exact ⟨wa.heap.size, tg, tm, tc, bg, k, d, mk2, lg2, rfl, rfl, g3, Hmk2.out, Hlg2.out, Hm2.out, g1, g2, by assumption⟩
    · have hot' := own_mono hot (show w0.heap.size ≤ _ from Nat.le_trans (by simp) hba.size)
      have g1 := own_set3 hot' (own_type hot hz2 (by decide)) (.slice bg k d) (.bool mk2) (.bool lg2)
      have g2 := Reads.own (own_set3 hou (own_type hou hz2 (by decide)) (.slice bg k d) (.bool mk2) (.bool lg2))
      have g3 := blk3_set hz2 (.slice bg k d) (.bool mk2) (.bool lg2)
      go_wp2_with fail
      go_meet
      case rel => exact ⟨w0.heap.size, tg, tm, tc, bg, k, d, mk2, lg2, rfl, rfl, g3, Hmk2.out, Hlg2.out, Hm2.out, g1, g2, by assumption⟩
  clear ha0 ha1 ha2 ha3 rp0 rw0 Hmk Hlg
  obtain ⟨B, tg, tm, tc, bg, k, d, mk, lg, rfl, rfl, kB, Hmk, Hlg, htm, hot, rw2, hbc⟩ := hcut
  have cB := blk3 kB
  have hml : tm ≤ 100000 := by omega
  have Htm : Hid _ := htm
  have hBc : Below w.heap.size w wc := Below.trans hB0 (hbc.mono hB0.size)
  clear htm
  go_wp2_with fail
  refine (wend_any _ _ _ F.2 _ _ Hmk.out.symm Hlg.out.symm _ rw2 hokF).mono ?_
  rintro e wd ⟨eg, ec, em, rfl, hem, hoe, hbd⟩
  have hem1 : em ≤ 1 := Nat.le_trans (Nat.le_of_eq hem) (tell_le _)
  have Hem : Hid _ := hem
  have hot2 := own_mono (own_later hot hbd (Nat.le_refl _)) hB0.size
  have hBd : Below w.heap.size w wd := Below.trans hBc (hbd.mono hBc.size)
  have hsd := hBd.size
  clear hem hot hbd hBc kB cB rw2 hbc
  go_wp2_with (at_builtin; refine wpList_append_grown rfl (.tmp 14) (.tmp 16) 25 rfl w.heap.size 9 Tryd.infoStr rfl Tryd.underlying25 _ _ _ _ rfl hot2 _ _ _ _ rfl (Reads.own hoe) (words_oneCell _) (by unfold maxLen; omega) (by omega) hsd ?_)
  intro ag3 c3 w3 hown3 hg3 hb3
  have hB3 : Below w.heap.size w w3 := Below.trans hBd hb3
  clear hot2 hBd hb3 hg3 hoe hsd
  go_wp2
  go_ret
  have hE : endT ps u = F.1 ++ tellW F.2 := by unfold endT; rw [HF.out]
  rw [hE]
  exact ⟨ag3, c3, tm + em, rfl, by rw [List.length_append, ← Htm.out, ← Hem.out], by rw [List.map_append]; exact hown3, hB3⟩
#print axioms tend_any
end Go.Proofs.YtdhbbknjnbdplaaDoor
