/- The document's own Block. -/
import Derived.Test.YtgnhnhachhfafaaRef09
import Derived.Test.YtgnhnhachhfafaaRef01
import Derived.Test.YtgnhnhachhfafaaInfos
import Derived.Test.YtgnhnhachhfafaaRunRows
import Derived.Lib.AppendStr
import Derived.Deep.RegionHeld
import Derived.Deep.CutRange
namespace Go.Proofs.Ytgnhnhachhfafaa
open Go.RowKit
set_option linter.unusedVariables false
set_option linter.unusedSimpArgs false

def lastW : Wd → List En → Wd
  | was, [] => was
  | _, e :: l => lastW e.1 l
theorem ents_snoc : ∀ (l : List En) (was : Wd) (e : En), entsL was (l ++ [e]) = entsL was l ++ entL (lastW was l) e
  | [], was, e => by simp [entsL, lastW]
  | a :: l, was, e => by simp only [List.cons_append, entsL, lastW]; rw [ents_snoc l a.1 e, List.append_assoc]
theorem last_snoc : ∀ (l : List En) (was : Wd) (e : En), lastW was (l ++ [e]) = e.1
  | [], _, _ => rfl
  | a :: l, was, e => by simp only [List.cons_append, lastW]; exact last_snoc l a.1 e
theorem last_take {l : List En} {j : Nat} {e : En} (h : l[j]? = some e) : lastW [] (l.take (j + 1)) = e.1 := by
  rw [List.take_add_one, h]; exact last_snoc _ _ _
theorem ents_next {l : List En} {j : Nat} {e : En} (h : l[j]? = some e) : entsL [] (l.take (j + 1)) = entsL [] (l.take j) ++ entL (lastW [] (l.take j)) e := by
  rw [List.take_add_one, h]; exact ents_snoc _ _ _
theorem str_cells (k : Wd) : Lib.strCells (⟨k.toArray⟩ : ByteArray) = (bytesI k).map (.int .u8) := by
  simp [Lib.strCells, bytesI, List.map_map, Function.comp_def]
theorem str_from (k : Wd) (n : Nat) : (⟨k.toArray⟩ : ByteArray).extract n (⟨k.toArray⟩ : ByteArray).size = ⟨(k.drop n).toArray⟩ := by
  apply ByteArray.ext
  simp [ByteArray.size]
  rw [List.take_of_length_le (by simp)]

theorem own1_slice {w : World} {base e n : Nat} {v : Value} {xs : List Value} (h : w.ownsRow base e 1 v n xs) : ∃ ao cap, v = .slice ao n cap := by
  rcases h.2 with ⟨h1, h2⟩ | ⟨g, cap, cur, h1, _⟩
  · exact ⟨none, 0, by rw [h1, h2]⟩
  · exact ⟨_, cap, h1⟩
/-- Bytes, in memory of the call's own. -/
def BytesOut (w : World) (bs : List Int) (e : Ending) (w' : World) : Prop := ∃ ag c m, e = .returned (.slice ag m c) ∧ m = bs.length ∧ w'.ownsRow w.heap.size 5 1 (.slice ag m c) m (bs.map (.int .u8)) ∧ Below w.heap.size w w'
set_option maxRecDepth 100000 in
set_option maxHeartbeats 2000000 in
theorem rblock_any {w : World} {ao : Option Addr} {len cap : Nat} {es : List En} (h : ReadsE w ao len cap (cellsE es)) (ho : ∀ e ∈ es, oneE e = true) (hl : len ≤ 255) :
    Calls Try.prog 43 #[.slice ao len cap] w fun e w' => BytesOut w (blockL es) e w' := by
  have hlx := h.count
  subst hlx
  obtain ⟨i0, hi, hz0, hz1, hz2⟩ := info_parts Try.infoByte
  have p0 := rput_any none 0 0 [] es.length w (Reads.nil w) (by omega) (by omega)
  rw [List.nil_append] at p0
  go_enter Try.func43, Try.ntmps43
  go_wp2_with fail
  refine p0.mono ?_
  rintro e wa ⟨ag, c, m, hm, rfl, hra, hba⟩
  clear hm
  have hra' : wa.ownsRow w.heap.size 5 1 (.slice ag m c) m ((encode es.length ++ entsL [] (es.take 0)).map (.int .u8)) := by simpa [entsL] using hra
  clear p0 hra
  go_wp2_with fail
  go_loopw [3, 4] (fun bv i wr => ∃ (j : Nat) (ag : Option Addr) (c m : Nat), i = .int .i64 j ∧ bv = .slice ag m c ∧ j ≤ es.length ∧ wr.ownsRow w.heap.size 5 1 (.slice ag m c) m ((encode es.length ++ entsL [] (es.take j)).map (.int .u8)) ∧ Below w.heap.size w wr) (fun _ i _ => (es.length - intOf i).toNat)
  case atStart => exact ⟨0, ag, c, m, rfl, rfl, by omega, hra', hba⟩
  case round =>
    obtain ⟨j, ag, c, m, rfl, rfl, hj, hr, hB⟩ := hrel
    clear hra' hba
    have hlen : m = (encode es.length ++ entsL [] (es.take j)).length := by have := hr.1; simp at this ⊢; omega
    have hsm : m ≤ 100000 := by
      have h1 := ents_len (es.take j) [] fun e he => ho e (List.mem_of_mem_take he)
      have h2 := encode_len es.length
      rw [List.length_take] at h1
      rw [hlen, List.length_append]
      omega
    have Hlen : Hid _ := hlen
    clear hlen
    by_cases hjl : j < es.length
    case neg =>
      have hje : j = es.length := by omega
      have hE : Hid (encode es.length ++ entsL [] (es.take j) = blockL es) := by show _ = _; rw [hje, List.take_of_length_le (Nat.le_refl _)]; rfl
      have hlt : ¬ (j : Int) < es.length := by omega
      clear hje hjl
      rw [hE.out] at hr Hlen
      go_wp2
      go_ret
      exact ⟨ag, c, m, rfl, Hlen.out, hr, hB⟩
    have hji : (j : Int) < es.length := by omega
    obtain ⟨⟨ek, en⟩, he⟩ : ∃ e, es[j]? = some e := ⟨_, List.getElem?_eq_getElem hjl⟩
    have hone := one_ok.1 (ho _ (List.mem_of_getElem? he))
    simp only at hone
    obtain ⟨b, off, rfl, hbl, hc⟩ := h.at (by omega)
    have hcell : ∀ W, Below w.heap.size w W → W.cell? ⟨b, off + j * 2, none⟩ = some (strV ek) ∧ W.cell? ⟨b, off + j * 2 + 1, none⟩ = some (.int .u64 (en : Nat)) := fun W hW =>
      ⟨(hW.cell (p := ⟨b, off + j * 2, none⟩) hbl).trans (hc j _ he).1, (hW.cell (p := ⟨b, off + j * 2 + 1, none⟩) hbl).trans (hc j _ he).2⟩
    have hnext : Hid (encode es.length ++ entsL [] (es.take (j + 1)) = (encode es.length ++ entsL [] (es.take j)) ++ entL (lastW [] (es.take j)) (ek, en)) := by show _ = _; rw [ents_next he, List.append_assoc]
    -- the shared begin
    generalize hwas : lastW [] (es.take j) = was at hnext
    have hwl : was.length ≤ 255 := by
      rw [← hwas]
      cases j with
      | zero => simp [lastW]
      | succ j' =>
        obtain ⟨e', he'⟩ : ∃ e, es[j']? = some e := ⟨_, List.getElem?_eq_getElem (by omega)⟩
        rw [last_take he']
        exact (one_ok.1 (ho _ (List.mem_of_getElem? he'))).2.1
    have hal := alike_le was ek
    have A1 : Hid (∃ N, N = alikeW was ek) := ⟨_, rfl⟩
    obtain ⟨N, hN⟩ := A1.out
    have HN : Hid _ := hN
    have hNe : N ≤ ek.length := by omega
    have hNi : (N : Int) ≤ ek.length := by omega
    have hwr : IntKind.i64.wrap ((ek.length : Int) - N) = ((ek.length - N : Nat) : Int) := by simp [IntKind.wrap, IntKind.bits, IntKind.signed]; omega
    have hsub : (ek.length : Int) - N = ((ek.length - N : Nat) : Int) := by omega
    have hsl : ∀ W, (Instr.slice 9 (strV ek) (some (.int .i64 (N : Int))) none none).run Try.prog W = .ok (strV (ek.drop N)) W := fun W => by
      rw [run_slice_string_l W 9 _ Try.underlying9 .i64 (N : Int) (by omega) (by simp [ByteArray.size]; omega), Int.toNat_natCast, str_from]
    have hc1 : ∀ W, Below w.heap.size w W → W.cell? ⟨b, off + j * 2, none⟩ = some (strV ek) := fun W hW => (hcell W hW).1
    have hc2 : ∀ W, Below w.heap.size w W → W.cell? ⟨b, off + j * 2 + 1, none⟩ = some (.int .u64 (en : Nat)) := fun W hW => (hcell W hW).2
    go_upto_if 17 with (fail)
    go_cut [5] from 10 to 60 (fun nv wq => nv = .int .i64 (N : Nat) ∧ wq.ownsRow w.heap.size 5 1 (.slice ag m c) m ((encode es.length ++ entsL [] (es.take j)).map (.int .u8)) ∧ Below w.heap.size w wq)
    case first =>
      rcases Nat.eq_zero_or_pos j with hj0 | hj0
      · have hN0 : N = 0 := by rw [hN, ← hwas, hj0]; simp [lastW, alike_nil]
        have hj0i : ¬ (0 : Int) < j := by omega
        have HN0 : Hid _ := hN0
        clear hN hwas hal hcell hc hj0 hN0
        go_wp2_with fail
        go_meet
        case rel => exact ⟨by rw [HN0.out]; rfl, hr, hB⟩
      · obtain ⟨j', rfl⟩ : ∃ j', j = j' + 1 := ⟨j - 1, by omega⟩
        obtain ⟨⟨pk, pn⟩, hp'⟩ : ∃ e, es[j']? = some e := ⟨_, List.getElem?_eq_getElem (by omega)⟩
        have hpw : was = pk := by rw [← hwas, last_take hp']
        subst hpw
        have hone' := one_ok.1 (ho _ (List.mem_of_getElem? hp'))
        simp only at hone'
        have hra : ∀ W, Calls Try.prog 55 #[strV was, strV ek] W fun e w' => e = .returned (.int .i64 (N : Nat)) ∧ ∃ m, w' = W.drewN m := fun W => by
          have := ralike_any was ek W (by omega) (by omega)
          rw [← hN] at this
          exact this
        have hcp : ∀ W, Below w.heap.size w W → W.cell? ⟨b, off + j' * 2, none⟩ = some (strV was) := fun W hW => (hW.cell (p := ⟨b, off + j' * 2, none⟩) hbl).trans (hc j' _ hp').1
        have d1 := hc1 _ hB
        have d2 := hcp _ hB
        have e1 : ∀ W, Below wr.heap.size wr W → W.cell? ⟨b, off + (j' + 1) * 2, none⟩ = some (strV ek) := fun W hW => hc1 W (Below.trans hB (hW.mono hB.size))
        have e2 : ∀ W, Below wr.heap.size wr W → W.cell? ⟨b, off + j' * 2, none⟩ = some (strV was) := fun W hW => hcp W (Below.trans hB (hW.mono hB.size))
        have x1 : IntKind.i64.wrap ((j' : Int) + 1 - 1) = j' := by simp [IntKind.wrap, IntKind.bits, IntKind.signed]; omega
        have x2 : IntKind.i64.wrap (j' : Int) = j' := by simp [IntKind.wrap, IntKind.bits, IntKind.signed]; omega
        have x3 : (j' : Int) < es.length := by omega
        have x4 : (0 : Int) ≤ j' := by omega
        have x5 : (0 : Int) < (j' : Int) + 1 := by omega
        have x6 : (j' : Int) + 1 < es.length := by omega
        clear hN hwas hal hcell hc hp' hone' hsl hsub hwr hc1 hc2 hcp he
        go_wp2_with fail
        go_region_held (fun W => Below wr.heap.size wr W) (first | exact Below.refl _ _ | exact Below.drew (Below.refl _ _) | assumption | exact below_drewN (Below.refl _ _) _) (first | (go_at_call 55; refine (hra _).mono ?_; rintro e w' ⟨rfl, mm, rfl⟩))
        go_wp2_with fail
        go_meet
        case rel => exact ⟨rfl, hr, below_drewN hB _⟩
    case rest =>
      obtain ⟨rfl, hrq, hBq⟩ := hcut
      clear hr hB hN hwas hal hcell hc
      have hzl : m = (encode es.length ++ entsL [] (es.take j)).length := Hlen.out
      generalize hzs : encode es.length ++ entsL [] (es.take j) = zs at hrq hnext hzl
      have Hzl : Hid _ := hzl
      clear hzs hzl Hlen
      have p1 := rput_any ag m c zs N wc (Reads.own hrq) (by omega) (by omega)
      go_wp2_with fail
      refine p1.mono ?_
      rintro e w1 ⟨ag1, c1, m1, hm1, rfl, hr1, hb1⟩
      have e1 := encode_len N
      have hm1' : m1 ≤ 100010 := by omega
      have hB1 := Below.trans hBq (hb1.mono hBq.size)
      have hr1' := own_mono hr1 hBq.size
      have d1 := hc1 _ hB1
      have p2 := rput_any ag1 m1 c1 (zs ++ encode N) (ek.length - N) w1 (Reads.own hr1') (by omega) (by omega)
      clear p1 hr1 hb1 hm1 e1
      go_wp2_with fail
      refine p2.mono ?_
      rintro e w2 ⟨ag2, c2, m2, hm2, rfl, hr2, hb2⟩
      have e2 := encode_len (ek.length - N)
      have hm2' : m2 ≤ 100020 := by omega
      have hB2 := Below.trans hB1 (hb2.mono hB1.size)
      have hr2' := own_mono hr2 hB1.size
      have d2 := hc1 _ hB2
      have hdz : (⟨(ek.drop N).toArray⟩ : ByteArray).size = ek.length - N := by simp [ByteArray.size]
      have Hdz : Hid _ := hdz
      clear p2 hr2 hb2 hm2 e2 hr1' d1 hdz
      go_wp2_with (at_builtin; refine Lib.wpList_append_own_string _ rfl _ _ 33 9 rfl w.heap.size 5 i0 Try.underlying33 Try.underlying9 hi hz0 hz1 hz2 _ m2 _ rfl hr2' ⟨(ek.drop N).toArray⟩ rfl (by rw [Hdz.out]; unfold maxLen; omega) (by rw [Hdz.out]; omega) hB2.size ?_; intro v3 w3 hr3 hg3 hn3; obtain ⟨ag3, c3, rfl⟩ := own1_slice hr3; have hB3 := hB2.grown hg3 hB2.size (fun k hk => (hr2'.lt k hk).1); have d3 := hc2 _ hB3)
      rw [Hdz.out, str_cells, ← List.map_append] at hr3
      have hm3 : m2 + (ek.length - N) ≤ 100275 := by omega
      have p4 := rput_any ag3 (m2 + (ek.length - N)) c3 _ en w3 (Reads.own hr3) (by omega) (by omega)
      have Hr : Hid (encode es.length ++ entsL [] (es.take (j + 1)) = (zs ++ encode N ++ encode (ek.length - N) ++ bytesI (ek.drop N)) ++ encode en) := by
        show _ = _
        rw [hnext.out, HN.out]
        simp [entL, List.append_assoc]
      clear hr2' d2 hg3 hn3 hB2 hB1 hBq hrq
      go_wp2_with fail
      refine p4.mono ?_
      rintro e w4 ⟨ag4, c4, m4, hm4, rfl, hr4, hb4⟩
      have hB4 := Below.trans hB3 (hb4.mono hB3.size)
      have hr4' := own_mono hr4 hB3.size
      rw [← Hr.out] at hr4'
      clear p4 hr3 hr4 hb4 hm4 d3 hB3
      go_wp2
      go_roundw
      case rel => exact ⟨j + 1, ag4, c4, m4, by go_num, rfl, by omega, hr4', hB4⟩
      case measure => simp [intOf]; omega
#print axioms rblock_any
end Go.Proofs.Ytgnhnhachhfafaa
