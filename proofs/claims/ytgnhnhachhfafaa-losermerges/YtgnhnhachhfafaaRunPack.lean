/- The landed run.pack: a block's bytes. -/
import Derived.Test.YtgnhnhachhfafaaRunMay
import Derived.Test.YtgnhnhachhfafaaRef09Block
import Derived.Test.YtgnhnhachhfafaaNumPut
namespace Go.Proofs.Ytgnhnhachhfafaa
open Go.RowKit
set_option linter.unusedVariables false
set_option linter.unusedSimpArgs false

/-- A struct's block lies on behind an append onto a row of another type. -/
theorem cells_kept {w w' : World} {b base e n size : Nat} {cs : Array Value} {t : TypeId} {v : Value} {xs : List Value} (h : w.heap[b]? = some (.cells cs t (0, 0))) (hr : w.ownsRow base e size v n xs) (hne : t ≠ e) (hg : w.grownBy w' v.ownBlock) : w'.heap[b]? = some (.cells cs t (0, 0)) := by
  refine (hg.block b (Array.getElem?_eq_some_iff.1 h).1 fun e' => ?_).trans h
  rcases hr.2 with ⟨rfl, _⟩ | ⟨g, cap, cur, rfl, _, hgb, _⟩
  · simp [Value.ownBlock] at e'
  · obtain rfl : b = g := by simpa [Value.ownBlock] using e'
    rw [h] at hgb
    simp at hgb
    exact hne hgb.2
theorem cells_later {w w' : World} {b : Nat} {o : Obj} (h : w.heap[b]? = some o) (hb : Grow w w') : w'.heap[b]? = some o := (hb.block b (Array.getElem?_eq_some_iff.1 h).1).trans h
theorem blk2_cells {w : World} {b : Nat} {x y : Value} {t : TypeId} (h : w.heap[b]? = some (.cells #[x, y] t (0, 0))) : w.cell? ⟨b, 0, none⟩ = some x ∧ w.cell? ⟨b, 1, none⟩ = some y := by
  constructor <;> simp [World.cell?, h]

set_option maxRecDepth 100000 in
set_option maxHeartbeats 4000000 in
theorem pack_any {w : World} {ao : Option Addr} {len cap : Nat} {es : List En} (h : ReadsE w ao len cap (cellsE es)) (ho : ∀ e ∈ es, oneE e = true) (hl : len ≤ 255) :
    Calls Try.prog 51 #[.slice ao len cap] w fun e w' => BytesOut w (blockL es) e w' := by
  have hlx := h.count
  subst hlx
  obtain ⟨i0, hi, hz0, hz1, hz2⟩ := info_parts Try.infoByte
  have p0 := put_any none 0 0 [] es.length w (Reads.nil w) (by omega) (by omega)
  rw [List.nil_append] at p0
  go_enter Try.func51, Try.ntmps51
  go_wp2_with fail
  refine p0.mono ?_
  rintro e wa ⟨g, c, m, hm, rfl, hra, hba⟩
  clear hm
  have hra' : wa.ownsRow w.heap.size 5 1 (.slice (some ⟨g, 0, none⟩) m c) m ((encode es.length ++ entsL [] (es.take 0)).map (.int .u8)) := by simpa [entsL] using hra
  clear p0 hra
  go_wp2_with fail
  go_loopw [3, 4, 14] (fun bv sv i wr => ∃ (j : Nat) (ag : Option Addr) (c m : Nat), i = .int .i64 j ∧ bv = .slice ag m c ∧ sv = strV (lastW [] (es.take j)) ∧ j ≤ es.length ∧ wr.ownsRow w.heap.size 5 1 (.slice ag m c) m ((encode es.length ++ entsL [] (es.take j)).map (.int .u8)) ∧ Below w.heap.size w wr) (fun _ _ i _ => (es.length - intOf i).toNat)
  case atStart => exact ⟨0, _, c, m, rfl, rfl, rfl, by omega, hra', hba⟩
  case round =>
    obtain ⟨j, ag, c, m, rfl, rfl, rfl, hj, hr, hB⟩ := hrel
    clear hra' hba
    have hlen : m = (encode es.length ++ entsL [] (es.take j)).length := by have := hr.1; simp at this ⊢; omega
    have hsm : m ≤ 100000 := by
      have h1 := ents_len (es.take j) [] fun e he => ho e (List.mem_of_mem_take he)
      have h2 := encode_len es.length
      rw [List.length_take] at h1
      rw [hlen, List.length_append]
      omega
    have Hlen : Hid _ := hlen
    clear hlen
    by_cases hjl : j < es.length
    case neg =>
      have hje : j = es.length := by omega
      have hE : Hid (encode es.length ++ entsL [] (es.take j) = blockL es) := by show _ = _; rw [hje, List.take_of_length_le (Nat.le_refl _)]; rfl
      have hlt : ¬ (j : Int) < es.length := by omega
      clear hje hjl
      rw [hE.out] at hr Hlen
      go_wp2
      go_ret
      exact ⟨ag, c, m, rfl, Hlen.out, hr, hB⟩
    have hji : (j : Int) < es.length := by omega
    obtain ⟨⟨ek, en⟩, he⟩ : ∃ e, es[j]? = some e := ⟨_, List.getElem?_eq_getElem hjl⟩
    have hone := one_ok.1 (ho _ (List.mem_of_getElem? he))
    simp only at hone
    obtain ⟨b, off, rfl, hbl, hc⟩ := h.at (by omega)
    have c1 : wr.cell? ⟨b, off + j * 2, none⟩ = some (strV ek) := (hB.cell (p := ⟨b, off + j * 2, none⟩) hbl).trans (hc j _ he).1
    have c2 : wr.cell? ⟨b, off + j * 2 + 1, none⟩ = some (.int .u64 (en : Nat)) := (hB.cell (p := ⟨b, off + j * 2 + 1, none⟩) hbl).trans (hc j _ he).2
    have hnext : Hid (encode es.length ++ entsL [] (es.take (j + 1)) = (encode es.length ++ entsL [] (es.take j)) ++ entL (lastW [] (es.take j)) (ek, en)) := by show _ = _; rw [ents_next he, List.append_assoc]
    have hlast : Hid (lastW [] (es.take (j + 1)) = ek) := last_take he
    generalize hwas : lastW [] (es.take j) = was at hnext
    have hwl : was.length ≤ 255 := by
      rw [← hwas]
      cases j with
      | zero => simp [lastW]
      | succ j' =>
        obtain ⟨e', he'⟩ : ∃ e, es[j']? = some e := ⟨_, List.getElem?_eq_getElem (by omega)⟩
        rw [last_take he']
        exact (one_ok.1 (ho _ (List.mem_of_getElem? he'))).2.1
    have hal := alike_le was ek
    obtain ⟨N, hN⟩ : ∃ N, N = alikeW was ek := ⟨_, rfl⟩
    have HN : Hid _ := hN
    have hNe : N ≤ ek.length := by omega
    have hNi : (N : Int) ≤ ek.length := by omega
    have hwr : IntKind.i64.wrap ((ek.length : Int) - N) = ((ek.length - N : Nat) : Int) := by simp [IntKind.wrap, IntKind.bits, IntKind.signed]; omega
    have hsub : (ek.length : Int) - N = ((ek.length - N : Nat) : Int) := by omega
    have hsl : ∀ W, (Instr.slice 9 (strV ek) (some (.int .i64 (N : Int))) none none).run Try.prog W = .ok (strV (ek.drop N)) W := fun W => by
      rw [run_slice_string_l W 9 _ Try.underlying9 .i64 (N : Int) (by omega) (by simp [ByteArray.size]; omega), Int.toNat_natCast, str_from]
    obtain ⟨w1, hw1⟩ : ∃ w1, w1 = wr.alloc (.cells #[strV ek, .int .u64 en] 44) := ⟨_, rfl⟩
    have hG1 : Grow wr w1 := by rw [hw1]; exact (Below.refl _ _).alloc (Nat.le_refl _) _
    have k1 : w1.heap[wr.heap.size]? = some (.cells #[strV ek, .int .u64 en] 44 (0, 0)) := by rw [hw1]; exact Array.getElem?_push_size
    have Hw1 : Hid _ := hw1
    have ps := shared_any was ek w1 (by omega) (by omega)
    rw [← hN] at ps
    have hzl : m = (encode es.length ++ entsL [] (es.take j)).length := Hlen.out
    generalize hzs : encode es.length ++ entsL [] (es.take j) = zs at hr hnext hzl
    have Hzl : Hid _ := hzl
    have hB1 := Below.trans hB (hG1.mono hB.size)
    have hr1 := own_later hr hG1 (Nat.le_refl _)
    clear hw1 hN hal hwas he hc hzs hzl Hlen
    go_wp2_with fail
    rw [← Hw1.out]
    refine ps.mono ?_
    rintro e w2 ⟨rfl, md, hw2⟩
    have hG2 : Grow w1 w2 := by rw [hw2]; exact below_drewN (Below.refl _ _) _
    have hB2 := Below.trans hB1 (hG2.mono hB1.size)
    have hr2 := own_later hr1 hG2 (Nat.le_refl _)
    have k2 := cells_later k1 hG2
    have p1 := put_any none 0 0 [] N w2 (Reads.nil w2) (by omega) (by omega)
    rw [List.nil_append] at p1
    clear hw2 ps hr1 k1 hB1 hG1 hG2 hr c1 c2 Hw1 hB
    go_wp2_with fail
    refine p1.mono ?_
    rintro e w3 ⟨g3, c3, m3, hm3, rfl, hq3, hG3⟩
    have e3 := encode_len N
    have hB3 := Below.trans hB2 (hG3.mono hB2.size)
    have hr3 := own_later hr2 hG3 (Nat.le_refl _)
    have k3 := cells_later k2 hG3
    have hm3' : m3 ≤ 10 := by omega
    clear p1 hr2 k2 hB2 hG3 hm3 e3
    go_wp2_with (at_builtin; refine wpList_append_grown rfl _ _ 33 rfl w.heap.size 5 Try.infoByte rfl Try.underlying33 _ _ _ _ rfl hr3 _ _ _ _ rfl (Reads.own hq3) (ints_oneCell _ _) (by unfold maxLen; omega) (by omega) hB3.size ?_; intro ag4 c4 w4 hr4 hg4 hb4; have hB4 := Below.trans hB3 hb4; have k4 := cells_kept k3 hr3 (by decide) hg4; have d4 := (blk2_cells k4).1)
    rw [← List.map_append] at hr4
    have hm4 : m + m3 ≤ 100010 := by omega
    generalize hM4 : m + m3 = m4 at hr4 hm4 ⊢
    have p2 := put_any none 0 0 [] (ek.length - N) w4 (Reads.nil w4) (by omega) (by omega)
    rw [List.nil_append] at p2
    clear hr3 hq3 hg4 hb4 k3 hB3 hM4
    go_wp2_with fail
    refine p2.mono ?_
    rintro e w5 ⟨g5, c5, m5, hm5, rfl, hq5, hG5⟩
    have e5 := encode_len (ek.length - N)
    have hB5 := Below.trans hB4 (hG5.mono hB4.size)
    have hr5 := own_later hr4 hG5 (Nat.le_refl _)
    have k5 := cells_later k4 hG5
    have hm5' : m5 ≤ 10 := by omega
    have hdz : (⟨(ek.drop N).toArray⟩ : ByteArray).size = ek.length - N := by simp [ByteArray.size]
    have Hdz : Hid _ := hdz
    clear p2 hr4 k4 hB4 hG5 hm5 e5 d4 hdz
    go_wp2_with (first | (at_builtin; refine wpList_append_grown rfl _ _ 33 rfl w.heap.size 5 Try.infoByte rfl Try.underlying33 _ _ _ _ rfl hr5 _ _ _ _ rfl (Reads.own hq5) (ints_oneCell _ _) (by unfold maxLen; omega) (by omega) hB5.size ?_; intro ag6 c6 w6 hr6 hg6 hb6; have hB6 := Below.trans hB5 hb6; have k6 := cells_kept k5 hr5 (by decide) hg6; have d6 := (blk2_cells k6).1; rw [← List.map_append] at hr6; have hm6 : m4 + m5 ≤ 100020 := by omega) | (at_builtin; refine Lib.wpList_append_own_string _ rfl _ _ 33 9 rfl w.heap.size 5 i0 Try.underlying33 Try.underlying9 hi hz0 hz1 hz2 _ (m4 + m5) _ rfl hr6 ⟨(ek.drop N).toArray⟩ rfl (by rw [Hdz.out]; unfold maxLen; omega) (by rw [Hdz.out]; omega) hB6.size ?_; intro v7 w7 hr7 hg7 hn7; obtain ⟨ag7, c7, rfl⟩ := own1_slice hr7; have hB7 := hB6.grown hg7 hB6.size (fun k hk => (hr6.lt k hk).1); have k7 := cells_kept k6 hr6 (by decide) hg7; have d7 := (blk2_cells k7).2))
    rw [Hdz.out, str_cells, ← List.map_append] at hr7
    have hm7 : m4 + m5 + (ek.length - N) ≤ 100275 := by omega
    generalize hM7 : m4 + m5 + (ek.length - N) = m7 at hr7 hm7 ⊢
    have p3 := put_any none 0 0 [] en w7 (Reads.nil w7) (by omega) (by omega)
    rw [List.nil_append] at p3
    clear hr5 hq5 hg6 hb6 k5 hB5 hr6 hg7 hn7 k6 hB6 d6 hM7 hm6
    go_wp2_with fail
    refine p3.mono ?_
    rintro e w8 ⟨g8, c8, m8, hm8, rfl, hq8, hG8⟩
    have e8 := encode_len en
    have hB8 := Below.trans hB7 (hG8.mono hB7.size)
    have hr8 := own_later hr7 hG8 (Nat.le_refl _)
    have k8 := cells_later k7 hG8
    have hm8' : m8 ≤ 10 := by omega
    have Hr : Hid (encode es.length ++ entsL [] (es.take (j + 1)) = (zs ++ encode N ++ encode (ek.length - N) ++ bytesI (ek.drop N)) ++ encode en) := by
      show _ = _
      rw [hnext.out, HN.out]
      simp [entL, List.append_assoc]
    clear p3 hr7 k7 hB7 hG8 hm8 e8 d7
    go_wp2_with (at_builtin; refine wpList_append_grown rfl _ _ 33 rfl w.heap.size 5 Try.infoByte rfl Try.underlying33 _ _ _ _ rfl hr8 _ _ _ _ rfl (Reads.own hq8) (ints_oneCell _ _) (by unfold maxLen; omega) (by omega) hB8.size ?_; intro ag9 c9 w9 hr9 hg9 hb9; have hB9 := Below.trans hB8 hb9; have k9 := cells_kept k8 hr8 (by decide) hg9; have d9 := (blk2_cells k9).1)
    rw [← List.map_append, ← Hr.out] at hr9
    go_roundw
    case rel => exact ⟨j + 1, ag9, c9, m7 + m8, by go_num, rfl, by rw [hlast.out], by omega, hr9, hB9⟩
    case measure => simp [intOf]; omega
#print axioms pack_any
end Go.Proofs.Ytgnhnhachhfafaa
