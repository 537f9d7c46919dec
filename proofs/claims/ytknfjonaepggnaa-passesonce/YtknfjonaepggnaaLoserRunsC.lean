/- The landed Runs. -/
import Derived.Test.YtknfjonaepggnaaLoserRead
import Derived.Test.YtknfjonaepggnaaLoserRunsM
import Derived.Test.YtknfjonaepggnaaLoserBegin
namespace Go.Proofs.Ytknfjonaepggnaa
open Go.RowKit
set_option linter.unusedVariables false
set_option linter.unusedSimpArgs false

theorem off_new {w W : World} {b : Nat} {B0 : World} (h : Grow B0 w) (g : w.grownBy W (some b)) (hb : B0.heap.size ≤ b) : Grow B0 W :=
  ⟨g.os.trans h.os, g.tape.trans h.tape, g.output.trans h.output, Nat.le_trans h.size g.size, fun k hk => (g.block k (by have := h.size; omega) (fun e => by have : k = b := (by simpa using e); omega)).trans (h.block k hk)⟩
/-- A row of lists, some of which were laid in. -/
structure LaidAt (W : World) (lb n j : Nat) (vs : List Value) (ls : List (List En)) : Prop where
  blk : W.heap[lb]? = some (.cells vs.toArray 49 (0, 0))
  len : vs.length = n
  one : ∀ v ∈ vs, v.oneCell' = true
  lists : ListsT W (vs.take j) ls
theorem LaidAt.grow {W W' : World} {lb n j : Nat} {vs : List Value} {ls : List (List En)} (h : LaidAt W lb n j vs ls) (hg : Grow W W') : LaidAt W' lb n j vs ls :=
  ⟨cells_later h.blk hg, h.len, h.one, h.lists.grow hg⟩
theorem LaidAt.put {W : World} {lb n j base m c : Nat} {ag : Option Addr} {vs : List Value} {ls : List (List En)} {l : List En} (h : LaidAt W lb n j vs ls) (hj : j < n) (ho : W.ownsRow base 64 2 (.slice ag m c) m (cellsE l)) : LaidAt (W.setCell ⟨lb, j, none⟩ (.slice ag m c)) lb n (j + 1) (vs.set j (.slice ag m c)) (ls ++ [l]) := by
  have hne : ∀ (k : Nat) (cur : Array Value), W.heap[k]? = some (.cells cur 64 (0, 0)) → k ≠ lb := fun k cur hk e => by
    rw [e, h.blk] at hk
    simp at hk
  refine ⟨?_, by rw [List.length_set]; exact h.len, fun v hv => ?_, ?_⟩
  · rw [heap_setCell_same W lb j _ _ _ h.blk]; simp
  · rcases List.mem_or_eq_of_mem_set hv with hv | rfl
    · exact h.one v hv
    · rfl
  · have e1 : (vs.set j (.slice ag m c)).take (j + 1) = vs.take j ++ [.slice ag m c] := by
      rw [List.take_add_one, List.getElem?_set_self (by rw [h.len]; exact hj), List.take_set_of_le (Nat.le_refl _)]; rfl
    rw [e1]
    exact (h.lists.snoc ho).kept (by simp [World.setCell]) fun k cur hk => Below.heap_setCell _ _ _ _ (hne k cur hk)
theorem LaidAt.reads {W : World} {lb n : Nat} {vs : List Value} {ls : List (List En)} (h : LaidAt W lb n n vs ls) (hn : n ≤ maxLen) : Reads W (some ⟨lb, 0, none⟩) n n vs ∧ ListVals W.heap.size W vs ls := by
  refine ⟨⟨h.len, Nat.le_refl _, hn, (fun e => by cases e), fun a ha j u hu => ?_⟩, ?_⟩
  · cases ha
    rw [Addr.add_lit, Nat.zero_add]
    simp [World.cell?, h.blk, hu]
  · have := h.lists.vals
    rwa [List.take_of_length_le (by rw [h.len]; exact Nat.le_refl _)] at this
theorem made_rep (n : Nat) (h : n ≤ 10000000) (W : World) : (Instr.makeSlice 45 (.int .i64 (n : Int)) (.int .i64 (n : Int))).run Try.prog W = .ok (.slice (some ⟨W.heap.size, 0, none⟩) n n) (W.alloc (.cells (List.replicate n (Value.slice none 0 0)).toArray 49)) := by
  obtain ⟨i0, hi, hz0, hz1, hz2⟩ := info_parts Try.infoEs
  have hC : madeCells (Value.slice none 0 0).cells (n * i0.size) = (List.replicate n (Value.slice none 0 0)).toArray := by
    rw [hz1, Nat.mul_one]
    apply Array.ext
    · simp [madeCells]
    · intro j h1 h2
      simp [madeCells, Value.cells, Nat.mod_one]
  have := run_make (P := Try.prog) W 45 49 i0 (.slice none 0 0) Try.underlying45 hi hz0 .i64 .i64 n n (by omega) (Int.le_refl _) (by rw [hz2]; omega) (by omega)
  rw [Int.toNat_natCast, hC] at this
  exact this

set_option maxRecDepth 100000 in
set_option maxHeartbeats 8000000 in
theorem runs_any {w : World} {ao : Option Addr} {len cap : Nat} {rs : List (List Int)} (h : ReadsRows w ao len cap rs) (h8 : ∀ r ∈ rs, isBytes r) (hr1 : ∀ r ∈ rs, r.length ≤ 100000000) (ht : (decAll rs).flatten.length ≤ 400000) (hl : len ≤ 100000)
    (sz : Int) (s : Nat) (hs : sz = s ∨ (sz < 0 ∧ s = 0)) (hsz : sz ≤ 9223372036854775807) :
    Calls Try.prog 16 #[.slice ao len cap, .int .i64 sz] w fun e w' => EncOut w (runsM rs s) e w' := by
  have hlx := h.length
  have Hlx : Hid _ := hlx
  obtain ⟨C, hC⟩ : ∃ C, C = (List.replicate len (Value.slice none 0 0)).toArray := ⟨_, rfl⟩
  have mk : ∀ W : World, (Instr.makeSlice 45 (.int .i64 (len : Int)) (.int .i64 (len : Int))).run Try.prog W = .ok (.slice (some ⟨W.heap.size, 0, none⟩) len len) (W.alloc (.cells C 49)) := fun W => by rw [hC]; exact made_rep len (by omega) W
  have HC : Hid _ := hC
  clear hC
  have hlm : len ≤ maxLen := by unfold maxLen; omega
  clear hlx
  go_enter Try.func16, Try.ntmps16
  go_wp2_with fail
  have hL0 : LaidAt (w.alloc (.cells C 49)) w.heap.size len 0 (List.replicate len (Value.slice none 0 0)) (decAll (rs.take 0)) :=
    ⟨by rw [← HC.out]; exact heap_alloc_new _ _, by simp, fun v hv => by rw [List.eq_of_mem_replicate hv]; rfl, by simpa [decAll] using ListsT.nil _⟩
  have hB0 : Below w.heap.size w (w.alloc (.cells C 49)) := (Below.refl _ _).alloc (Nat.le_refl _) _
  obtain ⟨lb, hlb⟩ : ∃ lb, lb = w.heap.size := ⟨_, rfl⟩
  rw [← hlb] at hL0 ⊢
  generalize w.alloc (.cells C 49) = W0 at hL0 hB0 ⊢
  have hlb2 : w.heap.size ≤ lb := by omega
  have HL0 : Hid _ := hL0
  have HB0 : Hid _ := hB0
  clear hlb mk hL0 hB0
  go_loopw [18] (fun i wr => ∃ (j : Nat) (vs : List Value), i = .int .i64 (j : Nat) ∧ j ≤ len ∧ Hid (∀ r ∈ rs.take j, (decL r).2 = 0) ∧ Hid (LaidAt wr lb len j vs (decAll (rs.take j))) ∧ Hid (Below w.heap.size w wr)) (fun i _ => (len - intOf i).toNat)
  case atStart => exact ⟨0, _, rfl, Nat.zero_le _, (show ∀ r ∈ rs.take 0, (decL r).2 = 0 from fun r hr => by simp at hr), HL0, HB0⟩
  case round =>
    obtain ⟨j, vs, rfl, hj, hA, hL, hB⟩ := hrel
    clear HL0 HB0
    have hsz0 := hB.out.size
    by_cases hjl : j < len
    · have hji : (j : Int) < len := by omega
      have hj0 : (0 : Int) ≤ j := by omega
      obtain ⟨b, off, rfl, hbl, hc⟩ := h.at (by omega)
      obtain ⟨ai, li, ci, c0, hr0⟩ := hc j hjl
      obtain ⟨r, hr⟩ : ∃ r, rs[j]? = some r := ⟨_, List.getElem?_eq_getElem (by rw [Hlx.out]; exact hjl)⟩
      have hrm := List.mem_of_getElem? hr
      have hre : rs.getD j [] = r := by simp [List.getD_eq_getElem?_getD, hr]
      rw [hre] at hr0
      have c1 : wr.cell? ⟨b, off + j, none⟩ = some (.slice ai li ci) := (hB.out.cell (p := ⟨b, off + j, none⟩) hbl).trans c0
      have hli : li ≤ 100000000 := by have := hr0.length; simp at this; have := hr1 r hrm; omega
      have po := open_any (hr0.later hB.out (Nat.le_refl _)) (h8 r hrm) hli
      have hlen := dec_len r
      have hlr := hr1 r hrm
      have Hr : Hid _ := hr
      have Hrm : Hid _ := hrm
      clear hc c0 hr hrm hre hr0 hli
      by_cases hd : (decL r).2 = 0
      case neg =>
        have hE : Hid (runsM rs s = ([], 2)) := runs_bad Hrm.out hd
        rw [dec_two hd] at po
        clear hd hL hA hlen hlr
        go_wp2_with fail
        refine po.mono ?_
        rintro e w1 ⟨hG, rp, rfl, _⟩
        have HB2 : Hid _ := hB.out.trans (hG.mono hsz0)
        clear po hG c1
        go_wp2
        go_ret2
        rw [hE.out]
        exact EncOut.bad HB2.out
      rw [hd] at po
      have hA2 : Hid (∀ x ∈ rs.take (j + 1), (decL x).2 = 0) := by
        show ∀ x ∈ _, _
        intro x hx
        rw [List.take_add_one, Hr.out] at hx
        rcases List.mem_append.1 hx with hx | hx
        · exact hA.out x hx
        · simp at hx; subst hx; exact hd
      have hnx : Hid (decAll (rs.take (j + 1)) = decAll (rs.take j) ++ [(decL r).1]) := decAll_next Hr.out
      generalize (decL r).1 = l at *
      clear hA hd
      go_wp2_with fail
      refine po.mono ?_
      rintro e w1 ⟨hG, rp, rfl, hrp⟩
      obtain ⟨rb, rfl, hrb, hrd⟩ : ∃ rb, rp = some ⟨rb, 0, none⟩ ∧ wr.heap.size ≤ rb ∧ RdAt w1.heap.size w1 rb l := by
        rcases hrp with ⟨h1, _⟩ | ⟨_, h2⟩
        · exact absurd rfl h1
        · exact h2
      have pr := readAll_any hrd (Nat.le_refl _) (by omega)
      clear po hrp hrd c1 hlen hlr
      go_wp2_with fail
      refine pr.mono ?_
      rintro e w3 ⟨ag, c3, rfl, ho, hfr⟩
      have hG3 : Grow wr w3 := off_new hG hfr hrb
      have hL3 := hL.out.grow hG3
      have cl : ∃ u, w3.cell? ⟨lb, j, none⟩ = some u := by
        have hv : j < vs.length := by rw [hL3.len]; exact hjl
        exact ⟨vs[j], by simp [World.cell?, hL3.blk, hv]⟩
      obtain ⟨u, cl⟩ := cl
      have fl : w3.frozen? ⟨lb, j, none⟩ = false := by simp [World.frozen?, hL3.blk]
      have HL4 : Hid (LaidAt (w3.setCell ⟨lb, j, none⟩ (.slice ag l.length c3)) lb len (j + 1) (vs.set j (.slice ag l.length c3)) (decAll (rs.take (j + 1)))) := by rw [hnx.out]; exact hL3.put hjl ho
      have HB4 : Hid _ := (hB.out.trans (hG3.mono hsz0)).setCell hlb2 (p := ⟨lb, j, none⟩) (.slice ag l.length c3)
      clear pr ho hfr hG hG3 hL3 hL hrb
      generalize l.length = ll at *
      go_wp2
      go_roundw
      case rel => exact ⟨j + 1, _, by go_num, by omega, hA2, HL4, HB4⟩
      case measure => simp [intOf]; omega
    · have hje : j = len := by omega
      subst hje
      have hni : ¬ (j : Int) < j := by omega
      have htk : rs.take j = rs := List.take_of_length_le (by rw [Hlx.out]; exact Nat.le_refl _)
      rw [htk] at hA hL
      have hE : Hid (runsM rs s = if (mergeL (decAll rs)).2 = 0 then encR (mergeL (decAll rs)).1 s else ([], (mergeL (decAll rs)).2)) := runs_ok hA.out
      obtain ⟨hR, hV⟩ := hL.out.reads hlm
      have pm := merge_any hR hV dec_small (by omega)
      unfold DecOut at pm
      obtain ⟨hma, hmb⟩ := merge_all (decAll rs)
      unfold totL at hmb
      have hml : (mergeL (decAll rs)).1.length ≤ 100000000000 := by omega
      clear hA hL htk hjl hj hmb hR hV
      generalize mergeL (decAll rs) = q at *
      obtain ⟨y, d⟩ := q
      simp only at pm hma hml
      have Hma : Hid _ := hma
      clear hma
      go_wp2_with fail
      refine pm.mono ?_
      rintro e w1 ⟨a1, c1, m1, rfl, hm1, ho, hG⟩
      have hB2 := hB.out.trans (hG.mono hsz0)
      by_cases hd : d = 0
      case neg =>
        have hE2 : Hid (runsM rs s = ([], d)) := by show _ = _; rw [hE.out, if_neg hd]
        have hdi : ¬ (d : Int) = 0 := by omega
        clear hd pm ho hG hE hm1
        go_wp2
        go_ret2
        rw [hE2.out]
        exact EncOut.bad hB2
      subst hd
      subst hm1
      have hE2 : Hid (runsM rs s = encR y s) := by show _ = _; rw [hE.out]; rfl
      have pe := encode_any (ReadsE.own ho) (fun e he => (may_small Hma.out e he).2) (fun e he => by have := (may_small Hma.out e he).1; omega) hml sz s hs hsz
      unfold EncOut at pe
      have hs2 := hB2.size
      clear pm ho hG hE
      go_wp2_with fail
      refine pe.mono ?_
      rintro e w2 ⟨a2, c2, m2, rfl, hm2, ho2, hG2⟩
      have hB3 := hB2.trans (hG2.mono hs2)
      have Hm2 : Hid _ := hm2
      have Ho2 : Hid _ := ho2
      clear pe hm2 ho2 hG2
      go_wp2
      go_ret2
      rw [hE2.out]
      exact ⟨a2, c2, m2, rfl, Hm2.out, own_mono Ho2.out hs2, hB3⟩
#print axioms runs_any
end Go.Proofs.Ytknfjonaepggnaa
