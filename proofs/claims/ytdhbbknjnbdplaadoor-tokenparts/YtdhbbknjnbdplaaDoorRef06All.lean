/- The contracts of the document's own answers for words: All, Same. -/
import Derived.Test.YtdhbbknjnbdplaaDoorRef06
import Derived.Deep.QuietTactic
import Derived.BigQuiet
namespace Go.Proofs.YtdhbbknjnbdplaaDoor
open Go.RowKit
set_option linter.unusedVariables false

def prevAt (z : List Int) (k : Nat) : Bool := letAt z ((k : Int) - 1)
theorem prevAt_zero (z : List Int) : prevAt z 0 = false := letAt_neg z _ (by omega)
theorem prevAt_next (z : List Int) (k : Nat) (h : k < z.length) : prevAt z (k + 1) = letterF (z.getD k 0) := by
  unfold prevAt
  have e : ((k + 1 : Nat) : Int) - 1 = (k : Int) := by omega
  rw [e, letAt_in z k h]
theorem drop_word (z : List Int) (k : Nat) (h : k < z.length) : z.drop k = z.getD k 0 :: z.drop (k + 1) := by
  rw [List.getD, List.getElem?_eq_getElem h]; exact List.drop_eq_getElem_cons h
theorem mark_not (c : Int) (h : markF c = true) : letterF c = false := by
  have := letter_mark c
  rw [h] at this
  simpa using this
theorem stretch_letter (z acc : List Int) (k : Nat) (h : k < z.length) (hl : letterF (z.getD k 0) = true) : goW (prevAt z k) acc (z.drop k) = goW (prevAt z (k + 1)) (acc ++ [foldF (z.getD k 0)]) (z.drop (k + 1)) := by
  rw [drop_word z k h, goW_letter hl, prevAt_next z k h, hl]
theorem stretch_mark (z acc : List Int) (k : Nat) (h : k < z.length) (hl : letterF (z.getD k 0) = false) (hi : inW z k = true) : goW (prevAt z k) acc (z.drop k) = goW (prevAt z (k + 1)) (acc ++ [39]) (z.drop (k + 1)) := by
  unfold inW at hi
  rw [hl] at hi
  simp only [Bool.false_or, Bool.and_eq_true] at hi
  obtain ⟨⟨h1, h2⟩, h3⟩ := hi
  rw [letAt_next] at h3
  have e : prevAt z k = true := h2
  rw [drop_word z k h, e, goW_mark hl h1 h3, prevAt_next z k h, hl]
theorem stretch_end (z acc : List Int) (k : Nat) (h : k < z.length) (hi : inW z k = false) : goW (prevAt z k) acc (z.drop k) = flushW acc ++ goW (prevAt z (k + 1)) [] (z.drop (k + 1)) := by
  unfold inW at hi
  rw [Bool.or_eq_false_iff, letAt_next] at hi
  rw [drop_word z k h, prevAt_next z k h, hi.1]
  exact goW_end hi.1 hi.2
theorem stretch_out (z acc : List Int) : goW (prevAt z z.length) acc (z.drop z.length) = flushW acc ++ goW (prevAt z (z.length + 1)) [] (z.drop (z.length + 1)) := by
  rw [List.drop_eq_nil_of_le (Nat.le_refl _), List.drop_eq_nil_of_le (by omega)]
  simp [goW, flush_nil]

/-- A word as a value. -/
def wordV (l : List Int) : Value := .string (strOfNums (textU l))

set_option maxRecDepth 100000 in
set_option maxHeartbeats 1000000 in
theorem rwords_any (ao : Option Addr) (len cap : Nat) (z : List Int) (w : World) (hr : Reads w ao len cap (z.map (.int .i32))) (hlen : len ≤ 1000000000000) :
    Calls Tryd.prog 24 #[.slice ao len cap] w fun e w' => ∃ ag c m, e = .returned (.slice ag m c) ∧ m = (wordsW z).length ∧
      w'.ownsRow w.heap.size 9 1 (.slice ag m c) m ((wordsW z).map wordV) ∧ Below w.heap.size w w' := by
  have hl : z.length = len := by simpa using hr.length
  have hne : 9 ≠ 21 := by decide
  go_enter Tryd.func24, Tryd.ntmps24
  go_wp2_with fail
  go_loopw [3, 4] (fun v i wr => ∃ (t : Nat) (ag : Option Addr) (c m : Nat) (ls : List (List Int)), v = .slice ag m c ∧ i = .int .i64 t ∧ t ≤ len + 1 ∧ m ≤ t ∧ wr.ownsRow w.heap.size 9 1 (.slice ag m c) m (ls.map wordV) ∧ Hid (wordsW z = ls ++ goW (prevAt z t) [] (z.drop t)) ∧ Below w.heap.size w wr) (fun _ i _ => (len + 1 - intOf i).toNat)
  case atStart => exact ⟨0, none, 0, 0, [], rfl, rfl, by omega, by omega, World.ownsRow_nil _ _ _ _, by show _ = _; rw [prevAt_zero]; rfl, Below.refl _ _⟩
  case round =>
    obtain ⟨t, ag, c, m, ls, rfl, rfl, ht, hm, hown, hS, hb⟩ := hrel
    have hsz := hb.size
    by_cases hd : len ≤ t
    · have hE : Hid (wordsW z = ls) := by show _ = _; rw [hS.out, List.drop_of_length_le (by omega)]; simp [goW, flush_nil]
      have hml : ls.length = m := by have := hown.1; simpa using this
      have hd' : (len : Int) ≤ t := by omega
      clear hd
      go_wp2
      go_ret
      rw [hE.out]
      exact ⟨ag, c, m, rfl, hml.symm, hown, hb⟩
    have hd' : (t : Int) < len := by omega
    clear hd
    go_wp2_with fail
    go_loopw [5, 6] (fun i u wq => ∃ (k : Nat) (bg : Option Addr) (d n : Nat) (acc : List Int), i = .int .i64 k ∧ u = .slice bg n d ∧ k ≤ len ∧ t ≤ k ∧ n = k - t ∧ wq.ownsRow w.heap.size 9 1 (.slice ag m c) m (ls.map wordV) ∧ wq.ownsRow w.heap.size 21 1 (.slice bg n d) n (acc.map (.int .i32)) ∧ Hid (wordsW z = ls ++ goW (prevAt z k) acc (z.drop k)) ∧ Below w.heap.size w wq) (fun i _ _ => (len - intOf i).toNat)
    case atStart => exact ⟨t, none, 0, 0, [], rfl, rfl, by omega, by omega, by omega, hown, World.ownsRow_nil _ _ _ _, hS, hb⟩
    case round =>
      obtain ⟨k, bg, d, n, acc, rfl, rfl, hk, htk, rfl, hout, hrow, hI, hbq⟩ := hrel
      have hszq := hbq.size
      clear hown hb hsz hS
      by_cases hke : k = len
      · have hF : Hid (wordsW z = (ls ++ flushW acc) ++ goW (prevAt z (k + 1)) [] (z.drop (k + 1))) := by
          show _ = _
          have := stretch_out z acc
          rw [hl, ← hke] at this
          rw [hI.out, this, List.append_assoc]
        have hke' : (len : Int) ≤ k := by omega
        clear hke
        have hkt : t ≤ k := htk
        have hlacc : acc.length = k - t := by have := hrow.1; simpa using this
        by_cases hf : 1 ≤ k - t ∧ k - t ≤ 32
        · have hfl : Hid (flushW acc = [acc]) := by
            show _ = _
            unfold flushW
            rw [if_neg (by rintro (h | h); rw [h] at hlacc; simp at hlacc; omega; omega)]
          have v1 := conv_runes Tryd.underlying9 Tryd.underlying28 Tryd.underlying21 (Reads.own hrow)
          have g1 : (t : Int) < k := by omega
          have g2 : IntKind.i64.wrap ((k : Int) - t) = (k : Int) - t := by rw [IntKind.wrap_i64]; omega
          have g3 : (k : Int) - t ≤ 32 := by omega
          have mx : m + 20 ≤ maxLen := by unfold maxLen; omega
          clear hf hrow hI
          go_wp2_with (at_builtin; refine wpList_append_grown rfl (.tmp 46) (.tmp 49) 25 rfl w.heap.size 9 Tryd.infoStr rfl Tryd.underlying25 _ _ _ _ rfl (hout.alloc _) _ _ _ _ rfl (reads_one _ _ _) (by intro u hu; simp at hu; subst hu; rfl) (by omega) (by omega) (by simp; omega) ?_)
          intro ag3 c3 w3 hown3 hg3 hb3
          have hb3' : Below w.heap.size w w3 := (hbq.alloc hszq _).trans hb3
          clear hb3 hg3 hout
          go_wp2
          go_roundw
          case rel => exact ⟨k + 1, ag3, c3, m + 1, ls ++ [acc], rfl, by go_num, by omega, by omega, by simpa [wordV] using hown3, by show _ = _; rw [hF.out, hfl.out], hb3'⟩
          case measure => simp [intOf]; omega
        · have hfl : Hid (flushW acc = []) := by
            show _ = _
            unfold flushW
            rw [if_pos]
            by_cases h0 : k - t = 0
            · exact .inl (List.eq_nil_of_length_eq_zero (by omega))
            · exact .inr (by omega)
          have hrel' : Hid (wordsW z = ls ++ goW (prevAt z (k + 1)) [] (z.drop (k + 1))) := by show _ = _; rw [hF.out, hfl.out]; simp
          by_cases h0 : k = t
          · exfalso; omega
          · have g1 : (t : Int) < k := by omega
            have g2 : IntKind.i64.wrap ((k : Int) - t) = (k : Int) - t := by rw [IntKind.wrap_i64]; omega
            have g3 : decide ((k : Int) - t ≤ 32) = false := by rw [decide_eq_false_iff_not]; omega
            clear hf hrow hI
            go_wp2
            go_roundw
            case rel => exact ⟨k + 1, ag, c, m, ls, rfl, by go_num, by omega, by omega, hout, hrel', hbq⟩
            case measure => simp [intOf]; omega
      have hke' : (k : Int) < len := by omega
      have hkN : k < len := by omega
      have rq := hr.later hbq (Nat.le_refl _)
      go_wp2_with fail
      refine (rwithin_any _ _ _ z k wr rq hlen hkN).mono ?_
      rintro e wb ⟨rfl, rfl⟩
      cases hIn : inW z k with
      | false =>
        have hF : Hid (wordsW z = (ls ++ flushW acc) ++ goW (prevAt z (k + 1)) [] (z.drop (k + 1))) := by
          show _ = _
          rw [hI.out, stretch_end z acc k (by omega) hIn, List.append_assoc]
        clear hIn
        have hkt : t ≤ k := htk
        have hlacc : acc.length = k - t := by have := hrow.1; simpa using this
        by_cases hf : 1 ≤ k - t ∧ k - t ≤ 32
        · have hfl : Hid (flushW acc = [acc]) := by
            show _ = _
            unfold flushW
            rw [if_neg (by rintro (h | h); rw [h] at hlacc; simp at hlacc; omega; omega)]
          have v1 := conv_runes Tryd.underlying9 Tryd.underlying28 Tryd.underlying21 (Reads.own hrow)
          have g1 : (t : Int) < k := by omega
          have g2 : IntKind.i64.wrap ((k : Int) - t) = (k : Int) - t := by rw [IntKind.wrap_i64]; omega
          have g3 : (k : Int) - t ≤ 32 := by omega
          have mx : m + 20 ≤ maxLen := by unfold maxLen; omega
          clear hf hrow hI
          go_wp2_with (at_builtin; refine wpList_append_grown rfl (.tmp 46) (.tmp 49) 25 rfl w.heap.size 9 Tryd.infoStr rfl Tryd.underlying25 _ _ _ _ rfl (hout.alloc _) _ _ _ _ rfl (reads_one _ _ _) (by intro u hu; simp at hu; subst hu; rfl) (by omega) (by omega) (by simp; omega) ?_)
          intro ag3 c3 w3 hown3 hg3 hb3
          have hb3' : Below w.heap.size w w3 := (hbq.alloc hszq _).trans hb3
          clear hb3 hg3 hout
          go_wp2
          go_roundw
          case rel => exact ⟨k + 1, ag3, c3, m + 1, ls ++ [acc], rfl, by go_num, by omega, by omega, by simpa [wordV] using hown3, by show _ = _; rw [hF.out, hfl.out], hb3'⟩
          case measure => simp [intOf]; omega
        · have hfl : Hid (flushW acc = []) := by
            show _ = _
            unfold flushW
            rw [if_pos]
            by_cases h0 : k - t = 0
            · exact .inl (List.eq_nil_of_length_eq_zero (by omega))
            · exact .inr (by omega)
          have hrel' : Hid (wordsW z = ls ++ goW (prevAt z (k + 1)) [] (z.drop (k + 1))) := by show _ = _; rw [hF.out, hfl.out]; simp
          by_cases h0 : k = t
          · subst h0
            clear hf hrow hI
            go_wp2
            go_roundw
            case rel => exact ⟨k + 1, ag, c, m, ls, rfl, by go_num, by omega, by omega, hout, hrel', hbq⟩
            case measure => simp [intOf]; omega
          · have g1 : (t : Int) < k := by omega
            have g2 : IntKind.i64.wrap ((k : Int) - t) = (k : Int) - t := by rw [IntKind.wrap_i64]; omega
            have g3 : decide ((k : Int) - t ≤ 32) = false := by rw [decide_eq_false_iff_not]; omega
            clear hf hrow hI
            go_wp2
            go_roundw
            case rel => exact ⟨k + 1, ag, c, m, ls, rfl, by go_num, by omega, by omega, hout, hrel', hbq⟩
            case measure => simp [intOf]; omega
      | true =>
        have hA : Hid (letAt z (k : Int) = letterF (z.getD k 0)) := letAt_in z k (by omega)
        go_wp2_with fail
        refine (rlet_any _ _ _ z _ wb rq hlen).mono ?_
        rintro e wc ⟨rfl, rfl⟩
        rw [hA.out]
        have mx : k - t + 20 ≤ maxLen := by unfold maxLen; omega
        cases hL : letterF (z.getD k 0) with
        | true =>
          have hI' : Hid (wordsW z = ls ++ goW (prevAt z (k + 1)) (acc ++ [foldF (z.getD k 0)]) (z.drop (k + 1))) := by
            show _ = _
            rw [hI.out, stretch_letter z acc k (by omega) hL]
          obtain ⟨b1, o1, rfl, hb1, hat1⟩ := rq.at (by omega)
          have hcj := hat1 k hkN
          clear hat1 hL hIn hA hI
          generalize z.getD k 0 = x at hcj hI'
          go_wp2_with fail
          refine (rfold_any x wc).mono ?_
          rintro e wd ⟨rfl, rfl⟩
          go_wp2_with (at_builtin; refine wpList_append_grown rfl (.tmp 24) (.tmp 30) 28 rfl w.heap.size 21 Tryd.infoRune rfl Tryd.underlying28 _ _ _ _ rfl (hrow.alloc _) _ _ _ _ rfl (reads_one _ _ _) (ints_oneCell .i32 [foldF x]) (by omega) (by omega) (by simp; omega) ?_)
          intro ag3 c3 w3 hown3 hg3 hb3
          have hout3 := own_apart (hout.alloc _) (hrow.alloc _) hne hg3
          have hb3' : Below w.heap.size w w3 := (hbq.alloc hszq _).trans hb3
          clear hb3 hg3 hout hrow hcj
          go_wp2
          go_roundw
          case rel => exact ⟨k + 1, ag3, c3, k - t + 1, acc ++ [foldF x], by go_num, rfl, by omega, by omega, by omega, hout3, by simpa using hown3, hI', hb3'⟩
          case measure => simp [intOf]; omega
        | false =>
          have hI' : Hid (wordsW z = ls ++ goW (prevAt z (k + 1)) (acc ++ [39]) (z.drop (k + 1))) := by
            show _ = _
            rw [hI.out, stretch_mark z acc k (by omega) hL hIn]
          clear hL hIn hA hI
          go_wp2_with (at_builtin; refine wpList_append_grown rfl (.tmp 32) (.tmp 33) 28 rfl w.heap.size 21 Tryd.infoRune rfl Tryd.underlying28 _ _ _ _ rfl (hrow.alloc _) _ _ _ _ rfl (reads_one _ _ _) (ints_oneCell .i32 [39]) (by omega) (by omega) (by simp; omega) ?_)
          intro ag3 c3 w3 hown3 hg3 hb3
          have hout3 := own_apart (hout.alloc _) (hrow.alloc _) hne hg3
          have hb3' : Below w.heap.size w w3 := (hbq.alloc hszq _).trans hb3
          clear hb3 hg3 hout hrow
          go_wp2
          go_roundw
          case rel => exact ⟨k + 1, ag3, c3, k - t + 1, acc ++ [39], by go_num, rfl, by omega, by omega, by omega, hout3, by simpa using hown3, hI', hb3'⟩
          case measure => simp [intOf]; omega
#print axioms rwords_any

/-- A list of texts at a place. -/
theorem Reads.atS {w : World} {ao : Option Addr} {len cap : Nat} {zs : List ByteArray} (h : Reads w ao len cap (zs.map .string)) (hp : 0 < len) :
    ∃ b off, ao = some ⟨b, off, none⟩ ∧ b < w.heap.size ∧ ∀ j, j < len → w.cell? ⟨b, off + j, none⟩ = some (.string (zs.getD j ByteArray.empty)) := by
  have hl := h.length
  simp only [List.length_map] at hl
  cases ao with
  | none => have := h.bare rfl; omega
  | some a =>
    obtain ⟨b, off, rfl⟩ := h.plain hp
    have h0 := h.cell _ rfl 0 (.string (zs.getD 0 ByteArray.empty)) (by simp [List.getD, show 0 < zs.length by omega])
    refine ⟨b, off, rfl, by simpa [Addr.add] using World.block_lt_of_cell? w _ h0, fun j hj => ?_⟩
    have := h.cell _ rfl j (.string (zs.getD j ByteArray.empty)) (by simp [List.getD, show j < zs.length by omega])
    simpa [Addr.add_lit] using this

theorem bytes_beq (x y : ByteArray) : (x.toList == y.toList) = decide (x = y) := by
  rw [Bool.eq_iff_iff]
  simp only [beq_iff_eq, decide_eq_true_eq, ByteArray.toList_eq]
  exact ⟨fun h => ByteArray.ext (Array.toList_inj.1 h), fun h => by rw [h]⟩

set_option maxRecDepth 100000 in
set_option maxHeartbeats 400000 in
theorem sameW_any (ao : Option Addr) (len cap : Nat) (xs : List ByteArray) (bo : Option Addr) (blen bcap : Nat) (ys : List ByteArray) (w : World) (hr : Reads w ao len cap (xs.map .string)) (hk : Reads w bo blen bcap (ys.map .string)) :
    Calls Tryd.prog 10 #[.slice ao len cap, .slice bo blen bcap] w fun e w' => e = .returned (.bool (decide (xs = ys))) ∧ ∃ m, w' = w.drewN m := by
  have hl : xs.length = len := by simpa using hr.length
  have hl2 : ys.length = blen := by simpa using hk.length
  have hm1 := Nat.le_trans hr.le hr.most
  have hm2 := Nat.le_trans hk.le hk.most
  unfold maxLen at hm1 hm2
  by_cases hlb : len = blen
  case neg =>
    have hE : Hid (decide (xs = ys) = false) := by show _ = _; rw [decide_eq_false_iff_not]; intro h; rw [h] at hl; omega
    have hne : ((len : Int) == blen) = false := by simp; omega
    clear hm1 hm2
    go_enter Tryd.func10, Tryd.ntmps10
    go_wp2
    go_ret
    exact ⟨by rw [hE.out]; rfl, 0, rfl⟩
  subst hlb
  have hm3 : (len : Int) ≤ 9223372036854775807 := by omega
  clear hm1 hm2
  go_enter Tryd.func10, Tryd.ntmps10
  go_wp2_with fail
  go_loopw [5] (fun i wr => ∃ j : Nat, i = .int .i64 j ∧ j ≤ len ∧ Hid (xs.take j = ys.take j) ∧ ∃ m, wr = w.drewN m) (fun i _ => (len - intOf i).toNat)
  case atStart => exact ⟨0, rfl, by omega, rfl, 0, rfl⟩
  case round =>
    obtain ⟨j, rfl, hj, hT, md, hw⟩ := hrel
    have Hw : Hid _ := hw
    clear hw
    by_cases hjl : j = len
    · subst hjl
      have hE : Hid (decide (xs = ys) = true) := by show _ = _; simp only [decide_eq_true_eq]; have := hT.out; rwa [List.take_of_length_le (by omega), List.take_of_length_le (by omega)] at this
      go_wp2
      go_ret
      exact ⟨by rw [hE.out]; rfl, md, Hw.out⟩
    · have hlt : (j : Int) < len := by omega
      have hltN : j < len := by omega
      obtain ⟨b1, o1, rfl, hb1, hat1⟩ := hr.atS (by omega)
      obtain ⟨b2, o2, rfl, hb2, hat2⟩ := hk.atS (by omega)
      have hc1 : wr.cell? ⟨b1, o1 + j, none⟩ = some (.string (xs.getD j ByteArray.empty)) := by rw [Hw.out]; exact hat1 j hltN
      have hc2 : wr.cell? ⟨b2, o2 + j, none⟩ = some (.string (ys.getD j ByteArray.empty)) := by rw [Hw.out]; exact hat2 j hltN
      have t1 : xs.take (j + 1) = xs.take j ++ [xs.getD j ByteArray.empty] := by rw [List.take_add_one, List.getD, List.getElem?_eq_getElem (by omega)]; rfl
      have t2 : ys.take (j + 1) = ys.take j ++ [ys.getD j ByteArray.empty] := by rw [List.take_add_one, List.getD, List.getElem?_eq_getElem (by omega)]; rfl
      have hne : Hid (xs.getD j ByteArray.empty ≠ ys.getD j ByteArray.empty → decide (xs = ys) = false) := by show _ → _; intro h; simp only [decide_eq_false_iff_not]; intro h'; exact h (by rw [h'])
      generalize xs.getD j ByteArray.empty = x at hc1 t1 hne
      generalize ys.getD j ByteArray.empty = y at hc2 t2 hne
      by_cases hq : x = y
      · subst hq
        have hT' : Hid (xs.take (j + 1) = ys.take (j + 1)) := by show _ = _; rw [t1, t2, hT.out]
        clear t1 t2 hat1 hat2 hjl
        go_wp2_with fail
        go_quiet (fail)
        go_wp2
        go_roundw
        case rel => exact ⟨j + 1, by go_num, by omega, hT', md + nq, by rw [Hw.out, World.drewN_drewN]⟩
        case measure => simp [intOf]; omega
      · have hqd : (x.toList == y.toList) = false := by rw [bytes_beq]; simpa using hq
        have hE : Hid (decide (xs = ys) = false) := hne.out hq
        clear t1 t2 hat1 hat2 hjl hq
        go_wp2_with fail
        go_quiet (fail)
        go_wp2
        go_ret
        exact ⟨by rw [hE.out]; rfl, md + nq, by rw [Hw.out, World.drewN_drewN]⟩
#print axioms sameW_any
end Go.Proofs.YtdhbbknjnbdplaaDoor
