/- The document's own Merge. -/
import Derived.Test.YtknfjonaepggnaaLoserRows
import Derived.Test.YtknfjonaepggnaaRef08Add
import Derived.Test.YtknfjonaepggnaaRef09All
import Derived.Deep.RegionHeld
namespace Go.Proofs.Ytknfjonaepggnaa
open Go.RowKit
set_option linter.unusedVariables false
set_option linter.unusedSimpArgs false

def MergeOut (w : World) (y : List En × Nat) (e : Ending) (w' : World) : Prop := ∃ v, e = .returned (.tuple #[v, .int .i64 (y.2 : Nat)]) ∧ w'.ownsRow 0 64 2 v y.1.length (cellsE y.1) ∧ Below w.heap.size w w'
theorem MergeOut.bad {w w' : World} {c : Nat} (h : Below w.heap.size w w') : MergeOut w ([], c) (.returned (.tuple #[.slice none 0 0, .int .i64 (c : Nat)])) w' := ⟨_, rfl, World.ownsRow_nil _ _ _ _, h⟩
theorem flat_split {ls : List (List En)} {j : Nat} {l : List En} (h : ls[j]? = some l) : (ls.drop j).flatten = l ++ (ls.drop (j + 1)).flatten := by
  obtain ⟨hj, rfl⟩ := List.getElem?_eq_some_iff.1 h
  rw [List.drop_eq_getElem_cons hj, List.flatten_cons]
theorem drop_one {l : List En} {k : Nat} {e : En} (h : l[k]? = some e) : l.drop k = e :: l.drop (k + 1) := by
  obtain ⟨hk, rfl⟩ := List.getElem?_eq_some_iff.1 h
  exact List.drop_eq_getElem_cons hk
/-- What is left to put in, and what was. -/
structure MidR (ls : List (List En)) (out rest : List En) : Prop where
  is : mergeL ls = foldE out rest
  good : GoodE out
  size : out.length + rest.length ≤ ls.flatten.length
  ok : ∀ e ∈ rest, e.1 ≠ [] ∧ 1 ≤ e.2
theorem MidR.next {ls : List (List En)} {out rest : List En} {e : En} (h : MidR ls out (e :: rest)) :
    ((addR (out.length + 1) out e.1 e.2).2 = 5 ∧ mergeL ls = ([], 5)) ∨ ((addR (out.length + 1) out e.1 e.2).2 = 0 ∧ MidR ls (addR (out.length + 1) out e.1 e.2).1 rest) := by
  have he := h.ok e (by simp)
  have hi := h.is
  rw [foldE] at hi
  have hs := h.size
  rw [List.length_cons] at hs
  rcases addR_tells h.good.rise h.good.pos h.good.words he.1 he.2 with ⟨h1, h2⟩ | ⟨h1, h2, h3, h4, h5, h6, h7⟩
  · left
    refine ⟨h2, ?_⟩
    rw [hi, if_neg (by omega)]
  · right
    refine ⟨h2, ?_, ⟨h3, h4, h5⟩, by omega, fun e he => h.ok e (by simp [he])⟩
    rw [hi, if_pos h2]

set_option maxRecDepth 100000 in
set_option maxHeartbeats 8000000 in
theorem rmerge_any {B : Nat} {w : World} {ao : Option Addr} {len cap : Nat} {vs : List Value} {ls : List (List En)} (h : Reads w ao len cap vs) (hv : ListVals B w vs ls)
    (hf : ∀ l ∈ ls, ∀ z ∈ l, z.1.length ≤ 140737488351232 ∧ z.2 ≤ 18446744073709551615) (ht : ls.flatten.length ≤ 500000) :
    Calls Try.prog 25 #[.slice ao len cap] w fun e w' => MergeOut w (mergeL ls) e w' := by
  have hlx : ls.length = len := by rw [← hv.length]; exact h.length
  have hml : len ≤ 9223372036854775807 := by have := Nat.le_trans h.le h.most; unfold maxLen at this; omega
  have hM : mergeL ls = if 256 < ls.length then ([], 6) else if badL ls = 0 then foldE [] ls.flatten else ([], badL ls) := rfl
  rw [hlx] at hM
  by_cases h256 : 256 < len
  · rw [if_pos h256] at hM
    have H : Hid _ := hM
    have hi : (256 : Int) < len := by omega
    clear hM h256
    go_enter Try.func25, Try.ntmps25
    go_wp2
    go_ret2
    rw [H.out]
    exact MergeOut.bad (Below.refl _ _)
  rw [if_neg h256] at hM
  have hi : ¬ (256 : Int) < len := by omega
  have HM : Hid _ := hM
  have Hlx : Hid _ := hlx
  clear hM h256 hlx
  go_enter Try.func25, Try.ntmps25
  go_wp2_with fail
  go_loopw [4] (fun i wr => ∃ j : Nat, i = .int .i64 j ∧ j ≤ len ∧ Hid (∀ x ∈ ls.take j, mayE x = 0) ∧ ∃ m, wr = w.drewN m) (fun i _ => (len - intOf i).toNat)
  case atStart => exact ⟨0, rfl, Nat.zero_le _, (show ∀ x ∈ ls.take 0, mayE x = 0 from fun x hx => by simp at hx), 0, rfl⟩
  case round =>
    obtain ⟨j, rfl, hj, hA, md, hw⟩ := hrel
    have Hw : Hid _ := hw
    clear hw
    by_cases hjl : j < len
    · have hji : (j : Int) < len := by omega
      obtain ⟨l, ai, ci, hl, hvl, hr, _⟩ := hv.at (i := j) (by rw [Hlx.out]; exact hjl)
      obtain ⟨b, off, rfl, hbl, hc⟩ := h.atV (by omega)
      have c1 : wr.cell? ⟨b, off + j, none⟩ = some (.slice ai l.length ci) := by rw [Hw.out]; exact hc j _ hvl
      have hfl := hf l (List.mem_of_getElem? hl)
      have pm : ∀ W, W = wr → Calls Try.prog 39 #[.slice ai l.length ci] W fun e w' => e = .returned (.int .i64 (mayE l : Nat)) ∧ ∃ m, w' = W.drewN m := fun W hW => by
        refine rmay_any (es := l) ?_ (fun e he => (hfl e he).2) (fun e he => by have := (hfl e he).1; omega)
        rw [hW, Hw.out]
        exact hr.later (below_drewN (Below.refl _ _) _) (Nat.le_refl _)
      have Hl : Hid _ := hl
      clear hc hr hvl hl hfl
      by_cases hm0 : mayE l = 0
      · rw [hm0] at pm
        have hA2 : Hid (∀ x ∈ ls.take (j + 1), mayE x = 0) := by
          show ∀ x ∈ _, _
          intro x hx
          rw [List.take_add_one, Hl.out] at hx
          rcases List.mem_append.1 hx with hx | hx
          · exact hA.out x hx
          · simp at hx; subst hx; exact hm0
        clear hA hm0
        go_wp2_with fail
        refine (pm _ rfl).mono ?_
        rintro e w1 ⟨rfl, m1, rfl⟩
        clear pm c1
        go_wp2
        go_roundw
        case rel => exact ⟨j + 1, by go_num, by omega, hA2, md + m1, by rw [Hw.out, World.drewN_drewN]⟩
        case measure => simp [intOf]; omega
      · have hE : Hid (mergeL ls = ([], mayE l)) := by
          show _ = _
          rw [HM.out, bad_at hA.out Hl.out hm0, if_neg hm0]
        have hmi : ¬ (mayE l : Int) = 0 := by omega
        generalize mayE l = c at *
        clear hA hm0
        go_wp2_with fail
        refine (pm _ rfl).mono ?_
        rintro e w1 ⟨rfl, m1, rfl⟩
        clear pm c1
        go_wp2
        go_ret2
        rw [hE.out]
        exact MergeOut.bad (by rw [Hw.out, World.drewN_drewN]; exact below_drewN (Below.refl _ _) _)
    · have hje : j = len := by omega
      have hni : ¬ (j : Int) < len := by omega
      have hbad : badL ls = 0 := all_bad (by have := hA.out; rw [hje, List.take_of_length_le (by rw [Hlx.out]; exact Nat.le_refl _)] at this; exact this)
      have hS : Hid (MidR ls [] ls.flatten) := ⟨by rw [HM.out, if_pos hbad], GoodE.nil, by simp, flat_ok hbad⟩
      have hBw : Below w.heap.size w wr := by rw [Hw.out]; exact below_drewN (Below.refl _ _) _
      clear hA hje hjl hbad HM hj
      go_wp2_with fail
      go_loopw [6, 7] (fun v i wr => ∃ (k : Nat) (out : List En), i = .int .i64 k ∧ k ≤ len ∧ Hid (MidR ls out (ls.drop k).flatten) ∧ wr.ownsRow 0 64 2 v out.length (cellsE out) ∧ Below w.heap.size w wr) (fun _ i _ => (len - intOf i).toNat)
      case atStart => exact ⟨0, [], rfl, Nat.zero_le _, hS, World.ownsRow_nil _ _ _ _, hBw⟩
      case round =>
        obtain ⟨k, out, rfl, hk, hMid, hrow, hBq⟩ := hrel
        clear hS hBw
        by_cases hkl : k < len
        · have hki : (k : Int) < len := by omega
          obtain ⟨l, ai, ci, hl, hvl, hr, _⟩ := hv.at (i := k) (by rw [Hlx.out]; exact hkl)
          obtain ⟨b, off, rfl, hbl, hc⟩ := h.atV (by omega)
          have hcc : ∀ W, Below w.heap.size w W → W.cell? ⟨b, off + k, none⟩ = some (.slice ai l.length ci) := fun W hW => (hW.cell (p := ⟨b, off + k, none⟩) hbl).trans (hc k _ hvl)
          have hfl := hf l (List.mem_of_getElem? hl)
          have hS2 : Hid (MidR ls out (l.drop 0 ++ (ls.drop (k + 1)).flatten)) := by
            show MidR _ _ _
            rw [List.drop_zero, ← flat_split hl]; exact hMid.out
          have hlm : l.length ≤ 9223372036854775807 := by have := Nat.le_trans hr.le hr.most; unfold maxLen at this; omega
          have Hfl : Hid _ := hfl
          clear hMid hl hvl hc hfl
          go_wp2_with fail
          go_loopw [6, 8] (fun v i wr => ∃ (t : Nat) (out : List En), i = .int .i64 t ∧ t ≤ l.length ∧ Hid (MidR ls out (l.drop t ++ (ls.drop (k + 1)).flatten)) ∧ wr.ownsRow 0 64 2 v out.length (cellsE out) ∧ Below w.heap.size w wr) (fun _ i _ => (l.length - intOf i).toNat)
          case atStart => exact ⟨0, out, rfl, Nat.zero_le _, hS2, hrow, hBq⟩
          case round =>
            obtain ⟨t, out, rfl, htl, hMid, hrow, hBx⟩ := hrel
            clear hS2
            have c1 := hcc _ hBx
            by_cases htt : t < l.length
            · have hti : (t : Int) < l.length := by omega
              obtain ⟨b2, o2, rfl, hbl2, hc2⟩ := hr.at (by omega)
              obtain ⟨⟨ek, en⟩, he⟩ : ∃ e, l[t]? = some e := ⟨_, List.getElem?_eq_getElem htt⟩
              have hfe := Hfl.out _ (List.mem_of_getElem? he)
              simp only at hfe
              have e1 : ∀ W, Below wr.heap.size wr W → W.cell? ⟨b2, o2 + t * 2, none⟩ = some (strV ek) := fun W hW => ((Below.trans hBx (hW.mono hBx.size)).cell (p := ⟨b2, o2 + t * 2, none⟩) hbl2).trans (hc2 t _ he).1
              have e2 : ∀ W, Below wr.heap.size wr W → W.cell? ⟨b2, o2 + t * 2 + 1, none⟩ = some (.int .u64 (en : Nat)) := fun W hW => ((Below.trans hBx (hW.mono hBx.size)).cell (p := ⟨b2, o2 + t * 2 + 1, none⟩) hbl2).trans (hc2 t _ he).2
              have e3 : ∀ W, Below wr.heap.size wr W → W.cell? ⟨b, off + k, none⟩ = some (.slice (some ⟨b2, o2, none⟩) l.length ci) := fun W hW => hcc W (Below.trans hBx (hW.mono hBx.size))
              have hM2 : MidR ls out ((ek, en) :: (l.drop (t + 1) ++ (ls.drop (k + 1)).flatten)) := by
                have := hMid.out
                rw [drop_one he] at this
                exact this
              have hsz := hM2.size
              have hg : getQ out ek ≤ 4611686018427387904 := by rw [getQ_eq hM2.good.rise]; exact getE_most hM2.good.pos _
              have hnx := hM2.next
              simp only at hnx
              have pa := fun W (hW : Below wr.heap.size wr W) => raddE_any (own2_later hrow hW (Nat.le_refl _)) ((out.length : Int) + 1) (out.length + 1) (by omega) ek en (by omega) hg (by omega)
              rcases hA : addR (out.length + 1) out ek en with ⟨y1, c⟩
              rw [hA] at pa hnx
              simp only at hnx
              obtain ⟨av, cv, hvv⟩ := own2_slice hrow
              subst hvv
              unfold AddOut at pa
              simp only at pa
              have hol : out.length ≤ 1000000 := by omega
              have x1 : IntKind.i64.wrap ((out.length : Int) + 1) = out.length + 1 := by simp [IntKind.wrap, IntKind.bits, IntKind.signed]; omega
              have c2 := e1 _ (Below.refl _ _)
              have c3 := e2 _ (Below.refl _ _)
              generalize out.length = ol at *
              have hsp : (c = 5 ∧ Hid (mergeL ls = ([], 5))) ∨ (c = 0 ∧ Hid (MidR ls y1 (l.drop (t + 1) ++ (ls.drop (k + 1)).flatten))) := hnx
              have HBx : Hid (Below w.heap.size w wr) := hBx
              have hw0 : w.heap.size ≤ wr.heap.size := hBx.size
              clear hM2 hsz hg hnx hA hrow hMid hc2 he hcc hr hfe hBx
              go_wp2_with fail

              go_region_held (fun W => Below wr.heap.size wr W) (first | exact Below.refl _ _ | exact Below.drew (Below.refl _ _) | assumption | exact Below.drew (by assumption) | exact Grow.trans (Below.drew (Below.refl _ _)) (by assumption) | exact Grow.trans (Below.refl _ _) (by assumption)) (first | (go_at_call 40; refine (pa _ (by first | exact Below.refl _ _ | exact Below.drew (Below.refl _ _) | assumption)).mono ?_; rintro e w1 ⟨v1, rfl, hr1, hb1, _⟩))
              have hB2 : Below w.heap.size w w1 := Below.trans HBx.out (Below.mono (show Below wr.heap.size wr w1 from Grow.trans (Below.drew (Below.refl _ _)) hb1) hw0)
              rcases hsp with ⟨rfl, hE⟩ | ⟨rfl, hN⟩
              · clear pa e1 e2 e3 c1 c2 c3
                go_wp2
                go_ret2
                rw [hE.out]
                exact MergeOut.bad hB2
              · clear pa e1 e2 e3 c1 c2 c3
                go_wp2
                go_roundw
                case rel => exact ⟨t + 1, y1, by go_num, by omega, hN, hr1, hB2⟩
                case measure => simp [intOf]; omega
            · have hte : t = l.length := by omega
              have hni : ¬ (t : Int) < l.length := by omega
              have hN : Hid (MidR ls out (ls.drop (k + 1)).flatten) := by
                have := hMid.out
                rw [hte, List.drop_of_length_le (Nat.le_refl _), List.nil_append] at this
                exact this
              clear hMid hcc hr hte
              go_wp2
              go_roundw
              case rel => exact ⟨k + 1, out, by go_num, by omega, hN, hrow, hBx⟩
              case measure => simp [intOf]; omega
        · have hke : k = len := by omega
          have hni : ¬ (k : Int) < len := by omega
          have hE : Hid (mergeL ls = (out, 0)) := by
            show _ = _
            rw [hMid.out.is, hke, List.drop_of_length_le (by rw [Hlx.out]; exact Nat.le_refl _)]; rfl
          clear hMid hke
          go_wp2
          go_ret2
          rw [hE.out]
          exact ⟨_, rfl, hrow, hBq⟩
#print axioms rmerge_any
end Go.Proofs.Ytknfjonaepggnaa
