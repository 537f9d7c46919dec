/- The landed play: what it holds; one match. The landed play: a list's matches played once more. The landed play: the entry that wins. The landed count: an entry behind others, or its count to the last one's. -/
import Derived.Test.YtknfjonaepggnaaLoserRows
import Derived.Test.YtknfjonaepggnaaLoserBase
import Derived.Deep.QuietTactic
import Derived.BigQuiet
import Derived.Deep.RegionHeld
import Derived.Test.YtknfjonaepggnaaReaderAll
import Derived.Deep.Cut
import Derived.Test.YtknfjonaepggnaaNumAdd
namespace Go.Proofs.Ytknfjonaepggnaa
open Go.RowKit
set_option linter.unusedVariables false
set_option linter.unusedSimpArgs false

/-- Numbers as values. -/
def numsV (L : List Nat) : List Value := L.map fun (x : Nat) => .int .i64 (x : Int)
/-- A play: its block, its lists' and its losers' blocks; each list lies below B, each block not. -/
structure PlayAt (B : Nat) (W : World) (pb lb ob : Nat) (ls : List (List En)) (L : List Nat) (vs : List Value) : Prop where
  blk : W.heap[pb]? = some (.cells #[.slice (some ⟨lb, 0, none⟩) L.length L.length, .slice (some ⟨ob, 0, none⟩) L.length L.length] 95 (0, 0))
  left : W.heap[lb]? = some (.cells vs.toArray 49 (0, 0))
  los : W.heap[ob]? = some (.cells (numsV L).toArray 3 (0, 0))
  vals : ListVals B W vs ls
  len : ls.length = L.length
  most : L.length ≤ 1000000
  base : B ≤ pb ∧ B ≤ lb ∧ B ≤ ob
theorem PlayAt.c0 {B : Nat} {W : World} {pb lb ob : Nat} {ls : List (List En)} {L : List Nat} {vs : List Value} (h : PlayAt B W pb lb ob ls L vs) : W.cell? ⟨pb, 0, none⟩ = some (.slice (some ⟨lb, 0, none⟩) L.length L.length) := by simp [World.cell?, h.blk]
theorem PlayAt.c1 {B : Nat} {W : World} {pb lb ob : Nat} {ls : List (List En)} {L : List Nat} {vs : List Value} (h : PlayAt B W pb lb ob ls L vs) : W.cell? ⟨pb, 1, none⟩ = some (.slice (some ⟨ob, 0, none⟩) L.length L.length) := by simp [World.cell?, h.blk]
theorem PlayAt.cl {B : Nat} {W : World} {pb lb ob : Nat} {ls : List (List En)} {L : List Nat} {vs : List Value} (h : PlayAt B W pb lb ob ls L vs) {i : Nat} {v : Value} (hv : vs[i]? = some v) : W.cell? ⟨lb, i, none⟩ = some v := by simp [World.cell?, h.left, hv]
theorem PlayAt.co {B : Nat} {W : World} {pb lb ob : Nat} {ls : List (List En)} {L : List Nat} {vs : List Value} (h : PlayAt B W pb lb ob ls L vs) {i : Nat} (hi : i < L.length) : W.cell? ⟨ob, i, none⟩ = some (.int .i64 (L.getD i 0 : Nat)) := by
  have : (numsV L)[i]? = some (.int .i64 (L.getD i 0 : Nat)) := by simp [numsV, List.getD_eq_getElem?_getD, List.getElem?_eq_getElem hi]
  simp [World.cell?, h.los, this]
theorem PlayAt.fl {B : Nat} {W : World} {pb lb ob : Nat} {ls : List (List En)} {L : List Nat} {vs : List Value} (h : PlayAt B W pb lb ob ls L vs) (i : Nat) : W.frozen? ⟨lb, i, none⟩ = false := by simp [World.frozen?, h.left]
theorem PlayAt.fo {B : Nat} {W : World} {pb lb ob : Nat} {ls : List (List En)} {L : List Nat} {vs : List Value} (h : PlayAt B W pb lb ob ls L vs) (i : Nat) : W.frozen? ⟨ob, i, none⟩ = false := by simp [World.frozen?, h.los]
theorem PlayAt.kept {B : Nat} {W W' : World} {pb lb ob : Nat} {ls : List (List En)} {L : List Nat} {vs : List Value} (h : PlayAt B W pb lb ob ls L vs) (hp : W'.heap[pb]? = W.heap[pb]?) (hl : W'.heap[lb]? = W.heap[lb]?) (ho : W'.heap[ob]? = W.heap[ob]?) (hb : ∀ k, k < B → k < W.heap.size → W'.heap[k]? = W.heap[k]?) : PlayAt B W' pb lb ob ls L vs :=
  ⟨hp.trans h.blk, hl.trans h.left, ho.trans h.los, h.vals.kept hb, h.len, h.most, h.base⟩
theorem PlayAt.lt {B : Nat} {W : World} {pb lb ob : Nat} {ls : List (List En)} {L : List Nat} {vs : List Value} (h : PlayAt B W pb lb ob ls L vs) : pb < W.heap.size ∧ lb < W.heap.size ∧ ob < W.heap.size :=
  ⟨(Array.getElem?_eq_some_iff.1 h.blk).1, (Array.getElem?_eq_some_iff.1 h.left).1, (Array.getElem?_eq_some_iff.1 h.los).1⟩
theorem PlayAt.later {B C : Nat} {W W' : World} {pb lb ob : Nat} {ls : List (List En)} {L : List Nat} {vs : List Value} (h : PlayAt B W pb lb ob ls L vs) (hb : Below C W W') (hC : W.heap.size ≤ C) : PlayAt B W' pb lb ob ls L vs := by
  obtain ⟨h1, h2, h3⟩ := h.lt
  exact h.kept (hb.block _ (by omega)) (hb.block _ (by omega)) (hb.block _ (by omega)) fun k _ hk => hb.block _ (by omega)
theorem PlayAt.apart {B : Nat} {W : World} {pb lb ob : Nat} {ls : List (List En)} {L : List Nat} {vs : List Value} (h : PlayAt B W pb lb ob ls L vs) : pb ≠ lb ∧ pb ≠ ob ∧ lb ≠ ob := by
  refine ⟨fun e => ?_, fun e => ?_, fun e => ?_⟩
  · have h1 := h.blk
    rw [e, h.left] at h1; simp at h1
  · have h1 := h.blk
    rw [e, h.los] at h1; simp at h1
  · have h1 := h.left
    rw [e, h.los] at h1; simp at h1
theorem nums_set (L : List Nat) (i v : Nat) : (numsV L).set i (.int .i64 (v : Int)) = numsV (L.set i v) := by simp [numsV, List.map_set]
/-- Another loser. -/
theorem PlayAt.setL {B : Nat} {W : World} {pb lb ob : Nat} {ls : List (List En)} {L : List Nat} {vs : List Value} (h : PlayAt B W pb lb ob ls L vs) (i v : Nat) : PlayAt B (W.setCell ⟨ob, i, none⟩ (.int .i64 (v : Nat))) pb lb ob ls (L.set i v) vs := by
  obtain ⟨a1, a2, a3⟩ := h.apart
  obtain ⟨b1, b2, b3⟩ := h.base
  refine ⟨?_, ?_, ?_, h.vals.kept fun k hk _ => Below.heap_setCell _ _ _ _ (show k ≠ ob by omega), by rw [h.len, List.length_set], by rw [List.length_set]; exact h.most, h.base⟩
  · rw [Below.heap_setCell _ _ _ _ a2, h.blk, List.length_set]
  · rw [Below.heap_setCell _ _ _ _ a3, h.left]
  · rw [heap_setCell_same W ob i _ _ _ h.los]
    simp [← nums_set]
/-- A list is cut. -/
theorem PlayAt.setV {B : Nat} {W : World} {pb lb ob : Nat} {ls : List (List En)} {L : List Nat} {vs : List Value} (h : PlayAt B W pb lb ob ls L vs) (i : Nat) {ai : Option Addr} {ci : Nat} {l : List En} (hr : ReadsE W ai l.length ci (cellsE l)) (hB : ∀ a, ai = some a → 0 < l.length → a.block < B) :
    PlayAt B (W.setCell ⟨lb, i, none⟩ (.slice ai l.length ci)) pb lb ob (ls.set i l) L (vs.set i (.slice ai l.length ci)) := by
  obtain ⟨a1, a2, a3⟩ := h.apart
  obtain ⟨b1, b2, b3⟩ := h.base
  refine ⟨?_, ?_, ?_, (h.vals.set i hr hB).kept fun k hk _ => Below.heap_setCell _ _ _ _ (show k ≠ lb by omega), by rw [List.length_set]; exact h.len, h.most, h.base⟩
  · rw [Below.heap_setCell _ _ _ _ a1, h.blk]
  · rw [heap_setCell_same W lb i _ _ _ h.left]; simp
  · rw [Below.heap_setCell _ _ _ _ (fun e => a3 e.symm), h.los]

theorem at_getD {ls : List (List En)} {a : Nat} {l : List En} (h : ls[a]? = some l) : ls.getD a [] = l := by simp [List.getD_eq_getElem?_getD, h]
set_option maxRecDepth 100000 in
set_option maxHeartbeats 4000000 in
theorem match_any {B : Nat} {w : World} {pb lb ob : Nat} {ls : List (List En)} {L : List Nat} {vs : List Value} (h : PlayAt B w pb lb ob ls L vs) (a b : Nat) (ha : a < L.length) (hb : b < L.length) :
    Calls Try.prog 49 #[.pointer (some ⟨pb, 0, none⟩), .int .i64 (a : Nat), .int .i64 (b : Nat)] w fun e w' => e = .returned (.tuple #[.int .i64 ((matchF ls a b).1 : Nat), .int .i64 ((matchF ls a b).2 : Nat)]) ∧ ∃ m, w' = w.drewN m := by
  obtain ⟨la, aa, ca, hla, hva, hra, _⟩ := h.vals.at (i := a) (by rw [h.len]; exact ha)
  obtain ⟨lc, ab, cb, hlb, hvb, hrb, _⟩ := h.vals.at (i := b) (by rw [h.len]; exact hb)
  have c0 := h.c0
  have ca' := h.cl hva
  have cb' := h.cl hvb
  have hM : matchF ls a b = if losesL la lc then (b, a) else (a, b) := by unfold matchF; rw [at_getD hla, at_getD hlb]
  have ha0 : (0 : Int) ≤ a := by omega
  have hb0 : (0 : Int) ≤ b := by omega
  have hai : (a : Int) < L.length := by omega
  have hbi : (b : Int) < L.length := by omega
  generalize L.length = n at *
  clear hla hva hlb hvb h ha hb
  have HM : Hid _ := hM
  clear hM
  cases la with
  | nil =>
    have hE : Hid (matchF ls a b = (b, a)) := by show _ = _; rw [HM.out]; rfl
    clear HM hra hrb
    go_enter Try.func49, Try.ntmps49
    go_wp2_with fail
    go_quiet (fail)
    go_wp2_with fail
    go_quiet (fail)
    go_wp2
    go_ret2
    exact ⟨by rw [hE.out]; rfl, _, by rw [World.drewN_drewN]⟩
  | cons x la =>
    obtain ⟨xk, xn⟩ := x
    obtain ⟨b1, o1, rfl, _, hc1⟩ := hra.at (by simp)
    have d1 := (hc1 0 (xk, xn) rfl).1
    simp only [Nat.zero_mul, Nat.add_zero] at d1
    have n1 : decide ((((xk, xn) :: la).length : Int) = 0) = false := by simp; omega
    have n1b : ((((xk, xn) :: la).length : Int) == 0) = false := by rw [beq_eq_false_iff_ne]; simp; omega
    have n1' : (0 : Int) < ((xk, xn) :: la).length := by simp
    clear hc1 hra
    cases lc with
    | nil =>
      have hE : Hid (matchF ls a b = (a, b)) := by show _ = _; rw [HM.out]; rfl
      generalize ((xk, xn) :: la).length = m at *
      clear HM hrb
      go_enter Try.func49, Try.ntmps49
      go_wp2_with fail
      go_quiet (fail)
      go_wp2_with fail
      go_quiet (fail)
      go_wp2
      go_ret2
      exact ⟨by rw [hE.out]; rfl, _, by rw [World.drewN_drewN]⟩
    | cons y lc =>
      obtain ⟨yk, yn⟩ := y
      obtain ⟨b2, o2, rfl, _, hc2⟩ := hrb.at (by simp)
      have d2 := (hc2 0 (yk, yn) rfl).1
      simp only [Nat.zero_mul, Nat.add_zero] at d2
      have n2 : decide ((0 : Int) < (((yk, yn) :: lc).length : Int)) = true := by simp
      have n2b : decide (0 < ((yk, yn) :: lc).length) = true := by simp
      have n2' : (0 : Int) < ((yk, yn) :: lc).length := by simp
      clear hc2 hrb
      cases hl : lessB yk xk with
      | true =>
        have hE : Hid (matchF ls a b = (b, a)) := by show _ = _; rw [HM.out]; unfold losesL; simp only [hl, if_true]
        generalize ((xk, xn) :: la).length = m at *
        generalize ((yk, yn) :: lc).length = m' at *
        clear HM
        go_enter Try.func49, Try.ntmps49
        go_wp2_with fail
        go_quiet (fail)
        go_wp2_with fail
        go_quiet (fail)
        go_wp2
        go_ret2
        exact ⟨by rw [hE.out]; rfl, _, by rw [World.drewN_drewN]⟩
      | false =>
        have hE : Hid (matchF ls a b = (a, b)) := by show _ = _; rw [HM.out]; unfold losesL; simp only [hl, Bool.false_eq_true, if_false]
        generalize ((xk, xn) :: la).length = m at *
        generalize ((yk, yn) :: lc).length = m' at *
        clear HM
        go_enter Try.func49, Try.ntmps49
        go_wp2_with fail
        go_quiet (fail)
        go_wp2_with fail
        go_quiet (fail)
        go_wp2
        go_ret2
        exact ⟨by rw [hE.out]; rfl, _, by rw [World.drewN_drewN]⟩
#print axioms match_any
end Go.Proofs.Ytknfjonaepggnaa

namespace Go.Proofs.Ytknfjonaepggnaa
open Go.RowKit
set_option linter.unusedVariables false
set_option linter.unusedSimpArgs false

theorem grown_trans {w w1 w2 : World} {r : Option Nat} (h : w.grownBy w1 r) (k : w1.grownBy w2 r) : w.grownBy w2 r :=
  ⟨k.os.trans h.os, k.tape.trans h.tape, k.output.trans h.output, Nat.le_trans h.size k.size, fun i hi hr => (k.block i (by have := h.size; omega) hr).trans (h.block i hi hr)⟩
theorem grownBy_setCell_at (w : World) (b k : Nat) (v : Value) : w.grownBy (w.setCell ⟨b, k, none⟩ v) (some b) := by
  have h0 := Below.refl w.heap.size w
  refine ⟨h0.os, h0.tape, h0.output, by simp [World.setCell], fun i hi hr => Below.heap_setCell _ _ _ _ (fun e => hr (by rw [e]))⟩
theorem grown_set {w w1 : World} {b : Nat} (h : w.grownBy w1 (some b)) (q k : Nat) (v : Value) : w.grownBy ((w1.drewN q).setCell ⟨b, k, none⟩ v) (some b) := by
  have hb : Below w1.heap.size w1 (w1.drewN q) := below_drewN (Below.refl _ _) _
  refine grown_trans h ⟨hb.os, hb.tape, hb.output, by simp [World.setCell], fun i hi hr => (Below.heap_setCell _ _ _ _ (fun e => hr (by rw [e]))).trans (hb.block i hi)⟩
theorem grown_set0 {w w1 : World} {b : Nat} (h : w.grownBy w1 (some b)) (k : Nat) (v : Value) : w.grownBy (w1.setCell ⟨b, k, none⟩ v) (some b) :=
  grown_trans h (grownBy_setCell_at w1 b k v)
/-- What playing again leaves. -/
def AgainAt (B : Nat) (w : World) (pb lb ob : Nat) (ls : List (List En)) (n : Nat) (vs : List Value) (e : Ending) (w' : World) : Prop :=
  e = .returned (.tuple #[]) ∧ w.grownBy w' (some ob) ∧ ∃ L' W', PlayAt B w' pb lb ob ls L' vs ∧ L'.length = n ∧ Tree ls L' W' n ∧ L'.getD 0 0 = W' 1
set_option maxRecDepth 100000 in
set_option maxHeartbeats 4000000 in
theorem again_any {B : Nat} {w : World} {pb lb ob : Nat} {ls : List (List En)} {L : List Nat} {vs : List Value} {W0 : Nat → Nat} {n i : Nat} (h : PlayAt B w pb lb ob ls L vs) (hn : L.length = n) (hi : i < n) (hP : Part ls L W0 n (n + i) i) :
    Calls Try.prog 50 #[.pointer (some ⟨pb, 0, none⟩), .int .i64 (i : Nat)] w fun e w' => AgainAt B w pb lb ob ls n vs e w' := by
  have c0 := h.c0
  have hm := h.most
  rw [hn] at c0 hm
  have hd : ((n : Int) + i) / 2 = ((n + i) / 2 : Nat) := by omega
  go_enter Try.func50, Try.ntmps50
  go_wp2_with fail
  go_loopw [1, 4] (fun v u wr => ∃ (m c win : Nat) (L' : List Nat) (W' : Nat → Nat), v = .int .i64 (win : Nat) ∧ u = .int .i64 (m : Nat) ∧ Hid (m = c / 2) ∧ PlayAt B wr pb lb ob ls L' vs ∧ Hid (L'.length = n) ∧ Hid (Part ls L' W' n c win) ∧ w.grownBy wr (some ob)) (fun _ u _ => (intOf u).toNat)
  case atStart => exact ⟨(n + i) / 2, n + i, i, L, W0, rfl, by rw [hd], rfl, h, hn, hP, World.grownBy.refl _ _⟩
  case round =>
    obtain ⟨m, c, win, L', W', rfl, rfl, Hm, hp, hL, hPt, hG⟩ := hrel
    clear c0 hd hm h hP
    have hpm := hp.most
    have c0 := hp.c0
    have c1 := hp.c1
    rw [hL.out] at c0 c1 hpm
    by_cases hc : m = 0
    · obtain ⟨hT, hW1⟩ := hPt.out.done (by rw [← Hm.out]; exact hc)
      have hn0 : (0 : Int) < n := by omega
      have fo := hp.fo 0
      have co := hp.co (i := 0) (by rw [hL.out]; omega)
      have hp2 := hp.setL 0 win
      have HT : Hid (∃ W', Tree ls (L'.set 0 win) W' n ∧ (L'.set 0 win).getD 0 0 = W' 1) := ⟨W', hT.set0, by rw [getD_set_eq (by rw [hL.out]; omega), hW1]⟩
      have Hp2 : Hid _ := hp2
      have HG : Hid _ := hG
      have hm0 : ¬ (0 : Int) < m := by omega
      clear hp hp2 hG hT hW1 hPt
      go_wp2
      go_end0
      obtain ⟨W3, g1, g2⟩ := HT.out
      exact ⟨rfl, grown_set0 HG.out 0 _, _, W3, Hp2.out, by rw [List.length_set]; exact hL.out, g1, g2⟩
    · have hc1 : 1 ≤ c / 2 := by have := Hm.out; omega
      obtain ⟨o1, o2, o3⟩ := hPt.out.other hc1
      obtain ⟨W2, hPn⟩ := hPt.out.next hL.out hc1
      rw [← Hm.out] at hPn o1 o3 hc1
      have co := hp.co (i := m) (by rw [hL.out]; exact o3)
      have fo := hp.fo m
      have pm := fun W (hW : Below wr.heap.size wr W) => match_any (hp.later hW (Nat.le_refl _)) win (L'.getD m 0) (by rw [hL.out]; exact o2) (by rw [hL.out]; exact o1)
      have HPn : Hid _ := hPn
      have Hp : Hid _ := hp
      generalize matchF ls win (L'.getD m 0) = r at *
      generalize L'.getD m 0 = z at *
      obtain ⟨rw1, rl⟩ := r
      simp only at pm HPn
      have hmi : (0 : Int) < m := by omega
      have hmn : (m : Int) < n := by omega
      have hm0 : (0 : Int) ≤ m := by omega
      have HG : Hid _ := hG
      clear hPn hp hPt hc o1 o2 o3 hc1 hG
      go_wp2_with fail
      go_region_with (go_at_call 49; refine (pm _ (by first | exact Below.refl _ _ | exact Below.drew (Below.refl _ _) | exact below_drewN (Below.refl _ _) _)).mono ?_; rintro e w1 ⟨rfl, mm, rfl⟩)
      all_goals
        have hp2 := (Hp.out.later (below_drewN (Below.refl _ _) (1 + mm)) (Nat.le_refl _)).setL m rl
        have Hp2 : Hid _ := hp2
        have HG2 : Hid _ := grown_set HG.out (1 + mm) m (.int .i64 (rl : Nat))
        clear hp2 pm c0 c1 co fo
        go_wp2
        go_roundw
        case rel => exact ⟨m / 2, m, rw1, L'.set m rl, W2, rfl, by go_num, rfl, Hp2.out, by rw [List.length_set]; exact hL.out, HPn.out, HG2.out⟩
        case measure => simp [intOf]; omega
#print axioms again_any
end Go.Proofs.Ytknfjonaepggnaa

namespace Go.Proofs.Ytknfjonaepggnaa
open Go.RowKit
set_option linter.unusedVariables false
set_option linter.unusedSimpArgs false

/-- 's[1:]' of entries. -/
theorem cut_tail {ao : Option Addr} {n cap : Nat} (hn : 1 ≤ n) (hc : n ≤ cap) : ∃ ao', (∀ W, (Instr.slice 49 (.slice ao n cap) (some (.int .i64 1)) none none).run Try.prog W = .ok (.slice ao' (n - 1) (cap - 1)) W) ∧
    (∀ W xs, ReadsE W ao n cap xs → ReadsE W ao' (n - 1) (cap - 1) (xs.drop 2)) ∧ ∀ a', ao' = some a' → ∃ a, ao = some a ∧ a'.block = a.block := by
  have ht' : Try.prog.underlying 49 = some (.slice (Try.prog.elem 49)) := by simp [Program.elem, Try.underlying49]
  have he : Try.prog.elem 49 = 64 := by simp [Program.elem, Try.underlying49]
  refine ⟨if cap = 1 then ao else ao.map (·.add (1 * 2)), fun W => ?_, fun W xs h => ⟨?_, by omega, ?_, ?_, ?_⟩, ?_⟩
  · have := run_slice_l (P := Try.prog) W 49 ao n cap ht' .i64 1 (by omega) (by omega)
    rw [he, Try.sizeEn2] at this
    simpa [Result.andThen, sliced] using this
  · have := h.length; simp; omega
  · have := h.most; omega
  · intro hn'
    split at hn'
    · have := h.bare hn'; omega
    · simp only [Option.map_eq_none_iff] at hn'
      have := h.bare hn'; omega
  · intro a ha j u hu
    have hj : 2 + j < xs.length := by
      have := (List.getElem?_eq_some_iff.1 hu).1
      simp at this; omega
    have := h.length
    rw [if_neg (by omega)] at ha
    cases ao with
    | none => simp at ha
    | some x =>
      simp only [Option.map_some, Option.some.injEq] at ha
      subst ha
      obtain ⟨b, off, rfl⟩ := h.plain (by omega)
      have hcc := h.cell _ rfl (2 + j) u (by simpa using hu)
      rw [Addr.add_lit, Addr.add_lit, Nat.add_assoc]
      rw [Addr.add_lit] at hcc
      exact hcc
  · intro a' ha'
    split at ha'
    · exact ⟨a', ha', rfl⟩
    · cases ao with
      | none => simp at ha'
      | some x =>
        simp only [Option.map_some, Option.some.injEq] at ha'
        exact ⟨x, rfl, by rw [← ha', add_block]⟩

/-- What two blocks' turn leaves. -/
structure Kept2 (w w' : World) (b c : Nat) : Prop where
  os : w'.os = w.os
  tape : w'.tape = w.tape
  output : w'.output = w.output
  size : w.heap.size ≤ w'.heap.size
  block : ∀ k, k < w.heap.size → k ≠ b → k ≠ c → w'.heap[k]? = w.heap[k]?
theorem Kept2.grow {w w' : World} (h : Grow w w') (b c : Nat) : Kept2 w w' b c := ⟨h.os, h.tape, h.output, h.size, fun k hk _ _ => h.block k hk⟩
theorem Kept2.trans {w w1 w2 : World} {b c : Nat} (h : Kept2 w w1 b c) (k : Kept2 w1 w2 b c) : Kept2 w w2 b c :=
  ⟨k.os.trans h.os, k.tape.trans h.tape, k.output.trans h.output, Nat.le_trans h.size k.size, fun i hi hb hc => (k.block i (by have := h.size; omega) hb hc).trans (h.block i hi hb hc)⟩
theorem Kept2.of1 {w w' : World} {b : Nat} (h : w.grownBy w' (some b)) (c : Nat) : Kept2 w w' b c := ⟨h.os, h.tape, h.output, h.size, fun k hk hb _ => h.block k hk (fun e => hb (by simpa using e))⟩
theorem Kept2.of2 {w w' : World} {c : Nat} (b : Nat) (h : w.grownBy w' (some c)) : Kept2 w w' b c := ⟨h.os, h.tape, h.output, h.size, fun k hk _ hc => h.block k hk (fun e => hc (by simpa using e))⟩
theorem Kept2.below {w0 w w' : World} {b c B : Nat} (h : Kept2 w w' b c) (hb : Below B w0 w) (h1 : B ≤ b) (h2 : B ≤ c) (hB : B ≤ w.heap.size) : Below B w0 w' :=
  ⟨h.os.trans hb.os, h.tape.trans hb.tape, h.output.trans hb.output, Nat.le_trans hb.size h.size, fun k hk => (h.block k (by omega) (by omega) (by omega)).trans (hb.block k hk)⟩

set_option maxRecDepth 100000 in
set_option maxHeartbeats 4000000 in
theorem pnext_nil {B : Nat} {w : World} {pb lb ob : Nat} {ls : List (List En)} {L : List Nat} {vs : List Value} {n i : Nat} (h : PlayAt B w pb lb ob ls L vs) (hn : L.length = n) (hi : i < n) (hw : L.getD 0 0 = i) (hl : ls[i]? = some []) :
    Calls Try.prog 32 #[.pointer (some ⟨pb, 0, none⟩)] w fun e w' => e = .returned (peekV []) ∧ Grow w w' := by
  obtain ⟨W0, hW0⟩ : ∃ W0, W0 = w.alloc (.cells #[.string ⟨#[]⟩, .int .u64 0] 64) := ⟨_, rfl⟩
  have hB0 : Below w.heap.size w W0 := by rw [hW0]; exact (Below.refl _ _).alloc (Nat.le_refl _) _
  have k0 : W0.heap[w.heap.size]? = some (.cells #[.string ⟨#[]⟩, .int .u64 0] 64 (0, 0)) := by rw [hW0]; exact Array.getElem?_push_size
  have h0 := h.later hB0 (Nat.le_refl _)
  have HW0 : Hid _ := hW0
  clear hW0
  obtain ⟨l, ai, ci, hl', hv, hr, _⟩ := h0.vals.at (i := i) (by rw [h0.len, hn]; exact hi)
  rw [hl] at hl'
  cases hl'
  have c0 := h0.c0
  have c1 := h0.c1
  have co := h0.co (i := 0) (by omega)
  have cl := h0.cl hv
  rw [hn] at c0 c1
  rw [hw] at co
  have hi0 : (0 : Int) ≤ i := by omega
  have hin : (i : Int) < n := by omega
  have hn0 : (0 : Int) < n := by omega
  have hBz := below_set2 (b := w.heap.size) hB0 (Nat.le_refl _) (.string ⟨#[]⟩) (.int .u64 0)
  have hldz := load_en (blk2_set k0 (.string ⟨#[]⟩) (.int .u64 0))
  have cz0 := blk2 k0
  clear h h0 hr hv hl hw hn
  go_enter Try.func32, Try.ntmps32
  go_upto_region 1 with (fail)
  rw [← HW0.out]
  go_wp2
  refine bodyPost_ret (res_cell_tmp rfl _ _ _ (x := ⟨w.heap.size, 0, none⟩) rfl hldz) rfl ?_
  exact ⟨rfl, hBz⟩
#print axioms pnext_nil

/-- What a list's turn leaves of a play. -/
def PNext (B : Nat) (w : World) (pb lb ob : Nat) (ls : List (List En)) (n : Nat) (e0 : En) (e : Ending) (w' : World) : Prop :=
  e = .returned (peekV [e0]) ∧ Kept2 w w' lb ob ∧ ∃ L' W' vs', PlayAt B w' pb lb ob ls L' vs' ∧ L'.length = n ∧ Tree ls L' W' n ∧ L'.getD 0 0 = W' 1
set_option maxRecDepth 100000 in
set_option maxHeartbeats 4000000 in
theorem pnext_any {B : Nat} {w : World} {pb lb ob : Nat} {ls : List (List En)} {L : List Nat} {vs : List Value} {W : Nat → Nat} {n i : Nat} {x : En} {r : List En} (h : PlayAt B w pb lb ob ls L vs) (hn : L.length = n) (hi : i < n) (hT : Tree ls L W n) (hw : L.getD 0 0 = W 1) (hW : W 1 = i) (hl : ls[i]? = some (x :: r)) :
    Calls Try.prog 32 #[.pointer (some ⟨pb, 0, none⟩)] w fun e w' => PNext B w pb lb ob (ls.set i r) n x e w' := by
  obtain ⟨W0, hW0⟩ : ∃ W0, W0 = w.alloc (.cells #[.string ⟨#[]⟩, .int .u64 0] 64) := ⟨_, rfl⟩
  have hB0 : Below w.heap.size w W0 := by rw [hW0]; exact (Below.refl _ _).alloc (Nat.le_refl _) _
  have k0 : W0.heap[w.heap.size]? = some (.cells #[.string ⟨#[]⟩, .int .u64 0] 64 (0, 0)) := by rw [hW0]; exact Array.getElem?_push_size
  have h0 := h.later hB0 (Nat.le_refl _)
  have HW0 : Hid _ := hW0
  obtain ⟨l1, l2, l3⟩ := h.lt
  obtain ⟨g1, g2, g3⟩ := h.base
  clear hW0
  obtain ⟨l, ai, ci, hl', hv, hr, hbl⟩ := h0.vals.at (i := i) (by rw [h0.len, hn]; exact hi)
  rw [hl] at hl'
  cases hl'
  obtain ⟨xk, xn⟩ := x
  obtain ⟨b1, o1, rfl, _, hc1⟩ := hr.at (by simp)
  obtain ⟨d1, d2⟩ := hc1 0 (xk, xn) rfl
  simp only [Nat.zero_mul, Nat.add_zero] at d1 d2
  have hb1 : b1 < B := hbl _ rfl (by simp)
  obtain ⟨x1, hs1, hd1, hx1⟩ := cut_tail (ao := some ⟨b1, o1, none⟩) (n := ((xk, xn) :: r).length) (cap := ci) (by simp) hr.le
  have hr1 := hd1 _ _ hr
  have e2 : (cellsE ((xk, xn) :: r)).drop 2 = cellsE r := rfl
  have e3 : ((xk, xn) :: r).length - 1 = r.length := by simp
  rw [e2, e3] at hr1
  rw [e3] at hs1
  have hx2 : ∀ a, x1 = some a → 0 < r.length → a.block < B := fun a ha _ => by
    obtain ⟨a0, ha0, hbb⟩ := hx1 a ha
    cases ha0; rw [hbb]; exact hb1
  have c0 := h0.c0
  have c1 := h0.c1
  have co := h0.co (i := 0) (by omega)
  have cl := h0.cl hv
  have fl := h0.fl i
  have cD0 : W0.drew.cell? ⟨pb, 0, none⟩ = _ := c0
  have cDl : W0.drew.cell? ⟨lb, i, none⟩ = _ := cl
  have fDl : W0.drew.frozen? ⟨lb, i, none⟩ = false := fl
  rw [hn] at c0 c1 cD0
  rw [hw, hW] at co
  have hi0 : (0 : Int) ≤ i := by omega
  have hin : (i : Int) < n := by omega
  have hn0 : (0 : Int) < n := by omega
  -- behind the cut
  obtain ⟨W1, hW1⟩ : ∃ W1, W1 = (W0.setCell ⟨lb, i, none⟩ (.slice x1 r.length (ci - 1))).drew := ⟨_, rfl⟩
  have h1 : PlayAt B W1 pb lb ob (ls.set i r) L (vs.set i (.slice x1 r.length (ci - 1))) := by
    rw [hW1]
    exact (h0.setV i hr1 hx2).later ((Below.refl _ _).drew) (Nat.le_refl _)
  have hlw : lb ≠ w.heap.size := by omega
  have how : ob ≠ w.heap.size := by omega
  have hpw : pb ≠ w.heap.size := by omega
  have kk1 : W1.heap[w.heap.size]? = some (.cells #[.string ⟨#[]⟩, .int .u64 0] 64 (0, 0)) := by rw [hW1]; exact (Below.heap_setCell _ _ _ _ (fun e => hlw e.symm)).trans k0
  have hK1 : Kept2 w W1 lb ob := by
    refine (Kept2.grow hB0 lb ob).trans ?_
    rw [hW1]
    have := grownBy_setCell_at W0 lb i (.slice x1 r.length (ci - 1))
    exact ⟨this.os, this.tape, this.output, this.size, fun k hk h1 _ => this.block k hk (fun e => h1 (by simpa using e))⟩
  have q1 : W1.cell? ⟨b1, o1, none⟩ = some (strV xk) ∧ W1.cell? ⟨b1, o1 + 1, none⟩ = some (.int .u64 (xn : Nat)) := by
    have hne : b1 ≠ lb := by omega
    rw [hW1]
    exact ⟨(show (W0.setCell ⟨lb, i, none⟩ (.slice x1 r.length (ci - 1))).cell? ⟨b1, o1, none⟩ = _ from by rw [World.cell?_of_block (w := W0) (Below.heap_setCell _ _ _ _ hne)]; exact d1), (show (W0.setCell ⟨lb, i, none⟩ (.slice x1 r.length (ci - 1))).cell? ⟨b1, o1 + 1, none⟩ = _ from by rw [World.cell?_of_block (w := W0) (Below.heap_setCell _ _ _ _ hne)]; exact d2)⟩
  have pa := again_any h1 hn hi (hT.again hi hW r)
  have n0 : ¬ ((((xk, xn) :: r).length : Nat) : Int) = 0 := by simp; omega
  have n1 : (0 : Int) < (((xk, xn) :: r).length : Nat) := by simp
  have n2 : (1 : Int) ≤ (((xk, xn) :: r).length : Nat) := by simp; omega
  generalize ((xk, xn) :: r).length = len at *
  have HW1 : Hid _ := hW1
  have HK1 : Hid _ := hK1
  clear hK1 hW1 hr hr1 hd1 hx1 hx2 h h0 hv hl hw hn hT hW hc1 hbl h1 e2 e3
  go_enter Try.func32, Try.ntmps32
  go_upto_region 1 with (fail)
  rw [← HW0.out]
  go_wp2_with fail
  go_region
  rw [← HW1.out]
  clear c0 c1 co cl fl cD0 cDl fDl d1 d2 hs1 HW1 HW0 hB0 k0
  go_wp2_with fail
  refine pa.mono ?_
  rintro e w2 ⟨rfl, hG, L', W', hp, hL', hT', hw'⟩
  have hs01 := HK1.out.size
  have hs12 := hG.size
  have hb1w : b1 < W1.heap.size := World.block_lt_of_cell? W1 ⟨b1, o1, none⟩ q1.1
  have hne1 : b1 ≠ ob := by omega
  have t1 : w2.cell? ⟨b1, o1, none⟩ = some (strV xk) := hG.cell q1.1 (fun e => hne1 (by simpa using e))
  have t2 : w2.cell? ⟨b1, o1 + 1, none⟩ = some (.int .u64 (xn : Nat)) := hG.cell q1.2 (fun e => hne1 (by simpa using e))
  have hww : w.heap.size < W1.heap.size := (Array.getElem?_eq_some_iff.1 kk1).1
  have kk2 := (hG.block _ hww (fun e => how (by simpa using e.symm))).trans kk1
  have cz := blk2 kk2
  have hldz := load_en (blk2_set kk2 (strV xk) (.int .u64 (xn : Nat)))
  have hge : ∀ k, k ≠ w.heap.size → ((w2.setCell ⟨w.heap.size, 0, none⟩ (strV xk)).setCell ⟨w.heap.size, 1, none⟩ (.int .u64 (xn : Nat))).heap[k]? = w2.heap[k]? := fun k hk => (Below.heap_setCell _ _ _ _ hk).trans (Below.heap_setCell _ _ _ _ hk)
  have hp3 := hp.kept (hge pb hpw) (hge lb hlw) (hge ob how) fun k hk _ => hge k (by omega)
  have hK3 : Kept2 w ((w2.setCell ⟨w.heap.size, 0, none⟩ (strV xk)).setCell ⟨w.heap.size, 1, none⟩ (.int .u64 (xn : Nat))) lb ob := by
    have hK2 := HK1.out.trans (Kept2.of2 lb hG)
    exact ⟨hK2.os, hK2.tape, hK2.output, by simpa [World.setCell] using hK2.size, fun k hk h1 h2 => (hge k (by omega)).trans (hK2.block k hk h1 h2)⟩
  have HE : Hid _ := (⟨hK3, L', W', _, hp3, hL', hT', hw'⟩ : Kept2 w _ lb ob ∧ ∃ L' W' vs', PlayAt B _ pb lb ob (ls.set i r) L' vs' ∧ L'.length = n ∧ Tree (ls.set i r) L' W' n ∧ L'.getD 0 0 = W' 1)
  clear pa hp hG kk1 kk2 q1 hge hp3 hK3 HK1 hL' hT' hw' hs01 hs12 hb1w hne1 hww
  go_wp2
  refine bodyPost_ret (res_cell_tmp rfl _ _ _ (x := ⟨w.heap.size, 0, none⟩) rfl hldz) rfl ?_
  exact ⟨rfl, HE.out⟩
#print axioms pnext_any
end Go.Proofs.Ytknfjonaepggnaa

namespace Go.Proofs.Ytknfjonaepggnaa
open Go.RowKit
set_option linter.unusedVariables false
set_option linter.unusedSimpArgs false

/-- What count leaves of an own row. -/
def CountAt (base : Nat) (w : World) (v : Value) (out : List En) (e : Ending) (w' : World) : Prop :=
  ∃ v', e = .returned (.tuple #[v', .bool true]) ∧ w'.ownsRow base 64 2 v' out.length (cellsE out) ∧ w.grownBy w' v.ownBlock
theorem grow_grown {w w1 w2 : World} {r : Option Nat} (h : Grow w w1) (k : w1.grownBy w2 r) : w.grownBy w2 r :=
  ⟨k.os.trans h.os, k.tape.trans h.tape, k.output.trans h.output, Nat.le_trans h.size k.size, fun i hi hr => (k.block i (by have := h.size; omega) hr).trans (h.block i hi)⟩
set_option maxRecDepth 100000 in
set_option maxHeartbeats 4000000 in
theorem count_put {base : Nat} {w : World} {v : Value} {out : List En} (h : w.ownsRow base 64 2 v out.length (cellsE out)) (hb : base ≤ w.heap.size) (k : Wd) (n : Nat) (hn : ∀ z, out.getLast? = some z → z.1 ≠ k) (hl : out.length ≤ 1000000) :
    Calls Try.prog 33 #[v, .agg #[strV k, .int .u64 (n : Nat)]] w fun e w' => CountAt base w v (out ++ [(k, n)]) e w' := by
  obtain ⟨ao, cap, rfl⟩ := own2_slice h
  have hB0 : Grow w (w.alloc (.cells #[strV k, .int .u64 (n : Nat)] 64)) := (Below.refl _ _).alloc (Nat.le_refl _) _
  have k0 : (w.alloc (.cells #[strV k, .int .u64 (n : Nat)] 64)).heap[w.heap.size]? = some (.cells #[strV k, .int .u64 (n : Nat)] 64 (0, 0)) := Array.getElem?_push_size
  have h0 := own2_later h hB0 (Nat.le_refl _)
  have hs0 := hB0.size
  generalize hw0 : w.alloc (.cells #[strV k, .int .u64 (n : Nat)] 64) = w0 at hB0 k0 h0 hs0
  have cz := blk2 k0
  have HW0 : Hid _ := hw0
  clear hw0
  have hm1 : out.length + 1 ≤ maxLen := by unfold maxLen; omega
  have hm2 : (out.length + 1) * 24 ≤ 140737488355328 := by omega
  have hone : ∀ u ∈ [strV k, Value.int .u64 (n : Int)], u.oneCell' = true := by simp [Value.oneCell']
  rcases Nat.eq_zero_or_pos out.length with hz | hz
  · obtain rfl : out = [] := List.eq_nil_of_length_eq_zero hz
    go_enter Try.func33, Try.ntmps33
    go_upto_region 1 with (fail)
    rw [HW0.out]
    go_wp2_with fail
    go_quiet (fail)
    have h1 := own2_later h0 (below_drewN (Below.refl _ _) nq) (Nat.le_refl _)
    have cz1 := cz
    simp only [List.length_nil] at h1 hm1 hm2
    have hbz : base ≤ w0.heap.size := Nat.le_trans hb hs0
    clear h h0 hn hl hz
    go_wp2_with (at_builtin; refine wpList_append_en rfl _ _ rfl base _ _ _ _ rfl (h1.alloc _) _ _ _ _ rfl (reads_lit _ _ _ _) hone hm1 hm2 (Nat.le_trans hbz (by simp)) ?_; intro ag1 c1 w1 hr1 hg1 hb1 hw1)
    go_ret2
    have hg0 : Grow w ((w0.drewN nq).alloc (.cells #[strV k, .int .u64 (n : Nat)] 64)) := Grow.trans (Grow.trans hB0 (below_drewN (Below.refl _ _) nq)) ((Below.refl _ _).alloc (Nat.le_refl _) _)
    exact ⟨_, rfl, hr1, grow_grown hg0 hg1⟩
  · obtain ⟨m, hm⟩ : ∃ m, out.length = m + 1 := ⟨out.length - 1, by omega⟩
    obtain ⟨⟨zk, zn⟩, hzl⟩ : ∃ z, out.getLast? = some z := by
      cases hq : out.getLast? with
      | none => rw [List.getLast?_eq_none_iff] at hq; subst hq; simp at hz
      | some z => exact ⟨z, rfl⟩
    have hze : out[m]? = some (zk, zn) := by rw [List.getLast?_eq_getElem?, hm] at hzl; exact hzl
    have hne := hn _ hzl
    obtain ⟨g, cap', hv, q1, q2, q3, hc, q4⟩ := own2_at h0 hz
    obtain ⟨rfl, rfl⟩ := slice_inj hv
    have c1 := (hc m _ hze).1
    simp only at c1 hne
    have hqb : (zk == k) = false := by rw [beq_eq_false_iff_ne]; exact hne
    rw [hm] at h0 hm1 hm2
    rw [hm]
    have i1 : decide ((m : Int) < 0) = false := by simp
    have i2 : (m : Int) < (m : Int) + 1 := by omega
    have i3 : (0 : Int) ≤ m := by omega
    have i4 : (m : Int) < ((m + 1 : Nat) : Int) := by omega
    have hbz : base ≤ w0.heap.size := Nat.le_trans hb hs0
    have Hm : Hid _ := hm
    clear h hn hl hz hm hzl hze hne hc hv q1 q2 q3 q4
    go_enter Try.func33, Try.ntmps33
    go_upto_region 1 with (fail)
    rw [HW0.out]
    go_wp2_with fail
    go_quiet (fail)
    have h1 := own2_later h0 (below_drewN (Below.refl _ _) nq) (Nat.le_refl _)
    clear h0 c1
    go_wp2_with (at_builtin; refine wpList_append_en rfl _ _ rfl base _ _ _ _ rfl (h1.alloc _) _ _ _ _ rfl (reads_lit _ _ _ _) hone hm1 hm2 (Nat.le_trans hbz (by simp)) ?_; intro ag1 c1 w1 hr1 hg1 hb1 hw1)
    go_ret2
    have hg0 : Grow w ((w0.drewN nq).alloc (.cells #[strV k, .int .u64 (n : Nat)] 64)) := Grow.trans (Grow.trans hB0 (below_drewN (Below.refl _ _) nq)) ((Below.refl _ _).alloc (Nat.le_refl _) _)
    exact ⟨_, rfl, by rw [List.length_append, Hm.out, cells_app]; exact hr1, grow_grown hg0 hg1⟩
#print axioms count_put

set_option maxRecDepth 100000 in
set_option maxHeartbeats 4000000 in
theorem count_more {base : Nat} {w : World} {v : Value} {out : List En} (h : w.ownsRow base 64 2 v out.length (cellsE out)) (hb : base ≤ w.heap.size) (k : Wd) (n zn : Nat) (hzl : out.getLast? = some (k, zn)) (hs : zn + n ≤ 4611686018427387904) (hl : out.length ≤ 1000000) :
    Calls Try.prog 33 #[v, .agg #[strV k, .int .u64 (n : Nat)]] w fun e w' => CountAt base w v (out.set (out.length - 1) (k, zn + n)) e w' := by
  obtain ⟨ao, cap, rfl⟩ := own2_slice h
  have hB0 : Grow w (w.alloc (.cells #[strV k, .int .u64 (n : Nat)] 64)) := (Below.refl _ _).alloc (Nat.le_refl _) _
  have k0 : (w.alloc (.cells #[strV k, .int .u64 (n : Nat)] 64)).heap[w.heap.size]? = some (.cells #[strV k, .int .u64 (n : Nat)] 64 (0, 0)) := Array.getElem?_push_size
  have h0 := own2_later h hB0 (Nat.le_refl _)
  have hs0 := hB0.size
  generalize hw0 : w.alloc (.cells #[strV k, .int .u64 (n : Nat)] 64) = w0 at hB0 k0 h0 hs0
  have cz := blk2 k0
  have HW0 : Hid _ := hw0
  clear hw0
  have hz : 0 < out.length := by
    cases out with
    | nil => simp at hzl
    | cons => simp
  obtain ⟨m, hm⟩ : ∃ m, out.length = m + 1 := ⟨out.length - 1, by omega⟩
  have hze : out[m]? = some (k, zn) := by rw [List.getLast?_eq_getElem?, hm] at hzl; exact hzl
  obtain ⟨g, cap', hv, q1, q2, q3, hc, q4⟩ := own2_at h0 hz
  obtain ⟨rfl, rfl⟩ := slice_inj hv
  have c1 := (hc m _ hze).1
  have c2 := (hc m _ hze).2
  simp only at c1 c2
  have f2 := q4 (m * 2 + 1)
  have hset : ∀ W : World, W.ownsRow base 64 2 (.slice (some ⟨g, 0, none⟩) out.length cap) out.length (cellsE out) → (W.setCell ⟨g, m * 2 + 1, none⟩ (.int .u64 ((zn + n : Nat) : Int))).ownsRow base 64 2 (.slice (some ⟨g, 0, none⟩) out.length cap) out.length (cellsE (out.set m (k, zn + n))) := fun W hW => by
    have := own2_set hW (j := m * 2 + 1) (by omega) (.int .u64 ((zn + n : Nat) : Int))
    rw [cells_set out m _ (zn + n) hze] at this
    exact this
  have hadd := fun W => add_any (zn : Nat) (n : Nat) W (by omega) (by omega) (by omega) (by omega)
  have e1 : addN (zn : Nat) (n : Nat) = ((zn + n : Nat) : Int) := by unfold addN; rw [if_pos (by omega)]; omega
  have e2 : addB (zn : Nat) (n : Nat) = true := by simp [addB]; omega
  rw [e1, e2] at hadd
  have hol : (out.set (out.length - 1) (k, zn + n)) = out.set m (k, zn + n) := by rw [hm]; rfl
  have hol2 : (out.set m (k, zn + n)).length = m + 1 := by rw [List.length_set]; exact hm
  rw [hm] at hset
  rw [hm] at h0
  rw [hm]
  have i1 : decide ((m : Int) < 0) = false := by simp
  have i2 : (m : Int) < (m : Int) + 1 := by omega
  have i3 : (0 : Int) ≤ m := by omega
  have i4 : (m : Int) < ((m + 1 : Nat) : Int) := by omega
  have i5 : m ≤ 1000000 := by omega
  have Hm : Hid _ := hm
  have Hset : Hid _ := hset
  have Hol : Hid _ := hol
  have Hol2 : Hid _ := hol2
  clear h hz hm hzl hze hc hv q1 q2 q3 q4 e1 e2 hset hol hol2
  generalize zn + n = sum at *
  go_enter Try.func33, Try.ntmps33
  go_upto_region 1 with (fail)
  rw [HW0.out]
  go_wp2_with fail
  go_quiet (fail)
  obtain ⟨w1, hw1⟩ : ∃ w1, w1 = w0.drewN nq := ⟨_, rfl⟩
  rw [← hw1]
  have h1 : w1.ownsRow base 64 2 (.slice (some ⟨g, 0, none⟩) (m + 1) cap) (m + 1) (cellsE out) := by rw [hw1]; exact own2_later h0 (below_drewN (Below.refl _ _) nq) (Nat.le_refl _)
  have d2 : w1.cell? ⟨g, m * 2 + 1, none⟩ = some (.int .u64 (zn : Nat)) := by rw [hw1]; exact c2
  have e2 : w1.frozen? ⟨g, m * 2 + 1, none⟩ = false := by rw [hw1]; exact f2
  have dz : w1.cell? ⟨w.heap.size, 1, none⟩ = some (.int .u64 (n : Nat)) := by rw [hw1]; exact cz.2.1
  have hB1 : Grow w w1 := by rw [hw1]; exact Grow.trans hB0 (below_drewN (Below.refl _ _) nq)
  clear hw1 h0 c1 c2 f2 cz k0 hB0
  go_wp2_with fail
  go_quiet (exact Calls.quiet_of_same (hadd _))
  have h2 := own2_later h1 (below_drewN (Below.refl _ _) nq) (Nat.le_refl _)
  have h3 := Hset.out _ h2
  have hgz : w.grownBy ((w1.drewN nq).setCell ⟨g, m * 2 + 1, none⟩ (.int .u64 (sum : Nat))) (Value.ownBlock (.slice (some ⟨g, 0, none⟩) (m + 1) cap)) := grow_grown hB1 (grown_set (World.grownBy.refl _ _) nq (m * 2 + 1) _)
  have H3 : Hid _ := h3
  have HGZ : Hid _ := hgz
  clear h1 h2 h3 hgz hadd Hset
  go_wp2
  go_ret2
  rw [Nat.add_sub_cancel]
  exact ⟨_, rfl, by rw [Hol2.out]; exact H3.out, HGZ.out⟩
#print axioms count_more
set_option maxRecDepth 100000 in
set_option maxHeartbeats 4000000 in
theorem count_over {base : Nat} {w : World} {v : Value} {out : List En} (h : w.ownsRow base 64 2 v out.length (cellsE out)) (hb : base ≤ w.heap.size) (k : Wd) (n zn : Nat) (hzl : out.getLast? = some (k, zn)) (hs : 4611686018427387904 < zn + n) (hz1 : zn ≤ 4611686018427387904) (hn1 : n ≤ 4611686018427387904) (hl : out.length ≤ 1000000) :
    Calls Try.prog 33 #[v, .agg #[strV k, .int .u64 (n : Nat)]] w fun e w' => e = .returned (.tuple #[.slice none 0 0, .bool false]) ∧ Grow w w' := by
  obtain ⟨ao, cap, rfl⟩ := own2_slice h
  have hB0 : Grow w (w.alloc (.cells #[strV k, .int .u64 (n : Nat)] 64)) := (Below.refl _ _).alloc (Nat.le_refl _) _
  have k0 : (w.alloc (.cells #[strV k, .int .u64 (n : Nat)] 64)).heap[w.heap.size]? = some (.cells #[strV k, .int .u64 (n : Nat)] 64 (0, 0)) := Array.getElem?_push_size
  have h0 := own2_later h hB0 (Nat.le_refl _)
  have hs0 := hB0.size
  generalize hw0 : w.alloc (.cells #[strV k, .int .u64 (n : Nat)] 64) = w0 at hB0 k0 h0 hs0
  have cz := blk2 k0
  have HW0 : Hid _ := hw0
  clear hw0
  have hz : 0 < out.length := by
    cases out with
    | nil => simp at hzl
    | cons => simp
  obtain ⟨m, hm⟩ : ∃ m, out.length = m + 1 := ⟨out.length - 1, by omega⟩
  have hze : out[m]? = some (k, zn) := by rw [List.getLast?_eq_getElem?, hm] at hzl; exact hzl
  obtain ⟨g, cap', hv, q1, q2, q3, hc, q4⟩ := own2_at h0 hz
  obtain ⟨rfl, rfl⟩ := slice_inj hv
  have c1 := (hc m _ hze).1
  have c2 := (hc m _ hze).2
  simp only at c1 c2
  have f2 := q4 (m * 2 + 1)
  have hadd := fun W => add_any (zn : Nat) (n : Nat) W (by omega) (by omega) (by omega) (by omega)
  have e1 : addN (zn : Nat) (n : Nat) = 0 := by unfold addN; rw [if_neg (by omega)]
  have e2 : addB (zn : Nat) (n : Nat) = false := by simp [addB]; omega
  rw [e1, e2] at hadd
  rw [hm] at h0
  rw [hm]
  have i1 : decide ((m : Int) < 0) = false := by simp
  have i2 : (m : Int) < (m : Int) + 1 := by omega
  have i3 : (0 : Int) ≤ m := by omega
  have i4 : (m : Int) < ((m + 1 : Nat) : Int) := by omega
  have i5 : m ≤ 1000000 := by omega
  have Hm : Hid _ := hm
  clear h hz hm hzl hze hc hv q1 q2 q3 q4 e1 e2
  go_enter Try.func33, Try.ntmps33
  go_upto_region 1 with (fail)
  rw [HW0.out]
  go_wp2_with fail
  go_quiet (fail)
  obtain ⟨w1, hw1⟩ : ∃ w1, w1 = w0.drewN nq := ⟨_, rfl⟩
  rw [← hw1]
  have h1 : w1.ownsRow base 64 2 (.slice (some ⟨g, 0, none⟩) (m + 1) cap) (m + 1) (cellsE out) := by rw [hw1]; exact own2_later h0 (below_drewN (Below.refl _ _) nq) (Nat.le_refl _)
  have d2 : w1.cell? ⟨g, m * 2 + 1, none⟩ = some (.int .u64 (zn : Nat)) := by rw [hw1]; exact c2
  have e2 : w1.frozen? ⟨g, m * 2 + 1, none⟩ = false := by rw [hw1]; exact f2
  have dz : w1.cell? ⟨w.heap.size, 1, none⟩ = some (.int .u64 (n : Nat)) := by rw [hw1]; exact cz.2.1
  have hB1 : Grow w w1 := by rw [hw1]; exact Grow.trans hB0 (below_drewN (Below.refl _ _) nq)
  clear hw1 h0 c1 c2 f2 cz k0 hB0
  go_wp2_with fail
  go_quiet (exact Calls.quiet_of_same (hadd _))
  have hgz : Grow w (w1.drewN nq) := Grow.trans hB1 (below_drewN (Below.refl _ _) nq)
  have HGZ : Hid _ := hgz
  clear h1 hgz hadd
  go_wp2
  go_ret2
  exact ⟨rfl, HGZ.out⟩
#print axioms count_over
end Go.Proofs.Ytknfjonaepggnaa
