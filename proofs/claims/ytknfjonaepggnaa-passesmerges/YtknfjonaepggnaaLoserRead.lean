/- The landed readAll. -/
import Derived.Test.YtknfjonaepggnaaLoserWhole
import Derived.Test.YtknfjonaepggnaaReaderAll
import Derived.Laws.MakeOwn
namespace Go.Proofs.Ytknfjonaepggnaa
open Go.RowKit
set_option linter.unusedVariables false
set_option linter.unusedSimpArgs false

def lenV : Value → Nat
  | .slice _ n _ => n
  | _ => 0
/-- What a reader's next entry is. -/
def HeadIs (es : List En) (k : Wd) (c : Nat) (okb : Bool) : Prop := (okb = true ∧ ∃ r, es = (k, c) :: r) ∨ (okb = false ∧ es = [])
theorem rnext_any {B : Nat} {w : World} {rb : Nat} {es : List En} (h : RdAt B w rb es) : Calls Try.prog 29 #[.pointer (some ⟨rb, 0, none⟩)] w fun e w' =>
    ∃ k c okb, e = .returned (.tuple #[.agg #[strV k, .int .u64 (c : Nat)], .bool okb]) ∧ w.grownBy w' (some rb) ∧ RdAt B w' rb es.tail ∧ Hid (HeadIs es k c okb) := by
  refine (next_any h).mono ?_
  rintro e w' ⟨rfl, h1, h2⟩
  cases es with
  | nil => exact ⟨[], 0, false, rfl, h1, h2, .inr ⟨rfl, rfl⟩⟩
  | cons x es => exact ⟨x.1, x.2, true, rfl, h1, h2, .inl ⟨rfl, es, rfl⟩⟩
theorem off_grow {w W W' : World} {b : Nat} (h : w.grownBy W (some b)) (g : Grow W W') : w.grownBy W' (some b) :=
  ⟨g.os.trans h.os, g.tape.trans h.tape, g.output.trans h.output, Nat.le_trans h.size g.size, fun k hk hr => (g.block k (by have := h.size; omega)).trans (h.block k hk hr)⟩
theorem off_row {w W W' : World} {b : Nat} {row : Option Nat} (h : w.grownBy W (some b)) (g : W.grownBy W' row) (hr : ∀ k, row = some k → w.heap.size ≤ k) : w.grownBy W' (some b) :=
  ⟨g.os.trans h.os, g.tape.trans h.tape, g.output.trans h.output, Nat.le_trans h.size g.size, fun k hk hb => (g.block k (by have := h.size; omega) (fun e => by have := hr k e.symm; omega)).trans (h.block k hk hb)⟩
theorem off_set2 {w W : World} {b eb : Nat} (h : w.grownBy W (some b)) (he : w.heap.size ≤ eb) (x y : Value) : w.grownBy ((W.setCell ⟨eb, 0, none⟩ x).setCell ⟨eb, 1, none⟩ y) (some b) :=
  off_row (off_row h (grownBy_setCell_at W eb 0 x) (fun k hk => by cases hk; exact he)) (grownBy_setCell_at _ eb 1 y) (fun k hk => by cases hk; exact he)
/-- The loop's world. -/
structure LoopR (B : Nat) (w W : World) (rb eb : Nat) (v : Value) (done cur : List En) (k : Wd) (c : Nat) : Prop where
  rd : RdAt B W rb cur
  row : W.ownsRow w.heap.size 64 2 v done.length (cellsE done)
  ent : W.heap[eb]? = some (.cells #[strV k, .int .u64 (c : Nat)] 64 (0, 0))
  off : v.ownBlock ≠ some eb
  base : w.heap.size ≤ eb
  fr : w.grownBy W (some rb)
theorem RdAt.typed {B : Nat} {W : World} {rb : Nat} {es : List En} (h : RdAt B W rb es) {k : Nat} {cur : Array Value} (hk : W.heap[k]? = some (.cells cur 64 (0, 0))) : k ≠ rb := fun e => by
  obtain ⟨ao, cap, h1, _⟩ := h
  rw [e, h1] at hk
  simp at hk
theorem RdAt.row_ne {B : Nat} {W : World} {rb base n : Nat} {es : List En} {v : Value} {xs : List Value} (h : RdAt B W rb es) (hr : W.ownsRow base 64 2 v n xs) : v.ownBlock ≠ some rb := fun e => by
  obtain ⟨cur, hc⟩ := own2_type hr e
  exact h.typed hc rfl
theorem LoopR.appended {B : Nat} {w W W4 : World} {rb eb : Nat} {v v' : Value} {done done' cur : List En} {k : Wd} {c : Nat} (h : LoopR B w W rb eb v done cur k c) (hB : B ≤ w.heap.size) {W1 : World} (hg1 : Grow W W1) (hg : W1.grownBy W4 v.ownBlock) (hr : W4.ownsRow w.heap.size 64 2 v' done'.length (cellsE done')) :
    RdAt B W4 rb cur ∧ W4.heap[eb]? = some (.cells #[strV k, .int .u64 (c : Nat)] 64 (0, 0)) ∧ w.grownBy W4 (some rb) := by
  have hrow1 := own2_later h.row hg1 (Nat.le_refl _)
  have hrd1 := h.rd.later hg1
  have hent1 := cells_later h.ent hg1
  refine ⟨hrd1.kept hg (hrd1.row_ne hrow1) (fun k cur e hk => by have := (hrow1.lt k e).1; omega), ?_, off_row (off_grow h.fr hg1) hg fun k e => (hrow1.lt k e).1⟩
  rw [hg.block eb (Array.getElem?_eq_some_iff.1 hent1).1 (fun e => h.off e.symm)]; exact hent1
theorem LoopR.next {B : Nat} {w W5 W6 : World} {rb eb : Nat} {v : Value} {done cur : List En} {k k2 : Wd} {c c2 : Nat} (hB : B ≤ w.heap.size) (hrd : RdAt B W5 rb cur) (hrow : W5.ownsRow w.heap.size 64 2 v done.length (cellsE done)) (hent : W5.heap[eb]? = some (.cells #[strV k, .int .u64 (c : Nat)] 64 (0, 0)))
    (hoff : v.ownBlock ≠ some eb) (hbase : w.heap.size ≤ eb) (hfr : w.grownBy W5 (some rb)) (hg : W5.grownBy W6 (some rb)) (hrd6 : RdAt B W6 rb cur.tail) :
    LoopR B w ((W6.setCell ⟨eb, 0, none⟩ (strV k2)).setCell ⟨eb, 1, none⟩ (.int .u64 (c2 : Nat))) rb eb v done cur.tail k2 c2 := by
  have hne := hrd.typed hent
  have hrn := hrd.row_ne hrow
  have hge : ∀ i, i ≠ eb → ((W6.setCell ⟨eb, 0, none⟩ (strV k2)).setCell ⟨eb, 1, none⟩ (.int .u64 (c2 : Nat))).heap[i]? = W6.heap[i]? := fun i hi => (Below.heap_setCell _ _ _ _ hi).trans (Below.heap_setCell _ _ _ _ hi)
  have he6 := (hg.block eb (Array.getElem?_eq_some_iff.1 hent).1 (fun e => hne (by simpa using e))).trans hent
  refine ⟨hrd6.by_block (hge rb (fun e => hne e.symm)) fun i cur hi _ => hge i (by omega), own2_block hrow fun i hi => ?_, blk2_set he6 _ _, hoff, hbase, off_set2 (grown_trans hfr hg) hbase _ _⟩
  have hil := (hrow.lt i hi).2
  rw [hge i (fun e => hoff (by rw [hi, e])), hg.block i hil (fun e => hrn (by rw [hi]; exact e))]

set_option maxRecDepth 100000 in
set_option maxHeartbeats 8000000 in
theorem readAll_any {B : Nat} {w : World} {rb : Nat} {es : List En} (h : RdAt B w rb es) (hB : B ≤ w.heap.size) (hl : es.length ≤ 100000000) :
    Calls Try.prog 21 #[.pointer (some ⟨rb, 0, none⟩)] w fun e w' => ∃ ag c, e = .returned (.slice ag es.length c) ∧ w'.ownsRow w.heap.size 64 2 (.slice ag es.length c) es.length (cellsE es) ∧ w.grownBy w' (some rb) := by
  obtain ⟨i0, hi, hz0, hz1, hz2⟩ := info_parts Try.infoEn
  have pl := left_any h
  have hl9 : (es.length : Int) ≤ 100000000 := by omega
  go_enter Try.func21, Try.ntmps21
  go_wp2_with fail
  refine pl.mono ?_
  rintro e w0 ⟨rfl, rfl⟩
  clear pl
  go_wp2_with (at_make; refine wpList_make_own _ rfl _ _ 49 rfl w0.heap.size 64 i0 (.agg #[.string ⟨#[]⟩, .int .u64 0]) 2 Try.underlying49 hi hz0 hz1 _ _ _ es.length rfl rfl (by omega) ?b1 ?b2 ?b3 ?_)
  case b1 => rw [hz2]; omega
  case b2 => unfold maxLen; omega
  case b3 => exact Nat.le_refl _
  intro w1 hown1 hgrow1
  have hG1 : Grow w0 w1 := (Below.refl _ _).grown hgrow1 (Nat.le_refl _) (fun k h => by cases h)
  have pn := rnext_any (h.later hG1)
  have h1 := h.later hG1
  generalize hcp : es.length = cp at hown1 hl9
  have Hcp : Hid _ := hcp
  clear hcp hi hz0 hz1 hz2 hgrow1
  go_wp2_with fail
  refine pn.mono ?_
  rintro e w2 ⟨k, c, okb, rfl, hg2, hrd2, hH⟩
  have hgr : Grow w2 (w2.alloc (.cells #[strV k, .int .u64 (c : Nat)] 64)) := (Below.refl _ _).alloc (Nat.le_refl _) _
  have hs2 := hg2.size
  have hs1 := hG1.size
  have hrow2 : w2.ownsRow w0.heap.size 64 2 (.slice (some ⟨w0.heap.size, 0, none⟩) 0 cp) 0 (cellsE []) := own2_block hown1 fun i hi => hg2.block i (hown1.lt i hi).2 (fun e => h1.row_ne hown1 (by rw [hi]; exact e))
  have hoff : (Value.slice (some ⟨w0.heap.size, 0, none⟩) 0 cp).ownBlock ≠ some w2.heap.size := fun e => by
    have := (hrow2.lt _ e).2
    omega
  have hL : LoopR B w0 (w2.alloc (.cells #[strV k, .int .u64 (c : Nat)] 64)) rb w2.heap.size (.slice (some ⟨w0.heap.size, 0, none⟩) 0 cp) [] es.tail k c :=
    ⟨hrd2.later hgr, own2_later hrow2 hgr (Nat.le_refl _), heap_alloc_new _ _, hoff, by omega, off_grow (off_grow (World.grownBy.refl _ _) hG1 |> fun h => grown_trans h hg2) hgr⟩
  have HL : Hid _ := hL
  have HH : Hid (HeadIs es k c okb) := hH
  clear pn h1 hown1 hg2 hrd2 hH hgr hs2 hs1 hrow2 hoff hL hG1 h
  go_wp2_with fail
  obtain ⟨e0, he0⟩ : ∃ e0, e0 = w2.heap.size := ⟨_, rfl⟩
  rw [← he0] at HL ⊢
  generalize w2.alloc (.cells #[strV k, .int .u64 (c : Nat)] 64) = w3 at HL ⊢
  clear he0
  go_loopw [3, 4, 5] (fun v q u wr => ∃ (done cur : List En) (ag : Option Addr) (n cp : Nat) (k : Wd) (c : Nat) (okb : Bool) (eb : Nat), v = .slice ag n cp ∧ q = .pointer (some ⟨eb, 0, none⟩) ∧ u = .bool okb ∧ Hid (done.length = n) ∧ Hid (LoopR B w0 wr rb eb (.slice ag n cp) done cur.tail k c) ∧ Hid (es = done ++ cur) ∧ Hid (HeadIs cur k c okb)) (fun v _ _ _ => es.length - lenV v)
  case atStart => exact ⟨[], es, _, 0, cp, k, c, okb, e0, rfl, rfl, rfl, rfl, HL, rfl, HH⟩
  case round =>
    clear HL HH
    obtain ⟨done, cur, ag, n, cp, k, c, okb, eb, rfl, rfl, rfl, hn, hL, hE, hH⟩ := hrel
    cases okb with
    | false =>
      have hcur : cur = [] := by
        rcases hH.out with ⟨h1, _⟩ | ⟨_, h2⟩
        · cases h1
        · exact h2
      have hde : done = es := by rw [hE.out, hcur, List.append_nil]
      have hne : n = es.length := by rw [← hn.out, hde]
      have hrow : wr.ownsRow w0.heap.size 64 2 (.slice ag n cp) n (cellsE es) := by have := hL.out.row; rw [hn.out, hde] at this; exact this
      have hfr := hL.out.fr
      subst hne
      have Hrow : Hid _ := hrow
      clear hrow hde hcur hn hL hE hH
      go_wp2
      go_ret
      exact ⟨ag, cp, rfl, Hrow.out, hfr⟩
    | true =>
      obtain ⟨r, hr⟩ : ∃ r, cur = (k, c) :: r := by
        rcases hH.out with ⟨_, h2⟩ | ⟨h1, _⟩
        · exact h2
        · cases h1
      subst hr
      have hlt : n < es.length := by rw [← hn.out, hE.out]; simp
      have cz := blk2 hL.out.ent
      have hrow : wr.ownsRow w0.heap.size 64 2 (.slice ag n cp) n (cellsE done) := by have := hL.out.row; rw [hn.out] at this; exact this
      have hone : ∀ u ∈ [strV k, Value.int .u64 (c : Int)], u.oneCell' = true := by simp [Value.oneCell']
      have hm1 : n + 1 ≤ maxLen := by unfold maxLen; omega
      have hm2 : (n + 1) * 24 ≤ 140737488355328 := by omega
      have hw0 : w0.heap.size ≤ wr.heap.size := hL.out.fr.size
      have hG1 : Grow wr (wr.alloc (.cells #[strV k, .int .u64 (c : Nat)] 64)) := (Below.refl _ _).alloc (Nat.le_refl _) _
      have Hw0 : Hid _ := hw0
      have HE2 : Hid (es = (done ++ [(k, c)]) ++ r) := by show _ = _; rw [hE.out]; simp
      have Hlt : Hid _ := hlt
      clear hE hH hlt
      go_wp2_with (at_builtin; refine wpList_append_en rfl _ _ rfl w0.heap.size _ _ _ _ rfl (hrow.alloc _) _ _ _ _ rfl (reads_lit _ _ _ _) hone hm1 hm2 (Nat.le_trans Hw0.out (by simp)) ?_; intro ag4 c4 w4 hr4 hg4 hb4 hw4; obtain ⟨hrd4, he4, hfr4⟩ := hL.out.appended hB hG1 hg4 (done' := done ++ [(k, c)]) (by rw [List.length_append, hn.out, cells_app]; exact hr4); have cz4 := blk2 he4)
      obtain ⟨W5, hW5⟩ : ∃ W5, W5 = w4.alloc (.cells #[strV k, .int .u64 (c : Nat)] 64) := ⟨_, rfl⟩
      have hgr : Grow w4 W5 := by rw [hW5]; exact (Below.refl _ _).alloc (Nat.le_refl _) _
      have hent5 : W5.heap[w4.heap.size]? = some (.cells #[strV k, .int .u64 (c : Nat)] 64 (0, 0)) := by rw [hW5]; exact heap_alloc_new _ _
      have hrow4 : w4.ownsRow w0.heap.size 64 2 (.slice ag4 (n + 1) c4) (done ++ [(k, c)]).length (cellsE (done ++ [(k, c)])) := by rw [List.length_append, hn.out, cells_app]; exact hr4
      have hrow5 := own2_later hrow4 hgr (Nat.le_refl _)
      have hoff5 : (Value.slice ag4 (n + 1) c4).ownBlock ≠ some w4.heap.size := fun e => by have := (hrow4.lt _ e).2; omega
      have hbase5 : w0.heap.size ≤ w4.heap.size := hfr4.size
      have hrd5 := hrd4.later hgr
      have hfr5 := off_grow hfr4 hgr
      have pn := rnext_any hrd5
      obtain ⟨eb2, heb2⟩ : ∃ eb2, eb2 = w4.heap.size := ⟨_, rfl⟩
      rw [← heb2] at hent5 hoff5 hbase5
      have HW5 : Hid _ := hW5
      have Heb2 : Hid _ := heb2
      have Hrd5 : Hid _ := hrd5
      have Hrow5 : Hid _ := hrow5
      have Hent5 : Hid _ := hent5
      have Hfr5 : Hid _ := hfr5
      have Hn : Hid ((done ++ [(k, c)]).length = n + 1) := by show _ = _; rw [List.length_append, hn.out]; rfl
      clear hr4 hg4 hb4 hw4 hrd4 he4 hfr4 hW5 hgr hent5 hrow4 hrow5 hrd5 hfr5 heb2 cz hrow hG1 hw0 hL hn hm1 hm2 hone
      rw [← HW5.out, ← Heb2.out]
      refine pn.mono ?_
      rintro e w6 ⟨k2, c2, okb2, rfl, hg6, hrd6, hH6⟩
      have HL6 : Hid _ := LoopR.next (k2 := k2) (c2 := c2) hB Hrd5.out Hrow5.out Hent5.out hoff5 hbase5 Hfr5.out hg6 hrd6
      have hne := RdAt.typed Hrd5.out Hent5.out
      have he6 := (hg6.block eb2 (Array.getElem?_eq_some_iff.1 Hent5.out).1 (fun e => hne (by simpa using e))).trans Hent5.out
      have cz6 := blk2 he6
      clear pn hg6 hrd6 hne he6 cz4 HW5 Heb2 Hrd5 Hrow5 Hent5 Hfr5 hoff5 hbase5
      go_wp2
      go_roundw
      case rel => exact ⟨done ++ [(k, c)], r, ag4, n + 1, c4, k2, c2, okb2, eb2, rfl, rfl, rfl, Hn, HL6, HE2, hH6⟩
      case measure => have := Hlt.out; simp only [lenV]; omega
#print axioms readAll_any
end Go.Proofs.Ytknfjonaepggnaa
