/- The landed run.Encode. -/
import Derived.Test.YtgnhnhachhfafaaRunPay
import Derived.Test.YtgnhnhachhfafaaFramePut
namespace Go.Proofs.Ytgnhnhachhfafaa
open Go.RowKit
set_option linter.unusedVariables false
set_option linter.unusedSimpArgs false
attribute [local go_sem] Oper.semAt_some

/-- What a loop's body must keep: all that lay when the loop began, but one box. -/
structure KeepBox (Bo S : Nat) (A B : World) : Prop where
  size : A.heap.size ≤ B.heap.size
  block : ∀ k, k < S → k ≠ Bo → B.heap[k]? = A.heap[k]?
theorem KeepBox.refl (Bo S : Nat) (A : World) : KeepBox Bo S A A := ⟨Nat.le_refl _, fun _ _ _ => rfl⟩
theorem KeepBox.trans {Bo S : Nat} {A B C : World} (h : KeepBox Bo S A B) (k : KeepBox Bo S B C) : KeepBox Bo S A C := ⟨Nat.le_trans h.size k.size, fun i hi hn => (k.block i hi hn).trans (h.block i hi hn)⟩
theorem KeepBox.grow {Bo S : Nat} {A B : World} (hS : S ≤ A.heap.size) (h : Grow A B) : KeepBox Bo S A B := ⟨h.size, fun k hk _ => h.block k (by omega)⟩
theorem KeepBox.put {Bo S : Nat} (W : World) (l : Nat) (o : Obj) (hl : S ≤ l) : KeepBox Bo S W (W.putObj l o) := ⟨by simp, fun k hk _ => World.putObj_heap_other (by omega)⟩
theorem KeepBox.set {Bo S : Nat} (W : World) (v : Value) : KeepBox Bo S W (W.setCell ⟨Bo, 0, none⟩ v) := ⟨(grownBy_setCell' W Bo v).size, fun k hk hn => Below.heap_setCell _ _ _ _ hn⟩
theorem KeepBox.cell {Bo S : Nat} {A B : World} (h : KeepBox Bo S A B) {p : Addr} (hp : p.block < S) (hn : p.block ≠ Bo) : B.cell? p = A.cell? p := World.cell?_of_block (w := A) (h.block p.block hp hn)
theorem ReadsE.same {w w' : World} {ao : Option Addr} {len cap : Nat} {xs : List Value} (h : ReadsE w ao len cap xs) (hb : ∀ k, k < w.heap.size → w'.heap[k]? = w.heap[k]?) : ReadsE w' ao len cap xs :=
  ⟨h.length, h.le, h.most, h.bare, fun a ha j u hu => by
    have hc := h.cell a ha j u hu
    have hlt := World.block_lt_of_cell? w _ hc
    rw [World.cell?_of_block (w := w) (hb _ hlt)]; exact hc⟩
theorem recs_take {rows : List (List Int)} {k : Nat} {row : List Int} (h : rows[k]? = some row) : recs (rows.take (k + 1)) = recs (rows.take k) ++ recL row := by
  rw [List.take_add_one, h, Option.toList_some, recs_append]
  simp [recs]
theorem row_some {w : World} {base e n cap : Nat} {ao : Option Addr} {xs : List Value} (h : w.ownsRow base e 1 (.slice ao n cap) n xs) (hp : 0 < n) : ∃ g, ao = some ⟨g, 0, none⟩ := by
  rcases h.2 with ⟨h1, h2⟩ | ⟨g, cap', cur, h1, _⟩
  · omega
  · simp only [Value.slice.injEq] at h1
    exact ⟨g, h1.1⟩
/-- A row of the call's own from S on is not in what was kept. -/
theorem keep_row {Bo S e size n : Nat} {w w' : World} {v : Value} {xs : List Value} (h : w.ownsRow S e size v n xs) (hS : S ≤ w.heap.size) (hg : w.grownBy w' v.ownBlock) : KeepBox Bo S w w' :=
  ⟨hg.size, fun k hk _ => hg.block k (by omega) (fun e' => by have := (h.lt k e'.symm).1; omega)⟩
theorem keeps_row {base e size n : Nat} {w w' : World} {v : Value} {xs : List Value} (h : w.ownsRow base e size v n xs) (hg : w.grownBy w' v.ownBlock) : KeepsOthers w w' :=
  KeepsOthers.of_grownBy hg fun j o ej hj => by
    rcases h.2 with ⟨rfl, _⟩ | ⟨g, cap, cur, rfl, _, hgb, _⟩
    · simp [Value.ownBlock] at ej
    · obtain rfl : g = j := by simpa [Value.ownBlock] using ej
      rw [hgb] at hj; cases hj; rfl
theorem grow_others {w w' : World} (h : Grow w w') : KeepsOthers w w' := KeepsOthers.of_grownBy (h.grown none) fun j o ej _ => by cases ej

theorem res_cells2 {fn : Func} {p q : Tmp} {t u : TypeId} (h : fn.results = #[.cell p t, .cell q u]) (tmps : Array Value) (P : Program) (w : World) {x y : Addr} {v v' : Value} (hx : tmps.getD p undef = .pointer (some x)) (hv : (loadVar t x).run P w = .ok v w)
    (hy : tmps.getD q undef = .pointer (some y)) (hv' : (loadVar u y).run P w = .ok v' w) : (results fn tmps).run P w = .ok (.tuple #[v, v']) w := by
  have hx' : tmps[p]?.getD undef = .pointer (some x) := by simpa using hx
  have hy' : tmps[q]?.getD undef = .pointer (some y) := by simpa using hy
  simp only [results, h]
  simp [Sem.run_bind, Result.andThen, hx', hy', asAddr, hv, hv']
theorem load_row {w : World} {b : Nat} {v : Value} {t : TypeId} (h : Boxed w b t v) : (loadVar 33 ⟨b, 0, none⟩).run Try.prog w = .ok v w := by
  have h0 := h.cell
  simp [loadVar, Try.isAgg33, Try.sizeOf33, loadCells, loadCellsFrom, go_sem, h0]
theorem load_errno {w : World} {b : Nat} {v : Value} {t : TypeId} (h : Boxed w b t v) : (loadVar 26 ⟨b, 0, none⟩).run Try.prog w = .ok v w := by
  have h0 := h.cell
  simp [loadVar, Try.isAgg26, Try.sizeOf26, loadCells, loadCellsFrom, go_sem, h0]
theorem load_ents {w : World} {b : Nat} {v : Value} {t : TypeId} (h : Boxed w b t v) : (loadVar 25 ⟨b, 0, none⟩).run Try.prog w = .ok v w := by
  have h0 := h.cell
  simp [loadVar, Try.isAgg25, Try.sizeOf25, loadCells, loadCellsFrom, go_sem, h0]

theorem two_boxes (w : World) (t u : TypeId) (x y : Value) : Boxed ((w.alloc (.cells #[x] t)).alloc (.cells #[y] u)) w.heap.size t x ∧ Boxed ((w.alloc (.cells #[x] t)).alloc (.cells #[y] u)) (w.heap.size + 1) u y := by
  refine ⟨(Boxed.new w _ _).alloc _, ?_⟩
  have := Boxed.new (w.alloc (.cells #[x] t)) u y
  rw [World.size_alloc] at this
  exact this
theorem two_below (w : World) (t u : TypeId) (x y : Value) : Below w.heap.size w ((w.alloc (.cells #[x] t)).alloc (.cells #[y] u)) := ((Below.refl _ w).alloc (Nat.le_refl _) _).alloc (by simp) _

set_option maxRecDepth 100000 in
set_option maxHeartbeats 4000000 in
theorem encode_any {w : World} {ao : Option Addr} {len cap : Nat} {es : List En} (h : ReadsE w ao len cap (cellsE es)) (hb : ∀ e ∈ es, e.2 ≤ 18446744073709551615) (hw : ∀ e ∈ es, e.1.length ≤ 140737488355328) (hl : len ≤ 10000000) (sz : Int) (s : Nat) (hs : sz = s ∨ (sz < 0 ∧ s = 0)) (hsz : sz ≤ 9223372036854775807) :
    Calls Try.prog 25 #[.slice ao len cap, .int .i64 sz] w fun e w' => EncOut w (encR es s) e w' := by
  have hlx := h.count
  subst hlx
  obtain ⟨W0, hW0⟩ : ∃ W0, W0 = (w.alloc (.cells #[.slice none 0 0] 33)).alloc (.cells #[.int .i64 0] 26) := ⟨_, rfl⟩
  have b1 : Boxed W0 w.heap.size 33 (.slice none 0 0) := by rw [hW0]; exact (Boxed.new w _ _).alloc _
  have b2 : Boxed W0 (w.heap.size + 1) 26 (.int .i64 0) := by
    rw [hW0]
    have := Boxed.new (w.alloc (.cells #[.slice none 0 0] 33)) 26 (.int .i64 0)
    rw [World.size_alloc] at this
    exact this
  have hB0 : Below w.heap.size w W0 := by rw [hW0]; exact ((Below.refl _ w).alloc (Nat.le_refl _) _).alloc (by simp) _
  have hbad : ∀ (W : World) (c : Nat), Boxed W w.heap.size 33 (.slice none 0 0) → Boxed W (w.heap.size + 1) 26 (.int .i64 0) → Below w.heap.size w W →
      Boxed ((W.setCell ⟨w.heap.size, 0, none⟩ (.slice none 0 0)).setCell ⟨w.heap.size + 1, 0, none⟩ (.int .i64 c)) w.heap.size 33 (.slice none 0 0) ∧ Boxed ((W.setCell ⟨w.heap.size, 0, none⟩ (.slice none 0 0)).setCell ⟨w.heap.size + 1, 0, none⟩ (.int .i64 c)) (w.heap.size + 1) 26 (.int .i64 c) ∧
      Below w.heap.size w ((W.setCell ⟨w.heap.size, 0, none⟩ (.slice none 0 0)).setCell ⟨w.heap.size + 1, 0, none⟩ (.int .i64 c)) := fun W c k1 k2 hB =>
    ⟨(k1.set _).other (by omega) _, ((k2.other (by omega) _).set _), (hB.setCell (p := ⟨w.heap.size, 0, none⟩) (Nat.le_refl _) _).setCell (p := ⟨w.heap.size + 1, 0, none⟩) (by simp) _⟩
  have HW0 : Hid _ := hW0
  have hr0 := h.later hB0 (Nat.le_refl _)
  clear hW0
  by_cases hr : 1 ≤ s ∧ s ≤ 255
  case neg =>
    have hE : Hid (encR es s = ([], 1)) := by show _ = _; unfold encR; rw [if_neg hr]
    have hsp : sz < 1 ∨ (1 ≤ sz ∧ 255 < sz) := by omega
    obtain ⟨q1, q2, q3⟩ := hbad W0 1 b1 b2 hB0
    clear hr hs
    rcases hsp with i1 | ⟨i1, i2⟩
    all_goals
      refine (callsIn_wide (n := 10)).1 ?_
      refine callsIn_of_wp_marks Try.func25 rfl trivial ?_ rfl
      simp only [Try.ntmps25, List.size_toArray, List.length_cons, List.length_nil, Nat.reduceAdd, Nat.reduceSub, Array.replicate_succ, Array.replicate_zero, List.push_toArray, List.append_toArray, List.nil_append, List.cons_append]
      gi_wp2_with fail
      refine ⟨_, res_cells2 rfl _ _ _ rfl (load_row (two_boxes _ _ _ _ _).1) rfl (load_errno (two_boxes _ _ _ _ _).2), ?_⟩
      rw [hE.out]
      exact EncOut.bad (two_below _ _ _ _ _)
  obtain rfl : sz = s := by omega
  have i1 : ¬ (s : Int) < 1 := by omega
  have i2 : ¬ (255 : Int) < s := by omega
  have pm := may_any hr0 hb hw
  by_cases hm : mayE es = 0
  case neg =>
    have hE : Hid (encR es s = ([], mayE es)) := by show _ = _; unfold encR; rw [if_pos hr, if_neg hm]
    generalize mayE es = c at pm hE hm
    have hmi : ((c : Int) != 0) = true := by rw [bne_iff_ne]; omega
    have hmi2 : ¬ (c : Int) = 0 := by omega
    clear hm
    refine (callsIn_wide (n := 10)).1 ?_
    refine callsIn_of_wp_marks Try.func25 rfl trivial ?_ rfl
    simp only [Try.ntmps25, List.size_toArray, List.length_cons, List.length_nil, Nat.reduceAdd, Nat.reduceSub, Array.replicate_succ, Array.replicate_zero, List.push_toArray, List.append_toArray, List.nil_append, List.cons_append]
    gi_wp2_with fail
    rw [← HW0.out]
    refine ⟨trivial, (callsIn_wide.2 pm).mono ?_⟩
    rintro e w1 ⟨rfl, hG⟩
    have k1 : Boxed w1 _ _ _ := cells_later b1 hG
    have k2 : Boxed w1 _ _ _ := cells_later b2 hG
    have hB1 := hB0.trans (hG.mono hB0.size)
    obtain ⟨q1, q2, q3⟩ := hbad w1 c k1 k2 hB1
    have d1 := k1.cell
    have d2 := k2.cell
    have f1 := k1.frozen
    have f2 := k2.frozen
    gi_wp2_with fail
    refine ⟨_, res_cells2 rfl _ _ _ rfl (load_row q1) rfl (load_errno q2), ?_⟩
    rw [hE.out]
    exact EncOut.bad q3
  have hok := run_ok (l := es) (s := s) ⟨hr.1, hr.2, hm⟩ (by omega)
  have hE : Hid (encR es s = (runL es s, 0)) := enc_is ⟨hr.1, hr.2, hm⟩
  have hmax := run_len_le hok
  rw [hm] at pm
  refine (callsIn_wide (n := 10)).1 ?_
  refine callsIn_of_wp_marks Try.func25 rfl trivial ?_ rfl
  simp only [Try.ntmps25, List.size_toArray, List.length_cons, List.length_nil, Nat.reduceAdd, Nat.reduceSub, Array.replicate_succ, Array.replicate_zero, List.push_toArray, List.append_toArray, List.nil_append, List.cons_append]
  gi_wp2_with fail
  rw [← HW0.out]
  refine ⟨trivial, (callsIn_wide.2 pm).mono ?_⟩
  rintro e w1 ⟨rfl, hG⟩
  have k1 : Boxed w1 _ _ _ := cells_later b1 hG
  have k2 : Boxed w1 _ _ _ := cells_later b2 hG
  have hB1 := hB0.trans (hG.mono hB0.size)
  have hz1 : w.heap.size + 2 ≤ w1.heap.size := by have := hG.size; have h2 := b2.lt; omega
  clear pm hG hbad b1 b2 hr0 HW0 hB0
  gi_wp2_with fail
  refine ⟨trivial, (callsIn_wide.2 (payloads_any _ _ _ _ _)).mono ?_⟩
  rintro e w2 ⟨rfl, hw2⟩
  have bO : Boxed w2 w1.heap.size 33 (.slice none 0 0) := by rw [hw2]; exact ((Boxed.new w1 _ _).alloc _).alloc _
  have k1 : Boxed w2 w.heap.size 33 (.slice none 0 0) := by rw [hw2]; exact ((k1.alloc _).alloc _).alloc _
  have k2 : Boxed w2 (w.heap.size + 1) 26 (.int .i64 0) := by rw [hw2]; exact ((k2.alloc _).alloc _).alloc _
  have bL : Boxed w2 (w1.heap.size + 1) 25 (.slice ao es.length cap) := by
    rw [hw2]
    have := (Boxed.new (w1.alloc (.cells #[.slice none 0 0] 33)) 25 (.slice ao es.length cap)).alloc (.cells #[.int .i64 (s : Nat)] 3)
    rw [World.size_alloc] at this
    exact this
  have bS : Boxed w2 (w1.heap.size + 2) 3 (.int .i64 (s : Nat)) := by
    rw [hw2]
    have := Boxed.new ((w1.alloc (.cells #[.slice none 0 0] 33)).alloc (.cells #[.slice ao es.length cap] 25)) 3 (.int .i64 (s : Nat))
    rw [World.size_alloc, World.size_alloc] at this
    exact this
  have hB2 : Below w.heap.size w w2 := by rw [hw2]; exact ((hB1.alloc (by omega) _).alloc (by simp; omega) _).alloc (by simp; omega) _
  have hz2 : w2.heap.size = w1.heap.size + 3 := by rw [hw2]; simp
  rw [World.size_alloc]
  generalize hBo : w1.heap.size = Bo at *
  clear hw2 hB1
  have hre : ∀ W, KeepBox Bo w2.heap.size w2 W → ReadsE W ao es.length cap (cellsE es) := fun W hW => h.same fun k hk => (hW.block k (by omega) (by omega)).trans (hB2.block k hk)
  have hgives := payloads_gives (w := w2) (Kp := KeepBox Bo w2.heap.size) (ao := ao) (len := es.length) (cap := cap) (s := s) (B1 := Bo + 1) (B2 := Bo + 2) (es := es) hok.2.2.1 hr.1 hr.2 hl
    (fun h k => h.trans k) (fun hS hG => KeepBox.grow hS hG) (fun W hW => hW.size) (fun W hW => ⟨(hW.cell (p := ⟨Bo + 1, 0, none⟩) (by show Bo + 1 < _; omega) (by show Bo + 1 ≠ _; omega)).trans bL.cell, (hW.cell (p := ⟨Bo + 2, 0, none⟩) (by show Bo + 2 < _; omega) (by show Bo + 2 ≠ _; omega)).trans bS.cell, hre W hW⟩)
  have hrr := run_rows hok
  have hfin : Hid (recs ((runRows es s).take (runRows es s).length) = runL es s) := by show _ = _; rw [List.take_of_length_le (Nat.le_refl _)]; rfl
  have hmx : ∀ k, (recs ((runRows es s).take k)).length ≤ 309 * es.length + 100 := fun k => by
    refine Nat.le_trans ?_ hmax
    have e : runL es s = recs ((runRows es s).take k) ++ recs ((runRows es s).drop k) := by rw [← recs_append, List.take_append_drop]; rfl
    rw [e, List.length_append]; omega
  generalize runRows es s = rows at hgives hrr hfin hmx
  obtain ⟨i0, hi, hzz0, hzz1, hzz2⟩ := info_parts Try.infoByte
  clear hre bL bS
  gi_wp2_with fail
  refine range_by (gf := 49) (lb := #[.pointer (some ⟨Bo + 2, 0, none⟩), .pointer (some ⟨Bo + 1, 0, none⟩)]) rfl (enters_of Try.func49 (by kernel_rfl) rfl) hgives
    (fun h k => h.trans k) (fun hS hG => KeepBox.grow hS hG) (fun W l o hl => KeepBox.put W l o hl) (VRow.own rows _) (by rintro k args W ⟨_, _, _, _, _, rfl, _⟩; rfl)
    (fun k W => ((∃ v, Boxed W Bo 33 v ∧ W.ownsRow w2.heap.size 5 1 v (recs (rows.take k)).length ((recs (rows.take k)).map (.int .u8)) ∧ True) ∧ (Boxed W w.heap.size 33 (.slice none 0 0) ∧ Boxed W (w.heap.size + 1) 26 (.int .i64 0))) ∧ Below w.heap.size w W)
    (fun _ _ => False)
    (OwnFrom.and (OwnFrom.and (Own.from (holdsRow_own w2.heap.size Bo 33 5 1 (fun k => (recs (rows.take k)).length) (fun k => (recs (rows.take k)).map (.int .u8)) (fun _ _ => True)) _) (OwnFrom.and (Own.from (boxed_own _ _ (fun (_ : Nat) => Value.slice none 0 0)) _) (Own.from (boxed_own _ _ (fun (_ : Nat) => Value.int .i64 0)) _))) (ownFrom_below (Nat.le_refl _) (by omega)))
    (fun _ _ _ _ hs _ _ => hs.elim)
    ⟨⟨⟨_, bO, by simpa [recs] using World.ownsRow_nil w2 w2.heap.size 5 1, trivial⟩, k1, k2⟩, hB2⟩
    (fun args => { tmps := #[.slice ao es.length cap, .int .i64 (s : Nat), undef, undef, .pointer (some ⟨w.heap.size, 0, none⟩), .pointer (some ⟨w.heap.size + 1, 0, none⟩), .int .i64 0, .pointer (some ⟨Bo, 0, none⟩), args.toList.headD undef, undef, undef, .int .i64 (s : Nat), .bool false, .bool false, .int .i64 (s : Nat), .bool false, .bool false, .slice ao es.length cap, .int .i64 0, .int .i64 0, .bool false, undef, .slice ao es.length cap, .int .i64 (s : Nat), .func (.func 49) #[] #[.pointer (some ⟨Bo + 1 + 1, 0, none⟩), .pointer (some ⟨Bo + 1, 0, none⟩)], args.toList.headD undef, undef, undef, undef, undef, undef, undef, undef, undef, undef, undef, undef, undef], defers := [] }) ?assign ?body ?done ?stop
  case assign =>
    rintro l k args W K ⟨row, ag, c, m, h1, rfl, h2⟩ hK
    clear h1 h2
    gi_wp2_with fail
    exact hK
  case body =>
    rintro l k args W hk ⟨⟨⟨v, hv, hrow, _⟩, k1', k2'⟩, hB⟩ ⟨row, ag, c, m, hrk, rfl, hm, hrd⟩ hsW
    obtain ⟨hby, hle⟩ := hrr row (List.mem_of_getElem? hrk)
    have hm' : m ≤ 1048576 := by omega
    have pf := fput_ok none 0 0 [] ag m c row W (Reads.nil W) hrd hby (by omega) hm'
    rw [List.nil_append] at pf
    have hmk := hmx (k + 1)
    have htk := recs_take hrk
    have hI' : Hid (recs (rows.take (k + 1)) = recs (rows.take k) ++ recL row) := htk
    rw [htk, List.length_append] at hmk
    simp only [List.toList_toArray, List.headD_cons]
    clear hm hrd hby hle hrk htk k1 k2 hB2 bO hgives
    gi_wp2_with fail
    refine ⟨trivial, (CallsIn.inRound l (callsIn_wide.2 pf)).mono ?_⟩
    rintro e w3 ⟨ag3, c3, m3, hm3, rfl, hr3, hG3⟩
    have hl3 : m3 = (recL row).length := by omega
    have hp3 : 0 < m3 := by rw [hl3]; unfold recL; have := encode_len row.length; rw [List.length_append]; omega
    obtain ⟨g3, rfl⟩ := row_some hr3 hp3
    have hrow3 := own_later hrow hG3 (Nat.le_refl _)
    have hv3 : Boxed w3 Bo 33 v := cells_later hv hG3
    have k13 : Boxed w3 _ _ _ := cells_later k1' hG3
    have k23 : Boxed w3 _ _ _ := cells_later k2' hG3
    have hB3 := hB.trans (hG3.mono hB.size)
    have hsW3 : w2.heap.size ≤ w3.heap.size := by have := hG3.size; omega
    have hc3 := hv3.cell
    have Hl3 : Hid _ := hl3
    generalize hN : (recs (rows.take k)).length = n at *
    clear pf hm3 hl3
    gi_wp2_with (gi_at_builtin; refine wpListIn_append_own _ rfl _ _ 33 rfl w2.heap.size 5 i0 (.int .u8 0) 1 1 Try.underlying33 hi hzz0 hzz1 hzz2 rfl (by decide) _ _ _ rfl hrow3 ⟨g3, 0, none⟩ m3 c3 ((recL row).map (.int .u8)) rfl (by rw [Hl3.out]; simp) (fun j u hu => hr3.cells rfl j u hu) (ints_oneCell _ _) (by rw [Hl3.out]; unfold maxLen; omega) (by rw [Hl3.out]; omega) hsW3 ?_; intro v' w4 hown' hgrow hnil; obtain ⟨ag4, c4, rfl⟩ := own1_slice hown'; have hv4 : Boxed w4 Bo 33 v := hv3.kept hgrow (hv3.not_row (by decide) hrow3); have hc4 := hv4.cell; have hf4 := hv4.frozen)
    rw [← List.map_append, ← hI'.out] at hown'
    have e : (recs (rows.take (k + 1))).length = n + m3 := by rw [hI'.out, List.length_append, hN, Hl3.out]
    have hne1 : w.heap.size ≠ Bo := by omega
    have hne2 : w.heap.size + 1 ≠ Bo := by omega
    have hB4 := hB3.grown hgrow hB3.size (fun k hk => by have := (hrow3.lt k hk).1; omega)
    exact ⟨(((grow_others hG3).trans (keeps_row hrow3 hgrow)).trans (KeepsOthers.setCell _ _ _)).from _, ((KeepBox.grow hsW hG3).trans (keep_row hrow3 hsW3 hgrow)).trans (KeepBox.set _ _),
      ⟨⟨_, hv4.set _, by rw [e]; exact hown'.kept (grownBy_setCell' w4 Bo _) (.inr (hv4.not_row (by decide) hown').symm), trivial⟩,
        (k13.kept hgrow (k13.not_row (by decide) hrow3)).other hne1 _, (k23.kept hgrow (k23.not_row (by decide) hrow3)).other hne2 _⟩, hB4.setCell (p := ⟨Bo, 0, none⟩) (by show _ ≤ Bo; omega) _⟩
  case done =>
    rintro D W hD ⟨⟨⟨v, hv, hrow, _⟩, k1', k2'⟩, hB⟩ hK
    rw [hfin.out] at hrow
    have c0 := hv.cell
    have c1 := k1'.cell
    have c2 := k2'.cell
    have f1 := k1'.frozen
    have f2 := k2'.frozen
    obtain ⟨ag, c, rfl⟩ := own1_slice hrow
    have q1 : Boxed ((W.setCell ⟨w.heap.size, 0, none⟩ (.slice ag (runL es s).length c)).setCell ⟨w.heap.size + 1, 0, none⟩ (.int .i64 0)) w.heap.size 33 (.slice ag (runL es s).length c) := (k1'.set _).other (by omega) _
    have q2 : Boxed ((W.setCell ⟨w.heap.size, 0, none⟩ (.slice ag (runL es s).length c)).setCell ⟨w.heap.size + 1, 0, none⟩ (.int .i64 0)) (w.heap.size + 1) 26 (.int .i64 0) := (k2'.other (by omega) _).set _
    have qo : KeepsOthers W ((W.setCell ⟨w.heap.size, 0, none⟩ (.slice ag (runL es s).length c)).setCell ⟨w.heap.size + 1, 0, none⟩ (.int .i64 0)) := (KeepsOthers.setCell _ _ _).trans (KeepsOthers.setCell _ _ _)
    have qb : Below w.heap.size w ((W.setCell ⟨w.heap.size, 0, none⟩ (.slice ag (runL es s).length c)).setCell ⟨w.heap.size + 1, 0, none⟩ (.int .i64 0)) := (hB.setCell (p := ⟨w.heap.size, 0, none⟩) (Nat.le_refl _) _).setCell (p := ⟨w.heap.size + 1, 0, none⟩) (by simp) _
    have qr : ((W.setCell ⟨w.heap.size, 0, none⟩ (.slice ag (runL es s).length c)).setCell ⟨w.heap.size + 1, 0, none⟩ (.int .i64 0)).ownsRow w2.heap.size 5 1 (.slice ag (runL es s).length c) (runL es s).length ((runL es s).map (.int .u8)) := by
      have r1 := hrow.kept (grownBy_setCell' W w.heap.size (.slice ag (runL es s).length c)) (.inr (k1'.not_row (by decide) hrow).symm)
      have k3 := k2'.other (show w.heap.size + 1 ≠ w.heap.size by omega) (.slice ag (runL es s).length c)
      exact r1.kept (grownBy_setCell' _ (w.heap.size + 1) (.int .i64 0)) (.inr (k3.not_row (by decide) r1).symm)
    have hKD := qo.same D _ hK rfl
    clear hK hv hrow k1' k2' hB hgives hrr hfin hmx
    generalize hMl : (runL es s).length = M at *
    gi_wp2_with fail
    refine ⟨by simp, .inl ⟨_, _, rfl, run_takeDeferred hKD, ?_⟩⟩
    have g1 := grownBy_putObj' ((W.setCell ⟨w.heap.size, 0, none⟩ (.slice ag M c)).setCell ⟨w.heap.size + 1, 0, none⟩ (.int .i64 0)) D (.deferred none)
    refine ⟨_, res_cells2 rfl _ _ _ rfl (load_row (q1.kept g1 (by simp; omega))) rfl (load_errno (q2.kept g1 (by simp; omega))), ?_⟩
    rw [hE.out]
    exact ⟨ag, c, M, rfl, hMl.symm, own_mono (ownsRow_putObj qr _ hKD rfl) (by omega), qb.grown g1 qb.size (fun k e => by cases e; omega)⟩
  case stop =>
    intro D c W _ h
    exact h.elim
#print axioms encode_any
end Go.Proofs.Ytgnhnhachhfafaa
