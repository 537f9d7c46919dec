/- The landed run.Decode. -/
import Derived.Test.YtgnhnhachhfafaaRunBlocks
import Derived.Test.YtgnhnhachhfafaaFrameScan
namespace Go.Proofs.Ytgnhnhachhfafaa
open Go.RowKit
set_option linter.unusedVariables false
set_option linter.unusedSimpArgs false
attribute [local go_sem] Oper.semAt_some

/-- 'append(own, src...)' of entries, whatever the source, in a fence. -/
theorem wpListIn_append_en {F : Fence} {n : Nat} {w : World} {ops : Array Oper} {rest : List Oper} {o : Oper} {a : Act} {Q : Exit → Act → World → Prop} (hgd : o.guard = none) (s x : Operand)
    (ho : o.op = .call { callee := .builtin .append, args := #[s, x], argTypes := #[25, 25] }) (base : Nat)
    (v : Value) (k : Nat) (xs : List Value) (hs : a.eval s = v) (hown : w.ownsRow base 44 2 v k xs)
    (ao : Option Addr) (m d : Nat) (news : List Value) (hx : a.eval x = .slice ao m d) (hr : ReadsE w ao m d news) (h1 : ∀ u ∈ news, u.oneCell' = true)
    (h63 : k + m ≤ maxLen) (hbytes : (k + m) * 24 ≤ 140737488355328) (hbase : base ≤ w.heap.size)
    (h : ∀ ag' c' w', w'.ownsRow base 44 2 (.slice ag' (k + m) c') (k + m) (xs ++ news) → w.grownBy w' v.ownBlock → wpListIn F n Try.prog ops Q rest (a.put o.dst (.slice ag' (k + m) c')) w') : wpListIn F n Try.prog ops Q (o :: rest) a w := by
  obtain ⟨i, hi, hz0, hz1, hz2⟩ := info_parts Try.infoEn
  cases ao with
  | none =>
    obtain ⟨rfl, rfl⟩ := hr.bare rfl
    have : news = [] := List.eq_nil_of_length_eq_zero hr.length
    subst this
    refine wpListIn_plain hgd fun K hK => ?_
    have hrun := run_append_owned_none (P := Try.prog) (w := w) base 25 o.type 44 i 2 Try.underlying25 hi v k xs hown
    obtain ⟨ag, c, rfl⟩ := own2_slice hown
    unfold Oper.wpIn
    refine ⟨?_, ?_⟩
    · simp [Oper.about, ho, resolve, Target.leads, Sem.run_pure]
    · rw [Oper.semAt_plain F _ _ (by rw [ho]; intro c hc'; cases hc')]
      simp [execOp, ho, resolve, invoke, builtin, hs, hx, hrun, Result.andThen]
      exact hK _ _ (h ag c w (by simpa using hown) (World.grownBy.refl _ _))
  | some ad =>
    refine wpListIn_append_own w hgd s x 25 ho base 44 i (.agg #[.string ⟨#[]⟩, .int .u64 0]) 2 24 Try.underlying25 hi hz0 hz1 hz2 rfl (by decide) v k xs hs hown ad m d news hx hr.length (hr.cell ad rfl) h1 h63 hbytes hbase ?_
    intro v' w' h2 h3 _
    obtain ⟨ag', c', rfl⟩ := own2_slice h2
    exact h ag' c' w' h2 h3

/-- What Decode tells. -/
def DecOut (w : World) (r : List En × Nat) (e : Ending) (w' : World) : Prop := ∃ ag c m, e = .returned (.tuple #[.slice ag m c, .int .i64 (r.2 : Nat)]) ∧ m = r.1.length ∧ w'.ownsRow w.heap.size 44 2 (.slice ag m c) m (cellsE r.1) ∧ Below w.heap.size w w'
theorem DecOut.bad {w w' : World} {c : Nat} (h : Below w.heap.size w w') : DecOut w ([], c) (.returned (.tuple #[.slice none 0 0, .int .i64 (c : Nat)])) w' := ⟨none, 0, 0, rfl, rfl, World.ownsRow_nil _ _ _ _, h⟩

set_option maxRecDepth 100000 in
set_option maxHeartbeats 4000000 in
theorem decode_any {w : World} {ao : Option Addr} {len cap : Nat} {zs : List Int} (h : Reads w ao len cap (zs.map (.int .u8))) (h8 : isBytes zs) (hl : len ≤ 100000) :
    Calls Try.prog 33 #[.slice ao len cap] w fun e w' => DecOut w (decL zs) e w' := by
  have hlx : zs.length = len := by simpa using h.length
  obtain ⟨W0, hW0⟩ : ∃ W0, W0 = (w.alloc (.cells #[.slice none 0 0] 25)).alloc (.cells #[.int .i64 0] 26) := ⟨_, rfl⟩
  have b1 : Boxed W0 w.heap.size 25 (.slice none 0 0) := by rw [hW0]; exact (two_boxes _ _ _ _ _).1
  have b2 : Boxed W0 (w.heap.size + 1) 26 (.int .i64 0) := by rw [hW0]; exact (two_boxes _ _ _ _ _).2
  have hB0 : Below w.heap.size w W0 := by rw [hW0]; exact two_below _ _ _ _ _
  -- the way out with nothing
  have hbad : ∀ (W : World), Boxed W w.heap.size 25 (.slice none 0 0) → Boxed W (w.heap.size + 1) 26 (.int .i64 0) → Below w.heap.size w W →
      Boxed ((W.setCell ⟨w.heap.size, 0, none⟩ (.slice none 0 0)).setCell ⟨w.heap.size + 1, 0, none⟩ (.int .i64 2)) w.heap.size 25 (.slice none 0 0) ∧ Boxed ((W.setCell ⟨w.heap.size, 0, none⟩ (.slice none 0 0)).setCell ⟨w.heap.size + 1, 0, none⟩ (.int .i64 2)) (w.heap.size + 1) 26 (.int .i64 2) ∧
      Below w.heap.size w ((W.setCell ⟨w.heap.size, 0, none⟩ (.slice none 0 0)).setCell ⟨w.heap.size + 1, 0, none⟩ (.int .i64 2)) := fun W k1 k2 hB =>
    ⟨(k1.set _).other (by omega) _, ((k2.other (by omega) _).set _), (hB.setCell (p := ⟨w.heap.size, 0, none⟩) (Nat.le_refl _) _).setCell (p := ⟨w.heap.size + 1, 0, none⟩) (by simp) _⟩
  have HW0 : Hid _ := hW0
  have hr0 := h.later hB0 (Nat.le_refl _)
  have hD : Hid _ := dec_is zs (by omega)
  have ps := fscan_any ao len cap zs W0 hr0 h8 (by omega)
  have s1 := scan_bytes h8
  have s2 := scan_len zs
  have s3 := scan_rows zs
  generalize hrows : (scanR zs).1 = rows at *
  generalize hend : (scanR zs).2 = q at *
  clear hW0 hrows hend hr0
  rw [hlx] at s2 s3
  have Hlx : Hid _ := hlx
  clear hlx
  refine (callsIn_wide (n := 10)).1 ?_
  refine callsIn_of_wp_marks Try.func33 rfl trivial ?_ rfl
  simp only [Try.ntmps33, List.size_toArray, List.length_cons, List.length_nil, Nat.reduceAdd, Nat.reduceSub, Array.replicate_succ, Array.replicate_zero, List.push_toArray, List.append_toArray, List.nil_append, List.cons_append]
  gi_wp2_with fail
  rw [← HW0.out]
  refine ⟨trivial, (callsIn_wide.2 ps).mono ?_⟩
  rintro e w1 ⟨ar, cr, mr, rfl, hrr, hG1⟩
  have k1 : Boxed w1 w.heap.size 25 (.slice none 0 0) := cells_later b1 hG1
  have k2 : Boxed w1 (w.heap.size + 1) 26 (.int .i64 0) := cells_later b2 hG1
  have hB1 := hB0.trans (hG1.mono hB0.size)
  have d1 := k1.cell
  have d2 := k2.cell
  have f1 := k1.frozen
  have f2 := k2.frozen
  have hmr := hrr.length
  have HW1 : Hid (w.heap.size + 2 ≤ w1.heap.size) := by show _ ≤ _; have := k2.lt; omega
  clear ps hG1 b1 b2 HW0 hB0
  by_cases hc : len ≤ q ∧ 2 ≤ mr
  case neg =>
    have hE : Hid (decL zs = ([], 2)) := by show _ = _; rw [hD.out, if_neg]; intro hh; exact hc ⟨by rw [← Hlx.out]; exact hh.1, by omega⟩
    obtain ⟨q1, q2, q3⟩ := hbad w1 k1 k2 hB1
    have hsp : (q : Int) < len ∨ (¬ (q : Int) < len ∧ (mr : Int) < 2) := by omega
    clear hc hmr
    rcases hsp with i1 | ⟨i1, i2⟩
    all_goals gi_wp2_with fail
    all_goals refine ⟨_, res_cells2 rfl _ _ _ rfl (load_ents q1) rfl (load_errno q2), ?_⟩
    all_goals rw [hE.out]
    all_goals exact DecOut.bad q3
  obtain ⟨hc1, hc2⟩ := hc
  have i1 : ¬ (q : Int) < len := by omega
  have i2 : ¬ (mr : Int) < 2 := by omega
  obtain ⟨br, off, har, _, hcr⟩ := hrr.at (by omega)
  obtain ⟨a0, l0, c0, cc0, hr0⟩ := hcr 0 (by omega)
  obtain ⟨r0, hr0e⟩ : ∃ r0, rows.getD 0 [] = r0 := ⟨_, rfl⟩
  have hr0m : r0 ∈ rows := by
    rw [← hr0e]
    simp [List.getD, List.getElem?_eq_getElem (show 0 < rows.length by omega)]
  rw [hr0e] at hr0
  have hl0 : l0 ≤ 1000000000000 := by have := hr0.length; simp at this; have := s3 r0 hr0m; omega
  have pn := number_any hr0 (s1 r0 hr0m) hl0
  unfold NumOut at pn
  rcases hg0 : getL r0 with ⟨sz, k0, f0⟩
  rw [hg0] at pn
  have hD2 : Hid (decL zs = if f0 = 0 ∧ sz ≤ 255 then
      (match candS (rows.drop 1).dropLast with
      | none => ([], 2)
      | some l => if (encR l sz).2 = 0 ∧ (encR l sz).1 = zs then (l, 0) else ([], 2))
    else ([], 2)) := by
    show _ = _
    rw [hD.out, hr0e, hg0]
    by_cases hx : f0 = 0 ∧ sz ≤ 255
    · rw [if_pos hx, if_pos ⟨by rw [Hlx.out]; exact hc1, by omega, hx⟩]; rfl
    · rw [if_neg hx, if_neg (fun hh => hx hh.2.2)]
  rw [Nat.add_zero] at cc0
  clear hD hr0e hg0 hr0 hl0 hr0m hcr hc1
  have Har : Hid _ := har
  subst har
  gi_wp2_with fail
  refine ⟨trivial, (callsIn_wide.2 pn).mono ?_⟩
  rintro e w2 ⟨xn, cn, rfl, hG2, _⟩
  have k1' : Boxed w2 w.heap.size 25 (.slice none 0 0) := cells_later k1 hG2
  have k2' : Boxed w2 (w.heap.size + 1) 26 (.int .i64 0) := cells_later k2 hG2
  have hB2 := hB1.trans (hG2.mono hB1.size)
  have hrr2 := hrr.later hG2 (Nat.le_refl _)
  have hz2 : w.heap.size + 2 ≤ w2.heap.size := Nat.le_trans HW1.out hG2.size
  clear pn k1 k2 hB1 hrr hG2 d1 d2 f1 f2 cc0 HW1
  have d1 := k1'.cell
  have d2 := k2'.cell
  have f1 := k1'.frozen
  have f2 := k2'.frozen
  by_cases hc : f0 = 0 ∧ sz ≤ 255
  case neg =>
    have hE : Hid (decL zs = ([], 2)) := by show _ = _; rw [hD2.out, if_neg hc]
    obtain ⟨q1, q2, q3⟩ := hbad w2 k1' k2' hB2
    have hsp : decide (f0 = 0) = false ∨ (decide (f0 = 0) = true ∧ (255 : Int) < sz) := by
      by_cases hf : f0 = 0
      · right; exact ⟨by simp [hf], by omega⟩
      · left; simp [hf]
    clear hc hmr
    rcases hsp with i1 | ⟨i1, i2⟩
    all_goals gi_wp2_with fail
    all_goals refine ⟨_, res_cells2 rfl _ _ _ rfl (load_ents q1) rfl (load_errno q2), ?_⟩
    all_goals rw [hE.out]
    all_goals exact DecOut.bad q3
  have hD3 : Hid (decL zs = match candS (rows.drop 1).dropLast with
      | none => ([], 2)
      | some l => if (encR l sz).2 = 0 ∧ (encR l sz).1 = zs then (l, 0) else ([], 2)) := by show _ = _; rw [hD2.out, if_pos hc]
  obtain ⟨hf0, hsz⟩ := hc
  subst hf0
  have i3 : ¬ (255 : Int) < sz := by omega
  clear hD2
  obtain ⟨M, hM⟩ : ∃ M, M = mr - 1 := ⟨_, rfl⟩
  obtain ⟨x1, hs1, hd1⟩ := ReadsRows.mid (P := Try.prog) Try.underlying32 (size_of Try.infoRow) (ao := some ⟨br, off, none⟩) (len := mr) (cap := cr) hrr2.le 1 M (by omega) (by omega)
  have hs1' : ∀ W, (Instr.slice 32 (.slice (some ⟨br, off, none⟩) mr cr) (some (.int .i64 1)) (some (.int .i64 (M : Nat))) none).run Try.prog W = .ok (.slice x1 (M - 1) (cr - 1)) W := hs1
  have hbr : (rows.drop 1).dropLast = (rows.drop 1).take (M - 1) := by rw [List.dropLast_eq_take]; congr 1; simp; omega
  have hbrows := hd1 _ _ hrr2
  rw [← hbr] at hbrows
  have t1 : ∀ r ∈ (rows.drop 1).dropLast, isBytes r := fun r hr => s1 r (List.mem_of_mem_drop (List.dropLast_subset _ hr))
  have t3 : ∀ r ∈ (rows.drop 1).dropLast, r.length ≤ 1000000000000 := fun r hr => by have := s3 r (List.mem_of_mem_drop (List.dropLast_subset _ hr)); omega
  have hwm2 : (mr : Int) - 1 = (M : Nat) := by omega
  have hwm3 : IntKind.i64.wrap (M : Int) = (M : Nat) := by simp [IntKind.wrap, IntKind.bits, IntKind.signed]; omega
  have hml : M ≤ 25000 := by omega
  have hnl : (rows.drop 1).dropLast.length = M - 1 := by simp; omega
  generalize (rows.drop 1).dropLast = brows at *
  have Hnl : Hid _ := hnl
  clear hd1 hbr s1 s2 s3 hs1 hM hrr2 hnl hmr
  gi_wp2_with fail
  refine ⟨trivial, (callsIn_wide.2 (blocks_any _ _ _ _)).mono ?_⟩
  rintro e w3 ⟨rfl, hw3⟩
  have bO : Boxed w3 w2.heap.size 25 (.slice none 0 0) := by rw [hw3]; exact (Boxed.new w2 _ _).alloc _
  have k13 : Boxed w3 w.heap.size 25 (.slice none 0 0) := by rw [hw3]; exact (k1'.alloc _).alloc _
  have k23 : Boxed w3 (w.heap.size + 1) 26 (.int .i64 0) := by rw [hw3]; exact (k2'.alloc _).alloc _
  have bB : Boxed w3 (w2.heap.size + 1) 32 (.slice x1 (M - 1) (cr - 1)) := by
    rw [hw3]
    exact (two_boxes _ _ _ _ _).2
  have hB3 : Below w.heap.size w w3 := by rw [hw3]; exact (hB2.alloc (by omega) _).alloc (by simp; omega) _
  have hG23 : Grow w2 w3 := by rw [hw3]; exact two_below _ _ _ _ _
  have hz3 : w3.heap.size = w2.heap.size + 2 := by rw [hw3]; simp
  have hre : ∀ W, KeepBox w2.heap.size w3.heap.size w3 W → ReadsRows W x1 (M - 1) (cr - 1) brows := fun W hW => hbrows.same fun k hk => (hW.block k (by omega) (by omega)).trans (hG23.block k hk)
  have hgives := blocks_gives (w := w3) (Kp := KeepBox w2.heap.size w3.heap.size) (ao := x1) (len := M - 1) (cap := cr - 1) (B1 := w2.heap.size + 1) (rows := brows) t1 t3 (by omega)
    (fun h k => h.trans k) (fun hS hG => KeepBox.grow hS hG) (fun W hW => hW.size) (fun W hW => ⟨(hW.cell (p := ⟨w2.heap.size + 1, 0, none⟩) (by show w2.heap.size + 1 < _; omega) (by show w2.heap.size + 1 ≠ _; omega)).trans bB.cell, hre W hW⟩)
  have hz2' : w.heap.size + 1 < w2.heap.size := by omega
  have hlen : ∀ k, ((candS (brows.take k)).getD []).length ≤ 10000000 := fun k => by
    cases hc : candS (brows.take k) with
    | none => simp
    | some l =>
      have := candS_len _ _ hc
      have h2 : (brows.take k).length ≤ brows.length := by rw [List.length_take]; omega
      have := Hnl.out
      simp only [Option.getD_some]
      omega
  rw [World.size_alloc]
  generalize hBo : w2.heap.size = Bo at *
  have Hbad : Hid _ := hbad
  have HT1 : Hid _ := t1
  clear hw3 k1' k2' hB2 hbrows hre bB hG23 t3 hbad d1 d2 f1 f2 hz2 t1
  gi_wp2_with fail
  refine range_by (gf := 58) (lb := #[.pointer (some ⟨Bo + 1, 0, none⟩)]) rfl (enters_of Try.func58 (by kernel_rfl) rfl) hgives
    (fun h k => h.trans k) (fun hS hG => KeepBox.grow hS hG) (fun W l o hl => KeepBox.put W l o hl) (VBlk.own brows _) (fun k args W h => h.size)
    (fun k W => ((∃ v, Boxed W Bo 25 v ∧ W.ownsRow w3.heap.size 44 2 v ((candS (brows.take k)).getD []).length (cellsE ((candS (brows.take k)).getD [])) ∧ candS (brows.take k) ≠ none) ∧ (Boxed W w.heap.size 25 (.slice none 0 0) ∧ Boxed W (w.heap.size + 1) 26 (.int .i64 0))) ∧ Below w.heap.size w W)
    (fun (c : Code) W => ((c = Code.ret ∧ candS brows = none) ∧ (Boxed W w.heap.size 25 (.slice none 0 0) ∧ Boxed W (w.heap.size + 1) 26 (.int .i64 2))) ∧ Below w.heap.size w W)
    (OwnFrom.and (OwnFrom.and (Own.from (holdsRow_own w3.heap.size Bo 25 44 2 (fun k => ((candS (brows.take k)).getD []).length) (fun k => cellsE ((candS (brows.take k)).getD [])) (fun k _ => candS (brows.take k) ≠ none)) _) (OwnFrom.and (Own.from (boxed_own _ _ (fun (_ : Nat) => Value.slice none 0 0)) _) (Own.from (boxed_own _ _ (fun (_ : Nat) => Value.int .i64 0)) _))) (ownFrom_below (Nat.le_refl _) (by omega)))
    (OwnFrom.and (OwnFrom.and (ownFrom_pure _ (fun (c : Code) => c = Code.ret ∧ candS brows = none)) (OwnFrom.and (Own.from (boxed_own _ _ (fun (_ : Code) => Value.slice none 0 0)) _) (Own.from (boxed_own _ _ (fun (_ : Code) => Value.int .i64 2)) _))) (ownFrom_below (Nat.le_refl _) (by omega)))
    ⟨⟨⟨_, bO, by simpa [candS, cellsE] using World.ownsRow_nil w3 w3.heap.size 44 2, by simp [candS]⟩, k13, k23⟩, hB3⟩
    (fun args => { tmps := #[.slice ao len cap, undef, .pointer (some ⟨w.heap.size, 0, none⟩), .pointer (some ⟨w.heap.size + 1, 0, none⟩), .slice (some ⟨br, off, none⟩) mr cr, .int .i64 (q : Nat), .int .u64 (sz : Nat), .slice xn (l0 - k0) cn, .bool true, .pointer (some ⟨Bo, 0, none⟩), args.toList.headD undef, (args.toList.drop 1).headD undef, undef, undef, .tuple #[.slice (some ⟨br, off, none⟩) mr cr, .int .i64 (q : Nat)], .slice ao len cap, .tuple #[.slice (some ⟨br, off, none⟩) mr cr, .int .i64 (q : Nat)], .slice (some ⟨br, off, none⟩) mr cr, .int .i64 (q : Nat), .int .i64 (q : Nat), .slice ao len cap, .int .i64 (len : Nat), .bool false, .bool false, .slice (some ⟨br, off, none⟩) mr cr, .int .i64 (mr : Nat), .bool (decide ((mr : Int) < 2)), .bool (decide ((mr : Int) < 2)), .tuple #[.int .u64 (sz : Nat), .slice xn (l0 - k0) cn, .bool true], .slice (some ⟨br, off, none⟩) mr cr, .pointer (some ⟨br, off, none⟩), .slice a0 l0 c0, .tuple #[.int .u64 (sz : Nat), .slice xn (l0 - k0) cn, .bool true], .int .u64 (sz : Nat), .slice xn (l0 - k0) cn, .bool true, .bool true, .bool false, .bool false, .int .u64 (sz : Nat), .bool (decide ((255 : Int) < sz)), .bool (decide ((255 : Int) < sz)), .slice (some ⟨br, off, none⟩) mr cr, .slice (some ⟨br, off, none⟩) mr cr, .int .i64 (mr : Nat), .int .i64 (M : Nat), .slice x1 (M - 1) (cr - 1), .func (.func 58) #[] #[.pointer (some ⟨Bo + 1, 0, none⟩)], args.toList.headD undef, (args.toList.drop 1).headD undef, undef, undef, undef, undef, undef, undef, undef, undef, undef, undef, undef, undef, undef, undef, undef, undef, undef, undef, undef, undef, undef], defers := [] }) ?assign ?body ?done ?stop
  case assign =>
    rintro l k args W K hV hK
    have h2 := hV.size
    obtain ⟨y, z, rfl⟩ : ∃ y z, args = #[y, z] := by
      rcases args with ⟨_ | ⟨y, _ | ⟨z, _ | _⟩⟩⟩ <;> simp at h2
      exact ⟨y, z, rfl⟩
    clear hV h2
    gi_wp2_with fail
    exact hK
  case body =>
    rintro l k args W hk ⟨⟨⟨v, hv, hrow, hne⟩, k1', k2'⟩, hB⟩ ⟨r, hrk, hcase⟩ hsW
    have hts := candS_snoc (brows.take k) r
    rw [show brows.take k ++ [r] = brows.take (k + 1) by rw [List.take_add_one, hrk]; rfl] at hts
    have hlk := hlen k
    have hlk1 := hlen (k + 1)
    cases hck : candS (brows.take k) with
    | none => exact (hne hck).elim
    | some lk =>
      rw [hck] at hts hrow hlk
      simp only [Option.getD_some] at hts hrow hlk
      rcases hcase with ⟨hu, rfl⟩ | ⟨lb, ag, c, m, hu, rfl, hm, hrd⟩
      · rw [hu] at hts
        have hN : Hid (candS brows = none) := candS_stop hts
        have d1 := k1'.cell
        have d2 := k2'.cell
        have f1 := k1'.frozen
        have f2 := k2'.frozen
        simp only [List.toList_toArray, List.headD_cons, List.drop_succ_cons, List.drop_zero]
        clear hts hrk hu hlk hlk1 hck hne hlen hgives
        gi_wp2_with fail
        exact ⟨((KeepsOthers.setCell _ _ _).trans (KeepsOthers.setCell _ _ _)).from _, ⟨⟨rfl, hN.out⟩, (k1'.set _).other (by omega) _, (k2'.other (by omega) _).set _⟩, (hB.setCell (p := ⟨w.heap.size, 0, none⟩) (Nat.le_refl _) _).setCell (p := ⟨w.heap.size + 1, 0, none⟩) (by simp) _⟩
      · rw [hu] at hts
        simp only [Option.map_some] at hts
        rw [hts] at hlk1
        simp only [Option.getD_some, List.length_append] at hlk1
        have hT : Hid (candS (brows.take (k + 1)) = some (lk ++ lb)) := hts
        have hc3 := hv.cell
        simp only [List.toList_toArray, List.headD_cons, List.drop_succ_cons, List.drop_zero]
        generalize hN : lk.length = n at *
        have hnm : n + m ≤ 10000000 := by omega
        have Hm : Hid _ := hm
        have HN : Hid _ := hN
        clear hts hrk hu hlk hlk1 hck hne hlen hgives hm hN k13 k23 hB3 bO
        gi_wp2_with (gi_at_builtin; go_loud (refine wpListIn_append_en rfl _ _ rfl w3.heap.size v n (cellsE lk) rfl hrow ag m c (cellsE lb) rfl hrd (cells_one _) (by unfold maxLen; omega) (by omega) hsW ?_); intro ag4 c4 w4 hown' hgrow; have hv4 : Boxed w4 Bo 25 v := hv.kept hgrow (hv.not_row (by decide) hrow); have hc4 := hv4.cell; have hf4 := hv4.frozen)
        have e : ((candS (brows.take (k + 1))).getD []) = lk ++ lb := by rw [hT.out]; rfl
        have hne1 : w.heap.size ≠ Bo := by omega
        have hne2 : w.heap.size + 1 ≠ Bo := by omega
        have hB4 := hB.grown hgrow hB.size (fun k hk => by have := (hrow.lt k hk).1; omega)
        rw [← cells_app] at hown'
        refine ⟨((keeps_row hrow hgrow).trans (KeepsOthers.setCell _ _ _)).from _, (keep_row hrow hsW hgrow).trans (KeepBox.set _ _),
          ⟨⟨_, hv4.set _, ?_, by rw [hT.out]; simp⟩,
            (k1'.kept hgrow (k1'.not_row (by decide) hrow)).other hne1 _, (k2'.kept hgrow (k2'.not_row (by decide) hrow)).other hne2 _⟩, hB4.setCell (p := ⟨Bo, 0, none⟩) (by show _ ≤ Bo; omega) _⟩
        rw [e, List.length_append, HN.out, ← Hm.out]
        exact hown'.kept (grownBy_setCell' w4 Bo _) (.inr (hv4.not_row (by decide) hown').symm)
  case done =>
    rintro D W hDD ⟨⟨⟨v, hv, hrow, hne⟩, k1', k2'⟩, hB⟩ hK
    have hlb := hlen brows.length
    rw [List.take_of_length_le (Nat.le_refl _)] at hrow hne hlb
    clear hlen hgives k13 k23 hB3 bO
    obtain ⟨l, hcl⟩ : ∃ l, candS brows = some l := by
      cases hcs : candS brows with
      | none => exact (hne hcs).elim
      | some l => exact ⟨l, rfl⟩
    rw [hcl] at hrow hlb
    simp only [Option.getD_some] at hrow hlb
    have hD4 : Hid (decL zs = if (encR l sz).2 = 0 ∧ (encR l sz).1 = zs then (l, 0) else ([], 2)) := by show _ = _; rw [hD3.out, hcl]
    have hu := candS_u64 brows HT1.out l hcl
    clear hcl hne hD3
    obtain ⟨av, cv, rfl⟩ := own2_slice hrow
    have pe := encode_any (ReadsE.own hrow) (fun e he => (hu e he).1) (fun e he => by have := (hu e he).2; omega) hlb (sz : Nat) sz (.inl rfl) (by omega)
    have c0 := hv.cell
    have wsz : IntKind.i64.wrap (sz : Int) = sz := by rw [IntKind.wrap_i64]; omega
    have Hu : Hid _ := hu
    generalize hL : l.length = L at *
    have HL : Hid _ := hL
    clear hu hL
    gi_wp2_with fail
    refine ⟨trivial, (callsIn_wide.2 pe).mono ?_⟩
    rintro e W4 ⟨ag, c, m, rfl, hm, hag, hG4⟩
    have k14 : Boxed W4 w.heap.size 25 (.slice none 0 0) := cells_later k1' hG4
    have k24 : Boxed W4 (w.heap.size + 1) 26 (.int .i64 0) := cells_later k2' hG4
    have hv4 : Boxed W4 Bo 25 (.slice av L cv) := cells_later hv hG4
    have hrow4 := own2_later hrow hG4 (Nat.le_refl _)
    have hB4 := hB.trans (hG4.mono hB.size)
    have hK4 := (grow_others hG4).same D _ hK rfl
    have c04 := hv4.cell
    have c14 := k14.cell
    have c24 := k24.cell
    have f14 := k14.frozen
    have f24 := k24.frozen
    obtain ⟨q1, q2, q3⟩ := Hbad.out W4 k14 k24 hB4
    have hKb := ((KeepsOthers.setCell W4 ⟨w.heap.size, 0, none⟩ (.slice none 0 0)).trans (KeepsOthers.setCell _ ⟨w.heap.size + 1, 0, none⟩ (.int .i64 2))).same D _ hK4 rfl
    have gb := grownBy_putObj' ((W4.setCell ⟨w.heap.size, 0, none⟩ (.slice none 0 0)).setCell ⟨w.heap.size + 1, 0, none⟩ (.int .i64 2)) D (.deferred none)
    have hne1 : w.heap.size ≠ D := by omega
    have hne2 : w.heap.size + 1 ≠ D := by omega
    clear pe hG4 hK hv hrow k1' k2' hB c0
    by_cases hz : (encR l sz).2 = 0
    case neg =>
      have hE : Hid (decL zs = ([], 2)) := by show _ = _; rw [hD4.out, if_neg (fun hh => hz hh.1)]
      generalize (encR l sz).2 = ec at *
      have hzi : ¬ (ec : Int) = 0 := by omega
      have hzi2 : ((ec : Int) != 0) = true := by rw [bne_iff_ne]; omega
      clear hz hm hD4
      gi_wp2_with fail
      refine ⟨trivial, ?_⟩
      gi_wp2_with fail
      refine ⟨by simp, .inl ⟨_, _, rfl, run_takeDeferred hKb, ?_⟩⟩
      refine ⟨_, res_cells2 rfl _ _ _ rfl (load_ents (q1.kept gb (by simpa using hne1))) rfl (load_errno (q2.kept gb (by simpa using hne2))), ?_⟩
      rw [hE.out]
      exact DecOut.bad (q3.grown gb q3.size (fun k e => by cases e; omega))
    have h1 := enc_ok.1 hz
    have he := enc_is h1
    have hby : isBytes (runL l sz) := recs_bytes _ (run_rows (run_ok h1 (by rw [HL.out]; omega)))
    rw [hz] at *
    rw [he] at hag hm
    simp only at hag hm
    have hE0 : Hid (decL zs = if runL l sz = zs then (l, 0) else ([], 2)) := by
      show _ = _
      rw [hD4.out, he]
      simp
    generalize runL l sz = rb at *
    have pq := equal_any ag m c rb ao len cap zs W4 (Reads.own hag) (h.later hB4 (Nat.le_refl _)) hby h8
    clear he hm hD4 h1 hz
    gi_wp2_with fail
    refine ⟨trivial, (callsIn_wide.2 pq).mono ?_⟩
    rintro e W5 ⟨rfl, rfl⟩
    clear pq
    by_cases hq : rb = zs
    case neg =>
      have hE : Hid (decL zs = ([], 2)) := by show _ = _; rw [hE0.out, if_neg hq]
      have hqd : decide (rb = zs) = false := by simp [hq]
      clear hq hE0
      gi_wp2_with fail
      refine ⟨by simp, .inl ⟨_, _, rfl, run_takeDeferred hKb, ?_⟩⟩
      refine ⟨_, res_cells2 rfl _ _ _ rfl (load_ents (q1.kept gb (by simpa using hne1))) rfl (load_errno (q2.kept gb (by simpa using hne2))), ?_⟩
      rw [hE.out]
      exact DecOut.bad (q3.grown gb q3.size (fun k e => by cases e; omega))
    have hE : Hid (decL zs = (l, 0)) := by show _ = _; rw [hE0.out, if_pos hq]
    have hqd : decide (rb = zs) = true := by simp [hq]
    clear hq hE0 q1 q2 q3 hKb gb
    have q1 : Boxed ((W5.setCell ⟨w.heap.size, 0, none⟩ (.slice av L cv)).setCell ⟨w.heap.size + 1, 0, none⟩ (.int .i64 0)) w.heap.size 25 (.slice av L cv) := (k14.set _).other (by omega) _
    have q2 : Boxed ((W5.setCell ⟨w.heap.size, 0, none⟩ (.slice av L cv)).setCell ⟨w.heap.size + 1, 0, none⟩ (.int .i64 0)) (w.heap.size + 1) 26 (.int .i64 0) := (k24.other (by omega) _).set _
    have qo : KeepsOthers W5 ((W5.setCell ⟨w.heap.size, 0, none⟩ (.slice av L cv)).setCell ⟨w.heap.size + 1, 0, none⟩ (.int .i64 0)) := (KeepsOthers.setCell _ _ _).trans (KeepsOthers.setCell _ _ _)
    have qb : Below w.heap.size w ((W5.setCell ⟨w.heap.size, 0, none⟩ (.slice av L cv)).setCell ⟨w.heap.size + 1, 0, none⟩ (.int .i64 0)) := (hB4.setCell (p := ⟨w.heap.size, 0, none⟩) (Nat.le_refl _) _).setCell (p := ⟨w.heap.size + 1, 0, none⟩) (by simp) _
    have qr : ((W5.setCell ⟨w.heap.size, 0, none⟩ (.slice av L cv)).setCell ⟨w.heap.size + 1, 0, none⟩ (.int .i64 0)).ownsRow w3.heap.size 44 2 (.slice av L cv) L (cellsE l) := by
      have r1 := hrow4.kept (grownBy_setCell' W5 w.heap.size (.slice av L cv)) (.inr (k14.not_row (by decide) hrow4).symm)
      have k3 := k24.other (show w.heap.size + 1 ≠ w.heap.size by omega) (.slice av L cv)
      exact r1.kept (grownBy_setCell' _ (w.heap.size + 1) (.int .i64 0)) (.inr (k3.not_row (by decide) r1).symm)
    have hKD := qo.same D _ hK4 rfl
    clear hK4 hv4 hrow4 k14 k24 hB4
    gi_wp2_with fail
    refine ⟨by simp, .inl ⟨_, _, rfl, run_takeDeferred hKD, ?_⟩⟩
    have g1 := grownBy_putObj' ((W5.setCell ⟨w.heap.size, 0, none⟩ (.slice av L cv)).setCell ⟨w.heap.size + 1, 0, none⟩ (.int .i64 0)) D (.deferred none)
    refine ⟨_, res_cells2 rfl _ _ _ rfl (load_ents (q1.kept g1 (by simpa using hne1))) rfl (load_errno (q2.kept g1 (by simpa using hne2))), ?_⟩
    rw [hE.out]
    exact ⟨av, cv, L, rfl, HL.out.symm, own2_mono (ownsRow_putObj qr _ hKD rfl) (by omega), qb.grown g1 qb.size (fun k e => by cases e; omega)⟩
  case stop =>
    rintro D c W hDD ⟨⟨⟨rfl, hN⟩, k1', k2'⟩, hB⟩ hK
    have hE : Hid (decL zs = ([], 2)) := by show _ = _; rw [hD3.out, hN]
    have gb := grownBy_putObj' W D (.deferred none)
    gi_wp2_with fail
    refine ⟨by simp, .inl ⟨_, _, rfl, run_takeDeferred hK, ?_⟩⟩
    refine ⟨_, res_cells2 rfl _ _ _ rfl (load_ents (k1'.kept gb (by simp; omega))) rfl (load_errno (k2'.kept gb (by simp; omega))), ?_⟩
    rw [hE.out]
    exact DecOut.bad (hB.grown gb hB.size (fun k e => by cases e; omega))
#print axioms decode_any
end Go.Proofs.Ytgnhnhachhfafaa
