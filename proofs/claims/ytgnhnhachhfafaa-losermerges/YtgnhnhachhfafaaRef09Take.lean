/- The document's own take. -/
import Derived.Test.YtgnhnhachhfafaaRef09Enc
namespace Go.Proofs.Ytgnhnhachhfafaa
open Go.RowKit
set_option linter.unusedVariables false
set_option linter.unusedSimpArgs false

theorem take_bad1 {was : Wd} {b : List Int} {n i f : Nat} (g1 : getL b = (n, i, f)) (h : f ≠ 0 ∨ was.length < n) : takeE was b = none := by
  unfold takeE
  rw [g1]
  rw [if_neg]
  rintro ⟨h1, h2⟩
  simp only at h1 h2
  rcases h with h | h
  · exact h h1
  · omega
theorem take_bad2 {was : Wd} {b : List Int} {n i m k f : Nat} (g1 : getL b = (n, i, 0)) (h1 : n ≤ was.length) (g2 : getL (b.drop i) = (m, k, f)) (h : f ≠ 0 ∨ b.length - (i + k) < m) : takeE was b = none := by
  unfold takeE
  simp only [g1, g2]
  rw [if_pos ⟨trivial, h1⟩, if_neg]
  rintro ⟨h1, h2⟩
  rcases h with h | h
  · exact h h1
  · omega
theorem take_bad3 {was : Wd} {b : List Int} {n i m k c j f : Nat} (g1 : getL b = (n, i, 0)) (h1 : n ≤ was.length) (g2 : getL (b.drop i) = (m, k, 0)) (h2 : m ≤ b.length - (i + k)) (g3 : getL (b.drop (i + k + m)) = (c, j, f)) (h : f ≠ 0) : takeE was b = none := by
  unfold takeE
  simp only [g1, g2, g3]
  rw [if_pos ⟨trivial, h1⟩, if_pos ⟨trivial, h2⟩, if_neg h]
theorem take_good {was : Wd} {b : List Int} {n i m k c j : Nat} (g1 : getL b = (n, i, 0)) (h1 : n ≤ was.length) (g2 : getL (b.drop i) = (m, k, 0)) (h2 : m ≤ b.length - (i + k)) (g3 : getL (b.drop (i + k + m)) = (c, j, 0)) :
    takeE was b = some ((was.take n ++ wordI ((b.drop (i + k)).take m), c), i + k + m + j) := by
  unfold takeE
  simp only [g1, g2, g3]
  rw [if_pos ⟨trivial, h1⟩, if_pos ⟨trivial, h2⟩, if_pos trivial]

theorem blk2 {w : World} {b : Nat} {x y : Value} {t : TypeId} (h : w.heap[b]? = some (.cells #[x, y] t (0, 0))) :
    w.cell? ⟨b, 0, none⟩ = some x ∧ w.cell? ⟨b, 1, none⟩ = some y ∧ w.frozen? ⟨b, 0, none⟩ = false ∧ w.frozen? ⟨b, 1, none⟩ = false := by
  refine ⟨?_, ?_, ?_, ?_⟩ <;> simp [World.cell?, World.frozen?, h]
theorem blk2_one {w : World} {b : Nat} {x y : Value} {t : TypeId} (h : w.heap[b]? = some (.cells #[x, y] t (0, 0))) (i : Nat) (u : Value) :
    (w.setCell ⟨b, i, none⟩ u).heap[b]? = some (.cells (#[x, y].setIfInBounds i u) t (0, 0)) := by
  have hlt : b < w.heap.size := (Array.getElem?_eq_some_iff.1 h).1
  have h' : w.heap[b] = .cells #[x, y] t (0, 0) := by simpa [Array.getElem?_eq_getElem hlt] using h
  show (w.heap.modify b _)[b]? = _
  rw [Array.getElem?_eq_getElem (by simpa using hlt), Array.getElem_modify_self, h']
  rfl
theorem blk2_set {w : World} {b : Nat} {x y : Value} {t : TypeId} (h : w.heap[b]? = some (.cells #[x, y] t (0, 0))) (x' y' : Value) :
    ((w.setCell ⟨b, 0, none⟩ x').setCell ⟨b, 1, none⟩ y').heap[b]? = some (.cells #[x', y'] t (0, 0)) := blk2_one (blk2_one h 0 x') 1 y'
theorem load_en {w : World} {b : Nat} {x y : Value} {t : TypeId} (h : w.heap[b]? = some (.cells #[x, y] t (0, 0))) : (loadVar 44 ⟨b, 0, none⟩).run Try.prog w = .ok (.agg #[x, y]) w := by
  obtain ⟨h0, h1, _⟩ := blk2 h
  simp [loadVar, Try.isAgg44, Try.sizeOf44, loadCells, loadCellsFrom, go_sem, h0, h1]
theorem below_set2 {base b : Nat} {w w' : World} (h : Below base w w') (hb : base ≤ b) (x y : Value) : Below base w ((w'.setCell ⟨b, 0, none⟩ x).setCell ⟨b, 1, none⟩ y) := (h.setCell hb _).setCell hb _
theorem res_cell_tmp {fn : Func} {p q : Tmp} {ty : TypeId} (h : fn.results = #[.cell q ty, .tmp p]) (tmps : Array Value) (P : Program) (w : World) {x : Addr} {v : Value} (hx : tmps.getD q undef = .pointer (some x)) (hv : (loadVar ty x).run P w = .ok v w) :
    (results fn tmps).run P w = .ok (.tuple #[v, tmps.getD p undef]) w := by
  have hx' : tmps[q]?.getD undef = .pointer (some x) := by simpa using hx
  simp only [results, h]
  simp [Sem.run_bind, Result.andThen, hx', asAddr, hv]
/-- What take tells. -/
def takeV : Option (En × Nat) → Value
  | none => .tuple #[.agg #[.string ⟨#[]⟩, .int .u64 0], .int .i64 0]
  | some (e, n) => .tuple #[.agg #[strV e.1, .int .u64 e.2], .int .i64 n]
def TakeOut (w : World) (r : Option (En × Nat)) (e : Ending) (w' : World) : Prop := e = .returned (takeV r) ∧ Below w.heap.size w w'

set_option maxRecDepth 100000 in
set_option maxHeartbeats 2000000 in
theorem rtake_any {w : World} {was : Wd} {ao : Option Addr} {len cap : Nat} {zs : List Int} (hw : was.length ≤ 1000000000000) (h : Reads w ao len cap (zs.map (.int .u8))) (h8 : isBytes zs) (hl : len ≤ 1000000000000) :
    Calls Try.prog 40 #[strV was, .slice ao len cap] w fun e w' => TakeOut w (takeE was zs) e w' := by
  have hlx : zs.length = len := by simpa using h.length
  have Hlx : Hid _ := hlx
  have hle := h.le
  obtain ⟨W0, hW0⟩ : ∃ W0, W0 = w.alloc (.cells #[.string ⟨#[]⟩, .int .u64 0] 44) := ⟨_, rfl⟩
  have hB0 : Below w.heap.size w W0 := by rw [hW0]; exact (Below.refl _ _).alloc (Nat.le_refl _) _
  have k0 : W0.heap[w.heap.size]? = some (.cells #[.string ⟨#[]⟩, .int .u64 0] 44 (0, 0)) := by rw [hW0]; exact Array.getElem?_push_size
  have h0 := h.later hB0 (Nat.le_refl _)
  obtain ⟨n, i, f, g1⟩ : ∃ n i f, getL zs = (n, i, f) := ⟨_, _, _, rfl⟩
  have G1 : Hid _ := g1
  have p1 := rget_any ao len cap zs W0 h0 h8
  rw [g1] at p1
  unfold getV at p1
  clear g1 hlx
  have HW0 : Hid _ := hW0
  clear hW0
  go_enter Try.func40, Try.ntmps40
  go_wp2_with fail
  rw [← HW0.out]
  refine p1.mono ?_
  rintro e wa ⟨rfl, rfl⟩
  clear p1
  have hBz := below_set2 (b := w.heap.size) hB0 (Nat.le_refl _) (.string ⟨#[]⟩) (.int .u64 0)
  have hldz := load_en (blk2_set k0 (.string ⟨#[]⟩) (.int .u64 0))
  have cz0 := blk2 k0
  by_cases hf : f = 0
  case neg =>
    have hE : Hid (takeE was zs = none) := take_bad1 G1.out (.inl hf)
    have hfi : ¬ (f : Int) = 0 := by omega
    clear hf
    go_wp2
    refine bodyPost_ret (res_cell_tmp rfl _ _ _ (x := ⟨w.heap.size, 0, none⟩) rfl hldz) rfl ?_
    exact ⟨by rw [hE.out]; rfl, hBz⟩
  subst hf
  have ok1 := get_ok zs h8 n i G1.out
  rw [Hlx.out] at ok1
  by_cases hn : n ≤ was.length
  case neg =>
    have hE : Hid (takeE was zs = none) := take_bad1 G1.out (.inr (by omega))
    have hni : (was.length : Int) < n := by omega
    clear hn ok1
    go_wp2
    refine bodyPost_ret (res_cell_tmp rfl _ _ _ (x := ⟨w.heap.size, 0, none⟩) rfl hldz) rfl ?_
    exact ⟨by rw [hE.out]; rfl, hBz⟩
  have hni : ¬ (was.length : Int) < n := by omega
  have hile : (i : Int) ≤ len := by omega
  obtain ⟨x1, hs1, hd1⟩ := Reads.from (P := Try.prog) Try.underlying33 (size_of Try.infoByte) (ao := ao) (len := len) (cap := cap) i (by omega)
  have hr1 := hd1 _ _ h0
  rw [← List.map_drop] at hr1
  obtain ⟨m, k, f, g2⟩ : ∃ m k f, getL (zs.drop i) = (m, k, f) := ⟨_, _, _, rfl⟩
  have G2 : Hid _ := g2
  have d8 : ∀ j, isBytes (zs.drop j) := fun j z hz => h8 z (List.mem_of_mem_drop hz)
  have p2 := rget_any _ _ _ _ wa hr1 (d8 i)
  rw [g2] at p2
  unfold getV at p2
  clear g2 hd1 hr1
  go_wp2_with fail
  refine p2.mono ?_
  rintro e wb ⟨rfl, rfl⟩
  clear p2
  by_cases hf : f = 0
  case neg =>
    have hE : Hid (takeE was zs = none) := take_bad2 G1.out hn G2.out (.inl hf)
    have hfi : ¬ (f : Int) = 0 := by omega
    clear hf ok1 hn
    go_wp2
    refine bodyPost_ret (res_cell_tmp rfl _ _ _ (x := ⟨w.heap.size, 0, none⟩) rfl hldz) rfl ?_
    exact ⟨by rw [hE.out]; rfl, hBz⟩
  subst hf
  have ok2 := get_ok (zs.drop i) (d8 i) m k G2.out
  rw [List.length_drop, Hlx.out] at ok2
  obtain ⟨A, hA⟩ : ∃ A, A = i + k := ⟨_, rfl⟩
  have hAi : (i : Int) + k = A := by omega
  have hAl : (A : Int) ≤ len := by omega
  have hsub : (len : Int) - A = ((len - A : Nat) : Int) := by omega
  by_cases hm : m ≤ len - A
  case neg =>
    have hE : Hid (takeE was zs = none) := take_bad2 G1.out hn G2.out (.inr (by rw [Hlx.out]; omega))
    have hmi : ((len - A : Nat) : Int) < m := by omega
    have hq : ((len - A : Nat) : Int) ≤ 18446744073709551615 := by omega
    clear hm ok1 ok2 hn hA
    go_wp2
    refine bodyPost_ret (res_cell_tmp rfl _ _ _ (x := ⟨w.heap.size, 0, none⟩) rfl hldz) rfl ?_
    exact ⟨by rw [hE.out]; rfl, hBz⟩
  have hmi : ¬ ((len - A : Nat) : Int) < m := by omega
  have hm2 : (m : Int) ≤ 1000000000000 := by omega
  obtain ⟨B, hB⟩ : ∃ B, B = A + m := ⟨_, rfl⟩
  have hBi : (A : Int) + m = B := by omega
  have hBl : (B : Int) ≤ len := by omega
  obtain ⟨x2, hs2, hd2⟩ := Reads.mid (P := Try.prog) Try.underlying33 (size_of Try.infoByte) (ao := ao) (len := len) (cap := cap) hle A B (by omega) (by omega)
  have e2 : B - A = m := by omega
  rw [e2] at hs2 hd2
  have hmid : ∀ W, Below wb.heap.size wb W → (convert 33 9 (.slice x2 m (cap - A))).run Try.prog W = .ok (strV (wordI ((zs.drop A).take m))) W := fun W hW => by
    have hx := hd2 W _ (h0.later hW (Nat.le_refl _))
    rw [← List.map_drop, ← List.map_take] at hx
    exact conv_of Try.underlying33 Try.underlying5 Try.underlying9 hx
  have hstr : ∀ W, (Instr.slice 9 (strV was) none (some (.int .u64 (n : Int))) none).run Try.prog W = .ok (strV (was.take n)) W := fun W => by
    unfold strV
    rw [run_slice_string_h W 9 _ Try.underlying9 .u64 (n : Int) (by omega) (by simp [ByteArray.size]; omega), Int.toNat_natCast]
    congr 2
    apply ByteArray.ext
    simp
  have hcat : ∀ W, (Op.stringOp .add ⟨(was.take n).toArray⟩ ⟨(wordI ((zs.drop A).take m)).toArray⟩).run Try.prog W = .ok (strV (was.take n ++ wordI ((zs.drop A).take m))) W := fun W => by
    rw [run_string_add_sum W _ _ (by simp [ByteArray.size, wordI]; omega), ByteArray.mk_append_mk]
  obtain ⟨x3, hs3, hd3⟩ := Reads.from (P := Try.prog) Try.underlying33 (size_of Try.infoByte) (ao := ao) (len := len) (cap := cap) B (by omega)
  obtain ⟨c, j, f, g3⟩ : ∃ c j f, getL (zs.drop B) = (c, j, f) := ⟨_, _, _, rfl⟩
  have G3 : Hid _ := g3
  have HA : Hid _ := hA
  have HB : Hid _ := hB
  have hn' : Hid _ := hn
  have hm' : Hid _ := hm
  have ok2' : Hid _ := ok2
  have ok1' : Hid _ := ok1
  generalize hwd : wordI ((zs.drop A).take m) = wd at hmid hcat
  have Hwd : Hid _ := hwd
  clear g3 hd2 e2 ok1 ok2 hA hB hn hm hs1 hwd
  have w1 : IntKind.i64.wrap (m : Int) = m := by rw [IntKind.wrap_i64]; omega
  have w2 : IntKind.i64.wrap ((A : Int) + m) = B := by rw [IntKind.wrap_i64]; omega
  have w3 : IntKind.i64.wrap (B : Int) = B := by rw [IntKind.wrap_i64]; omega
  go_wp2_with fail
  go_region_held (fun W => Below wb.heap.size wb W) (first | exact Below.refl _ _ | exact Below.drew (Below.refl _ _) | assumption | exact Below.drew (by assumption)) (fail)
  have hBd : Below w.heap.size w wb.drew := Below.drew hB0
  have kd : wb.drew.heap[w.heap.size]? = some (.cells #[.string ⟨#[]⟩, .int .u64 0] 44 (0, 0)) := k0
  have hrd := hd3 _ _ (h0.later (Below.drew (Below.refl wb.heap.size wb)) (Nat.le_refl _))
  rw [← List.map_drop] at hrd
  have p3 := rget_any _ _ _ _ wb.drew hrd (d8 B)
  rw [G3.out] at p3
  unfold getV at p3
  generalize wb.drew = wd1 at hBd kd p3 ⊢
  clear hrd hd3 hmid hcat hstr hs2 cz0 hldz hBz k0 h0 hsub hmi
  go_wp2_with fail
  refine p3.mono ?_
  rintro e wc ⟨rfl, rfl⟩
  clear p3 hs3
  have cz0 := blk2 kd
  by_cases hf : f = 0
  case neg =>
    have hE : Hid (takeE was zs = none) := take_bad3 G1.out hn'.out G2.out (by rw [Hlx.out, ← HA.out]; exact hm'.out) (by rw [← HA.out, ← HB.out]; exact G3.out) hf
    have hfi : ¬ (f : Int) = 0 := by omega
    have hBz := below_set2 (b := w.heap.size) hBd (Nat.le_refl _) (.string ⟨#[]⟩) (.int .u64 0)
    have hldz := load_en (blk2_set kd (.string ⟨#[]⟩) (.int .u64 0))
    clear hf
    go_wp2
    refine bodyPost_ret (res_cell_tmp rfl _ _ _ (x := ⟨w.heap.size, 0, none⟩) rfl hldz) rfl ?_
    exact ⟨by rw [hE.out]; rfl, hBz⟩
  subst hf
  have hE : Hid (takeE was zs = some ((was.take n ++ wd, c), B + j)) := by
    have hg := take_good G1.out hn'.out G2.out (by rw [Hlx.out, ← HA.out]; exact hm'.out) (by rw [← HA.out, ← HB.out]; exact G3.out)
    rw [← HA.out, ← HB.out, Hwd.out] at hg
    exact hg
  have ok3 := get_ok (zs.drop B) (d8 B) c j G3.out
  rw [List.length_drop, Hlx.out] at ok3
  have hj : (j : Int) ≤ 1000000000000 := by omega
  have hBz := below_set2 (b := w.heap.size) hBd (Nat.le_refl _) (strV (was.take n ++ wd)) (.int .u64 c)
  have hldz := load_en (blk2_set kd (strV (was.take n ++ wd)) (.int .u64 c))
  clear ok3
  go_wp2
  refine bodyPost_ret (res_cell_tmp rfl _ _ _ (x := ⟨w.heap.size, 0, none⟩) rfl hldz) rfl ?_
  refine ⟨?_, hBz⟩
  rw [hE.out]
  simp [takeV]
#print axioms rtake_any
end Go.Proofs.Ytgnhnhachhfafaa
