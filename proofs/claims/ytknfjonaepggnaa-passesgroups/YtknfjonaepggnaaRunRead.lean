/- The landed run.number, run.entry. The landed run.unpack: a block's entries. Runs: the landed Decode as a function is the document's. The landed run.blocks: an iterator over the entries of blocks. The landed run.Decode. What the runs' statements lean on. -/
import Derived.Test.YtknfjonaepggnaaRef09All
import Derived.Test.YtknfjonaepggnaaNumAll
import Derived.Test.YtknfjonaepggnaaRunCode
import Derived.Test.YtknfjonaepggnaaFrameAll
import Derived.Test.YtknfjonaepggnaaFound
namespace Go.Proofs.Ytknfjonaepggnaa
open Go.RowKit
set_option linter.unusedVariables false
set_option linter.unusedSimpArgs false

theorem get_len_le {zs : List Int} (h8 : isBytes zs) {n k f : Nat} (h : getL zs = (n, k, f)) : k ≤ zs.length := by
  by_cases hf : f = 0
  · subst hf
    have := get_ok zs h8 n k h
    omega
  · have := scan_err zs 0 0 n k f h
    omega

/-- What number tells. -/
def NumOut (w : World) (ao : Option Addr) (cap : Nat) (zs : List Int) (len : Nat) (e : Ending) (w' : World) : Prop :=
  ∃ ao' cap', e = .returned (.tuple #[.int .u64 ((getL zs).1 : Nat), .slice ao' (len - (getL zs).2.1) cap', .bool (decide ((getL zs).2.2 = 0))]) ∧ Grow w w' ∧ ∀ W, Reads W ao len cap (zs.map (.int .u8)) → Reads W ao' (len - (getL zs).2.1) cap' ((zs.drop (getL zs).2.1).map (.int .u8))

set_option maxRecDepth 100000 in
set_option maxHeartbeats 2000000 in
theorem number_any {w : World} {ao : Option Addr} {len cap : Nat} {zs : List Int} (h : Reads w ao len cap (zs.map (.int .u8))) (h8 : isBytes zs) (hl : len ≤ 1000000000000) :
    Calls Try.prog 45 #[.slice ao len cap] w fun e w' => NumOut w ao cap zs len e w' := by
  have hlx : zs.length = len := by simpa using h.length
  have hle := h.le
  unfold NumOut
  rcases hg : getL zs with ⟨n, k, f⟩
  have hk := get_len_le h8 hg
  have p := get_any ao len cap zs w h h8
  rw [hg] at p
  unfold getV at p
  obtain ⟨x, hs, hd⟩ := Reads.from (P := Try.prog) Try.underlying30 (size_of Try.infoByte) (ao := ao) (len := len) (cap := cap) k (by omega)
  have hki : (k : Int) ≤ len := by omega
  have Hd : Hid (∀ W, Reads W ao len cap (zs.map (.int .u8)) → Reads W x (len - k) (cap - k) ((zs.drop k).map (.int .u8))) := fun W hW => by
    have := hd W _ hW
    rw [List.map_drop]; exact this
  clear hd hg hlx
  go_enter Try.func45, Try.ntmps45
  go_wp2_with fail
  refine p.mono ?_
  rintro e wa ⟨rfl, rfl⟩
  clear p
  by_cases hf : f = 0
  · subst hf
    go_wp2_with fail
    go_quiet (fail)
    go_wp2
    go_ret3
    exact ⟨x, _, rfl, below_drewN (Below.refl _ _) _, by simpa [List.map_drop] using Hd.out⟩
  · have hfi : ¬ (f : Int) = 0 := by omega
    have hfi2 : ((f : Int) == 0) = false := by rw [beq_eq_false_iff_ne]; omega
    go_wp2_with fail
    go_quiet (fail)
    go_wp2
    go_ret3
    exact ⟨x, cap - k, by simp [hf], below_drewN (Below.refl _ _) _, by simpa [List.map_drop] using Hd.out⟩
#print axioms number_any

/-! An entry, of at most 255 bytes. -/
def takeS (was : Wd) (b : List Int) : Option (En × Nat) := match takeE was b with
  | none => none
  | some (e, n) => if e.1.length ≤ 255 then some (e, n) else none
theorem takeS_bad1 {was : Wd} {b : List Int} {n i f : Nat} (g1 : getL b = (n, i, f)) (h : f ≠ 0 ∨ was.length < n) : takeS was b = none := by
  unfold takeS; rw [take_bad1 g1 h]
theorem takeS_bad3 {was : Wd} {b : List Int} {n i m k c j f : Nat} (g1 : getL b = (n, i, 0)) (h1 : n ≤ was.length) (g2 : getL (b.drop i) = (m, k, 0)) (h2 : m ≤ b.length - (i + k)) (g3 : getL (b.drop (i + k + m)) = (c, j, f)) (h : f ≠ 0) : takeS was b = none := by
  unfold takeS; rw [take_bad3 g1 h1 g2 h2 g3 h]
theorem takeS_good {was : Wd} {b : List Int} {n i m k c j : Nat} (g1 : getL b = (n, i, 0)) (h1 : n ≤ was.length) (g2 : getL (b.drop i) = (m, k, 0)) (h2 : m ≤ b.length - (i + k)) (g3 : getL (b.drop (i + k + m)) = (c, j, 0)) (h : n + m ≤ 255) :
    takeS was b = some ((was.take n ++ wordI ((b.drop (i + k)).take m), c), i + k + m + j) := by
  unfold takeS; rw [take_good g1 h1 g2 h2 g3]
  simp only
  rw [if_pos]
  simp [wordI]; omega
theorem takeS_bad2 {was : Wd} {b : List Int} {n i m k f : Nat} (g1 : getL b = (n, i, 0)) (h1 : n ≤ was.length) (g2 : getL (b.drop i) = (m, k, f)) (h : f ≠ 0 ∨ b.length - (i + k) < m ∨ 255 < n + m) : takeS was b = none := by
  by_cases hb : f ≠ 0 ∨ b.length - (i + k) < m
  · unfold takeS; rw [take_bad2 g1 h1 g2 hb]
  · have hf : f = 0 := by omega
    subst hf
    have hm : m ≤ b.length - (i + k) := by omega
    have hn : 255 < n + m := by omega
    rcases g3 : getL (b.drop (i + k + m)) with ⟨c, j, f⟩
    by_cases hf : f = 0
    · subst hf
      unfold takeS
      rw [take_good g1 h1 g2 hm g3]
      simp only
      rw [if_neg]
      simp [wordI]; omega
    · exact takeS_bad3 g1 h1 g2 hm g3 hf

theorem slice_h_u64 {P : Program} {t e : TypeId} (ht : P.underlying t = some (.slice e)) (W : World) (ao : Option Addr) (len cap h : Nat) (hh : h ≤ cap) : (Instr.slice t (.slice ao len cap) none (some (.int .u64 (h : Int))) none).run P W = (Instr.slice t (.slice ao len cap) none (some (.int .i64 (h : Int))) none).run P W := by
  have ht' : P.underlying t = some (.slice (P.elem t)) := by simp [Program.elem, ht]
  rw [run_slice_h (P := P) W t ao len cap ht' .u64 h (by omega) (by omega), run_slice_h (P := P) W t ao len cap ht' .i64 h (by omega) (by omega)]
theorem slice_l_u64 {P : Program} {t e : TypeId} (ht : P.underlying t = some (.slice e)) (W : World) (ao : Option Addr) (len cap l : Nat) (hl : l ≤ len) : (Instr.slice t (.slice ao len cap) (some (.int .u64 (l : Int))) none none).run P W = (Instr.slice t (.slice ao len cap) (some (.int .i64 (l : Int))) none none).run P W := by
  have ht' : P.underlying t = some (.slice (P.elem t)) := by simp [Program.elem, ht]
  rw [run_slice_l (P := P) W t ao len cap ht' .u64 l (by omega) (by omega), run_slice_l (P := P) W t ao len cap ht' .i64 l (by omega) (by omega)]
theorem res_cell_tmp2 {fn : Func} {p r q : Tmp} {ty : TypeId} (h : fn.results = #[.cell q ty, .tmp p, .tmp r]) (tmps : Array Value) (P : Program) (w : World) {x : Addr} {v : Value} (hx : tmps.getD q undef = .pointer (some x)) (hv : (loadVar ty x).run P w = .ok v w) :
    (results fn tmps).run P w = .ok (.tuple #[v, tmps.getD p undef, tmps.getD r undef]) w := by
  have hx' : tmps[q]?.getD undef = .pointer (some x) := by simpa using hx
  simp only [results, h]
  simp [Sem.run_bind, Result.andThen, hx', asAddr, hv]
/-- What entry tells. -/
def EntOut (w : World) (ao : Option Addr) (cap : Nat) (len : Nat) (zs : List Int) (r : Option (En × Nat)) (e : Ending) (w' : World) : Prop := Below w.heap.size w w' ∧ match r with
  | none => ∃ (k : Wd) (c : Nat) (v : Value), e = .returned (.tuple #[.agg #[strV k, .int .u64 c], v, .bool false])
  | some (en, n) => ∃ ao' cap', e = .returned (.tuple #[.agg #[strV en.1, .int .u64 (en.2 : Nat)], .slice ao' (len - n) cap', .bool true]) ∧ n ≤ len ∧ ∀ W, Reads W ao len cap (zs.map (.int .u8)) → Reads W ao' (len - n) cap' ((zs.drop n).map (.int .u8))

set_option maxRecDepth 100000 in
set_option maxHeartbeats 4000000 in
theorem entry_any {w : World} {was : Wd} {ao : Option Addr} {len cap : Nat} {zs : List Int} (hw : was.length ≤ 255) (h : Reads w ao len cap (zs.map (.int .u8))) (h8 : isBytes zs) (hl : len ≤ 1000000000000) :
    Calls Try.prog 70 #[strV was, .slice ao len cap] w fun e w' => EntOut w ao cap len zs (takeS was zs) e w' := by
  have hlx : zs.length = len := by simpa using h.length
  have Hlx : Hid _ := hlx
  have d8 : ∀ j, isBytes (zs.drop j) := fun j z hz => h8 z (List.mem_of_mem_drop hz)
  obtain ⟨W0, hW0⟩ : ∃ W0, W0 = w.alloc (.cells #[.string ⟨#[]⟩, .int .u64 0] 64) := ⟨_, rfl⟩
  have hB0 : Below w.heap.size w W0 := by rw [hW0]; exact (Below.refl _ _).alloc (Nat.le_refl _) _
  have k0 : W0.heap[w.heap.size]? = some (.cells #[.string ⟨#[]⟩, .int .u64 0] 64 (0, 0)) := by rw [hW0]; exact Array.getElem?_push_size
  have h0 := h.later hB0 (Nat.le_refl _)
  have p1 := number_any h0 h8 hl
  unfold NumOut at p1
  rcases g1 : getL zs with ⟨n, i, f⟩
  have G1 : Hid _ := g1
  have hi := get_len_le h8 g1
  rw [g1] at p1
  have HW0 : Hid _ := hW0
  clear hW0 g1 hlx
  go_enter Try.func70, Try.ntmps70
  go_wp2_with fail
  rw [← HW0.out]
  refine p1.mono ?_
  rintro e w1 ⟨x1, c1, rfl, hG1, hd1⟩
  have hB1 := hB0.trans (hG1.mono hB0.size)
  have k1 := cells_later k0 hG1
  have hBz := below_set2 (b := w.heap.size) hB1 (Nat.le_refl _) (.string ⟨#[]⟩) (.int .u64 0)
  have hldz := load_en (blk2_set k1 (.string ⟨#[]⟩) (.int .u64 0))
  have cz0 := blk2 k1
  have Hd1 : Hid _ := hd1
  clear p1 k0 h0 hd1
  by_cases hf : f = 0
  case neg =>
    have hE : Hid (takeS was zs = none) := takeS_bad1 G1.out (.inl hf)
    have hfi : decide (f = 0) = false := by simp [hf]
    clear hf
    go_wp2
    refine bodyPost_ret (res_cell_tmp2 rfl _ _ _ (x := ⟨w.heap.size, 0, none⟩) rfl hldz) rfl ?_
    rw [hE.out]
    exact ⟨hBz, [], 0, _, rfl⟩
  subst hf
  by_cases hn : n ≤ was.length
  case neg =>
    have hE : Hid (takeS was zs = none) := takeS_bad1 G1.out (.inr (by omega))
    have hni : (was.length : Int) < n := by omega
    clear hn
    go_wp2
    refine bodyPost_ret (res_cell_tmp2 rfl _ _ _ (x := ⟨w.heap.size, 0, none⟩) rfl hldz) rfl ?_
    rw [hE.out]
    exact ⟨hBz, [], 0, _, rfl⟩
  have hni : ¬ (was.length : Int) < n := by omega
  have hr1 := Hd1.out _ (h.later hB1 (Nat.le_refl _))
  have p2 := number_any hr1 (d8 i) (by omega)
  unfold NumOut at p2
  rcases g2 : getL (zs.drop i) with ⟨m, k, f⟩
  have G2 : Hid _ := g2
  have hk := get_len_le (d8 i) g2
  rw [List.length_drop, Hlx.out] at hk
  rw [g2] at p2
  clear g2 hr1
  go_wp2_with fail
  refine p2.mono ?_
  rintro e w2 ⟨x2, c2, rfl, hG2, hd2⟩
  have hB2 := hB1.trans (hG2.mono hB1.size)
  have k2 := cells_later k1 hG2
  have hBz := below_set2 (b := w.heap.size) hB2 (Nat.le_refl _) (.string ⟨#[]⟩) (.int .u64 0)
  have hldz := load_en (blk2_set k2 (.string ⟨#[]⟩) (.int .u64 0))
  have cz0 := blk2 k2
  obtain ⟨A, hA⟩ : ∃ A, A = i + k := ⟨_, rfl⟩
  have e1 : len - i - k = len - A := by omega
  simp only [List.drop_drop, ← hA, e1] at hd2 ⊢
  have Hd2 : Hid _ := hd2
  clear hd2
  have HA : Hid _ := hA
  clear p2 k1 e1
  by_cases hf : f = 0
  case neg =>
    have hE : Hid (takeS was zs = none) := takeS_bad2 G1.out hn G2.out (.inl hf)
    have hfi : decide (f = 0) = false := by simp [hf]
    clear hf
    go_wp2
    refine bodyPost_ret (res_cell_tmp2 rfl _ _ _ (x := ⟨w.heap.size, 0, none⟩) rfl hldz) rfl ?_
    rw [hE.out]
    exact ⟨hBz, [], 0, _, rfl⟩
  subst hf
  have hil : i ≤ len := by rw [← Hlx.out]; exact hi
  have hkA : A ≤ len := by omega
  have Hk : Hid _ := hk
  have Hi : Hid _ := hi
  have Hn : Hid _ := hn
  obtain ⟨q, hq⟩ : ∃ q, q = len - A := ⟨_, rfl⟩
  rw [← hq] at Hd2 ⊢
  have HD : Hid (∀ W, Reads W ao len cap (zs.map (.int .u8)) → Reads W x2 q c2 ((zs.drop A).map (.int .u8))) := fun W hW => Hd2.out W (Hd1.out W hW)
  have HG : Hid (∀ W, Grow w2 W → Reads W ao len cap (zs.map (.int .u8))) := fun W hW => h.later (hB2.trans (hW.mono hB2.size)) (Nat.le_refl _)
  clear Hd1 Hd2
  obtain ⟨p, hp⟩ : ∃ p, p = 255 - n := ⟨_, rfl⟩
  have hn9 : (n : Int) ≤ 255 := by omega
  have hw255 : IntKind.i64.wrap (255 - (n : Int)) = (p : Int) := by simp [IntKind.wrap, IntKind.bits, IntKind.signed]; omega
  have hwn : IntKind.i64.wrap (n : Int) = n := by rw [IntKind.wrap_i64]; omega
  have hpl : p ≤ 255 := by omega
  have hql : q ≤ 1000000000000 := by omega
  have wp' : IntKind.u64.wrap (p : Int) = p := by rw [IntKind.wrap_u64]; omega
  have wq' : IntKind.u64.wrap (q : Int) = q := by rw [IntKind.wrap_u64]; omega
  have Hq : Hid _ := hq
  have Hp : Hid _ := hp
  clear hk hi hq hp hA
  by_cases hm : m ≤ p ∧ m ≤ q
  case neg =>
    have hE : Hid (takeS was zs = none) := takeS_bad2 G1.out hn G2.out (.inr (by have := Hq.out; have := Hp.out; have := HA.out; have := Hlx.out; omega))
    have hsp : ((p : Int) ≤ q ∧ (p : Int) < m) ∨ ((q : Int) < p ∧ (q : Int) < m) := by omega
    clear hm hn
    rcases hsp with ⟨j1, j2⟩ | ⟨j1, j2⟩
    all_goals go_wp2
    all_goals refine bodyPost_ret (res_cell_tmp2 rfl _ _ _ (x := ⟨w.heap.size, 0, none⟩) rfl hldz) rfl ?_
    all_goals rw [hE.out]
    all_goals exact ⟨hBz, [], 0, _, rfl⟩
  obtain ⟨hm1, hm2⟩ := hm
  have hr2 := HD.out _ (HG.out _ (Below.refl _ _))
  have hqc := hr2.le
  obtain ⟨x4, hs4, hd4⟩ := Reads.to (P := Try.prog) Try.underlying30 (size_of Try.infoByte) (ao := x2) (len := q) (cap := c2) hqc m hm2
  have hmid : ∀ W, Below w2.heap.size w2 W → (convert 30 9 (.slice x4 m c2)).run Try.prog W = .ok (strV (wordI ((zs.drop A).take m))) W := fun W hW => by
    have hx := hd4 W _ (HD.out W (HG.out W hW))
    rw [← List.map_take] at hx
    exact conv_of Try.underlying30 Try.underlying5 Try.underlying9 hx
  have hstr : ∀ W, (Instr.slice 9 (strV was) none (some (.int .u64 (n : Int))) none).run Try.prog W = .ok (strV (was.take n)) W := fun W => by
    unfold strV
    rw [run_slice_string_h W 9 _ Try.underlying9 .u64 (n : Int) (by omega) (by simp [ByteArray.size]; omega), Int.toNat_natCast]
    congr 2
    apply ByteArray.ext
    simp
  have hcat : ∀ W, (Op.stringOp .add ⟨(was.take n).toArray⟩ ⟨(wordI ((zs.drop A).take m)).toArray⟩).run Try.prog W = .ok (strV (was.take n ++ wordI ((zs.drop A).take m))) W := fun W => by
    rw [run_string_add_sum W _ _ (by simp [ByteArray.size, wordI]; omega), ByteArray.mk_append_mk]
  obtain ⟨x5, hs5, hd5⟩ := Reads.from (P := Try.prog) Try.underlying30 (size_of Try.infoByte) (ao := x2) (len := q) (cap := c2) m hm2
  have hs4' : ∀ W, (Instr.slice 30 (.slice x2 q c2) none (some (.int .u64 (m : Int))) none).run Try.prog W = .ok (.slice x4 m c2) W := fun W => (slice_h_u64 Try.underlying30 W x2 q c2 m (by omega)).trans (hs4 W)
  have hs5' : ∀ W, (Instr.slice 30 (.slice x2 q c2) (some (.int .u64 (m : Int))) none none).run Try.prog W = .ok (.slice x5 (q - m) (c2 - m)) W := fun W => (slice_l_u64 Try.underlying30 W x2 q c2 m (by omega)).trans (hs5 W)
  have Hd5 : Hid (∀ W, Reads W ao len cap (zs.map (.int .u8)) → Reads W x5 (q - m) (c2 - m) ((zs.drop (A + m)).map (.int .u8))) := fun W hW => by
    have hx := hd5 W _ (HD.out W hW)
    rw [← List.map_drop, List.drop_drop] at hx
    exact hx
  rcases g3 : getL (zs.drop (A + m)) with ⟨c, j, f⟩
  have G3 : Hid _ := g3
  have hj := get_len_le (d8 (A + m)) g3
  rw [List.length_drop, Hlx.out] at hj
  have Hj : Hid _ := hj
  have hm1' : (m : Int) ≤ p := by omega
  have hm2' : (m : Int) ≤ q := by omega
  have hsp : ((p : Int) ≤ q ∧ ¬ (p : Int) < m) ∨ ((q : Int) < p ∧ ¬ (q : Int) < m) := by omega
  generalize hwd : wordI ((zs.drop A).take m) = wd at hmid hcat
  have Hwd : Hid _ := hwd
  have p3 : ∀ W, Grow w2 W → Calls Try.prog 45 #[.slice x5 (q - m) (c2 - m)] W fun e w' => ∃ x6 c6, e = .returned (.tuple #[.int .u64 (c : Nat), .slice x6 (q - m - j) c6, .bool (decide (f = 0))]) ∧ Grow W w' ∧ ∀ W', Reads W' ao len cap (zs.map (.int .u8)) → Reads W' x6 (q - m - j) c6 ((zs.drop (A + m + j)).map (.int .u8)) := fun W hW => by
    have := number_any (Hd5.out W (HG.out W hW)) (d8 (A + m)) (by omega)
    unfold NumOut at this
    rw [g3] at this
    refine this.mono ?_
    rintro e w' ⟨x6, c6, rfl, hG, hd⟩
    refine ⟨x6, c6, rfl, hG, fun W' hW' => ?_⟩
    have := hd W' (Hd5.out W' hW')
    simp only [List.drop_drop] at this
    exact this
  clear g3 hj hd5 hd4 hr2 hs4 hs5 hwd hn hql hpl hldz cz0 hBz Hd5
  rcases hsp with ⟨j1, j2⟩ | ⟨j1, j2⟩
  all_goals
    go_wp2_with fail
    go_region_held (fun W => Below w2.heap.size w2 W) (first | exact Below.refl _ _ | exact Below.drew (Below.refl _ _) | assumption | exact Below.drew (by assumption)) (fail)
    go_wp2_with fail
    refine (p3 _ (Below.drew (Below.refl _ _))).mono ?_
    rintro e w3 ⟨x6, c6, rfl, hG3, hd6⟩
    have hG3' : Grow w2 w3 := (Below.drew (Below.refl w2.heap.size w2)).trans hG3
    have hB3 := hB2.trans (hG3'.mono hB2.size)
    have k3 := cells_later k2 hG3'
    have cz0 := blk2 k3
    have hBz := below_set2 (b := w.heap.size) hB3 (Nat.le_refl _) (strV (was.take n ++ wd)) (.int .u64 c)
    have hldz := load_en (blk2_set k3 (strV (was.take n ++ wd)) (.int .u64 c))
    clear p3 hmid hcat hstr hs4' hs5'
    by_cases hf : f = 0
    · have hE : Hid (takeS was zs = some ((was.take n ++ wd, c), A + m + j)) := by
        have hg := takeS_good G1.out Hn.out G2.out (by rw [Hlx.out, ← HA.out, ← Hq.out]; exact hm2) (by rw [← HA.out, G3.out, hf]) (by have := Hp.out; omega)
        rw [← HA.out, Hwd.out] at hg
        exact hg
      have hR : Hid (q - m - j = len - (A + m + j) ∧ A + m + j ≤ len ∧ ∀ W', Reads W' ao len cap (zs.map (.int .u8)) → Reads W' x6 (q - m - j) c6 ((zs.drop (A + m + j)).map (.int .u8))) := ⟨by have := Hq.out; omega, by have := Hj.out; have := Hq.out; omega, hd6⟩
      have hfi : decide (f = 0) = true := by simp [hf]
      clear hd6 hf
      go_wp2
      refine bodyPost_ret (res_cell_tmp2 rfl _ _ _ (x := ⟨w.heap.size, 0, none⟩) rfl hldz) rfl ?_
      rw [hE.out]
      refine ⟨hBz, x6, c6, ?_, hR.out.2.1, ?_⟩
      · simp [hR.out.1]
      · have := hR.out.2.2
        rw [hR.out.1] at this
        exact this
    · have hE : Hid (takeS was zs = none) := takeS_bad3 G1.out Hn.out G2.out (by rw [Hlx.out, ← HA.out, ← Hq.out]; exact hm2) (by rw [← HA.out]; exact G3.out) hf
      have hfi : decide (f = 0) = false := by simp [hf]
      clear hd6 hf
      go_wp2
      refine bodyPost_ret (res_cell_tmp2 rfl _ _ _ (x := ⟨w.heap.size, 0, none⟩) rfl hldz) rfl ?_
      rw [hE.out]
      exact ⟨hBz, was.take n ++ wd, c, _, rfl⟩
#print axioms entry_any
end Go.Proofs.Ytknfjonaepggnaa

namespace Go.Proofs.Ytknfjonaepggnaa
open Go.RowKit
set_option linter.unusedVariables false
set_option linter.unusedSimpArgs false

def takesS : Nat → Wd → List Int → Option (List En)
  | 0, _, _ => some []
  | k + 1, was, b => match takeS was b with
    | none => none
    | some (e, n) => (takesS k e.1 (b.drop n)).map (e :: ·)
def unpackS (r : List Int) : Option (List En) := if (getL r).2.2 = 0 ∧ (getL r).1 ≤ 255 then takesS (getL r).1 [] (r.drop (getL r).2.1) else none
theorem takesS_next {k n : Nat} {was : Wd} {b : List Int} {e : En} (h : takeS was b = some (e, n)) : takesS (k + 1) was b = (takesS k e.1 (b.drop n)).map (e :: ·) := by
  rw [takesS, h]
theorem takesS_none {k : Nat} {was : Wd} {b : List Int} (h : takeS was b = none) : takesS (k + 1) was b = none := by
  rw [takesS, h]
theorem takeS_len {was : Wd} {b : List Int} {e : En} {n : Nat} (h : takeS was b = some (e, n)) : e.1.length ≤ 255 := by
  unfold takeS at h
  split at h
  · cases h
  · split at h
    · cases h; assumption
    · cases h
theorem take_u64 {was : Wd} {b : List Int} (h8 : isBytes b) {e : En} {n : Nat} (h : takeE was b = some (e, n)) : e.2 ≤ 18446744073709551615 := by
  unfold takeE at h
  split at h
  · split at h
    · split at h
      · rename_i h3
        simp only [Option.some.injEq, Prod.mk.injEq] at h
        obtain ⟨he, _⟩ := h
        rw [← he]
        simp only
        rcases hg : getL (b.drop ((getL b).2.1 + (getL (b.drop (getL b).2.1)).2.1 + (getL (b.drop (getL b).2.1)).1)) with ⟨c, j, f⟩
        rw [hg] at h3
        simp only at h3 ⊢
        subst h3
        have := get_ok _ (fun z hz => h8 z (List.mem_of_mem_drop hz)) c j hg
        omega
      · cases h
    · cases h
  · cases h
theorem takeS_u64 {was : Wd} {b : List Int} (h8 : isBytes b) {e : En} {n : Nat} (h : takeS was b = some (e, n)) : e.2 ≤ 18446744073709551615 := by
  unfold takeS at h
  split at h
  · cases h
  · rename_i e' n' he
    split at h
    · cases h; exact take_u64 h8 he
    · cases h

theorem reads_en (W : World) (k : Wd) (n : Nat) : ReadsE (W.alloc (.cells #[strV k, .int .u64 n] 64)) (some ⟨W.heap.size, 0, none⟩) 1 1 (cellsE [(k, n)]) :=
  ⟨rfl, Nat.le_refl _, by decide, fun h => (by cases h), fun a ha j u hu => by cases ha; exact news_one W _ _ _ j u hu⟩
/-- A row of entries lies on behind stores into another block. -/
theorem own2_sets {w : World} {base e n b : Nat} {v : Value} {xs : List Value} (h : w.ownsRow base e 2 v n xs) (hb : ∀ k, v.ownBlock = some k → k ≠ b) (x y : Value) : ((w.setCell ⟨b, 0, none⟩ x).setCell ⟨b, 1, none⟩ y).ownsRow base e 2 v n xs :=
  own2_block (own2_block h fun k hk => Below.heap_setCell _ _ _ _ (hb k hk)) fun k hk => Below.heap_setCell _ _ _ _ (hb k hk)

/-- What unpack tells. -/
def UnpOut (w : World) (r : Option (List En)) (e : Ending) (w' : World) : Prop := Below w.heap.size w w' ∧ match r with
  | none => e = .returned (.tuple #[.slice none 0 0, .bool false])
  | some l => ∃ ag c m, e = .returned (.tuple #[.slice ag m c, .bool true]) ∧ m = l.length ∧ w'.ownsRow w.heap.size 64 2 (.slice ag m c) m (cellsE l)

set_option maxRecDepth 100000 in
set_option maxHeartbeats 4000000 in
theorem unpack_any {w : World} {ao : Option Addr} {len cap : Nat} {zs : List Int} (h : Reads w ao len cap (zs.map (.int .u8))) (h8 : isBytes zs) (hl : len ≤ 1000000000000) :
    Calls Try.prog 65 #[.slice ao len cap] w fun e w' => UnpOut w (unpackS zs) e w' := by
  have p1 := number_any h h8 hl
  unfold NumOut at p1
  rcases g1 : getL zs with ⟨n, i, f⟩
  have hi := get_len_le h8 g1
  have hlx : zs.length = len := by simpa using h.length
  rw [g1] at p1
  have HU : Hid (unpackS zs = if f = 0 ∧ n ≤ 255 then takesS n [] (zs.drop i) else none) := by show _ = _; unfold unpackS; rw [g1]
  have d8 : isBytes (zs.drop i) := fun z hz => h8 z (List.mem_of_mem_drop hz)
  clear g1
  go_enter Try.func65, Try.ntmps65
  go_wp2_with fail
  refine p1.mono ?_
  rintro e w1 ⟨x1, c1, rfl, hG1, hd1⟩
  have Hd1 : Hid _ := hd1
  clear p1 hd1
  by_cases hf : f = 0
  case neg =>
    have hE : Hid (unpackS zs = none) := by show _ = _; rw [HU.out, if_neg (fun hh => hf hh.1)]
    have hfi : decide (f = 0) = false := by simp [hf]
    clear hf
    go_wp2
    go_ret2
    rw [hE.out]
    exact ⟨hG1, rfl⟩
  subst hf
  by_cases hn : n ≤ 255
  case neg =>
    have hE : Hid (unpackS zs = none) := by show _ = _; rw [HU.out, if_neg (fun hh => hn hh.2)]
    have hni : (255 : Int) < n := by omega
    clear hn
    go_wp2
    go_ret2
    rw [hE.out]
    exact ⟨hG1, rfl⟩
  have hni : ¬ (255 : Int) < n := by omega
  have HV : Hid (unpackS zs = takesS n [] (zs.drop i)) := by show _ = _; rw [HU.out, if_pos ⟨rfl, hn⟩]
  have hil : len - i ≤ 1000000000000 := by omega
  clear HU
  have hst : Hid (unpackS zs = (takesS n [] (zs.drop i)).map ([] ++ ·)) := by show _ = _; rw [HV.out]; simp
  generalize len - i = li at *
  generalize zs.drop i = Z at *
  clear HV hi
  go_wp2_with fail
  go_loopw [5, 7, 8, 23] (fun bv lv sv iv wr => ∃ (j : Nat) (x : Option Addr) (l c : Nat) (z : List Int) (ag : Option Addr) (cg : Nat) (was : Wd) (es : List En), iv = .int .u64 (j : Nat) ∧ bv = .slice x l c ∧ lv = .slice ag j cg ∧ sv = strV was ∧ j ≤ n ∧ l ≤ 1000000000000 ∧ was.length ≤ 255 ∧ isBytes z ∧ Hid (es.length = j) ∧
      Hid (∀ W, Reads W ao len cap (zs.map (.int .u8)) → Reads W x l c (z.map (.int .u8))) ∧ wr.ownsRow w.heap.size 64 2 (.slice ag j cg) j (cellsE es) ∧ Hid (unpackS zs = (takesS (n - j) was z).map (es ++ ·)) ∧ Below w.heap.size w wr) (fun _ _ _ iv _ => (n - intOf iv).toNat)
  case atStart => exact ⟨0, x1, _, c1, _, none, 0, [], [], rfl, rfl, rfl, rfl, Nat.zero_le _, hil, by simp, d8, rfl, Hd1.out, World.ownsRow_nil _ _ _ _, hst.out, hG1⟩
  case round =>
    obtain ⟨j, x, l, c, z, ag, cg, was, es, rfl, rfl, rfl, rfl, hj, hll, hwl, z8, hes, hrd, hrow, hT, hB⟩ := hrel
    clear hst Hd1 hil hG1
    by_cases hjn : j < n
    case neg =>
      have hje : n - j = 0 := by omega
      have hE : Hid (unpackS zs = some es) := by show _ = _; rw [hT.out, hje]; simp [takesS]
      have hlt : ¬ (j : Int) < n := by omega
      clear hT hjn hje
      go_wp2
      go_ret2
      rw [hE.out]
      exact ⟨hB, ag, cg, j, rfl, hes.out.symm, hrow⟩
    have hji : (j : Int) < n := by omega
    obtain ⟨W1, hW1⟩ : ∃ W1, W1 = wr.alloc (.cells #[.string ⟨#[]⟩, .int .u64 0] 64) := ⟨_, rfl⟩
    have hG0 : Grow wr W1 := by rw [hW1]; exact (Below.refl _ _).alloc (Nat.le_refl _) _
    have k1 : W1.heap[wr.heap.size]? = some (.cells #[.string ⟨#[]⟩, .int .u64 0] 64 (0, 0)) := by rw [hW1]; exact Array.getElem?_push_size
    have HW1 : Hid _ := hW1
    have hB1 := hB.trans (hG0.mono hB.size)
    have pe := entry_any hwl (hrd.out _ (h.later hB1 (Nat.le_refl _))) z8 hll
    have hrow1 := own2_later hrow hG0 (Nat.le_refl _)
    obtain ⟨j', hj'⟩ : ∃ j', n - j = j' + 1 := ⟨n - j - 1, by omega⟩
    have Hj' : Hid _ := hj'
    have hnb : ∀ k, (Value.slice ag j cg).ownBlock = some k → k ≠ wr.heap.size := fun k hk => by have := (hrow.lt k hk).2; omega
    clear hW1 hj' hrow hG0
    rcases ht : takeS was z with _ | ⟨⟨ek, en⟩, sz⟩
    · rw [ht] at pe
      have hE : Hid (unpackS zs = none) := by show _ = _; rw [hT.out, Hj'.out, takesS_none ht]; rfl
      clear ht hT
      go_wp2_with fail
      rw [← HW1.out]
      refine pe.mono ?_
      rintro e w2 ⟨hG2, ex, ey, ev, rfl⟩
      have k2 := cells_later k1 hG2
      have cz := blk2 k2
      have hB2 := hB1.trans (hG2.mono hB1.size)
      have hBz := below_set2 (b := wr.heap.size) hB2 hB.size (strV ex) (.int .u64 ey)
      clear pe hG2
      go_wp2
      go_ret2
      rw [hE.out]
      exact ⟨hBz, rfl⟩
    · rw [ht] at pe
      have hE : Hid (unpackS zs = (takesS (n - (j + 1)) ek (z.drop sz)).map ((es ++ [(ek, en)]) ++ ·)) := by
        show _ = _
        rw [hT.out, Hj'.out, takesS_next ht, show n - (j + 1) = j' by have := Hj'.out; omega, Option.map_map]
        congr 1
        funext l
        simp
      have hkl := takeS_len ht
      simp only at hkl
      have hen := takeS_u64 z8 ht
      simp only at hen
      have hes2 : Hid ((es ++ [(ek, en)]).length = j + 1) := by show _ = _; rw [List.length_append, hes.out]; rfl
      clear ht hT
      go_wp2_with fail
      rw [← HW1.out]
      refine pe.mono ?_
      rintro e w2 ⟨hG2, x2, c2, rfl, hsl, hd2⟩
      have k2 := cells_later k1 hG2
      have cz := blk2 k2
      have hB2 := hB1.trans (hG2.mono hB1.size)
      have k3 := blk2_set k2 (strV ek) (.int .u64 en)
      have hrow2 := own2_sets (own2_later hrow1 hG2 (Nat.le_refl _)) hnb (strV ek) (.int .u64 en)
      have hB3 := below_set2 (b := wr.heap.size) hB2 hB.size (strV ek) (.int .u64 en)
      have hd3 : Hid (∀ W, Reads W ao len cap (zs.map (.int .u8)) → Reads W x2 (l - sz) c2 ((z.drop sz).map (.int .u8))) := fun W hW => hd2 W (hrd.out W hW)
      have z8' : isBytes (z.drop sz) := fun y hy => z8 y (List.mem_of_mem_drop hy)
      have ck := blk2 k3
      have hlk := load_en k3
      clear pe hd2 hG2 hrow1 k1 hB1 k2
      have hs3 : w.heap.size ≤ ((w2.setCell ⟨wr.heap.size, 0, none⟩ (strV ek)).setCell ⟨wr.heap.size, 1, none⟩ (.int .u64 (en : Nat))).heap.size := hB3.size
      have k3a := cells_later k3 ((Below.refl _ _).alloc (Nat.le_refl _) (.cells #[strV ek, .int .u64 (en : Nat)] 64))
      have hBa := hB3.alloc hs3 (.cells #[strV ek, .int .u64 (en : Nat)] 64)
      have hrowa := own2_later hrow2 ((Below.refl _ _).alloc (Nat.le_refl _) (.cells #[strV ek, .int .u64 (en : Nat)] 64)) (Nat.le_refl _)
      have hsa := hBa.size
      have hre := reads_en ((w2.setCell ⟨wr.heap.size, 0, none⟩ (strV ek)).setCell ⟨wr.heap.size, 1, none⟩ (.int .u64 (en : Nat))) ek en
      rw [show ((w2.setCell ⟨wr.heap.size, 0, none⟩ (strV ek)).setCell ⟨wr.heap.size, 1, none⟩ (.int .u64 (en : Nat))).heap.size = w2.heap.size by simp [World.setCell]] at hre
      have hkz : l - sz ≤ 1000000000000 := by omega
      clear hB3 hrow2 k3 hB2
      go_wp2_with (at_builtin; go_loud (refine wpList_append_en rfl _ _ rfl w.heap.size _ _ _ _ rfl hrowa _ _ _ _ rfl hre (cells_one _) (by unfold maxLen; omega) (by omega) hsa ?_); intro ag4 c4 w4 hrow4 hg4 hb4 hwh4; have k4 := (hg4.block _ (Array.getElem?_eq_some_iff.1 k3a).1 (fun e' => hnb _ e'.symm rfl)).trans k3a; have cz4 := (blk2 k4).1; have hB4 := hBa.trans hb4)
      rw [← cells_app] at hrow4
      clear hwh4 hg4 hb4 k3a hBa hrowa k4 cz hsa hs3
      go_roundw
      case rel => exact ⟨j + 1, x2, _, c2, _, ag4, c4, ek, _, by go_num, rfl, rfl, rfl, by omega, hkz, hkl, z8', hes2, hd3, hrow4, hE, hB4⟩
      case measure => simp [intOf]; omega
#print axioms unpack_any
end Go.Proofs.Ytknfjonaepggnaa

namespace Go.Proofs.Ytknfjonaepggnaa
open Go.RowKit
set_option linter.unusedVariables false
set_option linter.unusedSimpArgs false

def short (l : List En) : Bool := l.all fun e => decide (e.1.length ≤ 255)
theorem short_cons (e : En) (l : List En) : short (e :: l) = (decide (e.1.length ≤ 255) && short l) := rfl
theorem short_app (l m : List En) : short (l ++ m) = (short l && short m) := List.all_append
theorem takesS_is : ∀ (k : Nat) (was : Wd) (b : List Int), takesS k was b = match takesE k was b with
    | none => none
    | some l => if short l = true then some l else none
  | 0, _, _ => rfl
  | k + 1, was, b => by
    rw [takesS, takesE]
    unfold takeS
    cases h : takeE was b with
    | none => rfl
    | some x =>
      obtain ⟨e, n⟩ := x
      simp only
      by_cases he : e.1.length ≤ 255
      · rw [if_pos he]
        simp only
        rw [takesS_is k e.1 (b.drop n)]
        cases takesE k e.1 (b.drop n) with
        | none => rfl
        | some l =>
          simp only [Option.map_some, short_cons, he, decide_true, Bool.true_and]
          cases hl : short l with
          | true => rfl
          | false => rfl
      · rw [if_neg he]
        simp only
        cases takesE k e.1 (b.drop n) with
        | none => rfl
        | some l =>
          simp only [Option.map_some, short_cons, he, decide_false, Bool.false_and]
          rfl
def candS : List (List Int) → Option (List En)
  | [] => some []
  | r :: rs => match unpackS r with
    | none => none
    | some l => (candS rs).map (l ++ ·)
theorem candS_is : ∀ (rs : List (List Int)), candS rs = match candE rs with
    | none => none
    | some l => if short l = true then some l else none
  | [] => rfl
  | r :: rs => by
    unfold candS candE unpackS
    by_cases hg : (getL r).2.2 = 0 ∧ (getL r).1 ≤ 255
    · rw [if_pos hg, if_pos hg, takesS_is]
      cases takesE (getL r).1 [] (r.drop (getL r).2.1) with
      | none => rfl
      | some l =>
        simp only
        cases hl : short l with
        | true =>
          simp only [if_true]
          rw [candS_is rs]
          cases candE rs with
          | none => rfl
          | some m =>
            simp only [Option.map_some, short_app, hl, Bool.true_and]
            cases hm : short m with
            | true => rfl
            | false => rfl
        | false =>
          simp only [Bool.false_eq_true, if_false]
          cases candE rs with
          | none => rfl
          | some m =>
            simp only [Option.map_some, short_app, hl, Bool.false_and]
            rfl
    · rw [if_neg hg, if_neg hg]
/-- A run has no longer words. -/
theorem enc_short {l : List En} {s : Nat} (h : (encR l s).2 = 0) : short l = true := by
  have h1 := may_all (enc_ok.1 h).2.2
  simp only [short, List.all_eq_true, decide_eq_true_eq]
  intro e he
  exact (one_ok.1 (h1 e he)).2.1
/-- The landed Decode. -/
theorem dec_is (b : List Int) (hb : b.length < 18446744073709551616) : decL b =
    if b.length ≤ (scanR b).2 ∧ 2 ≤ (scanR b).1.length ∧ (getL ((scanR b).1.getD 0 [])).2.2 = 0 ∧ (getL ((scanR b).1.getD 0 [])).1 ≤ 255 then
      (match candS ((scanR b).1.drop 1).dropLast with
      | none => ([], 2)
      | some l => if (encR l (getL ((scanR b).1.getD 0 [])).1).2 = 0 ∧ (encR l (getL ((scanR b).1.getD 0 [])).1).1 = b then (l, 0) else ([], 2))
    else ([], 2) := by
  by_cases he : b.length ≤ (scanR b).2
  case neg =>
    rw [if_neg (fun h => he h.1)]
    rcases dec_cases b with ⟨l, s, h1, h2, h3, h4, h5⟩ | h5
    · exfalso
      have hl := run_len (l := l) h1
      have hs := scan_recs (runRows l s) [] (run_rows (run_ok ⟨h1, h2, h3⟩ (by rw [h4] at hb; omega))) get_nil
      rw [List.append_nil] at hs
      apply he
      rw [h4]
      show (runL l s).length ≤ (scanR (recs (runRows l s))).2
      rw [hs]
      exact Nat.le_refl _
    · exact h5
  by_cases hc : 2 ≤ (scanR b).1.length ∧ (getL ((scanR b).1.getD 0 [])).2.2 = 0 ∧ (getL ((scanR b).1.getD 0 [])).1 ≤ 255
  case neg =>
    rw [if_neg (fun h => hc h.2)]
    unfold decL candR
    rw [if_neg hc]
  rw [if_pos ⟨he, hc⟩, candS_is]
  unfold decL candR
  rw [if_pos hc]
  cases candE ((scanR b).1.drop 1).dropLast with
  | none => rfl
  | some l =>
    simp only [Option.map_some]
    by_cases hl : short l = true
    · rw [if_pos hl]
    · rw [if_neg hl, if_neg]
      intro h
      exact hl (enc_short h.1)
#print axioms dec_is

theorem get_row_len (zs : List Int) : (getR zs).1.length ≤ zs.length := by
  unfold getR
  split
  · simp
  · split
    · simp
    · split
      · simp
      · split
        · simp; omega
        · simp
theorem scanF_rows (f : Nat) : ∀ (zs : List Int), ∀ l ∈ (scanF f zs).1, l.length ≤ zs.length := by
  induction f with
  | zero => intro zs l hl; simp [scanF] at hl
  | succ f ih =>
    intro zs l hl
    unfold scanF at hl
    split at hl
    · simp only [List.mem_cons] at hl
      rcases hl with rfl | hl
      · exact get_row_len zs
      · have := ih _ l hl
        simp at this; omega
    · simp at hl
theorem scan_rows (zs : List Int) : ∀ l ∈ (scanR zs).1, l.length ≤ zs.length := scanF_rows _ zs

theorem candS_u64 : ∀ (rs : List (List Int)), (∀ r ∈ rs, isBytes r) → ∀ l, candS rs = some l → ∀ e ∈ l, e.2 ≤ 18446744073709551615 ∧ e.1.length ≤ 255
  | [], _, l, h, e, he => by
    cases h; simp at he
  | r :: rs, hb, l, h, e, he => by
    unfold candS at h
    have tk : ∀ (k : Nat) (was : Wd) (b : List Int), isBytes b → ∀ l, takesS k was b = some l → ∀ e ∈ l, e.2 ≤ 18446744073709551615 ∧ e.1.length ≤ 255 := by
      intro k
      induction k with
      | zero => intro was b _ l h e he; cases h; simp at he
      | succ k ih =>
        intro was b h8 l h e he
        unfold takesS at h
        cases ht : takeS was b with
        | none => rw [ht] at h; cases h
        | some x =>
          obtain ⟨a, n⟩ := x
          rw [ht] at h
          simp only [Option.map_eq_some_iff] at h
          obtain ⟨m, hm, rfl⟩ := h
          rcases List.mem_cons.1 he with rfl | he
          · exact ⟨takeS_u64 h8 ht, takeS_len ht⟩
          · exact ih _ _ (fun z hz => h8 z (List.mem_of_mem_drop hz)) m hm e he
    cases hu : unpackS r with
    | none => rw [hu] at h; cases h
    | some m =>
      rw [hu] at h
      simp only [Option.map_eq_some_iff] at h
      obtain ⟨q, hq, rfl⟩ := h
      rcases List.mem_append.1 he with he | he
      · unfold unpackS at hu
        split at hu
        · exact tk _ _ _ (fun z hz => hb r (by simp) z (List.mem_of_mem_drop hz)) m hu e he
        · cases hu
      · exact candS_u64 rs (fun x hx => hb x (by simp [hx])) q hq e he
theorem unpackS_len {r : List Int} {l : List En} (h : unpackS r = some l) : l.length ≤ 255 := by
  unfold unpackS at h
  split at h
  · rename_i hg
    have : ∀ (k : Nat) (was : Wd) (b : List Int) (l : List En), takesS k was b = some l → l.length = k := by
      intro k
      induction k with
      | zero => intro was b l h; cases h; rfl
      | succ k ih =>
        intro was b l h
        unfold takesS at h
        cases ht : takeS was b with
        | none => rw [ht] at h; cases h
        | some x =>
          obtain ⟨a, n⟩ := x
          rw [ht] at h
          simp only [Option.map_eq_some_iff] at h
          obtain ⟨m, hm, rfl⟩ := h
          simp [ih _ _ m hm]
    rw [this _ _ _ _ h]; exact hg.2
  · cases h
theorem candS_len : ∀ (rs : List (List Int)) (l : List En), candS rs = some l → l.length ≤ 255 * rs.length
  | [], l, h => by cases h; simp
  | r :: rs, l, h => by
    unfold candS at h
    cases hu : unpackS r with
    | none => rw [hu] at h; cases h
    | some m =>
      rw [hu] at h
      simp only [Option.map_eq_some_iff] at h
      obtain ⟨q, hq, rfl⟩ := h
      have h1 := unpackS_len hu
      have h2 := candS_len rs q hq
      simp only [List.length_append, List.length_cons]
      omega
theorem candS_snoc : ∀ (rs : List (List Int)) (r : List Int), candS (rs ++ [r]) = match candS rs with
    | none => none
    | some l => (unpackS r).map (l ++ ·)
  | [], r => by
    simp only [List.nil_append, candS]
    cases unpackS r with
    | none => rfl
    | some l => simp
  | a :: rs, r => by
    simp only [List.cons_append, candS]
    cases unpackS a with
    | none => rfl
    | some m =>
      simp only
      rw [candS_snoc rs r]
      cases candS rs with
      | none => rfl
      | some q =>
        cases unpackS r with
        | none => rfl
        | some p => simp
theorem candS_app : ∀ (a b : List (List Int)), candS a = none → candS (a ++ b) = none
  | [], _, h => by cases h
  | x :: a, b, h => by
    simp only [List.cons_append, candS] at h ⊢
    cases hu : unpackS x with
    | none => rfl
    | some m =>
      rw [hu] at h
      simp only [Option.map_eq_none_iff] at h ⊢
      exact candS_app a b h
theorem candS_stop {rs : List (List Int)} {k : Nat} (h : candS (rs.take k) = none) : candS rs = none := by
  have := candS_app _ (rs.drop k) h
  rwa [List.take_append_drop] at this
#print axioms candS_stop
end Go.Proofs.Ytknfjonaepggnaa

namespace Go.Proofs.Ytknfjonaepggnaa
open Go.RowKit
set_option linter.unusedVariables false
set_option linter.unusedSimpArgs false
attribute [local go_sem] Oper.semAt_some

theorem ReadsE.kept_own {w w' : World} {ao : Option Addr} {len cap : Nat} {xs : List Value} {row : Option Nat} (h : ReadsE w ao len cap xs) (hg : w.grownBy w' row) (hr : ∀ r, row = some r → ∃ o : Obj, w.heap[r]? = some o ∧ o.isCells = false) : ReadsE w' ao len cap xs :=
  ⟨h.length, h.le, h.most, h.bare, fun a ha j u hu => cell_kept (h.cell a ha j u hu) hg hr⟩
/-- What the k-th round hands out: the k-th block's entries, or that there are none. -/
def VBlk (rows : List (List Int)) (k : Nat) (args : Array Value) (W : World) : Prop :=
  ∃ r, rows[k]? = some r ∧ ((unpackS r = none ∧ args = #[.slice none 0 0, .bool false]) ∨ ∃ l ag c m, unpackS r = some l ∧ args = #[.slice ag m c, .bool true] ∧ m = l.length ∧ ReadsE W ag m c (cellsE l))
theorem VBlk.own (rows : List (List Int)) (B k : Nat) (args : Array Value) : OwnFrom B (fun (_ : Unit) W => VBlk rows k args W) := fun _ A C row h hg hr => by
  obtain ⟨r, h1, h2 | ⟨l, ag, c, m, h2, h3, h4, h5⟩⟩ := h
  · exact ⟨r, h1, .inl h2⟩
  · exact ⟨r, h1, .inr ⟨l, ag, c, m, h2, h3, h4, h5.kept_own hg fun r e => (hr r e).2⟩⟩
theorem VBlk.size {rows : List (List Int)} {k : Nat} {args : Array Value} {W : World} (h : VBlk rows k args W) : args.size = 2 := by
  obtain ⟨r, h1, ⟨_, rfl⟩ | ⟨l, ag, c, m, h2, rfl, h4, h5⟩⟩ := h <;> rfl

theorem RowVals.drop {w : World} {vs : List Value} {ls : List (List Int)} (h : RowVals w vs ls) (n : Nat) : RowVals w (vs.drop n) (ls.drop n) :=
  ⟨by simp [h.length], fun i v l hv hl => by
    rw [List.getElem?_drop] at hv hl
    exact h.row _ v l hv hl⟩
theorem ReadsRows.mid {P : Program} {t e : TypeId} (ht : P.underlying t = some (.slice e)) (hs : ∀ W, (sizeOf e).run P W = .ok 1 W) {ao : Option Addr} {len cap : Nat} (hc : len ≤ cap) (l h : Nat) (hl : l ≤ h) (hh : h ≤ len) :
    ∃ ao', (∀ W, (Instr.slice t (.slice ao len cap) (some (.int .i64 (l : Int))) (some (.int .i64 (h : Int))) none).run P W = .ok (.slice ao' (h - l) (cap - l)) W) ∧ (∀ W ls, ReadsRows W ao len cap ls → ReadsRows W ao' (h - l) (cap - l) ((ls.drop l).take (h - l))) := by
  obtain ⟨ao', h1, h2⟩ := Reads.mid (P := P) ht hs (ao := ao) hc l h hl hh
  refine ⟨ao', h1, fun W ls hr => ?_⟩
  obtain ⟨vs, hv, hw⟩ := hr.vals
  exact ReadsRows.of (h2 W vs hv) ((hw.drop l).take (h - l))
theorem Reads.same {w w' : World} {ao : Option Addr} {len cap : Nat} {xs : List Value} (h : Reads w ao len cap xs) (hb : ∀ k, k < w.heap.size → w'.heap[k]? = w.heap[k]?) : Reads w' ao len cap xs :=
  ⟨h.length, h.le, h.most, h.bare, fun a ha j u hu => by
    have hc := h.cell a ha j u hu
    rw [World.cell?_of_block (w := w) (hb _ (World.block_lt_of_cell? w _ hc))]; exact hc⟩
theorem ReadsRows.same {w w' : World} {ao : Option Addr} {len cap : Nat} {ls : List (List Int)} (h : ReadsRows w ao len cap ls) (hb : ∀ k, k < w.heap.size → w'.heap[k]? = w.heap[k]?) : ReadsRows w' ao len cap ls :=
  ⟨h.length, h.le, h.most, h.bare, fun a ha i l hl => by
    obtain ⟨ai, li, ci, hc, hr⟩ := h.row a ha i l hl
    exact ⟨ai, li, ci, by rw [World.cell?_of_block (w := w) (hb _ (World.block_lt_of_cell? w _ hc))]; exact hc, hr.same hb⟩⟩

theorem blocks_any (ao : Option Addr) (len cap : Nat) (w : World) :
    Calls Try.prog 46 #[.slice ao len cap] w fun e w' =>
      e = .returned (.func (.func 64) #[] #[.pointer (some ⟨w.heap.size, 0, none⟩)]) ∧ w' = w.alloc (.cells #[.slice ao len cap] 28) := by
  go_enter Try.func46, Try.ntmps46
  go_wp2
  go_ret
  exact ⟨rfl, rfl⟩

set_option maxRecDepth 100000 in
set_option maxHeartbeats 4000000 in
theorem blocks_gives {w : World} {Kp : World → World → Prop} {ao : Option Addr} {len cap B1 : Nat} {rows : List (List Int)} (h8 : ∀ r ∈ rows, isBytes r) (hrl : ∀ r ∈ rows, r.length ≤ 1000000000000) (hm : len ≤ 1000000000000)
    (hKt : ∀ {A B C : World}, Kp A B → Kp B C → Kp A C) (hKg : ∀ {A B : World}, w.heap.size ≤ A.heap.size → Grow A B → Kp A B) (hKs : ∀ W, Kp w W → w.heap.size ≤ W.heap.size)
    (hK : ∀ W, Kp w W → W.cell? ⟨B1, 0, none⟩ = some (.slice ao len cap) ∧ ReadsRows W ao len cap rows) :
    GivesBy Try.prog 64 #[.pointer (some ⟨B1, 0, none⟩)] rows.length (VBlk rows) Kp w := by
  intro l J Jx W hkW hJ hJx hY hJ0
  obtain ⟨c1, hrd⟩ := hK W hkW
  have hlx := hrd.length
  subst hlx
  have HR : Hid (∀ W', Kp w W' → ReadsRows W' ao rows.length cap rows ∧ w.heap.size ≤ W'.heap.size) := fun W' h => ⟨(hK _ h).2, hKs _ h⟩
  refine callsIn_of_wp Try.func64 rfl trivial ?_ rfl
  simp only [Try.ntmps64, List.size_toArray, List.length_cons, List.length_nil, Nat.reduceAdd, Nat.reduceSub, Array.replicate_succ, Array.replicate_zero, List.push_toArray, List.append_toArray, List.nil_append, List.cons_append]
  clear hrd
  gi_wp2_with fail
  gi_loopw [7] (fun i wr => ∃ k : Nat, i = .int .i64 (k : Nat) ∧ k ≤ rows.length ∧ J k wr ∧ Kp w wr) (fun i _ => (rows.length - intOf i).toNat)
  case atStart => exact ⟨0, rfl, Nat.zero_le _, hJ0, hkW⟩
  case round =>
    obtain ⟨k, rfl, hk, hJr, hkr⟩ := hrel
    obtain ⟨hre, hsr⟩ := HR.out _ hkr
    clear hJ0 hkW c1
    by_cases hlt : k < rows.length
    case neg =>
      have hlti : ¬ (k : Int) < rows.length := by omega
      have hke : k = rows.length := by omega
      have HJ : Hid (J rows.length wr) := by show J _ _; rw [← hke]; exact hJr
      clear hke hlt
      gi_wp2_with fail
      go_end0
      exact ⟨⟨_, rfl⟩, .inl HJ.out⟩
    have hlti : (k : Int) < rows.length := by omega
    obtain ⟨b, off, hao, _, hc⟩ := hre.at (by omega)
    obtain ⟨ai, li, ci, cc, hr⟩ := hc k hlt
    obtain ⟨r, hrk⟩ : ∃ r, rows[k]? = some r := ⟨_, List.getElem?_eq_getElem hlt⟩
    have hgd : rows.getD k [] = r := by simp [List.getD, hrk]
    rw [hgd] at hr
    have hrm := List.mem_of_getElem? hrk
    have hli : li ≤ 1000000000000 := by have := hr.length; simp at this; have := hrl r hrm; omega
    have pu := unpack_any hr (h8 r hrm) hli
    have Hao : Hid _ := hao
    have hYk : ∀ W3 args, Grow wr W3 → VBlk rows k args W3 → YieldAt Fence.wide 8 Try.prog l args W3 fun e W' => (e = .returned (.bool true) ∧ J (k + 1) W' ∧ Kp w W') ∨ (e = .returned (.bool false) ∧ Jx W') := fun W3 args hG hv => by
      refine (hY k args W3 hlt (hJ _ _ _ hJr hG) hv).mono ?_
      rintro e w' (⟨h1, h2, h3⟩ | ⟨h1, h2⟩)
      · exact .inl ⟨h1, h2, hKt (hKt hkr (hKg hsr hG)) h3⟩
      · exact .inr ⟨h1, h2⟩
    have H1 : Hid _ := hrk
    subst hao
    clear hc hgd hrm hr hrk hli hY hKt hKg hKs hK hJr hkr hre
    cases hu : unpackS r with
    | none =>
      rw [hu] at pu
      have HU : Hid _ := hu
      clear hu
      gi_wp2_with fail
      refine ⟨trivial, (callsIn_wide.2 pu).mono ?_⟩
      rintro e w3 ⟨hG3, rfl⟩
      obtain ⟨fn, tmps, assign, body, hy, hR⟩ := hYk w3 _ hG3 ⟨r, H1.out, .inl ⟨HU.out, rfl⟩⟩
      clear pu hYk hG3
      gi_wp2_with fail
      refine hR.mono ?_
      rintro e w4 (⟨rfl, hJ4, hk4⟩ | ⟨rfl, hx4⟩)
      · clear hR hy cc
        gi_wp2_with fail
        go_roundw
        case rel => exact ⟨k + 1, by go_num, by omega, hJ4, hk4⟩
        case measure => simp [intOf]; omega
      · gi_wp2_with fail
        refine bodyPost_ret (results_none rfl _ _ _) rfl ?_
        exact ⟨⟨_, rfl⟩, .inr hx4⟩
    | some es =>
      rw [hu] at pu
      have HU : Hid _ := hu
      clear hu
      gi_wp2_with fail
      refine ⟨trivial, (callsIn_wide.2 pu).mono ?_⟩
      rintro e w3 ⟨hG3, ag, c, m, rfl, hm3, hrow⟩
      obtain ⟨fn, tmps, assign, body, hy, hR⟩ := hYk w3 _ hG3 ⟨r, H1.out, .inr ⟨es, ag, c, m, HU.out, rfl, hm3, ReadsE.own hrow⟩⟩
      clear pu hYk hG3 hm3 hrow
      gi_wp2_with fail
      refine hR.mono ?_
      rintro e w4 (⟨rfl, hJ4, hk4⟩ | ⟨rfl, hx4⟩)
      · clear hR hy cc
        gi_wp2_with fail
        go_roundw
        case rel => exact ⟨k + 1, by go_num, by omega, hJ4, hk4⟩
        case measure => simp [intOf]; omega
      · gi_wp2_with fail
        refine bodyPost_ret (results_none rfl _ _ _) rfl ?_
        exact ⟨⟨_, rfl⟩, .inr hx4⟩
#print axioms blocks_gives
end Go.Proofs.Ytknfjonaepggnaa

namespace Go.Proofs.Ytknfjonaepggnaa
open Go.RowKit
set_option linter.unusedVariables false
set_option linter.unusedSimpArgs false
attribute [local go_sem] Oper.semAt_some

/-- 'append(own, src...)' of entries, whatever the source, in a fence. -/
theorem wpListIn_append_en {F : Fence} {n : Nat} {w : World} {ops : Array Oper} {rest : List Oper} {o : Oper} {a : Act} {Q : Exit → Act → World → Prop} (hgd : o.guard = none) (s x : Operand)
    (ho : o.op = .call { callee := .builtin .append, args := #[s, x], argTypes := #[49, 49] }) (base : Nat)
    (v : Value) (k : Nat) (xs : List Value) (hs : a.eval s = v) (hown : w.ownsRow base 64 2 v k xs)
    (ao : Option Addr) (m d : Nat) (news : List Value) (hx : a.eval x = .slice ao m d) (hr : ReadsE w ao m d news) (h1 : ∀ u ∈ news, u.oneCell' = true)
    (h63 : k + m ≤ maxLen) (hbytes : (k + m) * 24 ≤ 140737488355328) (hbase : base ≤ w.heap.size)
    (h : ∀ ag' c' w', w'.ownsRow base 64 2 (.slice ag' (k + m) c') (k + m) (xs ++ news) → w.grownBy w' v.ownBlock → wpListIn F n Try.prog ops Q rest (a.put o.dst (.slice ag' (k + m) c')) w') : wpListIn F n Try.prog ops Q (o :: rest) a w := by
  obtain ⟨i, hi, hz0, hz1, hz2⟩ := info_parts Try.infoEn
  cases ao with
  | none =>
    obtain ⟨rfl, rfl⟩ := hr.bare rfl
    have : news = [] := List.eq_nil_of_length_eq_zero hr.length
    subst this
    refine wpListIn_plain hgd fun K hK => ?_
    have hrun := run_append_owned_none (P := Try.prog) (w := w) base 49 o.type 64 i 2 Try.underlying49 hi v k xs hown
    obtain ⟨ag, c, rfl⟩ := own2_slice hown
    unfold Oper.wpIn
    refine ⟨?_, ?_⟩
    · simp [Oper.about, ho, resolve, Target.leads, Sem.run_pure]
    · rw [Oper.semAt_plain F _ _ (by rw [ho]; intro c hc'; cases hc')]
      simp [execOp, ho, resolve, invoke, builtin, hs, hx, hrun, Result.andThen]
      exact hK _ _ (h ag c w (by simpa using hown) (World.grownBy.refl _ _))
  | some ad =>
    refine wpListIn_append_own w hgd s x 49 ho base 64 i (.agg #[.string ⟨#[]⟩, .int .u64 0]) 2 24 Try.underlying49 hi hz0 hz1 hz2 rfl (by decide) v k xs hs hown ad m d news hx hr.length (hr.cell ad rfl) h1 h63 hbytes hbase ?_
    intro v' w' h2 h3 _
    obtain ⟨ag', c', rfl⟩ := own2_slice h2
    exact h ag' c' w' h2 h3

/-- What Decode tells. -/
def DecOut (w : World) (r : List En × Nat) (e : Ending) (w' : World) : Prop := ∃ ag c m, e = .returned (.tuple #[.slice ag m c, .int .i64 (r.2 : Nat)]) ∧ m = r.1.length ∧ w'.ownsRow w.heap.size 64 2 (.slice ag m c) m (cellsE r.1) ∧ Below w.heap.size w w'
theorem DecOut.bad {w w' : World} {c : Nat} (h : Below w.heap.size w w') : DecOut w ([], c) (.returned (.tuple #[.slice none 0 0, .int .i64 (c : Nat)])) w' := ⟨none, 0, 0, rfl, rfl, World.ownsRow_nil _ _ _ _, h⟩

set_option maxRecDepth 100000 in
set_option maxHeartbeats 4000000 in
theorem decode_any {w : World} {ao : Option Addr} {len cap : Nat} {zs : List Int} (h : Reads w ao len cap (zs.map (.int .u8))) (h8 : isBytes zs) (hl : len ≤ 100000000) :
    Calls Try.prog 27 #[.slice ao len cap] w fun e w' => DecOut w (decL zs) e w' := by
  have hlx : zs.length = len := by simpa using h.length
  obtain ⟨W0, hW0⟩ : ∃ W0, W0 = (w.alloc (.cells #[.slice none 0 0] 49)).alloc (.cells #[.int .i64 0] 31) := ⟨_, rfl⟩
  have b1 : Boxed W0 w.heap.size 49 (.slice none 0 0) := by rw [hW0]; exact (two_boxes _ _ _ _ _).1
  have b2 : Boxed W0 (w.heap.size + 1) 31 (.int .i64 0) := by rw [hW0]; exact (two_boxes _ _ _ _ _).2
  have hB0 : Below w.heap.size w W0 := by rw [hW0]; exact two_below _ _ _ _ _
  -- the way out with nothing
  have hbad : ∀ (W : World), Boxed W w.heap.size 49 (.slice none 0 0) → Boxed W (w.heap.size + 1) 31 (.int .i64 0) → Below w.heap.size w W →
      Boxed ((W.setCell ⟨w.heap.size, 0, none⟩ (.slice none 0 0)).setCell ⟨w.heap.size + 1, 0, none⟩ (.int .i64 2)) w.heap.size 49 (.slice none 0 0) ∧ Boxed ((W.setCell ⟨w.heap.size, 0, none⟩ (.slice none 0 0)).setCell ⟨w.heap.size + 1, 0, none⟩ (.int .i64 2)) (w.heap.size + 1) 31 (.int .i64 2) ∧
      Below w.heap.size w ((W.setCell ⟨w.heap.size, 0, none⟩ (.slice none 0 0)).setCell ⟨w.heap.size + 1, 0, none⟩ (.int .i64 2)) := fun W k1 k2 hB =>
    ⟨(k1.set _).other (by omega) _, ((k2.other (by omega) _).set _), (hB.setCell (p := ⟨w.heap.size, 0, none⟩) (Nat.le_refl _) _).setCell (p := ⟨w.heap.size + 1, 0, none⟩) (by simp) _⟩
  have HW0 : Hid _ := hW0
  have hr0 := h.later hB0 (Nat.le_refl _)
  have hD : Hid _ := dec_is zs (by omega)
  have ps := fscan_any ao len cap zs W0 hr0 h8 (by omega)
  have s1 := scan_bytes h8
  have s2 := scan_len zs
  have s3 := scan_rows zs
  generalize hrows : (scanR zs).1 = rows at *
  generalize hend : (scanR zs).2 = q at *
  clear hW0 hrows hend hr0
  rw [hlx] at s2 s3
  have Hlx : Hid _ := hlx
  clear hlx
  refine (callsIn_wide (n := 10)).1 ?_
  refine callsIn_of_wp_marks Try.func27 rfl trivial ?_ rfl
  simp only [Try.ntmps27, List.size_toArray, List.length_cons, List.length_nil, Nat.reduceAdd, Nat.reduceSub, Array.replicate_succ, Array.replicate_zero, List.push_toArray, List.append_toArray, List.nil_append, List.cons_append]
  gi_wp2_with fail
  rw [← HW0.out]
  refine ⟨trivial, (callsIn_wide.2 ps).mono ?_⟩
  rintro e w1 ⟨ar, cr, mr, rfl, hrr, hG1⟩
  have k1 : Boxed w1 w.heap.size 49 (.slice none 0 0) := cells_later b1 hG1
  have k2 : Boxed w1 (w.heap.size + 1) 31 (.int .i64 0) := cells_later b2 hG1
  have hB1 := hB0.trans (hG1.mono hB0.size)
  have d1 := k1.cell
  have d2 := k2.cell
  have f1 := k1.frozen
  have f2 := k2.frozen
  have hmr := hrr.length
  have HW1 : Hid (w.heap.size + 2 ≤ w1.heap.size) := by show _ ≤ _; have := k2.lt; omega
  clear ps hG1 b1 b2 HW0 hB0
  by_cases hc : len ≤ q ∧ 2 ≤ mr
  case neg =>
    have hE : Hid (decL zs = ([], 2)) := by show _ = _; rw [hD.out, if_neg]; intro hh; exact hc ⟨by rw [← Hlx.out]; exact hh.1, by omega⟩
    obtain ⟨q1, q2, q3⟩ := hbad w1 k1 k2 hB1
    have hsp : (q : Int) < len ∨ (¬ (q : Int) < len ∧ (mr : Int) < 2) := by omega
    clear hc hmr
    rcases hsp with i1 | ⟨i1, i2⟩
    all_goals gi_wp2_with fail
    all_goals refine ⟨_, res_cells2 rfl _ _ _ rfl (load_ents q1) rfl (load_errno q2), ?_⟩
    all_goals rw [hE.out]
    all_goals exact DecOut.bad q3
  obtain ⟨hc1, hc2⟩ := hc
  have i1 : ¬ (q : Int) < len := by omega
  have i2 : ¬ (mr : Int) < 2 := by omega
  obtain ⟨br, off, har, _, hcr⟩ := hrr.at (by omega)
  obtain ⟨a0, l0, c0, cc0, hr0⟩ := hcr 0 (by omega)
  obtain ⟨r0, hr0e⟩ : ∃ r0, rows.getD 0 [] = r0 := ⟨_, rfl⟩
  have hr0m : r0 ∈ rows := by
    rw [← hr0e]
    simp [List.getD, List.getElem?_eq_getElem (show 0 < rows.length by omega)]
  rw [hr0e] at hr0
  have hl0 : l0 ≤ 1000000000000 := by have := hr0.length; simp at this; have := s3 r0 hr0m; omega
  have pn := number_any hr0 (s1 r0 hr0m) hl0
  unfold NumOut at pn
  rcases hg0 : getL r0 with ⟨sz, k0, f0⟩
  rw [hg0] at pn
  have hD2 : Hid (decL zs = if f0 = 0 ∧ sz ≤ 255 then
      (match candS (rows.drop 1).dropLast with
      | none => ([], 2)
      | some l => if (encR l sz).2 = 0 ∧ (encR l sz).1 = zs then (l, 0) else ([], 2))
    else ([], 2)) := by
    show _ = _
    rw [hD.out, hr0e, hg0]
    by_cases hx : f0 = 0 ∧ sz ≤ 255
    · rw [if_pos hx, if_pos ⟨by rw [Hlx.out]; exact hc1, by omega, hx⟩] <;> rfl
    · rw [if_neg hx, if_neg (fun hh => hx hh.2.2)]
  rw [Nat.add_zero] at cc0
  clear hD hr0e hg0 hr0 hl0 hr0m hcr hc1
  have Har : Hid _ := har
  subst har
  gi_wp2_with fail
  refine ⟨trivial, (callsIn_wide.2 pn).mono ?_⟩
  rintro e w2 ⟨xn, cn, rfl, hG2, _⟩
  have k1' : Boxed w2 w.heap.size 49 (.slice none 0 0) := cells_later k1 hG2
  have k2' : Boxed w2 (w.heap.size + 1) 31 (.int .i64 0) := cells_later k2 hG2
  have hB2 := hB1.trans (hG2.mono hB1.size)
  have hrr2 := hrr.later hG2 (Nat.le_refl _)
  have hz2 : w.heap.size + 2 ≤ w2.heap.size := Nat.le_trans HW1.out hG2.size
  clear pn k1 k2 hB1 hrr hG2 d1 d2 f1 f2 cc0 HW1
  have d1 := k1'.cell
  have d2 := k2'.cell
  have f1 := k1'.frozen
  have f2 := k2'.frozen
  by_cases hc : f0 = 0 ∧ sz ≤ 255
  case neg =>
    have hE : Hid (decL zs = ([], 2)) := by show _ = _; rw [hD2.out, if_neg hc]
    obtain ⟨q1, q2, q3⟩ := hbad w2 k1' k2' hB2
    have hsp : decide (f0 = 0) = false ∨ (decide (f0 = 0) = true ∧ (255 : Int) < sz) := by
      by_cases hf : f0 = 0
      · right; exact ⟨by simp [hf], by omega⟩
      · left; simp [hf]
    clear hc hmr
    rcases hsp with i1 | ⟨i1, i2⟩
    all_goals gi_wp2_with fail
    all_goals refine ⟨_, res_cells2 rfl _ _ _ rfl (load_ents q1) rfl (load_errno q2), ?_⟩
    all_goals rw [hE.out]
    all_goals exact DecOut.bad q3
  have hD3 : Hid (decL zs = match candS (rows.drop 1).dropLast with
      | none => ([], 2)
      | some l => if (encR l sz).2 = 0 ∧ (encR l sz).1 = zs then (l, 0) else ([], 2)) := by show _ = _; rw [hD2.out, if_pos hc]
  obtain ⟨hf0, hsz⟩ := hc
  subst hf0
  have i3 : ¬ (255 : Int) < sz := by omega
  clear hD2
  obtain ⟨M, hM⟩ : ∃ M, M = mr - 1 := ⟨_, rfl⟩
  obtain ⟨x1, hs1, hd1⟩ := ReadsRows.mid (P := Try.prog) Try.underlying28 (size_of Try.infoRow) (ao := some ⟨br, off, none⟩) (len := mr) (cap := cr) hrr2.le 1 M (by omega) (by omega)
  have hs1' : ∀ W, (Instr.slice 28 (.slice (some ⟨br, off, none⟩) mr cr) (some (.int .i64 1)) (some (.int .i64 (M : Nat))) none).run Try.prog W = .ok (.slice x1 (M - 1) (cr - 1)) W := hs1
  have hbr : (rows.drop 1).dropLast = (rows.drop 1).take (M - 1) := by rw [List.dropLast_eq_take]; congr 1; simp; omega
  have hbrows := hd1 _ _ hrr2
  rw [← hbr] at hbrows
  have t1 : ∀ r ∈ (rows.drop 1).dropLast, isBytes r := fun r hr => s1 r (List.mem_of_mem_drop (List.dropLast_subset _ hr))
  have t3 : ∀ r ∈ (rows.drop 1).dropLast, r.length ≤ 1000000000000 := fun r hr => by have := s3 r (List.mem_of_mem_drop (List.dropLast_subset _ hr)); omega
  have hwm2 : (mr : Int) - 1 = (M : Nat) := by omega
  have hwm3 : IntKind.i64.wrap (M : Int) = (M : Nat) := by simp [IntKind.wrap, IntKind.bits, IntKind.signed]; omega
  have hml : M ≤ 25000000 := by omega
  have hnl : (rows.drop 1).dropLast.length = M - 1 := by simp; omega
  generalize (rows.drop 1).dropLast = brows at *
  have Hnl : Hid _ := hnl
  clear hd1 hbr s1 s2 s3 hs1 hM hrr2 hnl hmr
  gi_wp2_with fail
  refine ⟨trivial, (callsIn_wide.2 (blocks_any _ _ _ _)).mono ?_⟩
  rintro e w3 ⟨rfl, hw3⟩
  have bO : Boxed w3 w2.heap.size 49 (.slice none 0 0) := by rw [hw3]; exact (Boxed.new w2 _ _).alloc _
  have k13 : Boxed w3 w.heap.size 49 (.slice none 0 0) := by rw [hw3]; exact (k1'.alloc _).alloc _
  have k23 : Boxed w3 (w.heap.size + 1) 31 (.int .i64 0) := by rw [hw3]; exact (k2'.alloc _).alloc _
  have bB : Boxed w3 (w2.heap.size + 1) 28 (.slice x1 (M - 1) (cr - 1)) := by
    rw [hw3]
    exact (two_boxes _ _ _ _ _).2
  have hB3 : Below w.heap.size w w3 := by rw [hw3]; exact (hB2.alloc (by omega) _).alloc (by simp; omega) _
  have hG23 : Grow w2 w3 := by rw [hw3]; exact two_below _ _ _ _ _
  have hz3 : w3.heap.size = w2.heap.size + 2 := by rw [hw3]; simp
  have hre : ∀ W, KeepBox w2.heap.size w3.heap.size w3 W → ReadsRows W x1 (M - 1) (cr - 1) brows := fun W hW => hbrows.same fun k hk => (hW.block k (by omega) (by omega)).trans (hG23.block k hk)
  have hgives := blocks_gives (w := w3) (Kp := KeepBox w2.heap.size w3.heap.size) (ao := x1) (len := M - 1) (cap := cr - 1) (B1 := w2.heap.size + 1) (rows := brows) t1 t3 (by omega)
    (fun h k => h.trans k) (fun hS hG => KeepBox.grow hS hG) (fun W hW => hW.size) (fun W hW => ⟨(hW.cell (p := ⟨w2.heap.size + 1, 0, none⟩) (by show w2.heap.size + 1 < _; omega) (by show w2.heap.size + 1 ≠ _; omega)).trans bB.cell, hre W hW⟩)
  have hz2' : w.heap.size + 1 < w2.heap.size := by omega
  have hlen : ∀ k, ((candS (brows.take k)).getD []).length ≤ 100000000000 := fun k => by
    cases hc : candS (brows.take k) with
    | none => simp
    | some l =>
      have := candS_len _ _ hc
      have h2 : (brows.take k).length ≤ brows.length := by rw [List.length_take]; omega
      have := Hnl.out
      simp only [Option.getD_some]
      omega
  rw [World.size_alloc]
  generalize hBo : w2.heap.size = Bo at *
  have Hbad : Hid _ := hbad
  have HT1 : Hid _ := t1
  clear hw3 k1' k2' hB2 hbrows hre bB hG23 t3 hbad d1 d2 f1 f2 hz2 t1
  gi_wp2_with fail
  refine range_by (gf := 64) (lb := #[.pointer (some ⟨Bo + 1, 0, none⟩)]) rfl (enters_of Try.func64 (by kernel_rfl) rfl) hgives
    (fun h k => h.trans k) (fun hS hG => KeepBox.grow hS hG) (fun W l o hl => KeepBox.put W l o hl) (VBlk.own brows _) (fun k args W h => h.size)
    (fun k W => ((∃ v, Boxed W Bo 49 v ∧ W.ownsRow w3.heap.size 64 2 v ((candS (brows.take k)).getD []).length (cellsE ((candS (brows.take k)).getD [])) ∧ candS (brows.take k) ≠ none) ∧ (Boxed W w.heap.size 49 (.slice none 0 0) ∧ Boxed W (w.heap.size + 1) 31 (.int .i64 0))) ∧ Below w.heap.size w W)
    (fun (c : Code) W => ((c = Code.ret ∧ candS brows = none) ∧ (Boxed W w.heap.size 49 (.slice none 0 0) ∧ Boxed W (w.heap.size + 1) 31 (.int .i64 2))) ∧ Below w.heap.size w W)
    (OwnFrom.and (OwnFrom.and (Own.from (holdsRow_own w3.heap.size Bo 49 64 2 (fun k => ((candS (brows.take k)).getD []).length) (fun k => cellsE ((candS (brows.take k)).getD [])) (fun k _ => candS (brows.take k) ≠ none)) _) (OwnFrom.and (Own.from (boxed_own _ _ (fun (_ : Nat) => Value.slice none 0 0)) _) (Own.from (boxed_own _ _ (fun (_ : Nat) => Value.int .i64 0)) _))) (ownFrom_below (Nat.le_refl _) (by omega)))
    (OwnFrom.and (OwnFrom.and (ownFrom_pure _ (fun (c : Code) => c = Code.ret ∧ candS brows = none)) (OwnFrom.and (Own.from (boxed_own _ _ (fun (_ : Code) => Value.slice none 0 0)) _) (Own.from (boxed_own _ _ (fun (_ : Code) => Value.int .i64 2)) _))) (ownFrom_below (Nat.le_refl _) (by omega)))
    ⟨⟨⟨_, bO, by simpa [candS, cellsE] using World.ownsRow_nil w3 w3.heap.size 64 2, by simp [candS]⟩, k13, k23⟩, hB3⟩
    (fun args => { tmps := #[.slice ao len cap, undef, .pointer (some ⟨w.heap.size, 0, none⟩), .pointer (some ⟨w.heap.size + 1, 0, none⟩), .slice (some ⟨br, off, none⟩) mr cr, .int .i64 (q : Nat), .int .u64 (sz : Nat), .slice xn (l0 - k0) cn, .bool true, .pointer (some ⟨Bo, 0, none⟩), args.toList.headD undef, (args.toList.drop 1).headD undef, undef, undef, .tuple #[.slice (some ⟨br, off, none⟩) mr cr, .int .i64 (q : Nat)], .slice ao len cap, .tuple #[.slice (some ⟨br, off, none⟩) mr cr, .int .i64 (q : Nat)], .slice (some ⟨br, off, none⟩) mr cr, .int .i64 (q : Nat), .int .i64 (q : Nat), .slice ao len cap, .int .i64 (len : Nat), .bool false, .bool false, .slice (some ⟨br, off, none⟩) mr cr, .int .i64 (mr : Nat), .bool (decide ((mr : Int) < 2)), .bool (decide ((mr : Int) < 2)), .tuple #[.int .u64 (sz : Nat), .slice xn (l0 - k0) cn, .bool true], .slice (some ⟨br, off, none⟩) mr cr, .pointer (some ⟨br, off, none⟩), .slice a0 l0 c0, .tuple #[.int .u64 (sz : Nat), .slice xn (l0 - k0) cn, .bool true], .int .u64 (sz : Nat), .slice xn (l0 - k0) cn, .bool true, .bool true, .bool false, .bool false, .int .u64 (sz : Nat), .bool (decide ((255 : Int) < sz)), .bool (decide ((255 : Int) < sz)), .slice (some ⟨br, off, none⟩) mr cr, .slice (some ⟨br, off, none⟩) mr cr, .int .i64 (mr : Nat), .int .i64 (M : Nat), .slice x1 (M - 1) (cr - 1), .func (.func 64) #[] #[.pointer (some ⟨Bo + 1, 0, none⟩)], args.toList.headD undef, (args.toList.drop 1).headD undef, undef, undef, undef, undef, undef, undef, undef, undef, undef, undef, undef, undef, undef, undef, undef, undef, undef, undef, undef, undef, undef], defers := [] }) ?assign ?body ?done ?stop
  case assign =>
    rintro l k args W K hV hK
    have h2 := hV.size
    obtain ⟨y, z, rfl⟩ : ∃ y z, args = #[y, z] := by
      rcases args with ⟨_ | ⟨y, _ | ⟨z, _ | _⟩⟩⟩ <;> simp at h2
      exact ⟨y, z, rfl⟩
    clear hV h2
    gi_wp2_with fail
    exact hK
  case body =>
    rintro l k args W hk ⟨⟨⟨v, hv, hrow, hne⟩, k1', k2'⟩, hB⟩ ⟨r, hrk, hcase⟩ hsW
    have hts := candS_snoc (brows.take k) r
    rw [show brows.take k ++ [r] = brows.take (k + 1) by rw [List.take_add_one, hrk]; rfl] at hts
    have hlk := hlen k
    have hlk1 := hlen (k + 1)
    cases hck : candS (brows.take k) with
    | none => exact (hne hck).elim
    | some lk =>
      rw [hck] at hts hrow hlk
      simp only [Option.getD_some] at hts hrow hlk
      rcases hcase with ⟨hu, rfl⟩ | ⟨lb, ag, c, m, hu, rfl, hm, hrd⟩
      · rw [hu] at hts
        have hN : Hid (candS brows = none) := candS_stop hts
        have d1 := k1'.cell
        have d2 := k2'.cell
        have f1 := k1'.frozen
        have f2 := k2'.frozen
        simp only [List.toList_toArray, List.headD_cons, List.drop_succ_cons, List.drop_zero]
        clear hts hrk hu hlk hlk1 hck hne hlen hgives
        gi_wp2_with fail
        exact ⟨((KeepsOthers.setCell _ _ _).trans (KeepsOthers.setCell _ _ _)).from _, ⟨⟨rfl, hN.out⟩, (k1'.set _).other (by omega) _, (k2'.other (by omega) _).set _⟩, (hB.setCell (p := ⟨w.heap.size, 0, none⟩) (Nat.le_refl _) _).setCell (p := ⟨w.heap.size + 1, 0, none⟩) (by simp) _⟩
      · rw [hu] at hts
        simp only [Option.map_some] at hts
        rw [hts] at hlk1
        simp only [Option.getD_some, List.length_append] at hlk1
        have hT : Hid (candS (brows.take (k + 1)) = some (lk ++ lb)) := hts
        have hc3 := hv.cell
        simp only [List.toList_toArray, List.headD_cons, List.drop_succ_cons, List.drop_zero]
        generalize hN : lk.length = n at *
        have hnm : n + m ≤ 100000000000 := by omega
        have Hm : Hid _ := hm
        have HN : Hid _ := hN
        clear hts hrk hu hlk hlk1 hck hne hlen hgives hm hN k13 k23 hB3 bO
        gi_wp2_with (gi_at_builtin; go_loud (refine wpListIn_append_en rfl _ _ rfl w3.heap.size v n (cellsE lk) rfl hrow ag m c (cellsE lb) rfl hrd (cells_one _) (by unfold maxLen; omega) (by omega) hsW ?_); intro ag4 c4 w4 hown' hgrow; have hv4 : Boxed w4 Bo 49 v := hv.kept hgrow (hv.not_row (by decide) hrow); have hc4 := hv4.cell; have hf4 := hv4.frozen)
        have e : ((candS (brows.take (k + 1))).getD []) = lk ++ lb := by rw [hT.out]; rfl
        have hne1 : w.heap.size ≠ Bo := by omega
        have hne2 : w.heap.size + 1 ≠ Bo := by omega
        have hB4 := hB.grown hgrow hB.size (fun k hk => by have := (hrow.lt k hk).1; omega)
        rw [← cells_app] at hown'
        refine ⟨((keeps_row hrow hgrow).trans (KeepsOthers.setCell _ _ _)).from _, (keep_row hrow hsW hgrow).trans (KeepBox.set _ _),
          ⟨⟨_, hv4.set _, ?_, by rw [hT.out]; simp⟩,
            (k1'.kept hgrow (k1'.not_row (by decide) hrow)).other hne1 _, (k2'.kept hgrow (k2'.not_row (by decide) hrow)).other hne2 _⟩, hB4.setCell (p := ⟨Bo, 0, none⟩) (by show _ ≤ Bo; omega) _⟩
        rw [e, List.length_append, HN.out, ← Hm.out]
        exact hown'.kept (grownBy_setCell' w4 Bo _) (.inr (hv4.not_row (by decide) hown').symm)
  case done =>
    rintro D W hDD ⟨⟨⟨v, hv, hrow, hne⟩, k1', k2'⟩, hB⟩ hK
    have hlb := hlen brows.length
    rw [List.take_of_length_le (Nat.le_refl _)] at hrow hne hlb
    clear hlen hgives k13 k23 hB3 bO
    obtain ⟨l, hcl⟩ : ∃ l, candS brows = some l := by
      cases hcs : candS brows with
      | none => exact (hne hcs).elim
      | some l => exact ⟨l, rfl⟩
    rw [hcl] at hrow hlb
    simp only [Option.getD_some] at hrow hlb
    have hD4 : Hid (decL zs = if (encR l sz).2 = 0 ∧ (encR l sz).1 = zs then (l, 0) else ([], 2)) := by show _ = _; rw [hD3.out, hcl]
    have hu := candS_u64 brows HT1.out l hcl
    clear hcl hne hD3
    obtain ⟨av, cv, rfl⟩ := own2_slice hrow
    have pe := encode_any (ReadsE.own hrow) (fun e he => (hu e he).1) (fun e he => by have := (hu e he).2; omega) hlb (sz : Nat) sz (.inl rfl) (by omega)
    have c0 := hv.cell
    have wsz : IntKind.i64.wrap (sz : Int) = sz := by rw [IntKind.wrap_i64]; omega
    have Hu : Hid _ := hu
    generalize hL : l.length = L at *
    have HL : Hid _ := hL
    clear hu hL
    gi_wp2_with fail
    refine ⟨trivial, (callsIn_wide.2 pe).mono ?_⟩
    rintro e W4 ⟨ag, c, m, rfl, hm, hag, hG4⟩
    have k14 : Boxed W4 w.heap.size 49 (.slice none 0 0) := cells_later k1' hG4
    have k24 : Boxed W4 (w.heap.size + 1) 31 (.int .i64 0) := cells_later k2' hG4
    have hv4 : Boxed W4 Bo 49 (.slice av L cv) := cells_later hv hG4
    have hrow4 := own2_later hrow hG4 (Nat.le_refl _)
    have hB4 := hB.trans (hG4.mono hB.size)
    have hK4 := (grow_others hG4).same D _ hK rfl
    have c04 := hv4.cell
    have c14 := k14.cell
    have c24 := k24.cell
    have f14 := k14.frozen
    have f24 := k24.frozen
    obtain ⟨q1, q2, q3⟩ := Hbad.out W4 k14 k24 hB4
    have hKb := ((KeepsOthers.setCell W4 ⟨w.heap.size, 0, none⟩ (.slice none 0 0)).trans (KeepsOthers.setCell _ ⟨w.heap.size + 1, 0, none⟩ (.int .i64 2))).same D _ hK4 rfl
    have gb := grownBy_putObj' ((W4.setCell ⟨w.heap.size, 0, none⟩ (.slice none 0 0)).setCell ⟨w.heap.size + 1, 0, none⟩ (.int .i64 2)) D (.deferred none)
    have hne1 : w.heap.size ≠ D := by omega
    have hne2 : w.heap.size + 1 ≠ D := by omega
    clear pe hG4 hK hv hrow k1' k2' hB c0
    by_cases hz : (encR l sz).2 = 0
    case neg =>
      have hE : Hid (decL zs = ([], 2)) := by show _ = _; rw [hD4.out, if_neg (fun hh => hz hh.1)]
      generalize (encR l sz).2 = ec at *
      have hzi : ¬ (ec : Int) = 0 := by omega
      have hzi2 : ((ec : Int) != 0) = true := by rw [bne_iff_ne]; omega
      clear hz hm hD4
      gi_wp2_with fail
      refine ⟨trivial, ?_⟩
      gi_wp2_with fail
      refine ⟨by simp, .inl ⟨_, _, rfl, run_takeDeferred hKb, ?_⟩⟩
      refine ⟨_, res_cells2 rfl _ _ _ rfl (load_ents (q1.kept gb (by simpa using hne1))) rfl (load_errno (q2.kept gb (by simpa using hne2))), ?_⟩
      rw [hE.out]
      exact DecOut.bad (q3.grown gb q3.size (fun k e => by cases e; omega))
    have h1 := enc_ok.1 hz
    have he := enc_is h1
    have hby : isBytes (runL l sz) := recs_bytes _ (run_rows (run_ok h1 (by rw [HL.out]; omega)))
    rw [hz] at *
    rw [he] at hag hm
    simp only at hag hm
    have hE0 : Hid (decL zs = if runL l sz = zs then (l, 0) else ([], 2)) := by
      show _ = _
      rw [hD4.out, he]
      simp
    generalize runL l sz = rb at *
    have pq := equal_any ag m c rb ao len cap zs W4 (Reads.own hag) (h.later hB4 (Nat.le_refl _)) hby h8
    clear he hm hD4 h1 hz
    gi_wp2_with fail
    refine ⟨trivial, (callsIn_wide.2 pq).mono ?_⟩
    rintro e W5 ⟨rfl, rfl⟩
    clear pq
    by_cases hq : rb = zs
    case neg =>
      have hE : Hid (decL zs = ([], 2)) := by show _ = _; rw [hE0.out, if_neg hq]
      have hqd : decide (rb = zs) = false := by simp [hq]
      clear hq hE0
      gi_wp2_with fail
      refine ⟨by simp, .inl ⟨_, _, rfl, run_takeDeferred hKb, ?_⟩⟩
      refine ⟨_, res_cells2 rfl _ _ _ rfl (load_ents (q1.kept gb (by simpa using hne1))) rfl (load_errno (q2.kept gb (by simpa using hne2))), ?_⟩
      rw [hE.out]
      exact DecOut.bad (q3.grown gb q3.size (fun k e => by cases e; omega))
    have hE : Hid (decL zs = (l, 0)) := by show _ = _; rw [hE0.out, if_pos hq]
    have hqd : decide (rb = zs) = true := by simp [hq]
    clear hq hE0 q1 q2 q3 hKb gb
    have q1 : Boxed ((W5.setCell ⟨w.heap.size, 0, none⟩ (.slice av L cv)).setCell ⟨w.heap.size + 1, 0, none⟩ (.int .i64 0)) w.heap.size 49 (.slice av L cv) := (k14.set _).other (by omega) _
    have q2 : Boxed ((W5.setCell ⟨w.heap.size, 0, none⟩ (.slice av L cv)).setCell ⟨w.heap.size + 1, 0, none⟩ (.int .i64 0)) (w.heap.size + 1) 31 (.int .i64 0) := (k24.other (by omega) _).set _
    have qo : KeepsOthers W5 ((W5.setCell ⟨w.heap.size, 0, none⟩ (.slice av L cv)).setCell ⟨w.heap.size + 1, 0, none⟩ (.int .i64 0)) := (KeepsOthers.setCell _ _ _).trans (KeepsOthers.setCell _ _ _)
    have qb : Below w.heap.size w ((W5.setCell ⟨w.heap.size, 0, none⟩ (.slice av L cv)).setCell ⟨w.heap.size + 1, 0, none⟩ (.int .i64 0)) := (hB4.setCell (p := ⟨w.heap.size, 0, none⟩) (Nat.le_refl _) _).setCell (p := ⟨w.heap.size + 1, 0, none⟩) (by simp) _
    have qr : ((W5.setCell ⟨w.heap.size, 0, none⟩ (.slice av L cv)).setCell ⟨w.heap.size + 1, 0, none⟩ (.int .i64 0)).ownsRow w3.heap.size 64 2 (.slice av L cv) L (cellsE l) := by
      have r1 := hrow4.kept (grownBy_setCell' W5 w.heap.size (.slice av L cv)) (.inr (k14.not_row (by decide) hrow4).symm)
      have k3 := k24.other (show w.heap.size + 1 ≠ w.heap.size by omega) (.slice av L cv)
      exact r1.kept (grownBy_setCell' _ (w.heap.size + 1) (.int .i64 0)) (.inr (k3.not_row (by decide) r1).symm)
    have hKD := qo.same D _ hK4 rfl
    clear hK4 hv4 hrow4 k14 k24 hB4
    gi_wp2_with fail
    refine ⟨by simp, .inl ⟨_, _, rfl, run_takeDeferred hKD, ?_⟩⟩
    have g1 := grownBy_putObj' ((W5.setCell ⟨w.heap.size, 0, none⟩ (.slice av L cv)).setCell ⟨w.heap.size + 1, 0, none⟩ (.int .i64 0)) D (.deferred none)
    refine ⟨_, res_cells2 rfl _ _ _ rfl (load_ents (q1.kept g1 (by simpa using hne1))) rfl (load_errno (q2.kept g1 (by simpa using hne2))), ?_⟩
    rw [hE.out]
    exact ⟨av, cv, L, rfl, HL.out.symm, own2_mono (ownsRow_putObj qr _ hKD rfl) (by omega), qb.grown g1 qb.size (fun k e => by cases e; omega)⟩
  case stop =>
    rintro D c W hDD ⟨⟨⟨rfl, hN⟩, k1', k2'⟩, hB⟩ hK
    have hE : Hid (decL zs = ([], 2)) := by show _ = _; rw [hD3.out, hN]
    have gb := grownBy_putObj' W D (.deferred none)
    gi_wp2_with fail
    refine ⟨by simp, .inl ⟨_, _, rfl, run_takeDeferred hK, ?_⟩⟩
    refine ⟨_, res_cells2 rfl _ _ _ rfl (load_ents (k1'.kept gb (by simp; omega))) rfl (load_errno (k2'.kept gb (by simp; omega))), ?_⟩
    rw [hE.out]
    exact DecOut.bad (hB.grown gb hB.size (fun k e => by cases e; omega))
#print axioms decode_any
end Go.Proofs.Ytknfjonaepggnaa

namespace Go.Proofs.Ytknfjonaepggnaa
open Go.RowKit
set_option linter.unusedVariables false
set_option linter.unusedSimpArgs false
theorem law_run {es : List En} {s : Nat} (hf : es.length ≤ 200) (hm : mayE es = 0) (h1 : 1 ≤ s) (h2 : s ≤ 255) : encR es s = (runL es s, 0) ∧ (runL es s).length ≤ 61900 ∧ isBytes (runL es s) ∧ decL (runL es s) = (es, 0) := by
  have hok := run_ok (l := es) (s := s) ⟨h1, h2, hm⟩ (by omega)
  have hmax := run_len_le hok
  exact ⟨enc_is ⟨h1, h2, hm⟩, by omega, recs_bytes _ (run_rows hok), dec_back ⟨h1, h2, hm⟩ (by omega)⟩
theorem run_inj {es : List En} {s t : Nat} (hf : es.length ≤ 200) (hm : mayE es = 0) (h1 : 1 ≤ s) (h2 : s ≤ 255) (k1 : 1 ≤ t) (k2 : t ≤ 255) (h : runL es s = runL es t) : s = t :=
  (run_free (X := []) (Y := []) (run_ok ⟨h1, h2, hm⟩ (by omega)) (run_ok ⟨k1, k2, hm⟩ (by omega)) (by rw [h])).2.1
theorem u8_nat {a : Int} (h : (Lit.int .u8 a).wf = true) : ∃ n : Nat, a = n ∧ n ≤ 255 := by
  have := bounds_u8 h
  obtain ⟨n, rfl⟩ := Int.eq_ofNat_of_zero_le this.1
  exact ⟨n, rfl, by omega⟩
end Go.Proofs.Ytknfjonaepggnaa
