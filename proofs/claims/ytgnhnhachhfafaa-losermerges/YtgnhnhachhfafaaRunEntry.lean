/- The landed run.number, run.entry. -/
import Derived.Test.YtgnhnhachhfafaaRef09Take
import Derived.Test.YtgnhnhachhfafaaNumGet
import Derived.Test.YtgnhnhachhfafaaRunEnc
namespace Go.Proofs.Ytgnhnhachhfafaa
open Go.RowKit
set_option linter.unusedVariables false
set_option linter.unusedSimpArgs false

theorem get_len_le {zs : List Int} (h8 : isBytes zs) {n k f : Nat} (h : getL zs = (n, k, f)) : k ≤ zs.length := by
  by_cases hf : f = 0
  · subst hf
    have := get_ok zs h8 n k h
    omega
  · have := scan_err zs 0 0 n k f h
    omega

/-- What number tells. -/
def NumOut (w : World) (ao : Option Addr) (cap : Nat) (zs : List Int) (len : Nat) (e : Ending) (w' : World) : Prop :=
  ∃ ao' cap', e = .returned (.tuple #[.int .u64 ((getL zs).1 : Nat), .slice ao' (len - (getL zs).2.1) cap', .bool (decide ((getL zs).2.2 = 0))]) ∧ Grow w w' ∧ ∀ W, Reads W ao len cap (zs.map (.int .u8)) → Reads W ao' (len - (getL zs).2.1) cap' ((zs.drop (getL zs).2.1).map (.int .u8))

set_option maxRecDepth 100000 in
set_option maxHeartbeats 2000000 in
theorem number_any {w : World} {ao : Option Addr} {len cap : Nat} {zs : List Int} (h : Reads w ao len cap (zs.map (.int .u8))) (h8 : isBytes zs) (hl : len ≤ 1000000000000) :
    Calls Try.prog 45 #[.slice ao len cap] w fun e w' => NumOut w ao cap zs len e w' := by
  have hlx : zs.length = len := by simpa using h.length
  have hle := h.le
  unfold NumOut
  rcases hg : getL zs with ⟨n, k, f⟩
  have hk := get_len_le h8 hg
  have p := get_any ao len cap zs w h h8
  rw [hg] at p
  unfold getV at p
  obtain ⟨x, hs, hd⟩ := Reads.from (P := Try.prog) Try.underlying33 (size_of Try.infoByte) (ao := ao) (len := len) (cap := cap) k (by omega)
  have hki : (k : Int) ≤ len := by omega
  have Hd : Hid (∀ W, Reads W ao len cap (zs.map (.int .u8)) → Reads W x (len - k) (cap - k) ((zs.drop k).map (.int .u8))) := fun W hW => by
    have := hd W _ hW
    rw [List.map_drop]; exact this
  clear hd hg hlx
  go_enter Try.func45, Try.ntmps45
  go_wp2_with fail
  refine p.mono ?_
  rintro e wa ⟨rfl, rfl⟩
  clear p
  by_cases hf : f = 0
  · subst hf
    go_wp2_with fail
    go_quiet (fail)
    go_wp2
    go_ret3
    exact ⟨x, _, rfl, below_drewN (Below.refl _ _) _, by simpa [List.map_drop] using Hd.out⟩
  · have hfi : ¬ (f : Int) = 0 := by omega
    have hfi2 : ((f : Int) == 0) = false := by rw [beq_eq_false_iff_ne]; omega
    go_wp2_with fail
    go_quiet (fail)
    go_wp2
    go_ret3
    exact ⟨x, cap - k, by simp [hf], below_drewN (Below.refl _ _) _, by simpa [List.map_drop] using Hd.out⟩
#print axioms number_any

/-! An entry, of at most 255 bytes. -/
def takeS (was : Wd) (b : List Int) : Option (En × Nat) := match takeE was b with
  | none => none
  | some (e, n) => if e.1.length ≤ 255 then some (e, n) else none
theorem takeS_bad1 {was : Wd} {b : List Int} {n i f : Nat} (g1 : getL b = (n, i, f)) (h : f ≠ 0 ∨ was.length < n) : takeS was b = none := by
  unfold takeS; rw [take_bad1 g1 h]
theorem takeS_bad3 {was : Wd} {b : List Int} {n i m k c j f : Nat} (g1 : getL b = (n, i, 0)) (h1 : n ≤ was.length) (g2 : getL (b.drop i) = (m, k, 0)) (h2 : m ≤ b.length - (i + k)) (g3 : getL (b.drop (i + k + m)) = (c, j, f)) (h : f ≠ 0) : takeS was b = none := by
  unfold takeS; rw [take_bad3 g1 h1 g2 h2 g3 h]
theorem takeS_good {was : Wd} {b : List Int} {n i m k c j : Nat} (g1 : getL b = (n, i, 0)) (h1 : n ≤ was.length) (g2 : getL (b.drop i) = (m, k, 0)) (h2 : m ≤ b.length - (i + k)) (g3 : getL (b.drop (i + k + m)) = (c, j, 0)) (h : n + m ≤ 255) :
    takeS was b = some ((was.take n ++ wordI ((b.drop (i + k)).take m), c), i + k + m + j) := by
  unfold takeS; rw [take_good g1 h1 g2 h2 g3]
  simp only
  rw [if_pos]
  simp [wordI]; omega
theorem takeS_bad2 {was : Wd} {b : List Int} {n i m k f : Nat} (g1 : getL b = (n, i, 0)) (h1 : n ≤ was.length) (g2 : getL (b.drop i) = (m, k, f)) (h : f ≠ 0 ∨ b.length - (i + k) < m ∨ 255 < n + m) : takeS was b = none := by
  by_cases hb : f ≠ 0 ∨ b.length - (i + k) < m
  · unfold takeS; rw [take_bad2 g1 h1 g2 hb]
  · have hf : f = 0 := by omega
    subst hf
    have hm : m ≤ b.length - (i + k) := by omega
    have hn : 255 < n + m := by omega
    rcases g3 : getL (b.drop (i + k + m)) with ⟨c, j, f⟩
    by_cases hf : f = 0
    · subst hf
      unfold takeS
      rw [take_good g1 h1 g2 hm g3]
      simp only
      rw [if_neg]
      simp [wordI]; omega
    · exact takeS_bad3 g1 h1 g2 hm g3 hf

theorem slice_h_u64 {P : Program} {t e : TypeId} (ht : P.underlying t = some (.slice e)) (W : World) (ao : Option Addr) (len cap h : Nat) (hh : h ≤ cap) : (Instr.slice t (.slice ao len cap) none (some (.int .u64 (h : Int))) none).run P W = (Instr.slice t (.slice ao len cap) none (some (.int .i64 (h : Int))) none).run P W := by
  have ht' : P.underlying t = some (.slice (P.elem t)) := by simp [Program.elem, ht]
  rw [run_slice_h (P := P) W t ao len cap ht' .u64 h (by omega) (by omega), run_slice_h (P := P) W t ao len cap ht' .i64 h (by omega) (by omega)]
theorem slice_l_u64 {P : Program} {t e : TypeId} (ht : P.underlying t = some (.slice e)) (W : World) (ao : Option Addr) (len cap l : Nat) (hl : l ≤ len) : (Instr.slice t (.slice ao len cap) (some (.int .u64 (l : Int))) none none).run P W = (Instr.slice t (.slice ao len cap) (some (.int .i64 (l : Int))) none none).run P W := by
  have ht' : P.underlying t = some (.slice (P.elem t)) := by simp [Program.elem, ht]
  rw [run_slice_l (P := P) W t ao len cap ht' .u64 l (by omega) (by omega), run_slice_l (P := P) W t ao len cap ht' .i64 l (by omega) (by omega)]
theorem res_cell_tmp2 {fn : Func} {p r q : Tmp} {ty : TypeId} (h : fn.results = #[.cell q ty, .tmp p, .tmp r]) (tmps : Array Value) (P : Program) (w : World) {x : Addr} {v : Value} (hx : tmps.getD q undef = .pointer (some x)) (hv : (loadVar ty x).run P w = .ok v w) :
    (results fn tmps).run P w = .ok (.tuple #[v, tmps.getD p undef, tmps.getD r undef]) w := by
  have hx' : tmps[q]?.getD undef = .pointer (some x) := by simpa using hx
  simp only [results, h]
  simp [Sem.run_bind, Result.andThen, hx', asAddr, hv]
/-- What entry tells. -/
def EntOut (w : World) (ao : Option Addr) (cap : Nat) (len : Nat) (zs : List Int) (r : Option (En × Nat)) (e : Ending) (w' : World) : Prop := Below w.heap.size w w' ∧ match r with
  | none => ∃ (k : Wd) (c : Nat) (v : Value), e = .returned (.tuple #[.agg #[strV k, .int .u64 c], v, .bool false])
  | some (en, n) => ∃ ao' cap', e = .returned (.tuple #[.agg #[strV en.1, .int .u64 (en.2 : Nat)], .slice ao' (len - n) cap', .bool true]) ∧ n ≤ len ∧ ∀ W, Reads W ao len cap (zs.map (.int .u8)) → Reads W ao' (len - n) cap' ((zs.drop n).map (.int .u8))

set_option maxRecDepth 100000 in
set_option maxHeartbeats 4000000 in
theorem entry_any {w : World} {was : Wd} {ao : Option Addr} {len cap : Nat} {zs : List Int} (hw : was.length ≤ 255) (h : Reads w ao len cap (zs.map (.int .u8))) (h8 : isBytes zs) (hl : len ≤ 1000000000000) :
    Calls Try.prog 64 #[strV was, .slice ao len cap] w fun e w' => EntOut w ao cap len zs (takeS was zs) e w' := by
  have hlx : zs.length = len := by simpa using h.length
  have Hlx : Hid _ := hlx
  have d8 : ∀ j, isBytes (zs.drop j) := fun j z hz => h8 z (List.mem_of_mem_drop hz)
  obtain ⟨W0, hW0⟩ : ∃ W0, W0 = w.alloc (.cells #[.string ⟨#[]⟩, .int .u64 0] 44) := ⟨_, rfl⟩
  have hB0 : Below w.heap.size w W0 := by rw [hW0]; exact (Below.refl _ _).alloc (Nat.le_refl _) _
  have k0 : W0.heap[w.heap.size]? = some (.cells #[.string ⟨#[]⟩, .int .u64 0] 44 (0, 0)) := by rw [hW0]; exact Array.getElem?_push_size
  have h0 := h.later hB0 (Nat.le_refl _)
  have p1 := number_any h0 h8 hl
  unfold NumOut at p1
  rcases g1 : getL zs with ⟨n, i, f⟩
  have G1 : Hid _ := g1
  have hi := get_len_le h8 g1
  rw [g1] at p1
  have HW0 : Hid _ := hW0
  clear hW0 g1 hlx
  go_enter Try.func64, Try.ntmps64
  go_wp2_with fail
  rw [← HW0.out]
  refine p1.mono ?_
  rintro e w1 ⟨x1, c1, rfl, hG1, hd1⟩
  have hB1 := hB0.trans (hG1.mono hB0.size)
  have k1 := cells_later k0 hG1
  have hBz := below_set2 (b := w.heap.size) hB1 (Nat.le_refl _) (.string ⟨#[]⟩) (.int .u64 0)
  have hldz := load_en (blk2_set k1 (.string ⟨#[]⟩) (.int .u64 0))
  have cz0 := blk2 k1
  have Hd1 : Hid _ := hd1
  clear p1 k0 h0 hd1
  by_cases hf : f = 0
  case neg =>
    have hE : Hid (takeS was zs = none) := takeS_bad1 G1.out (.inl hf)
    have hfi : decide (f = 0) = false := by simp [hf]
    clear hf
    go_wp2
    refine bodyPost_ret (res_cell_tmp2 rfl _ _ _ (x := ⟨w.heap.size, 0, none⟩) rfl hldz) rfl ?_
    rw [hE.out]
    exact ⟨hBz, [], 0, _, rfl⟩
  subst hf
  by_cases hn : n ≤ was.length
  case neg =>
    have hE : Hid (takeS was zs = none) := takeS_bad1 G1.out (.inr (by omega))
    have hni : (was.length : Int) < n := by omega
    clear hn
    go_wp2
    refine bodyPost_ret (res_cell_tmp2 rfl _ _ _ (x := ⟨w.heap.size, 0, none⟩) rfl hldz) rfl ?_
    rw [hE.out]
    exact ⟨hBz, [], 0, _, rfl⟩
  have hni : ¬ (was.length : Int) < n := by omega
  have hr1 := Hd1.out _ (h.later hB1 (Nat.le_refl _))
  have p2 := number_any hr1 (d8 i) (by omega)
  unfold NumOut at p2
  rcases g2 : getL (zs.drop i) with ⟨m, k, f⟩
  have G2 : Hid _ := g2
  have hk := get_len_le (d8 i) g2
  rw [List.length_drop, Hlx.out] at hk
  rw [g2] at p2
  clear g2 hr1
  go_wp2_with fail
  refine p2.mono ?_
  rintro e w2 ⟨x2, c2, rfl, hG2, hd2⟩
  have hB2 := hB1.trans (hG2.mono hB1.size)
  have k2 := cells_later k1 hG2
  have hBz := below_set2 (b := w.heap.size) hB2 (Nat.le_refl _) (.string ⟨#[]⟩) (.int .u64 0)
  have hldz := load_en (blk2_set k2 (.string ⟨#[]⟩) (.int .u64 0))
  have cz0 := blk2 k2
  obtain ⟨A, hA⟩ : ∃ A, A = i + k := ⟨_, rfl⟩
  have e1 : len - i - k = len - A := by omega
  simp only [List.drop_drop, ← hA, e1] at hd2 ⊢
  have Hd2 : Hid _ := hd2
  clear hd2
  have HA : Hid _ := hA
  clear p2 k1 e1
  by_cases hf : f = 0
  case neg =>
    have hE : Hid (takeS was zs = none) := takeS_bad2 G1.out hn G2.out (.inl hf)
    have hfi : decide (f = 0) = false := by simp [hf]
    clear hf
    go_wp2
    refine bodyPost_ret (res_cell_tmp2 rfl _ _ _ (x := ⟨w.heap.size, 0, none⟩) rfl hldz) rfl ?_
    rw [hE.out]
    exact ⟨hBz, [], 0, _, rfl⟩
  subst hf
  have hil : i ≤ len := by rw [← Hlx.out]; exact hi
  have hkA : A ≤ len := by omega
  have Hk : Hid _ := hk
  have Hi : Hid _ := hi
  have Hn : Hid _ := hn
  obtain ⟨q, hq⟩ : ∃ q, q = len - A := ⟨_, rfl⟩
  rw [← hq] at Hd2 ⊢
  have HD : Hid (∀ W, Reads W ao len cap (zs.map (.int .u8)) → Reads W x2 q c2 ((zs.drop A).map (.int .u8))) := fun W hW => Hd2.out W (Hd1.out W hW)
  have HG : Hid (∀ W, Grow w2 W → Reads W ao len cap (zs.map (.int .u8))) := fun W hW => h.later (hB2.trans (hW.mono hB2.size)) (Nat.le_refl _)
  clear Hd1 Hd2
  obtain ⟨p, hp⟩ : ∃ p, p = 255 - n := ⟨_, rfl⟩
  have hn9 : (n : Int) ≤ 255 := by omega
  have hw255 : IntKind.i64.wrap (255 - (n : Int)) = (p : Int) := by simp [IntKind.wrap, IntKind.bits, IntKind.signed]; omega
  have hwn : IntKind.i64.wrap (n : Int) = n := by rw [IntKind.wrap_i64]; omega
  have hpl : p ≤ 255 := by omega
  have hql : q ≤ 1000000000000 := by omega
  have wp' : IntKind.u64.wrap (p : Int) = p := by rw [IntKind.wrap_u64]; omega
  have wq' : IntKind.u64.wrap (q : Int) = q := by rw [IntKind.wrap_u64]; omega
  have Hq : Hid _ := hq
  have Hp : Hid _ := hp
  clear hk hi hq hp hA
  by_cases hm : m ≤ p ∧ m ≤ q
  case neg =>
    have hE : Hid (takeS was zs = none) := takeS_bad2 G1.out hn G2.out (.inr (by have := Hq.out; have := Hp.out; have := HA.out; have := Hlx.out; omega))
    have hsp : ((p : Int) ≤ q ∧ (p : Int) < m) ∨ ((q : Int) < p ∧ (q : Int) < m) := by omega
    clear hm hn
    rcases hsp with ⟨j1, j2⟩ | ⟨j1, j2⟩
    all_goals go_wp2
    all_goals refine bodyPost_ret (res_cell_tmp2 rfl _ _ _ (x := ⟨w.heap.size, 0, none⟩) rfl hldz) rfl ?_
    all_goals rw [hE.out]
    all_goals exact ⟨hBz, [], 0, _, rfl⟩
  obtain ⟨hm1, hm2⟩ := hm
  have hr2 := HD.out _ (HG.out _ (Below.refl _ _))
  have hqc := hr2.le
  obtain ⟨x4, hs4, hd4⟩ := Reads.to (P := Try.prog) Try.underlying33 (size_of Try.infoByte) (ao := x2) (len := q) (cap := c2) hqc m hm2
  have hmid : ∀ W, Below w2.heap.size w2 W → (convert 33 9 (.slice x4 m c2)).run Try.prog W = .ok (strV (wordI ((zs.drop A).take m))) W := fun W hW => by
    have hx := hd4 W _ (HD.out W (HG.out W hW))
    rw [← List.map_take] at hx
    exact conv_of Try.underlying33 Try.underlying5 Try.underlying9 hx
  have hstr : ∀ W, (Instr.slice 9 (strV was) none (some (.int .u64 (n : Int))) none).run Try.prog W = .ok (strV (was.take n)) W := fun W => by
    unfold strV
    rw [run_slice_string_h W 9 _ Try.underlying9 .u64 (n : Int) (by omega) (by simp [ByteArray.size]; omega), Int.toNat_natCast]
    congr 2
    apply ByteArray.ext
    simp
  have hcat : ∀ W, (Op.stringOp .add ⟨(was.take n).toArray⟩ ⟨(wordI ((zs.drop A).take m)).toArray⟩).run Try.prog W = .ok (strV (was.take n ++ wordI ((zs.drop A).take m))) W := fun W => by
    rw [run_string_add_sum W _ _ (by simp [ByteArray.size, wordI]; omega), ByteArray.mk_append_mk]
  obtain ⟨x5, hs5, hd5⟩ := Reads.from (P := Try.prog) Try.underlying33 (size_of Try.infoByte) (ao := x2) (len := q) (cap := c2) m hm2
  have hs4' : ∀ W, (Instr.slice 33 (.slice x2 q c2) none (some (.int .u64 (m : Int))) none).run Try.prog W = .ok (.slice x4 m c2) W := fun W => (slice_h_u64 Try.underlying33 W x2 q c2 m (by omega)).trans (hs4 W)
  have hs5' : ∀ W, (Instr.slice 33 (.slice x2 q c2) (some (.int .u64 (m : Int))) none none).run Try.prog W = .ok (.slice x5 (q - m) (c2 - m)) W := fun W => (slice_l_u64 Try.underlying33 W x2 q c2 m (by omega)).trans (hs5 W)
  have Hd5 : Hid (∀ W, Reads W ao len cap (zs.map (.int .u8)) → Reads W x5 (q - m) (c2 - m) ((zs.drop (A + m)).map (.int .u8))) := fun W hW => by
    have hx := hd5 W _ (HD.out W hW)
    rw [← List.map_drop, List.drop_drop] at hx
    exact hx
  rcases g3 : getL (zs.drop (A + m)) with ⟨c, j, f⟩
  have G3 : Hid _ := g3
  have hj := get_len_le (d8 (A + m)) g3
  rw [List.length_drop, Hlx.out] at hj
  have Hj : Hid _ := hj
  have hm1' : (m : Int) ≤ p := by omega
  have hm2' : (m : Int) ≤ q := by omega
  have hsp : ((p : Int) ≤ q ∧ ¬ (p : Int) < m) ∨ ((q : Int) < p ∧ ¬ (q : Int) < m) := by omega
  generalize hwd : wordI ((zs.drop A).take m) = wd at hmid hcat
  have Hwd : Hid _ := hwd
  have p3 : ∀ W, Grow w2 W → Calls Try.prog 45 #[.slice x5 (q - m) (c2 - m)] W fun e w' => ∃ x6 c6, e = .returned (.tuple #[.int .u64 (c : Nat), .slice x6 (q - m - j) c6, .bool (decide (f = 0))]) ∧ Grow W w' ∧ ∀ W', Reads W' ao len cap (zs.map (.int .u8)) → Reads W' x6 (q - m - j) c6 ((zs.drop (A + m + j)).map (.int .u8)) := fun W hW => by
    have := number_any (Hd5.out W (HG.out W hW)) (d8 (A + m)) (by omega)
    unfold NumOut at this
    rw [g3] at this
    refine this.mono ?_
    rintro e w' ⟨x6, c6, rfl, hG, hd⟩
    refine ⟨x6, c6, rfl, hG, fun W' hW' => ?_⟩
    have := hd W' (Hd5.out W' hW')
    simp only [List.drop_drop] at this
    exact this
  clear g3 hj hd5 hd4 hr2 hs4 hs5 hwd hn hql hpl hldz cz0 hBz Hd5
  rcases hsp with ⟨j1, j2⟩ | ⟨j1, j2⟩
  all_goals
    go_wp2_with fail
    go_region_held (fun W => Below w2.heap.size w2 W) (first | exact Below.refl _ _ | exact Below.drew (Below.refl _ _) | assumption | exact Below.drew (by assumption)) (fail)
    go_wp2_with fail
    refine (p3 _ (Below.drew (Below.refl _ _))).mono ?_
    rintro e w3 ⟨x6, c6, rfl, hG3, hd6⟩
    have hG3' : Grow w2 w3 := (Below.drew (Below.refl w2.heap.size w2)).trans hG3
    have hB3 := hB2.trans (hG3'.mono hB2.size)
    have k3 := cells_later k2 hG3'
    have cz0 := blk2 k3
    have hBz := below_set2 (b := w.heap.size) hB3 (Nat.le_refl _) (strV (was.take n ++ wd)) (.int .u64 c)
    have hldz := load_en (blk2_set k3 (strV (was.take n ++ wd)) (.int .u64 c))
    clear p3 hmid hcat hstr hs4' hs5'
    by_cases hf : f = 0
    · have hE : Hid (takeS was zs = some ((was.take n ++ wd, c), A + m + j)) := by
        have hg := takeS_good G1.out Hn.out G2.out (by rw [Hlx.out, ← HA.out, ← Hq.out]; exact hm2) (by rw [← HA.out, G3.out, hf]) (by have := Hp.out; omega)
        rw [← HA.out, Hwd.out] at hg
        exact hg
      have hR : Hid (q - m - j = len - (A + m + j) ∧ A + m + j ≤ len ∧ ∀ W', Reads W' ao len cap (zs.map (.int .u8)) → Reads W' x6 (q - m - j) c6 ((zs.drop (A + m + j)).map (.int .u8))) := ⟨by have := Hq.out; omega, by have := Hj.out; have := Hq.out; omega, hd6⟩
      have hfi : decide (f = 0) = true := by simp [hf]
      clear hd6 hf
      go_wp2
      refine bodyPost_ret (res_cell_tmp2 rfl _ _ _ (x := ⟨w.heap.size, 0, none⟩) rfl hldz) rfl ?_
      rw [hE.out]
      refine ⟨hBz, x6, c6, ?_, hR.out.2.1, ?_⟩
      · simp [hR.out.1]
      · have := hR.out.2.2
        rw [hR.out.1] at this
        exact this
    · have hE : Hid (takeS was zs = none) := takeS_bad3 G1.out Hn.out G2.out (by rw [Hlx.out, ← HA.out, ← Hq.out]; exact hm2) (by rw [← HA.out]; exact G3.out) hf
      have hfi : decide (f = 0) = false := by simp [hf]
      clear hd6 hf
      go_wp2
      refine bodyPost_ret (res_cell_tmp2 rfl _ _ _ (x := ⟨w.heap.size, 0, none⟩) rfl hldz) rfl ?_
      rw [hE.out]
      exact ⟨hBz, was.take n ++ wd, c, _, rfl⟩
#print axioms entry_any
end Go.Proofs.Ytgnhnhachhfafaa
