/- The document's own leave: states left one by one, looked up by what they take. -/
import Derived.Test.YtkcledkfgmdcgaaStable
import Derived.Test.YtkcledkfgmdcgaaAppend2
import Derived.Test.YtkcledkfgmdcgaaSame14
import Derived.Deep.CutRange
import Derived.Deep.CutBlock
namespace Go.Proofs.Ytkcledkfgmdcgaa
open Go.RowKit
set_option linter.unusedVariables false
set_option linter.unusedSimpArgs false

def bytesW (L : List Wd) : Nat := (L.map List.length).sum
def headE (L : List Wd) : Bool := decide (L.head? = some [])
theorem take_drop_step {L : List Wd} {p q : Nat} (hpq : p ≤ q) {v : Wd} (h : L[q]? = some v) : (L.take (q + 1)).drop p = (L.take q).drop p ++ [v] := by
  have hq := (List.getElem?_eq_some_iff.1 h).1
  rw [List.take_add_one, h]
  exact List.drop_append_of_le_length (by rw [List.length_take]; omega)
theorem not_nil_at {L : List Wd} (hr : RiseW L) {p : Nat} {v : Wd} (h : L[p]? = some v) (hp : (if headE L = true then 1 else 0) ≤ p) : v ≠ [] := by
  intro hv
  subst hv
  by_cases h0 : p = 0
  · subst h0
    have : headE L = true := by
      unfold headE
      rw [decide_eq_true_eq, List.head?_eq_getElem?]; exact h
    rw [if_pos this] at hp
    omega
  · have hl := (List.getElem?_eq_some_iff.1 h).1
    have h1 := List.pairwise_iff_getElem.1 hr 0 p (by omega) hl (by omega)
    rw [(List.getElem?_eq_some_iff.1 h).2, less_nil] at h1
    cases h1
theorem byte_head (P : Program) (t : TypeId) (hu : P.underlying t = some .string) (c : UInt8) (u : Wd) (W : World) : (Instr.index t (strV (c :: u)) (.int .i64 0)).run P W = .ok (.int .u8 (c.toNat : Nat)) W := by
  have h : (0 : Int) < (⟨(c :: u).toArray⟩ : ByteArray).size := by
    show (0 : Int) < ((c :: u).toArray.size : Nat)
    rw [List.size_toArray, List.length_cons]; omega
  have := run_index_string (P := P) W t ⟨(c :: u).toArray⟩ .i64 0 hu
  rw [dif_pos ⟨Int.le_refl _, h⟩] at this
  exact this
theorem str_tail (c : UInt8) (u : Wd) : (⟨(c :: u).toArray⟩ : ByteArray).extract 1 (⟨(c :: u).toArray⟩ : ByteArray).size = ⟨u.toArray⟩ := by
  apply ByteArray.ext
  simp [ByteArray.size]
theorem rise_tail {c : UInt8} {On : List Wd} (h : RiseW (On.map (c :: ·))) : RiseW On := by
  unfold RiseW at h ⊢
  rw [List.pairwise_map] at h
  refine h.imp fun {a b} hab => ?_
  rw [less_cons] at hab
  simpa [UInt8.lt_irrefl] using hab
theorem bytes_app (a b : List Wd) : bytesW (a ++ b) = bytesW a + bytesW b := by simp [bytesW]
theorem bytes_tail (c : UInt8) : ∀ On : List Wd, bytesW (On.map (c :: ·)) = bytesW On + On.length
  | [] => rfl
  | a :: On => by
    have ih := bytes_tail c On
    simp only [bytesW, List.map_cons, List.sum_cons, List.length_cons] at ih ⊢
    omega
theorem bytes_part {L : List Wd} {p q : Nat} (hpq : p ≤ q) : bytesW (L.take q) = bytesW (L.take p) + bytesW ((L.take q).drop p) := by
  have : L.take q = (L.take q).take p ++ (L.take q).drop p := (List.take_append_drop _ _).symm
  have h2 : (L.take q).take p = L.take p := by rw [List.take_take, Nat.min_eq_left hpq]
  rw [h2] at this
  conv => lhs; rw [this, bytes_app]
theorem bytes_le (L : List Wd) (q : Nat) : bytesW (L.take q) ≤ bytesW L := by
  conv => rhs; rw [← List.take_append_drop q L, bytes_app]
  omega
theorem Try.infoEd : (Try.prog.info? 47).map (fun i => (i.zero, i.size, i.bytes)) = some (some (.agg #[.int .u8 0, .int .i64 0]), 2, 16) := by kernel_rfl
theorem readsE_two (W : World) (x y : Value) (t : TypeId) : ReadsE (W.alloc (.cells #[x, y] t)) (some ⟨W.heap.size, 0, none⟩) 1 1 [x, y] := reads_lit W x y t
theorem blkc {w : World} {b : Nat} {x y : Value} {t : TypeId} (h : w.heap[b]? = some (.cells #[x, y] t (0, 0))) :
    w.cell? ⟨b, 0, none⟩ = some x ∧ w.cell? ⟨b, 1, none⟩ = some y ∧ w.frozen? ⟨b, 0, none⟩ = false ∧ w.frozen? ⟨b, 1, none⟩ = false := by
  refine ⟨?_, ?_, ?_, ?_⟩ <;> simp [World.cell?, World.frozen?, h]
theorem load_rests {w : World} {b : Nat} {x y : Value} {t : TypeId} (h : w.heap[b]? = some (.cells #[x, y] t (0, 0))) : (loadVar 53 ⟨b, 0, none⟩).run Try.prog w = .ok (.agg #[x, y]) w := by
  obtain ⟨h0, h1, _⟩ := blkc h
  simp [loadVar, Try.isAgg53, Try.sizeOf53, loadCells, loadCellsFrom, go_sem, h0, h1]
theorem rests_end {fn : Func} {p q : Tmp} {ty : TypeId} (h : fn.results = #[.cell q ty, .tmp p]) (tmps : Array Value) (P : Program) (w : World) {x : Addr} {v : Value} (hx : tmps.getD q undef = .pointer (some x)) (hv : (loadVar ty x).run P w = .ok v w) :
    (results fn tmps).run P w = .ok (.tuple #[v, tmps.getD p undef]) w := by
  have hx' : tmps[q]?.getD undef = .pointer (some x) := by simpa using hx
  simp only [results, h]
  simp [Sem.run_bind, Result.andThen, hx', asAddr, hv]
/-- The words ahead of a place begin with bytes below its own. -/
def HeadsB (L : List Wd) (p : Nat) : Prop := ∀ (i : Nat) (d : UInt8) (u : Wd) (c : UInt8) (v : Wd), i < p → L[i]? = some (d :: u) → L[p]? = some (c :: v) → d < c
theorem heads_next {L : List Wd} (hr : RiseW L) {p q : Nat} {c : UInt8} {On : List Wd} (hpq : p < q) (h : HeadsB L p) (hg : (L.take q).drop p = On.map (c :: ·)) (hn : ∀ d u, L[q]? = some (d :: u) → d ≠ c) : HeadsB L q := by
  intro i d u e v hi h1 h2
  have hql := (List.getElem?_eq_some_iff.1 h2).1
  have hec := hn e v h2
  have hat : ∀ j, p ≤ j → j < q → ∃ u, L[j]? = some (c :: u) := by
    intro j hj1 hj2
    have hl : j - p < ((L.take q).drop p).length := by rw [List.length_drop, List.length_take]; omega
    have h3 : ((L.take q).drop p)[j - p]? = L[j]? := by
      rw [List.getElem?_drop, List.getElem?_take_of_lt (by omega), show p + (j - p) = j by omega]
    rw [hg] at h3 hl
    rw [List.length_map] at hl
    refine ⟨On[j - p]'hl, ?_⟩
    rw [← h3, List.getElem?_map, List.getElem?_eq_getElem hl]; rfl
  have hlt : ∀ (a b : Nat) (x y : Wd), a < b → L[a]? = some x → L[b]? = some y → lessB x y = true := by
    intro a b x y hab hx hy
    have hb := (List.getElem?_eq_some_iff.1 hy).1
    have := List.pairwise_iff_getElem.1 hr a b (by omega) hb hab
    rw [(List.getElem?_eq_some_iff.1 hx).2, (List.getElem?_eq_some_iff.1 hy).2] at this
    exact this
  have hce : c < e := by
    obtain ⟨u2, hu2⟩ := hat p (Nat.le_refl _) hpq
    have := hlt p q _ _ hpq hu2 h2
    rw [less_cons] at this
    simp only [Bool.or_eq_true, decide_eq_true_eq, Bool.and_eq_true, beq_iff_eq] at this
    rcases this with h3 | ⟨h3, _⟩
    · exact h3
    · exact absurd h3.symm hec
  by_cases hip : i < p
  · obtain ⟨u2, hu2⟩ := hat p (Nat.le_refl _) hpq
    exact UInt8.lt_trans (h i d u c u2 hip h1 hu2) hce
  · obtain ⟨u2, hu2⟩ := hat i (by omega) hi
    rw [h1] at hu2
    cases hu2
    exact hce
/-- How far leave has come: p words are behind it. -/
structure LvAt (w : World) (F : Nat → Prop) (S : List Stt) (L : List Wd) (p : Nat) (wr : World) : Prop where
  ex : ∃ (Fc : Nat → Prop) (k : Kids) (xa : Option Addr) (xm xc : Nat) (ya : Option Addr) (ym yc : Nat) (vs : List (Bool × Value)) (ws : List Value) (eg : Option Addr) (n ec : Nat),
    trieW (L.take p) = (headE L, k) ∧ LiveS (leaveK S k).1 ∧ (leaveK S k).1.length ≤ S.length + bytesW (L.take p) ∧
    XAt Fc wr xa xm xc ya ym yc (leaveK S k).1 vs ws ∧ (∀ b, F b → Fc b) ∧ (∀ b, Fc b → (F b ∨ w.heap.size + 3 ≤ b) ∧ b < wr.heap.size) ∧
    wr.heap[w.heap.size]? = some (.cells #[.slice xa xm xc, .slice ya ym yc] 53 (0, 0)) ∧
    wr.heap[w.heap.size + 1]? = some (.cells #[.slice none 0 0, .slice none 0 0] 53 (0, 0)) ∧
    wr.heap[w.heap.size + 2]? = some (.cells #[.bool (headE L), .slice eg n ec] 45 (0, 0)) ∧
    n = (leaveK S k).2.length ∧ n ≤ bytesW (L.take p) ∧
    wr.ownsRow (w.heap.size + 3) 47 2 (.slice eg n ec) n (cellsEd (zE (leaveK S k).2)) ∧
    (∀ b, (Value.slice eg n ec).ownBlock = some b → ¬ Fc b) ∧ Below w.heap.size w wr

theorem Try.infoStt : (Try.prog.info? 45).map (fun i => (i.zero, i.size, i.bytes)) = some (some (.agg #[.bool false, .slice none 0 0]), 2, 32) := by kernel_rfl
theorem hid {p : Prop} (h : p) : Hid p := h
theorem owns_mono {w : World} {base base' e size n : Nat} {v : Value} {xs : List Value} (h : w.ownsRow base e size v n xs) (hb : base' ≤ base) : w.ownsRow base' e size v n xs := by
  rcases h with ⟨h1, h2 | ⟨g, cap, cur, a1, a2, a3⟩⟩
  · exact ⟨h1, .inl h2⟩
  · exact ⟨h1, .inr ⟨g, cap, cur, a1, by omega, a3⟩⟩
/-- Behind the first two appends: the states in new memory, and one more; x told of them. -/
structure Put20 (wr : World) (B bX m : Nat) (xs : List Value) (y : Value) (v : Value) (wq : World) : Prop where
  ex : ∃ ag c, v = .slice ag m c ∧ wq.ownsRow B 45 2 (.slice ag m c) m xs ∧ wq.heap[bX]? = some (.cells #[.slice ag m c, y] 53 (0, 0)) ∧ B ≤ wq.heap.size ∧ Below bX wr wq ∧ ∀ b, b < B → b ≠ bX → wq.heap[b]? = wr.heap[b]?
theorem put20 {wr W : World} {B bX m : Nat} {xs : List Value} {x y : Value} {ag : Option Addr} {c : Nat} (hrow : W.ownsRow B 45 2 (.slice ag m c) m xs) (hb : Below B wr W) (hB : B ≤ wr.heap.size) (hX : bX < B) (hx : wr.heap[bX]? = some (.cells #[x, y] 53 (0, 0))) :
    Put20 wr B bX m xs y (.slice ag m c) (W.setCell ⟨bX, 0, none⟩ (.slice ag m c)) := by
  have hx2 : W.heap[bX]? = some (.cells #[x, y] 53 (0, 0)) := (hb.block bX hX).trans hx
  refine ⟨ag, c, rfl, hrow.kept (row := some bX) ⟨rfl, rfl, rfl, by simp, fun k _ hk => blk_ne (fun e => hk (by rw [e])) _⟩ (.inr fun e => ?_), ?_, by have := hb.size; simp; omega, (hb.mono (Nat.le_of_lt hX)).setCell (Nat.le_refl _) _, fun b h1 h2 => (blk_ne h2 _).trans (hb.block b h1)⟩
  · have := (hrow.lt bX e).1
    omega
  · exact blk_set (i := 0) hx2 _
theorem hone_states {F : Nat → Prop} {w : World} {xa ya : Option Addr} {xm xc ym yc : Nat} {S : List Stt} {vs : List (Bool × Value)} {ws : List Value} (h : XAt F w xa xm xc ya ym yc S vs ws) : ∀ u ∈ cellsA vs, u.oneCell' = true := by
  intro u hu
  obtain ⟨p, hp, hu⟩ := List.mem_flatMap.1 hu
  obtain ⟨i, hi⟩ := List.getElem?_of_mem hp
  obtain ⟨st, hst⟩ : ∃ st, S[i]? = some st := ⟨_, List.getElem?_eq_getElem (by rw [← h.lv]; exact (List.getElem?_eq_some_iff.1 hi).1)⟩
  obtain ⟨_, eg, c, h2, _⟩ := h.xi w (Agree.refl _ _) i p st hi hst
  simp only [List.mem_cons, List.not_mem_nil, or_false] at hu
  rcases hu with rfl | rfl
  · rfl
  · rw [h2]; rfl
theorem Try.infoStrs : (Try.prog.info? 22).map (fun i => (i.zero, i.size, i.bytes)) = some (some (.slice none 0 0), 1, 24) := by kernel_rfl
theorem hone_rests {F : Nat → Prop} {w : World} {xa ya : Option Addr} {xm xc ym yc : Nat} {S : List Stt} {vs : List (Bool × Value)} {ws : List Value} (h : XAt F w xa xm xc ya ym yc S vs ws) : ∀ u ∈ ws, u.oneCell' = true := by
  intro u hu
  obtain ⟨i, hi⟩ := List.getElem?_of_mem hu
  obtain ⟨a, c, h2, _⟩ := h.yi w (Agree.refl _ _) i u hi (by rw [← h.lw]; exact (List.getElem?_eq_some_iff.1 hi).1)
  rw [h2]; rfl
theorem owns_block {w w' : World} {base e size n : Nat} {v : Value} {xs : List Value} (h : w.ownsRow base e size v n xs) (hb : ∀ k, v.ownBlock = some k → w'.heap[k]? = w.heap[k]?) : w'.ownsRow base e size v n xs := by
  refine ⟨h.1, ?_⟩
  rcases h.2 with h' | ⟨g, cap, cur, h1, h2, h3, h4⟩
  · exact .inl h'
  · exact .inr ⟨g, cap, cur, h1, h2, (hb g (by rw [h1]; rfl)).trans h3, h4⟩
theorem lang_last {S : List Stt} {s : Stt} (h : GoodS S) (hg : GoodS (S ++ [s])) (hs : ∀ e ∈ s.2, e.2 < S.length) : langS (S ++ [s]) S.length = wordsOf S s := by
  have h1 := langs_snoc h hg hs
  have h2 : (langsS (S ++ [s]))[S.length]? = some (langS (S ++ [s]) S.length) := by
    unfold langsS
    rw [List.getElem?_map, List.getElem?_range (by simp)]; rfl
  rw [h1, List.getElem?_append_right (by simp [langsS])] at h2
  simpa [langsS] using h2.symm
theorem readsE_drew {w : World} {ao : Option Addr} {len cap : Nat} {xs : List Value} (h : ReadsE w ao len cap xs) : ReadsE w.drew ao len cap xs := readsE_agree h fun _ _ => rfl
theorem lit_kept {W w' : World} {b : Nat} {xs : List Value} {ob : Option Nat} (h : ReadsE W (some ⟨b, 0, none⟩) 1 1 xs) (hg : W.grownBy w' ob) (hb : b < W.heap.size) (hne : some b ≠ ob) : ReadsE w' (some ⟨b, 0, none⟩) 1 1 xs :=
  ⟨h.length, h.le, h.most, h.bare, fun a ha j u hu => by
    cases ha
    have hc := h.cell _ rfl j u hu
    have hcc : w'.cell? ((⟨b, 0, none⟩ : Addr).add j) = W.cell? ((⟨b, 0, none⟩ : Addr).add j) := cell_agree (by rw [Addr.add_lit]; exact hg.block b hb hne)
    rw [hcc]; exact hc⟩
theorem heap_two {wr : World} (o o' : Obj) : Below wr.heap.size wr ((wr.alloc o).alloc o') := ((Below.refl _ _).alloc (Nat.le_refl _) _).alloc (by simp) _

set_option maxRecDepth 100000 in
set_option maxHeartbeats 4000000 in
theorem rleave_any : ∀ (M : Nat) (L : List Wd) (S : List Stt) (F : Nat → Prop) (w : World) (xa : Option Addr) (xm xc : Nat) (ya : Option Addr) (ym yc : Nat) (vs : List (Bool × Value)) (ws : List Value) (ra : Option Addr) (rl rc : Nat),
    bytesW L ≤ M → RiseW L → LiveS S → (∀ b, F b → b < w.heap.size) → XAt F w xa xm xc ya ym yc S vs ws → RAt F w ra rl rc L → S.length + bytesW L ≤ 1000000 → L.length ≤ 1000000 →
    Calls Try.prog 20 #[.agg #[.slice xa xm xc, .slice ya ym yc], .slice ra rl rc] w fun e w' =>
      ∃ xa' xm' xc' ya' ym' yc' vs' ws', e = .returned (.tuple #[.agg #[.slice xa' xm' xc', .slice ya' ym' yc'], .int .i64 ((leaveN S (trieW L)).2 : Nat)]) ∧
        XAt (fun b => F b ∨ (w.heap.size ≤ b ∧ b < w'.heap.size)) w' xa' xm' xc' ya' ym' yc' (leaveN S (trieW L)).1 vs' ws' ∧ Below w.heap.size w w' := by
  intro M
  induction M using Nat.strongRecOn with
  | ind M ih =>
    intro L S F w xa xm xc ya ym yc vs ws ra rl rc hM hri hS hF hx hr hb1 hb2
    have hrl : L.length = rl := by simpa using hr.here.length
    have IH : Hid _ := ih
    have Hri : Hid _ := hri
    have HS : Hid _ := hS
    have HFs : Hid (∀ b, F b → b < w.heap.size) := hF
    have HX : Hid (XAt F w xa xm xc ya ym yc S vs ws) := hx
    have HR : Hid (RAt F w ra rl rc L) := hr
    have Hrl : Hid _ := hrl
    have HM : Hid _ := hM
    have Hb1 : Hid _ := hb1
    have hrm : rl ≤ 1000000 := by omega
    obtain ⟨p0, hp0⟩ : ∃ p0 : Nat, p0 = if headE L = true then 1 else 0 := ⟨_, rfl⟩
    have Hp0 : Hid _ := hp0
    have hp1 : p0 ≤ rl := by
      rw [hp0]; split
      · rename_i h
        have := of_decide_eq_true h
        cases L with
        | nil => simp at this
        | cons a l => simp at hrl; omega
      · omega
    clear ih hri hS hF hx hr hrl hM hb1 hb2 hp0
    go_enter Try.func20, Try.ntmps20
    go_upto_region 3 with (fail)
    obtain ⟨W3, hW3⟩ : ∃ W3, W3 = (((w.alloc (.cells #[.slice xa xm xc, .slice ya ym yc] 53)).alloc (.cells #[.slice none 0 0, .slice none 0 0] 53)).alloc (.cells #[.bool false, .slice none 0 0] 45)) := ⟨_, rfl⟩
    have hB3 : Below w.heap.size w W3 := by rw [hW3]; exact (((Below.refl _ _).alloc (Nat.le_refl _) _).alloc (by simp) _).alloc (by simp; omega) _
    have hX3 : W3.heap[w.heap.size]? = some (.cells #[.slice xa xm xc, .slice ya ym yc] 53 (0, 0)) := by
      rw [hW3, heap_alloc_old _ _ (by simp; omega), heap_alloc_old _ _ (by simp)]; exact heap_alloc_new _ _
    have hR3 : W3.heap[w.heap.size + 1]? = some (.cells #[.slice none 0 0, .slice none 0 0] 53 (0, 0)) := by
      rw [hW3, heap_alloc_old _ _ (by simp)]
      have h := heap_alloc_new (w.alloc (.cells #[.slice xa xm xc, .slice ya ym yc] 53)) (.cells #[.slice none 0 0, .slice none 0 0] 53)
      simpa using h
    have hS3 : W3.heap[w.heap.size + 2]? = some (.cells #[.bool false, .slice none 0 0] 45 (0, 0)) := by
      rw [hW3]
      have h := heap_alloc_new ((w.alloc (.cells #[.slice xa xm xc, .slice ya ym yc] 53)).alloc (.cells #[.slice none 0 0, .slice none 0 0] 53)) (.cells #[.bool false, .slice none 0 0] 45)
      simpa using h
    have hsz3 : W3.heap.size = w.heap.size + 3 := by rw [hW3]; simp
    rw [show w.heap.size + 1 + 1 = w.heap.size + 2 by omega, ← hW3]
    have HB3 : Hid _ := hB3
    have HX3 : Hid _ := hX3
    have HR3 : Hid _ := hR3
    have HS3 : Hid _ := hS3
    have HZ3 : Hid _ := hsz3
    have HA3 : Hid (Agree F w W3) := Agree.below hB3 HFs.out
    clear hW3 hB3 hX3 hR3 hS3 hsz3
    obtain ⟨bX, hbX⟩ : ∃ b, b = w.heap.size := ⟨_, rfl⟩
    have HbX : Hid _ := hbX
    rw [← hbX]
    clear hbX
    -- the first word may be empty
    have hhead : (headE L = false ∧ rl = 0) ∨ (∃ a l, L = a :: l ∧ ((a ≠ [] ∧ headE L = false) ∨ (a = [] ∧ headE L = true))) := by
      cases L with
      | nil => exact .inl ⟨rfl, Hrl.out.symm⟩
      | cons a l =>
        refine .inr ⟨a, l, rfl, ?_⟩
        cases a with
        | nil => exact .inr ⟨rfl, rfl⟩
        | cons c v => exact .inl ⟨by simp, by simp [headE]⟩
    have HH : Hid _ := hhead
    clear hhead
    go_cut [22] from 14 to 22 (fun v wq => v = .bool (headE L) ∧ wq = W3)
    case first =>
      rcases HH.out with ⟨h1, h2⟩ | ⟨a, l, h1, h2⟩
      · have H1 : Hid _ := h1
        subst h2
        clear HH h1
        go_wp2_with fail
        go_meet
        case rel => rw [H1.out]; exact ⟨rfl, rfl⟩
      · have hcell : ∃ b off, ra = some ⟨b, off, none⟩ ∧ W3.cell? ⟨b, off, none⟩ = some (strV a) := by
          have hl1 : 0 < rl := by rw [← Hrl.out, h1]; simp
          obtain ⟨b, off, h3, _, h4⟩ := (HR.out.keep HA3.out).here.atW hl1
          exact ⟨b, off, h3, h4 0 a (by rw [h1]; rfl)⟩
        obtain ⟨b, off, hra, hc⟩ := hcell
        subst hra
        have q1 : (0 : Int) < rl := by have : 0 < rl := by rw [← Hrl.out, h1]; simp
                                       omega
        rcases h2 with ⟨h3, h4⟩ | ⟨h3, h4⟩
        · have H4 : Hid _ := h4
          have hq : (a == []) = false := by rw [beq_eq_false_iff_ne]; exact h3
          have hq2 : List.isEmpty a = false := by cases a <;> simp_all
          clear HH h1 h3 h4
          go_wp2_with fail
          go_meet
          case rel => rw [H4.out]; exact ⟨rfl, rfl⟩
        · have H4 : Hid _ := h4
          subst h3
          clear HH h1 h4
          go_wp2_with fail
          go_meet
          case rel => rw [H4.out]; exact ⟨rfl, rfl⟩
    case rest =>
      obtain ⟨rfl, hwq⟩ := hcut
      rw [hwq]
      clear hwq
      obtain ⟨hd, hhd⟩ : ∃ hd, hd = headE L := ⟨_, rfl⟩
      have Hhd : Hid _ := hhd
      rw [← hhd]
      clear hhd HH
      have hstart : LvAt w F S L p0 (if hd then W3.setCell ⟨bX + 2, 0, none⟩ (.bool true) else W3) := by
        have htr : trieW (L.take p0) = (headE L, .nil) := by
          rw [Hp0.out]
          cases L with
          | nil => rfl
          | cons a l =>
            cases a with
            | nil => rfl
            | cons c v => rfl
        have hby : bytesW (L.take p0) = bytesW (L.take p0) := rfl
        have hXw : XAt F W3 xa xm xc ya ym yc S vs ws := HX.out.keep HA3.out
        have hFb : ∀ b, F b → (F b ∨ w.heap.size + 3 ≤ b) ∧ b < W3.heap.size := fun b hb => ⟨.inl hb, by have := HFs.out b hb; have := HZ3.out; omega⟩
        have hnF : ¬ F (w.heap.size + 2) := fun h => by have := HFs.out _ h; omega
        rw [HbX.out]
        cases hd with
        | false =>
          rw [if_neg (by simp)]
          refine ⟨F, .nil, xa, xm, xc, ya, ym, yc, vs, ws, none, 0, 0, htr, HS.out, Nat.le_add_right _ _, hXw, fun _ h => h, hFb, HX3.out, HR3.out, ?_, rfl, Nat.zero_le _, World.ownsRow_nil _ _ _ _, fun b hb => by simp [Value.ownBlock] at hb, HB3.out⟩
          rw [← Hhd.out]; exact HS3.out
        | true =>
          rw [if_pos rfl]
          refine ⟨F, .nil, xa, xm, xc, ya, ym, yc, vs, ws, none, 0, 0, htr, HS.out, Nat.le_add_right _ _, hXw.keep (Agree.set hnF _), fun _ h => h, fun b hb => ?_, ?_, ?_, ?_, rfl, Nat.zero_le _, World.ownsRow_nil _ _ _ _, fun b hb => by simp [Value.ownBlock] at hb, ?_⟩
          · have := hFb b hb; simpa using this
          · rw [blk_ne (by omega)]; exact HX3.out
          · rw [blk_ne (by omega)]; exact HR3.out
          · rw [← Hhd.out, blk_set HS3.out]; rfl
          · exact HB3.out.setCell (by simp) _
      have HStart : Hid _ := hstart
      clear hstart
      go_upto_if 22 with (fail)
      go_cut [7] from 23 to 23 (fun v wq => v = .int .i64 (p0 : Nat) ∧ LvAt w F S L p0 wq)
      case first =>
        have s3 : W3.cell? ⟨bX + 2, 0, none⟩ = some (.bool false) := by rw [HbX.out]; simp [World.cell?, HS3.out]
        have z3 : W3.frozen? ⟨bX + 2, 0, none⟩ = false := by rw [HbX.out]; simp [World.frozen?, HS3.out]
        cases hd with
        | false =>
          have hp : p0 = 0 := by rw [Hp0.out, ← Hhd.out]; rfl
          have hh := HStart.out
          clear HStart
          go_wp2_with fail
          go_meet
          case rel => rw [hp]; rw [hp] at hh; exact ⟨rfl, hh⟩
        | true =>
          have hp : p0 = 1 := by rw [Hp0.out, ← Hhd.out]; rfl
          have hh := HStart.out
          rw [if_pos rfl] at hh
          have HP : Hid _ := hp
          have HHH : Hid _ := hh
          clear HStart hp hh
          go_wp2_with fail
          go_meet
          case rel => rw [HP.out]; have h5 := HHH.out; rw [HP.out] at h5; exact ⟨rfl, h5⟩
      case rest =>
        obtain ⟨rfl, hlv⟩ := hcut
        have HLv : Hid (LvAt w F S L p0 wc) := hlv
        clear hlv HStart HX3 HR3 HS3 HZ3 HA3 HB3
        go_wp2_with fail
        go_loopw [7] (fun a wr => ∃ p : Nat, a = .int .i64 (p : Nat) ∧ p0 ≤ p ∧ p ≤ rl ∧ Hid (LvAt w F S L p wr) ∧ Hid (HeadsB L p)) (fun a _ => (rl - intOf a).toNat)
        case atStart =>
          refine ⟨p0, rfl, Nat.le_refl _, hp1, HLv.out, ?_⟩
          intro i d u c v hi h1 h2
          have hpp := Hp0.out
          have h3 : headE L = true := by
            cases hh : headE L with
            | true => rfl
            | false => rw [hh] at hpp; simp at hpp; omega
          have h4 := of_decide_eq_true h3
          rw [h3] at hpp
          simp at hpp
          have : i = 0 := by omega
          subst this
          rw [List.head?_eq_getElem?, h1] at h4
          cases h4
        case round =>
          obtain ⟨p, rfl, hpp, hpl, hlv, hhb⟩ := hrel
          obtain ⟨Fc, k, xa1, xm1, xc1, ya1, ym1, yc1, vs1, ws1, eg, n, ec, g1, g2, g3, g4, g5, g6, g7, g8, g9, g10, g11, g12, g13, g14⟩ := hlv.out
          by_cases hpr : p < rl
          · have q1 : (p : Int) < rl := by omega
            obtain ⟨vp, hvp⟩ : ∃ v, L[p]? = some v := ⟨_, List.getElem?_eq_getElem (by rw [Hrl.out]; exact hpr)⟩
            have hvn := not_nil_at Hri.out hvp (by rw [← Hp0.out]; exact hpp)
            obtain ⟨c, vr, rfl⟩ := List.exists_cons_of_ne_nil hvn
            have hagr : Agree F w wr := Agree.below g14 HFs.out
            have hRr := HR.out.keep hagr
            obtain ⟨bL, oL, hra, hbL, hcL⟩ := hRr.here.atW (by omega)
            subst hra
            have c1 := hcL p _ hvp
            obtain ⟨wu, hwu⟩ : ∃ wu, wu = wr := ⟨_, rfl⟩
            have HC : Hid (∀ W, Below wu.heap.size wu W → ∀ j v, L[j]? = some v → W.cell? ⟨bL, oL + j, none⟩ = some (strV v)) := fun W hW j v hv => by rw [hwu] at hW; exact (hW.cell (p := ⟨bL, oL + j, none⟩) hbL).trans (hcL j v hv)
            have HVP : Hid _ := hvp
            have G : Hid (LvAt w F S L p wu) := by show LvAt w F S L p wu; rw [hwu]; exact hlv.out
            have HW0 : Hid (Below wu.heap.size wu wr) := by show Below _ _ _; rw [hwu]; exact Below.refl _ _
            have ix1 := byte_head Try.prog 9 Try.underlying9 c vr
            clear hcL hvp hvn hRr hagr hlv g1 g2 g3 g4 g5 g6 g7 g8 g9 g10 g11 g12 g13 g14 hbL hwu
            go_upto_block 2 with (fail)
            go_cut [7, 9] from 33 to 55 (fun a v w2 => ∃ (q m : Nat) (og : Option Addr) (oc : Nat) (On : List Wd), a = .int .i64 (q : Nat) ∧ v = .slice og m oc ∧ p < q ∧ q ≤ rl ∧ Hid (m = On.length) ∧ Hid ((L.take q).drop p = On.map (c :: ·)) ∧ Hid (w2.ownsRow wu.heap.size 9 1 (.slice og m oc) m (On.map strV)) ∧ Hid (Below wu.heap.size wu w2) ∧ Hid (∀ d u, L[q]? = some (d :: u) → d ≠ c))
            case first =>
              go_wp2_with fail
              go_loopw [7, 9] (fun a v w2 => ∃ (q m : Nat) (og : Option Addr) (oc : Nat) (On : List Wd), a = .int .i64 (q : Nat) ∧ v = .slice og m oc ∧ p ≤ q ∧ q ≤ rl ∧ m ≤ q ∧ Hid (m = q - p) ∧ Hid (m = On.length) ∧ Hid ((L.take q).drop p = On.map (c :: ·)) ∧ Hid (w2.ownsRow wu.heap.size 9 1 (.slice og m oc) m (On.map strV)) ∧ Hid (Below wu.heap.size wu w2)) (fun a _ _ => (rl - intOf a).toNat)
              case atStart => exact ⟨p, 0, none, 0, [], rfl, rfl, Nat.le_refl _, by omega, Nat.zero_le _, (by omega : 0 = p - p), rfl, (by rw [List.drop_eq_nil_of_le (by simp; omega)]; rfl : (L.take p).drop p = [].map (c :: ·)), World.ownsRow_nil _ _ _ _, HW0.out⟩
              case round =>
                obtain ⟨q, m, og, oc, On, rfl, rfl, hpq, hql, hmle, hmq, hmO, hOn, hrow, hB⟩ := hrel
                by_cases hqr : q < rl
                · have q2 : (q : Int) < rl := by omega
                  obtain ⟨vq, hvq⟩ : ∃ v, L[q]? = some v := ⟨_, List.getElem?_eq_getElem (by rw [Hrl.out]; exact hqr)⟩
                  have hqn := not_nil_at Hri.out hvq (by rw [← Hp0.out]; omega)
                  obtain ⟨d, u, rfl⟩ := List.exists_cons_of_ne_nil hqn
                  have c2 := HC.out _ hB.out q _ hvq
                  have hsl : ∀ W, (Instr.slice 9 (strV (d :: u)) (some (.int .i64 1)) none none).run Try.prog W = .ok (strV u) W := fun W => by
                    unfold strV
                    rw [run_slice_string_l W 9 _ Try.underlying9 .i64 1 (by omega) (by simp [ByteArray.size]; omega)]
                    exact congrArg (fun b => Result.ok (Value.string b) W) (str_tail d u)
                  have ix2 := byte_head Try.prog 9 Try.underlying9 d u
                  by_cases hdc : d = c
                  · subst hdc
                    have f1 : ((d.toNat : Int) == d.toNat) = true := by simp
                    have hst := take_drop_step hpq hvq
                    have hOn2 : Hid ((L.take (q + 1)).drop p = (On ++ [u]).map (d :: ·)) := by show _ = _; rw [hst, hOn.out, List.map_append]; rfl
                    have hmO2 : Hid (m + 1 = (On ++ [u]).length) := by show _ = _; rw [List.length_append, ← hmO.out]; rfl
                    have hone : ∀ x ∈ [strV u], x.oneCell' = true := fun x hx => by simp at hx; subst hx; rfl
                    have hm1 : m + 1 ≤ maxLen := by unfold maxLen; omega
                    have hm2 : (m + 1) * 16 ≤ 140737488355328 := by omega
                    have hrw := hrow.out.alloc (.cells #[strV u] 9)
                    have hsz := hB.out.size
                    have hB2 := hB.out.alloc hsz (.cells #[strV u] 9)
                    have HB2 : Hid _ := hB2
                    obtain ⟨LO, hLO⟩ : ∃ LO, LO = On.map strV := ⟨_, rfl⟩
                    have HLO : Hid (LO ++ [strV u] = (On ++ [u]).map strV) := by show _ = _; rw [hLO, List.map_append]; rfl
                    rw [← hLO] at hrw
                    clear hst hvq hqn hOn hmO hrow hB hB2 hLO hqr
                    go_wp2_with (at_builtin; refine wpList_append_reads rfl _ _ 22 rfl wu.heap.size 9 Try.infoStr rfl Try.underlying22 _ _ _ _ rfl hrw _ _ _ _ rfl (reads_one _ _ _) hone hm1 hm2 (Nat.le_trans hsz (by simp)) ?_; intro ag2 cc2 w3 hr2 hb2)
                    rw [HLO.out] at hr2
                    have HR2 : Hid _ := hr2
                    have HB3 : Hid _ := HB2.out.trans hb2
                    clear hr2 hb2 hrw HB2
                    go_wp2
                    go_roundw
                    case rel => exact ⟨q + 1, m + 1, ag2, cc2, On ++ [u], by go_num, rfl, by omega, by omega, by omega, (by have := hmq.out; omega : m + 1 = q + 1 - p), hmO2, hOn2, HR2, HB3⟩
                    case measure => simp [intOf]; omega
                  · have f1 : ((d.toNat : Int) == c.toNat) = false := by
                      rw [beq_eq_false_iff_ne]; intro h; exact hdc (UInt8.toNat_inj.1 (by omega))
                    have hpq2 : p < q := by
                      by_cases h : q = p
                      · subst h
                        have := hvq.symm.trans HVP.out
                        cases this
                        exact absurd rfl hdc
                      · omega
                    have HN : Hid (∀ e u2, L[q]? = some (e :: u2) → e ≠ c) := fun e u2 he => by rw [hvq] at he; cases he; exact hdc
                    have HR2 : Hid _ := hrow.out
                    have HB2 : Hid _ := hB.out
                    clear hsl hvq hqn hdc hrow hB hqr
                    go_wp2_with fail
                    go_meet
                    case rel => exact ⟨q, m, og, oc, On, rfl, rfl, hpq2, hql, hmO.out, hOn.out, HR2.out, HB2.out, HN.out⟩
                · have q2 : ¬ (q : Int) < rl := by omega
                  have hpq2 : p < q := by omega
                  have HN : Hid (∀ e u2, L[q]? = some (e :: u2) → e ≠ c) := fun e u2 he => by have := (List.getElem?_eq_some_iff.1 he).1; rw [Hrl.out] at this; omega
                  have HR2 : Hid _ := hrow.out
                  have HB2 : Hid _ := hB.out
                  clear hrow hB hqr
                  go_wp2_with fail
                  go_meet
                  case rel => exact ⟨q, m, og, oc, On, rfl, rfl, hpq2, hql, hmO.out, hOn.out, HR2.out, HB2.out, HN.out⟩
            case rest =>
              obtain ⟨q, m, og, oc, On, rfl, rfl, hpq, hql, hmO, hOn, hrow, hB, hN⟩ := hcut
              obtain ⟨Fc, k, xa1, xm1, xc1, ya1, ym1, yc1, vs1, ws1, eg, n, ec, g1, g2, g3, g4, g5, g6, g7, g8, g9, g10, g11, g12, g13, g14⟩ := G.out
              have hbs := hB.out
              have hws := g14.size
              have x7 := (hbs.block _ (by have := lt_of_block g7; omega)).trans g7
              have x8 := (hbs.block _ (by have := lt_of_block g8; omega)).trans g8
              have x9 := (hbs.block _ (by have := lt_of_block g9; omega)).trans g9
              have y7 : wc.cell? ⟨bX, 0, none⟩ = some (.slice xa1 xm1 xc1) := by rw [HbX.out]; simp [World.cell?, x7]
              have y8 : wc.cell? ⟨bX, 1, none⟩ = some (.slice ya1 ym1 yc1) := by rw [HbX.out]; simp [World.cell?, x7]
              have hx2 := g4.keep (Agree.below hbs fun b hb => (g6 b hb).2)
              have hx3 : XAt (fun b => Fc b ∨ (wu.heap.size ≤ b ∧ b < wc.heap.size)) wc xa1 xm1 xc1 ya1 ym1 yc1 (leaveK S k).1 vs1 ws1 := hx2.wide fun b hb => .inl hb
              have hr3 : RAt (fun b => Fc b ∨ (wu.heap.size ≤ b ∧ b < wc.heap.size)) wc og m oc On := (RAt.own hrow.out).wide fun b hb => .inr hb
              have hpart := bytes_part (L := L) (Nat.le_of_lt hpq)
              rw [hOn.out, bytes_tail] at hpart
              have hOl : 1 ≤ On.length := by
                have h1 := congrArg List.length hOn.out
                rw [List.length_drop, List.length_take, List.length_map, Hrl.out] at h1
                omega
              have hOl2 : On.length ≤ rl := by
                have h1 := congrArg List.length hOn.out
                rw [List.length_drop, List.length_take, List.length_map, Hrl.out] at h1
                omega
              have hle := bytes_le L q
              have hri2 : RiseW On := rise_tail (c := c) (by rw [← hOn.out]; exact (Hri.out.sublist (List.take_sublist _ _)).sublist (List.drop_sublist _ _))
              have pl := IH.out (bytesW On) (by have := HM.out; omega) On (leaveK S k).1 (fun b => Fc b ∨ (wu.heap.size ≤ b ∧ b < wc.heap.size)) wc xa1 xm1 xc1 ya1 ym1 yc1 vs1 ws1 og m oc (Nat.le_refl _) hri2 g2 (fun b hb => by
                rcases hb with hb | hb
                · have := (g6 b hb).2; have := hbs.size; omega
                · exact hb.2) hx3 hr3 (by have := Hb1.out; omega) (by omega)
              clear hx2 hx3 hr3 hle hpart
              go_wp2_with fail
              refine pl.mono ?_
              rintro e w3 ⟨xa2, xm2, xc2, ya2, ym2, yc2, vs2, ws2, rfl, hX2, hB2⟩
              clear pl
              have hs2 := hB2.size
              have z7 := (hB2.block _ (by have := lt_of_block x7; omega)).trans x7
              have z8 := (hB2.block _ (by have := lt_of_block x8; omega)).trans x8
              have z9 := (hB2.block _ (by have := lt_of_block x9; omega)).trans x9
              have y7 : w3.cell? ⟨bX, 0, none⟩ = some (.slice xa1 xm1 xc1) := by rw [HbX.out]; simp [World.cell?, z7]
              have y8 : w3.cell? ⟨bX, 1, none⟩ = some (.slice ya1 ym1 yc1) := by rw [HbX.out]; simp [World.cell?, z7]
              have u7 : w3.frozen? ⟨bX, 0, none⟩ = false := by rw [HbX.out]; simp [World.frozen?, z7]
              have u8 : w3.frozen? ⟨bX, 1, none⟩ = false := by rw [HbX.out]; simp [World.frozen?, z7]
              have hbx3 : bX < w3.heap.size := by rw [HbX.out]; exact lt_of_block z7
              have hne1 : bX ≠ w3.heap.size := by omega
              have hne2 : w3.heap.size ≠ bX := by omega
              go_upto_region 14 with (fail)
              obtain ⟨w4, hw4⟩ : ∃ w4, w4 = (((w3.setCell ⟨bX, 0, none⟩ (.slice xa2 xm2 xc2)).setCell ⟨bX, 1, none⟩ (.slice ya2 ym2 yc2)).alloc (.cells #[.slice xa2 xm2 xc2, .slice ya2 ym2 yc2] 53)) := ⟨_, rfl⟩
              have hsz4 : w4.heap.size = w3.heap.size + 1 := by rw [hw4]; simp
              have hold : ∀ b, b ≠ bX → b < w3.heap.size → w4.heap[b]? = w3.heap[b]? := fun b h1 h2 => by
                rw [hw4, heap_alloc_old _ _ (by simpa using h2), blk_ne h1, blk_ne h1]
              have v7 : w4.heap[w.heap.size]? = some (.cells #[.slice xa2 xm2 xc2, .slice ya2 ym2 yc2] 53 (0, 0)) := by
                rw [hw4, heap_alloc_old _ _ (by simp; have := lt_of_block z7; omega), HbX.out, blk_set (blk_set z7 _)]; rfl
              have v8 := (hold (w.heap.size + 1) (by rw [HbX.out]; omega) (lt_of_block z8)).trans z8
              have v9 := (hold (w.heap.size + 2) (by rw [HbX.out]; omega) (lt_of_block z9)).trans z9
              rw [← hw4]
              obtain ⟨F3, hF3⟩ : ∃ F3 : Nat → Prop, F3 = fun b => (Fc b ∨ (wu.heap.size ≤ b ∧ b < wc.heap.size)) ∨ (wc.heap.size ≤ b ∧ b < w3.heap.size) := ⟨_, rfl⟩
              have hXb : XAt F3 w3 xa2 xm2 xc2 ya2 ym2 yc2 (leaveN (leaveK S k).1 (trieW On)).1 vs2 ws2 := by rw [hF3]; exact hX2
              have hF3r : ∀ b, F3 b → (F b ∨ w.heap.size + 3 ≤ b) ∧ b < w3.heap.size := fun b hb => by
                rw [hF3] at hb
                have h8 := lt_of_block g9
                have h9 := hbs.size
                rcases hb with (hb | hb) | hb
                · exact ⟨(g6 b hb).1, by have := (g6 b hb).2; omega⟩
                · exact ⟨.inr (by omega), by omega⟩
                · exact ⟨.inr (by omega), by omega⟩
              have hFF3 : ∀ b, F b → F3 b := fun b hb => by rw [hF3]; exact .inl (.inl (g5 b hb))
              have hX4 : XAt F3 w4 xa2 xm2 xc2 ya2 ym2 yc2 (leaveN (leaveK S k).1 (trieW On)).1 vs2 ws2 := hXb.keep fun b hb => by
                obtain ⟨h1, h2⟩ := hF3r b hb
                refine hold b (fun e => ?_) h2
                rw [e, HbX.out] at h1
                rcases h1 with h1 | h1
                · have := HFs.out _ h1; omega
                · omega
              have ho4 : w4.ownsRow (w.heap.size + 3) 47 2 (.slice eg n ec) n (cellsEd (zE (leaveK S k).2)) := own2_block g12 fun kk hkk => by
                have h1 := g12.lt kk hkk
                have h9 := hbs.size
                rw [hold kk (by rw [HbX.out]; omega) (by omega), hB2.block kk (by omega), hbs.block kk h1.2]
              have hB4 : Below w.heap.size w w4 := by
                rw [hw4]
                have h1 : Below w.heap.size w w3 := (g14.trans (hbs.mono hws)).trans (hB2.mono (Nat.le_trans hws hbs.size))
                exact ((h1.setCell (by rw [HbX.out]; exact Nat.le_refl _) _).setCell (by rw [HbX.out]; exact Nat.le_refl _) _).alloc (by simpa using h1.size) _
              obtain ⟨tn, htn⟩ : ∃ tn, tn = (leaveN (leaveK S k).1 (trieW On)).2 := ⟨_, rfl⟩
              rw [← htn]
              have r1 : w4.cell? ⟨bX + 2, 1, none⟩ = some (.slice eg n ec) := by rw [HbX.out]; simp [World.cell?, v9]
              have hbyt : bytesW (L.take q) = bytesW (L.take p) + (bytesW On + On.length) := by
                have := bytes_part (L := L) (Nat.le_of_lt hpq)
                rw [hOn.out, bytes_tail] at this; exact this
              have hbyl := bytes_le L q
              have hb1 := Hb1.out
              have hn1 : n + 1 ≤ bytesW (L.take q) := by omega
              have hone : ∀ x ∈ [Value.int .u8 (c.toNat : Nat), Value.int .i64 (tn : Nat)], x.oneCell' = true := by simp [Value.oneCell']
              have hm1 : n + 1 ≤ maxLen := by unfold maxLen; omega
              have hm2 : (n + 1) * 16 ≤ 140737488355328 := by omega
              have hb4s := hB4.size
              have ho5 : (w4.alloc (.cells #[.int .u8 (c.toNat : Nat), .int .i64 (tn : Nat)] 47)).ownsRow (w.heap.size + 3) 47 2 (.slice eg n ec) n (cellsEd (zE (leaveK S k).2)) := ho4.alloc _
              have hrd5 := readsE_two w4 (.int .u8 (c.toNat : Nat)) (.int .i64 (tn : Nat)) 47
              have hbase : w.heap.size + 3 ≤ (w4.alloc (.cells #[.int .u8 (c.toNat : Nat), .int .i64 (tn : Nat)] 47)).heap.size := by have := lt_of_block v9; simp; omega
              obtain ⟨LE, hLE⟩ : ∃ LE, LE = cellsEd (zE (leaveK S k).2) := ⟨_, rfl⟩
              rw [← hLE] at ho5
              have HLE : Hid _ := hLE
              have HV7 : Hid _ := v7
              have HV8 : Hid _ := v8
              have HV9 : Hid _ := v9
              have HX4 : Hid (XAt F3 w4 xa2 xm2 xc2 ya2 ym2 yc2 (leaveN (leaveK S k).1 (trieW On)).1 vs2 ws2) := hX4
              have HB4 : Hid _ := hB4
              have HF3r : Hid _ := hF3r
              have HFF : Hid _ := hFF3
              have HO5 : Hid ((w4.alloc (.cells #[.int .u8 (c.toNat : Nat), .int .i64 (tn : Nat)] 47)).ownsRow (w.heap.size + 3) 47 2 (.slice eg n ec) n LE) := ho5
              have HRD : Hid _ := hrd5
              have HBase : Hid _ := hbase
              have HG : Hid (trieW (L.take p) = (headE L, k)) := g1
              have HG2 : Hid (LiveS (leaveK S k).1) := g2
              have HG3 : Hid (leaveN (leaveK S k).1 (trieW On) = leaveN (leaveK S k).1 (trieW On)) := rfl
              have HTn : Hid _ := htn
              have HNl : Hid (n = (leaveK S k).2.length) := g10
              have HNn : Hid _ := hn1
              have HHB : Hid _ := hhb.out
              have HNx : Hid _ := hN.out
              have HOn : Hid _ := hOn.out
              have HOl : Hid _ := hOl
              have HBy : Hid _ := hbyt
              have HG3b : Hid _ := g3
              have HRo : Hid _ := hri2
              have HZ4 : Hid _ := hsz4
              have HE13 : Hid (∀ b, (Value.slice eg n ec).ownBlock = some b → ¬ F3 b) := fun b hb h => by
                have hlt := g12.lt b hb
                rw [hF3] at h
                have h9 := hbs.size
                rcases h with (h | h) | h
                · exact g13 b hb h
                · omega
                · omega
              clear y7 y8 u7 u8 z7 z8 z9 x7 x8 x9 hne1 hne2 hX2 hB2 hXb hX4 hF3r hFF3 ho4 ho5 hrd5 hbase hLE hB4 v7 v8 v9 hold hw4 g1 g2 g3 g4 g5 g6 g7 g8 g9 g10 g11 g12 g13 g14 htn hbyt hb1 hn1 hN hOn hOl hri2 hsz4 hF3 hbs hws hs2 hbx3 hrow hB hhb hmO hbyl
              go_wp2_with (at_builtin; refine wpList_append_2 rfl _ _ 43 rfl (w.heap.size + 3) 47 Try.infoEd rfl Try.underlying43 _ _ _ _ rfl HO5.out _ _ _ _ rfl HRD.out hone hm1 hm2 HBase.out ?_)
              intro eg2 ec2 w6 hr6 hg6 hb6 hw6
              have hkeep : ∀ b, b < w4.heap.size → (Value.slice eg n ec).ownBlock ≠ some b → w6.heap[b]? = w4.heap[b]? := fun b h1 h2 =>
                (hg6.block b (by simp; omega) (fun e => h2 e.symm)).trans (heap_alloc_old _ _ h1)
              have hown3 : ∀ b, b < w.heap.size + 3 → (Value.slice eg n ec).ownBlock ≠ some b := fun b h1 h2 => by have := (HO5.out.lt b h2).1; omega
              have a7 := (hkeep _ (lt_of_block HV7.out) (hown3 _ (by omega))).trans HV7.out
              have a8 := (hkeep _ (lt_of_block HV8.out) (hown3 _ (by omega))).trans HV8.out
              have a9 := (hkeep _ (lt_of_block HV9.out) (hown3 _ (by omega))).trans HV9.out
              have s1 : w6.cell? ⟨bX + 2, 1, none⟩ = some (.slice eg n ec) := by rw [HbX.out]; simp [World.cell?, a9]
              have s2 : w6.frozen? ⟨bX + 2, 1, none⟩ = false := by rw [HbX.out]; simp [World.frozen?, a9]
              have hlv2 : LvAt w F S L q (w6.setCell ⟨bX + 2, 1, none⟩ (.slice eg2 (n + 1) ec2)) := by
                have hz4 := HZ4.out
                have hsz6 : w4.heap.size + 1 ≤ w6.heap.size := by have := hg6.size; simpa using this
                have hX6 : XAt F3 w6 xa2 xm2 xc2 ya2 ym2 yc2 (leaveN (leaveK S k).1 (trieW On)).1 vs2 ws2 := HX4.out.keep fun b hb => hkeep b (by have := (HF3r.out b hb).2; omega) fun h => HE13.out b h hb
                have hn2 : ¬ F3 (w.heap.size + 2) := fun h => by
                  rcases (HF3r.out _ h).1 with h1 | h1
                  · have := HFs.out _ h1; omega
                  · omega
                have htk := trie_take_snoc (l := L) (Nat.le_of_lt hpq)
                have hne : On ≠ [] := fun h => by have := HOl.out; rw [h] at this; simp at this
                have hbelow : belowK k c := by
                  have h1 : trieW (L.take p) = (L.take p).foldl insN (false, .nil) := rfl
                  have h2 := fold_below (c := c) (L.take p) (false, .nil) trivial fun v hv d u he => by
                    obtain ⟨i, hi, hiv⟩ := List.getElem_of_mem hv
                    rw [List.length_take] at hi
                    have h3 : L[i]? = some (d :: u) := by
                      have := List.getElem?_eq_getElem (l := L.take p) (i := i) (by rw [List.length_take]; exact hi)
                      rw [List.getElem?_take_of_lt (by omega), hiv, he] at this
                      exact this
                    exact HHB.out i d u c vr (by omega) h3 HVP.out
                  rw [← h1, HG.out] at h2
                  exact h2
                have htr : trieW (L.take q) = (headE L, snocK k c (trieW On)) := by rw [htk, HG.out, HOn.out]; exact group_trie _ hbelow hne
                have hsn := leave_snoc k S c (trieW On)
                have hTl : leaveN (leaveK S k).1 (trieW On) = ((leaveN (leaveK S k).1 (trieW On)).1, tn) := by rw [HTn.out]
                have huse : (trieW On).1 = true ∨ (trieW On).2 ≠ .nil := by
                  by_cases h1 : (trieW On).1 = true
                  · exact .inl h1
                  · refine .inr fun h2 => ?_
                    have h3 := list_words HRo.out
                    unfold listN at h3
                    rw [if_neg h1, h2] at h3
                    exact hne h3.symm
                have hlive : LiveS (leaveN (leaveK S k).1 (trieW On)).1 := by
                  have h1 : liveK (trieW On).2 := fold_live On _ trivial
                  have h2 := leave_live (trieW On).2 _ HG2.out h1 (trie_rise On)
                  exact put_live h2 (leave_good (trieW On).2 _ HG2.out.good).2.2 (leave_rise (trieW On).2 _ (trie_rise On)) (by
                    rcases huse with h3 | h3
                    · exact .inl h3
                    · exact .inr fun h4 => h3 (leave_nil.1 h4))
                have hlen : (leaveN (leaveK S k).1 (trieW On)).1.length ≤ (leaveK S k).1.length + (bytesW On + 1) := by
                  have h1 := put_len (leaveK (leaveK S k).1 (trieW On).2).1 ((trieW On).1, (leaveK (leaveK S k).1 (trieW On).2).2)
                  have h2 := leave_len (trieW On).2 (leaveK S k).1
                  have h3 := fold_nodes On (false, .nil)
                  have h4 : nodesK (trieW On).2 ≤ 0 + bytesW On := h3
                  have h5 : (leaveN (leaveK S k).1 (trieW On)).1.length ≤ (leaveK (leaveK S k).1 (trieW On).2).1.length + 1 := h1
                  omega
                have hby := HBy.out
                have hOl1 := HOl.out
                have hg3 := HG3b.out
                rw [HbX.out]
                refine ⟨F3, snocK k c (trieW On), xa2, xm2, xc2, ya2, ym2, yc2, vs2, ws2, eg2, n + 1, ec2, htr, ?_, ?_, ?_, HFF.out, fun b hb => ⟨(HF3r.out b hb).1, ?_⟩, ?_, ?_, ?_, ?_, ?_, ?_, ?_, ?_⟩
                · rw [hsn]; exact hlive
                · rw [hsn]; show (leaveN (leaveK S k).1 (trieW On)).1.length ≤ _; omega
                · rw [hsn]; exact hX6.keep (Agree.set hn2 _)
                · have := (HF3r.out b hb).2; simp; omega
                · rw [blk_ne (by omega)]; exact a7
                · rw [blk_ne (by omega)]; exact a8
                · rw [blk_set a9]; rfl
                · rw [hsn]; show n + 1 = ((leaveK S k).2 ++ [_]).length; rw [List.length_append, ← HNl.out]; rfl
                · exact HNn.out
                · rw [hsn]
                  have h1 : w6.ownsRow (w.heap.size + 3) 47 2 (.slice eg2 (n + 1) ec2) (n + 1) (cellsEd (zE ((leaveK S k).2 ++ [(c, (leaveN (leaveK S k).1 (trieW On)).2)]))) := by
                    have h2 : cellsEd (zE ((leaveK S k).2 ++ [(c, (leaveN (leaveK S k).1 (trieW On)).2)])) = LE ++ [.int .u8 (c.toNat : Nat), .int .i64 (tn : Nat)] := by
                      rw [HLE.out, HTn.out]; unfold zE; rw [List.map_append, cellsEd_app]; rfl
                    rw [h2]; exact hr6
                  exact own2_block h1 fun kk hkk => blk_ne (by have := (h1.lt kk hkk).1; omega) _
                · intro b hb h
                  rcases hw6 with h1 | h1
                  · rw [h1] at hb; exact HE13.out b hb h
                  · rw [h1] at hb
                    cases hb
                    have h2 := (HF3r.out _ h).2
                    have h3 : (w4.alloc (.cells #[.int .u8 (c.toNat : Nat), .int .i64 (tn : Nat)] 47)).heap.size = w4.heap.size + 1 := by simp
                    omega
                · have h1 := HB4.out
                  have h2 : Below w.heap.size w w6 := (h1.alloc h1.size _).trans (hb6.mono (by omega))
                  exact h2.setCell (Nat.le_add_right _ _) _
              have hhb2 : HeadsB L q := heads_next Hri.out hpq HHB.out HOn.out HNx.out
              have HLv2 : Hid _ := hlv2
              have HHb2 : Hid (HeadsB L q) := hhb2
              clear hlv2 hhb2 a7 a8 a9 hkeep hown3 hr6 hg6 hb6 hw6
              go_wp2
              go_roundw
              case rel => exact ⟨q, rfl, by omega, hql, HLv2.out, HHb2.out⟩
              case measure => simp [intOf]; omega
          · have q1 : ¬ (p : Int) < rl := by omega
            have hpe : p = L.length := by rw [Hrl.out]; omega
            have htk : L.take p = L := List.take_of_length_le (by omega)
            rw [htk] at g1
            obtain ⟨wu, hwu⟩ : ∃ wu, wu = wr := ⟨_, rfl⟩
            rw [← hwu] at g4 g6 g7 g8 g9 g12 g14
            have hxm := g4.count
            have Gk : Hid (trieW L = (headE L, k)) := g1
            have G2 : Hid (LiveS (leaveK S k).1) := g2
            have G4 : Hid (XAt Fc wu xa1 xm1 xc1 ya1 ym1 yc1 (leaveK S k).1 vs1 ws1) := g4
            have G5 : Hid (∀ b, F b → Fc b) := g5
            have G6 : Hid (∀ b, Fc b → (F b ∨ w.heap.size + 3 ≤ b) ∧ b < wu.heap.size) := g6
            have G7 : Hid _ := g7
            have G8 : Hid _ := g8
            have G9 : Hid _ := g9
            have G10 : Hid (n = (leaveK S k).2.length) := g10
            have G12 : Hid (wu.ownsRow (w.heap.size + 3) 47 2 (.slice eg n ec) n (cellsEd (zE (leaveK S k).2))) := g12
            have G13 : Hid (∀ b, (Value.slice eg n ec).ownBlock = some b → ¬ Fc b) := g13
            have G14 : Hid (Below w.heap.size w wu) := g14
            have HXm : Hid _ := hxm
            have hW0 : Hid (wr = wu) := hwu.symm
            have y0 : ∀ q, (wu.drewN q).cell? ⟨bX, 1, none⟩ = some (.slice ya1 ym1 yc1) := fun q => by
              have : wu.cell? ⟨bX, 1, none⟩ = some (.slice ya1 ym1 yc1) := by rw [HbX.out]; simp [World.cell?, g7]
              exact this
            have Y0 : Hid _ := y0
            have hym : ym1 ≤ 2000000 := by
              have h1 := g3
              have h2 := bytes_le L p
              have h3 := Hb1.out
              rw [hxm.2]; omega
            clear g1 g2 g3 g4 g5 g6 g7 g8 g9 g10 g11 g12 g13 g14 htk hpe hlv hhb hwu y0 hxm hpr
            go_wp2_with fail
            go_loopw [12] (fun i wr => ∃ (t : Nat), i = .int .i64 (t : Nat) ∧ t ≤ ym1 ∧ Hid (∀ j, j < t → langS (leaveK S k).1 j ≠ L) ∧ ∃ q, wr = wu.drewN q) (fun i _ => (ym1 - intOf i).toNat)
            case atStart => exact ⟨0, rfl, Nat.zero_le _, (fun j hj => by omega), 0, hW0.out⟩
            case round =>
              obtain ⟨t, rfl, htl, hA, qd, hw⟩ := hrel
              have Hw : Hid _ := hw
              have y1 : wr.cell? ⟨bX, 1, none⟩ = some (.slice ya1 ym1 yc1) := by rw [hw]; exact Y0.out qd
              clear hw hW0
              by_cases htm : t < ym1
              · have q2 : (t : Int) < ym1 := by omega
                have hagr : Agree Fc wu wr := by rw [Hw.out]; exact fun b _ => rfl
                have hBu : Below w.heap.size w wr := by rw [Hw.out]; exact below_drewN G14.out qd
                obtain ⟨by2, oy, hay, _, hcy⟩ := (G4.out.yo wr hagr).at15 (by omega)
                subst hay
                obtain ⟨v, hv⟩ : ∃ v, ws1[t]? = some v := ⟨_, List.getElem?_eq_getElem (by rw [G4.out.lw, ← HXm.out.2]; exact htm)⟩
                have c2 := hcy t v hv
                obtain ⟨al, cl, hvl, hrl2⟩ := G4.out.yi wr hagr t v hv (by rw [← HXm.out.2]; exact htm)
                subst hvl
                have ps := rsame14_any hrl2 ((HR.out.keep (Agree.below hBu HFs.out)).here)
                have HBu : Hid _ := hBu
                clear hagr hcy hv hrl2 hBu
                have hwords : wordsOf (leaveK S k).1 (headE L, (leaveK S k).2) = L := by
                  have h1 := leave_words_of (trieW L) HS.out.good
                  rw [Gk.out] at h1
                  simp only at h1
                  rw [h1, ← Gk.out]
                  exact list_words Hri.out
                have hlow := (leave_good k S HS.out.good).2.2
                have hris : RiseEd (leaveK S k).2 := leave_rise k S (by have := trie_rise L; rw [Gk.out] at this; exact this)
                have HWo : Hid _ := hwords
                have HLow : Hid _ := hlow
                have HRis : Hid _ := hris
                clear hwords hlow hris
                by_cases hq : langS (leaveK S k).1 t = L
                · rw [decide_eq_true hq] at ps
                  have hE : leaveN S (trieW L) = ((leaveK S k).1, t) := by
                    show putS (leaveK S (trieW L).2).1 ((trieW L).1, (leaveK S (trieW L).2).2) = _
                    rw [Gk.out]
                    exact look_in (s := (headE L, (leaveK S k).2)) G2.out HLow.out HRis.out (by rw [← HXm.out.2]; exact htm) (by rw [hq, HWo.out])
                  have HE : Hid _ := hE
                  clear hq hE HWo HLow HRis hA
                  go_wp2_with fail
                  refine ps.mono ?_
                  rintro e w5 ⟨rfl, q5, hw5⟩
                  have hw6 : w5 = wu.drewN (qd + q5) := by rw [hw5, Hw.out, World.drewN_drewN]
                  have b7 : w5.heap[w.heap.size]? = some (.cells #[.slice xa1 xm1 xc1, .slice (some ⟨by2, oy, none⟩) ym1 yc1] 53 (0, 0)) := by rw [hw6]; exact G7.out
                  have b8 : w5.heap[w.heap.size + 1]? = some (.cells #[.slice none 0 0, .slice none 0 0] 53 (0, 0)) := by rw [hw6]; exact G8.out
                  rw [← HbX.out] at b7 b8
                  obtain ⟨k0, k1, _, _⟩ := blkc b7
                  obtain ⟨m0, m1, m2, m3⟩ := blkc b8
                  have hblk : ((w5.setCell ⟨bX + 1, 0, none⟩ (.slice xa1 xm1 xc1)).setCell ⟨bX + 1, 1, none⟩ (.slice (some ⟨by2, oy, none⟩) ym1 yc1)).heap[bX + 1]? = some (.cells #[.slice xa1 xm1 xc1, .slice (some ⟨by2, oy, none⟩) ym1 yc1] 53 (0, 0)) := blk_set (i := 1) (blk_set (i := 0) b8 _) _
                  have hld := load_rests hblk
                  have HW6 : Hid _ := hw6
                  have hne1 : bX ≠ bX + 1 := by omega
                  have hne2 : bX + 1 ≠ bX := by omega
                  clear ps hw5 hw6 b7 b8 hblk
                  go_wp2
                  refine bodyPost_ret (rests_end rfl _ _ _ (x := ⟨bX + 1, 0, none⟩) rfl hld) rfl ?_
                  rw [HE.out]
                  have hbz : Below w.heap.size w w5 := by rw [HW6.out]; exact below_drewN G14.out _
                  refine ⟨_, _, _, _, _, _, vs1, ws1, rfl, ?_, ?_⟩
                  · refine ((G4.out.keep (w' := w5) (by rw [HW6.out]; exact fun b _ => rfl)).keep (w' := ((w5.setCell ⟨bX + 1, 0, none⟩ (.slice xa1 xm1 xc1)).setCell ⟨bX + 1, 1, none⟩ (.slice (some ⟨by2, oy, none⟩) ym1 yc1))) ?_).wide ?_
                    · intro b hb
                      have hne : b ≠ bX + 1 := fun e => by
                        obtain ⟨h1, h2⟩ := G6.out b hb
                        rw [e, HbX.out] at h1
                        rcases h1 with h1 | h1
                        · have := HFs.out _ h1; omega
                        · omega
                      rw [blk_ne hne, blk_ne hne]
                    · intro b hb
                      obtain ⟨h1, h2⟩ := G6.out b hb
                      rcases h1 with h1 | h1
                      · exact .inl h1
                      · refine .inr ⟨by omega, ?_⟩
                        have : wu.heap.size = w5.heap.size := by rw [HW6.out]; rfl
                        simp
                        omega
                  · exact (hbz.setCell (by rw [HbX.out]; exact Nat.le_add_right _ _) _).setCell (by rw [HbX.out]; exact Nat.le_add_right _ _) _
                · rw [decide_eq_false hq] at ps
                  have hA' : Hid (∀ j, j < t + 1 → langS (leaveK S k).1 j ≠ L) := by
                    intro j hj
                    by_cases h : j = t
                    · subst h; exact hq
                    · exact hA.out j (by omega)
                  clear hq HWo HLow HRis hA
                  go_wp2_with fail
                  refine ps.mono ?_
                  rintro e w5 ⟨rfl, q5, hw5⟩
                  have HW5 : Hid (w5 = wu.drewN (qd + q5)) := by show _ = _; rw [hw5, Hw.out, World.drewN_drewN]
                  clear ps hw5
                  go_wp2
                  go_roundw
                  case rel => exact ⟨t + 1, by go_num, by omega, hA', _, HW5.out⟩
                  case measure => simp [intOf]; omega
              · have q2 : ¬ (t : Int) < ym1 := by omega
                have y2 : wr.cell? ⟨bX, 0, none⟩ = some (.slice xa1 xm1 xc1) := by rw [Hw.out, HbX.out]; have := (blkc G7.out).1; exact this
                have y3 : wr.cell? ⟨bX + 2, 0, none⟩ = some (.bool (headE L)) := by rw [Hw.out, HbX.out]; have := (blkc G9.out).1; exact this
                have y4 : wr.cell? ⟨bX + 2, 1, none⟩ = some (.slice eg n ec) := by rw [Hw.out, HbX.out]; have := (blkc G9.out).2.1; exact this
                have y5 : wr.frozen? ⟨bX, 0, none⟩ = false := by rw [Hw.out, HbX.out]; have := (blkc G7.out).2.2.1; exact this
                have hwz : w.heap.size + 3 ≤ wr.heap.size := by have := lt_of_block G9.out; rw [Hw.out]; exact this
                have e0 : bX < wr.heap.size := by rw [HbX.out]; omega
                have e00 : bX + 2 < wr.heap.size := by rw [HbX.out]; omega
                have e1 : bX ≠ wr.heap.size := by rw [HbX.out]; omega
                have e2 : wr.heap.size ≠ bX := by rw [HbX.out]; omega
                have e3 : bX ≠ wr.heap.size + 1 := by rw [HbX.out]; omega
                have e4 : wr.heap.size + 1 ≠ bX := by rw [HbX.out]; omega
                have e5 : bX + 2 ≠ wr.heap.size := by rw [HbX.out]; omega
                have e6 : bX + 2 ≠ wr.heap.size + 1 := by rw [HbX.out]; omega
                obtain ⟨B, hB⟩ : ∃ B, B = wr.heap.size := ⟨_, rfl⟩
                have xr : ∀ W : World, (∀ b, b < B → W.heap[b]? = wr.heap[b]?) → ReadsE W xa1 xm1 xc1 (cellsA vs1) := fun W hW => by
                  refine G4.out.xo W ?_
                  intro b hb
                  have h1 := (G6.out b hb).2
                  have h2 : wr.heap.size = wu.heap.size := by rw [Hw.out]; rfl
                  rw [hW b (by rw [hB, h2]; exact h1), Hw.out]; rfl
                have XR := hid xr
                have oE : (wr.alloc (.cells #[] 45)).ownsRow B 45 2 (.slice (some ⟨wr.heap.size, 0, none⟩) 0 0) 0 [] := by rw [hB]; exact World.ownsRow_made wr #[] 0 (Nat.le_refl _) (Nat.zero_le _) rfl
                have OE := hid oE
                clear xr oE
                have hone1 := hone_states G4.out
                have hone2 : ∀ u ∈ [Value.bool (headE L), Value.slice eg n ec], u.oneCell' = true := by simp [Value.oneCell']
                have hxm1 : xm1 = ym1 := by rw [HXm.out.1, HXm.out.2]
                have hmx : xm1 ≤ 2000000 := by omega
                have hb20 : wr.heap[bX]? = some (.cells #[.slice xa1 xm1 xc1, .slice ya1 ym1 yc1] 53 (0, 0)) := by rw [Hw.out, HbX.out]; exact G7.out
                have HB20 := hid hb20
                have hBl : B ≤ wr.heap.size := by rw [hB]; exact Nat.le_refl _
                have hbXB : bX < B := by omega
                have hbXB2 : bX + 2 < B := by omega
                obtain ⟨sE, hsE⟩ : ∃ o : Obj, o = .cells #[] 45 := ⟨_, rfl⟩
                obtain ⟨sS, hsS⟩ : ∃ o : Obj, o = .cells #[.bool (headE L), .slice eg n ec] 45 := ⟨_, rfl⟩
                have oB : ((wr.alloc (.cells #[] 45)).alloc (.cells #[.bool (headE L), .slice eg n ec] 45)).ownsRow B 45 2 (.slice (some ⟨wr.heap.size, 0, none⟩) 0 0) 0 [] := OE.out.alloc _
                have oC : ((wr.alloc (.cells #[.bool (headE L), .slice eg n ec] 45)).alloc (.cells #[] 45)).ownsRow B 45 2 (.slice (some ⟨wr.heap.size + 1, 0, none⟩) 0 0) 0 [] := by
                  have := World.ownsRow_made (wr.alloc (.cells #[.bool (headE L), .slice eg n ec] 45)) (e := 45) (size := 2) #[] 0 (Nat.le_refl _) (Nat.zero_le _) rfl
                  rw [World.size_alloc] at this
                  exact owns_mono this (by omega)
                have rB : ReadsE ((wr.alloc (.cells #[] 45)).alloc (.cells #[.bool (headE L), .slice eg n ec] 45)) (some ⟨wr.heap.size + 1, 0, none⟩) 1 1 [.bool (headE L), .slice eg n ec] := by
                  have := readsE_two (wr.alloc (.cells #[] 45)) (.bool (headE L)) (.slice eg n ec) 45
                  rw [World.size_alloc] at this
                  exact this
                have rC : ReadsE ((wr.alloc (.cells #[.bool (headE L), .slice eg n ec] 45)).alloc (.cells #[] 45)) (some ⟨wr.heap.size, 0, none⟩) 1 1 [.bool (headE L), .slice eg n ec] := by
                  refine readsE_agree (readsE_two wr (.bool (headE L)) (.slice eg n ec) 45) fun x hx => heap_alloc_old _ _ hx
                have bB : Below B wr ((wr.alloc (.cells #[] 45)).alloc (.cells #[.bool (headE L), .slice eg n ec] 45)) := by rw [hB]; exact heap_two _ _
                have bC : Below B wr ((wr.alloc (.cells #[.bool (headE L), .slice eg n ec] 45)).alloc (.cells #[] 45)) := by rw [hB]; exact heap_two _ _
                have zB := bB.size
                have zC := bC.size
                have OB := hid oB
                have OC := hid oC
                have RB := hid (readsE_drew rB)
                have RC := hid (readsE_drew rC)
                have BB := hid bB
                have BC := hid bC
                have HBl : Hid (B ≤ wr.heap.size) := hBl
                have HhbX : Hid (bX < B) := hbXB
                clear oB oC rB rC bB bC hb20 hBl hxm1
                go_wp2_with fail
                go_cut [93] from 87 to 94 (fun v wq => Put20 wr B bX (xm1 + 1) (cellsA vs1 ++ [.bool (headE L), .slice eg n ec]) (.slice ya1 ym1 yc1) v wq)
                case first =>
                  have hxx : xa1 = none ∨ ∃ ad, xa1 = some ad := by
                    cases xa1 with
                    | none => exact .inl rfl
                    | some ad => exact .inr ⟨_, rfl⟩
                  rcases hxx with hxa | ⟨xad, hxa⟩
                  · obtain ⟨hx0, hxc⟩ := (XR.out wr (fun _ _ => rfl)).bare hxa
                    have hv0 : cellsA vs1 = [] := List.eq_nil_of_length_eq_zero (by have := (XR.out wr (fun _ _ => rfl)).length; rw [hx0] at this; exact this)
                    rw [hxa, hx0, hxc] at y2
                    have HX0 := hid hx0
                    clear hxa hx0 hxc
                    have HV0 := hid hv0
                    have w1 : (0 : Nat) + 1 ≤ maxLen := by unfold maxLen; omega
                    have w2 : ((0 : Nat) + 1) * 32 ≤ 140737488355328 := by omega
                    clear hv0 hone1
                    go_region_law (first
                      | (refine step_append_2 rfl (.tmp 90) (.tmp 92) 25 rfl B 45 Try.infoStt rfl Try.underlying25 _ _ _ _ rfl OB.out _ 1 1 _ rfl RB.out hone2 w1 w2 (Nat.le_trans HBl.out (by simp; omega)) ?_; intro ag2 c2 wn hr2 hg2 hb2 hw2; have hbn := BB.out.drew.trans hb2; have t1 := (hbn.cell (p := ⟨bX, 0, none⟩) HhbX.out).trans y2; have t2 := (hbn.frozen (p := ⟨bX, 0, none⟩) HhbX.out).trans y5)
                      | (refine step_append_2 rfl (.tmp 90) (.tmp 92) 25 rfl B 45 Try.infoStt rfl Try.underlying25 _ _ _ _ rfl OC.out _ 1 1 _ rfl RC.out hone2 w1 w2 (Nat.le_trans HBl.out (by simp; omega)) ?_; intro ag2 c2 wn hr2 hg2 hb2 hw2; have hbn := BC.out.drew.trans hb2; have t1 := (hbn.cell (p := ⟨bX, 0, none⟩) HhbX.out).trans y2; have t2 := (hbn.frozen (p := ⟨bX, 0, none⟩) HhbX.out).trans y5))
                    all_goals (
                      have HRN := hid hr2
                      have HBN := hid hbn
                      clear hr2 hg2 hb2 hw2 hbn
                      go_wp2_with fail
                      go_meet
                      case rel => rw [HV0.out, HX0.out]; exact put20 HRN.out HBN.out HBl.out HhbX.out HB20.out)
                  · rw [hxa] at y2
                    have xA := hid (show ReadsE _ (some xad) xm1 xc1 (cellsA vs1) from hxa ▸ readsE_drew (XR.out (wr.alloc (.cells #[] 45)) (fun b hb => heap_alloc_old _ _ (by omega))))
                    have xB := hid (show ReadsE _ (some xad) xm1 xc1 (cellsA vs1) from hxa ▸ readsE_drew (XR.out ((wr.alloc (.cells #[] 45)).alloc (.cells #[.bool (headE L), .slice eg n ec] 45)) (fun b hb => BB.out.block b hb)))
                    have xC := hid (show ReadsE _ (some xad) xm1 xc1 (cellsA vs1) from hxa ▸ readsE_drew (XR.out ((wr.alloc (.cells #[.bool (headE L), .slice eg n ec] 45)).alloc (.cells #[] 45)) (fun b hb => BC.out.block b hb)))
                    have w1 : (0 : Nat) + xm1 ≤ maxLen := by unfold maxLen; omega
                    have w2 : ((0 : Nat) + xm1) * 32 ≤ 140737488355328 := by omega
                    have w3 : xm1 + 1 ≤ maxLen := by unfold maxLen; omega
                    have w4 : (xm1 + 1) * 32 ≤ 140737488355328 := by omega
                    have bA := hid (show Below B wr (wr.alloc (.cells #[] 45)) from by rw [hB]; exact (Below.refl _ _).alloc (Nat.le_refl _) _)
                    have EA := hid (show B = wr.heap.size from hB)
                    clear hB hxa
                    go_region_law (first
                      | (refine step_append_2 rfl (.tmp 87) (.tmp 89) 25 rfl B 45 Try.infoStt rfl Try.underlying25 _ _ _ _ rfl OE.out xad _ _ _ rfl xA.out hone1 w1 w2 (Nat.le_trans HBl.out (by simp)) ?_; intro ag2 c2 wn hr2 hg2 hb2 hw2; have hbn := bA.out.drew.trans hb2; have HR3 := hid (show wn.ownsRow B 45 2 (.slice ag2 xm1 c2) xm1 (cellsA vs1) from by simpa using hr2); have HSZ := hid (show B ≤ wn.heap.size from by have := hbn.size; have := HBl.out; omega); have t1 := (hbn.cell (p := ⟨bX, 0, none⟩) HhbX.out).trans y2; have t2 := (hbn.frozen (p := ⟨bX, 0, none⟩) HhbX.out).trans y5; have t3 := (hbn.cell (p := ⟨bX + 2, 0, none⟩) hbXB2).trans y3; have t4 := (hbn.cell (p := ⟨bX + 2, 1, none⟩) hbXB2).trans y4; have t5 : bX + 2 < wn.heap.size := by have := hbn.size; omega)
                      | (refine step_append_2 rfl (.tmp 87) (.tmp 89) 25 rfl B 45 Try.infoStt rfl Try.underlying25 _ _ _ _ rfl OB.out xad _ _ _ rfl xB.out hone1 w1 w2 (Nat.le_trans HBl.out (by simp; omega)) ?_; intro ag2 c2 wn hr2 hg2 hb2 hw2; have hbn := BB.out.drew.trans hb2; have HR3 := hid (show wn.ownsRow B 45 2 (.slice ag2 xm1 c2) xm1 (cellsA vs1) from by simpa using hr2); have HSZ := hid (show B ≤ wn.heap.size from by have := hbn.size; have := HBl.out; omega); have rd2 := hid (lit_kept RB.out hg2 (by simp; try omega) (by simp [Value.ownBlock])); have t1 := (hbn.cell (p := ⟨bX, 0, none⟩) HhbX.out).trans y2; have t2 := (hbn.frozen (p := ⟨bX, 0, none⟩) HhbX.out).trans y5; have t3 := (hbn.cell (p := ⟨bX + 2, 0, none⟩) hbXB2).trans y3; have t4 := (hbn.cell (p := ⟨bX + 2, 1, none⟩) hbXB2).trans y4; have t5 : bX + 2 < wn.heap.size := by have := hbn.size; omega)
                      | (refine step_append_2 rfl (.tmp 87) (.tmp 89) 25 rfl B 45 Try.infoStt rfl Try.underlying25 _ _ _ _ rfl OC.out xad _ _ _ rfl xC.out hone1 w1 w2 (Nat.le_trans HBl.out (by simp; omega)) ?_; intro ag2 c2 wn hr2 hg2 hb2 hw2; have hbn := BC.out.drew.trans hb2; have HR3 := hid (show wn.ownsRow B 45 2 (.slice ag2 xm1 c2) xm1 (cellsA vs1) from by simpa using hr2); have HSZ := hid (show B ≤ wn.heap.size from by have := hbn.size; have := HBl.out; omega); have rd2 := hid (lit_kept RC.out hg2 (by simp; try omega) (by simp [Value.ownBlock])); have t1 := (hbn.cell (p := ⟨bX, 0, none⟩) HhbX.out).trans y2; have t2 := (hbn.frozen (p := ⟨bX, 0, none⟩) HhbX.out).trans y5; have t3 := (hbn.cell (p := ⟨bX + 2, 0, none⟩) hbXB2).trans y3; have t4 := (hbn.cell (p := ⟨bX + 2, 1, none⟩) hbXB2).trans y4; have t5 : bX + 2 < wn.heap.size := by have := hbn.size; omega)
                      | (refine step_append_2 rfl (.tmp 90) (.tmp 92) 25 rfl B 45 Try.infoStt rfl Try.underlying25 _ _ _ _ rfl (by first | exact HR3.out | exact HR3.out.alloc _) _ 1 1 _ rfl (by first | exact rd2.out | exact readsE_two _ _ _ _ | exact readsE_drew (readsE_two _ _ _ _)) hone2 w3 w4 (by first | exact HSZ.out | (have := HSZ.out; simp; omega)) ?_; intro ag3 c3 wm hr4 hg4 hb4 hw4; have hbm : Below B wr wm := (by first | exact hbn.trans hb4 | exact (hbn.alloc HSZ.out _).trans hb4 | exact (hbn.alloc HSZ.out _).drew.trans hb4); have t6 := (hbm.cell (p := ⟨bX, 0, none⟩) HhbX.out).trans y2; have t7 := (hbm.frozen (p := ⟨bX, 0, none⟩) HhbX.out).trans y5))
                    all_goals (
                      have HRN := hid hr4
                      have HBN := hid hbm
                      clear hr2 hg2 hb2 hw2 hbn hr4 hg4 hb4 hw4 hbm
                      go_wp2_with fail
                      go_meet
                      case rel => exact put20 HRN.out HBN.out HBl.out HhbX.out HB20.out)
                case rest =>
                  obtain ⟨ag2, c2, hv93, hrow, hbX20, hsz20, hbl20, hold⟩ := hcut.ex
                  have HBL20 := hid hbl20
                  have HROW := hid hrow
                  have HBX20 := hid hbX20
                  have HSZ20 := hid hsz20
                  have HOLD := hid hold
                  have z1 : wc.cell? ⟨bX, 1, none⟩ = some (.slice ya1 ym1 yc1) := (blkc hbX20).2.1
                  have z2 : wc.frozen? ⟨bX, 1, none⟩ = false := (blkc hbX20).2.2.2
                  have e7 : bX < wc.heap.size := by omega
                  have hagc : Agree Fc wu wc := by
                    intro b hb
                    obtain ⟨h1, h2⟩ := G6.out b hb
                    have h3 : wr.heap.size = wu.heap.size := by rw [Hw.out]; rfl
                    have hne : b ≠ bX := by
                      intro e
                      rcases h1 with h1 | h1
                      · have := HFs.out _ h1; rw [HbX.out] at e; omega
                      · rw [HbX.out] at e; omega
                    rw [hold b (by rw [hB, h3]; exact h2) hne, Hw.out]; rfl
                  have HAGC := hid hagc
                  have hsw : wr.heap.size = wu.heap.size := by rw [Hw.out]; rfl
                  have HSW := hid hsw
                  have hbB := hid hB
                  have ctB := hid (show B ≤ wc.heap.size from hsz20)
                  clear hcut hrow hbX20 hsz20 hbl20 hold hagc OB OC RB RC BB BC zB zC hone1 hone2 y2 y3 y4 y5 hsE hsS OE HB20 XR e0 e00 e1 e2 e3 e4 e5 e6 hsw hB hbXB2
                  have OD := hid (show (wc.alloc (.cells #[] 22)).ownsRow wc.heap.size 22 1 (.slice (some ⟨wc.heap.size, 0, none⟩) 0 0) 0 [] from World.ownsRow_made wc #[] 0 (Nat.le_refl _) (Nat.zero_le _) rfl)
                  have RD := hid (show Reads (wc.alloc (.cells #[] 22)) ya1 ym1 yc1 ws1 from G4.out.yo _ (fun b hb => (heap_alloc_old _ _ (by have h1 := (G6.out b hb).2; have h2 := HSW.out; have h3 := ctB.out; have h4 := hbB.out; omega)).trans (HAGC.out b hb)))
                  have hw1 := hone_rests G4.out
                  have hw2 : ∀ u ∈ [Value.slice ra rl rc], u.oneCell' = true := by simp [Value.oneCell']
                  have n1 : 0 + ym1 ≤ maxLen := by unfold maxLen; omega
                  have n2 : (0 + ym1) * 24 ≤ 140737488355328 := by omega
                  have n3 : ym1 + 1 ≤ maxLen := by unfold maxLen; omega
                  have n4 : (ym1 + 1) * 24 ≤ 140737488355328 := by omega
                  go_wp2_with (at_builtin; refine wpList_append_two rfl _ _ 51 rfl wc.heap.size 22 Try.infoStrs rfl Try.underlying51 _ _ _ _ rfl OD.out _ _ _ _ rfl RD.out hw1 n1 n2 (by simp) ?_)
                  intro ag3 c3 w6 hr6 hg6 hb6 hw6
                  have B6 := hid (show Below wc.heap.size wc w6 from ((Below.refl _ _).alloc (Nat.le_refl _) _).trans hb6)
                  have OF := hid (hr6.alloc (.cells #[.slice ra rl rc] 22))
                  have S6 := hid (show wc.heap.size ≤ (w6.alloc (.cells #[.slice ra rl rc] 22)).heap.size from by have := B6.out.size; simp; omega)
                  have z61 : w6.cell? ⟨bX, 1, none⟩ = some (.slice ya1 ym1 yc1) := by rw [← z1]; exact cell_agree (B6.out.block _ e7)
                  clear hr6 hg6 hb6 hw6 OD RD hw1 n1 n2
                  go_wp2_with (at_builtin; refine wpList_append_two rfl _ _ 51 rfl wc.heap.size 22 Try.infoStrs rfl Try.underlying51 _ _ _ _ rfl OF.out _ _ _ _ rfl (reads_one _ _ _) hw2 n3 n4 S6.out ?_)
                  intro ag4 c4 w7 hr7 hg7 hb7 hw7
                  have B7 := hid (show Below wc.heap.size wc w7 from (B6.out.alloc B6.out.size _).trans hb7)
                  have HX7 := hid (show w7.heap[bX]? = some (.cells #[.slice ag2 (xm1 + 1) c2, .slice ya1 ym1 yc1] 53 (0, 0)) from (B7.out.block _ e7).trans HBX20.out)
                  have HR7 := hid hr7
                  have z71 : w7.cell? ⟨bX, 1, none⟩ = some (.slice ya1 ym1 yc1) := (blkc HX7.out).2.1
                  have z72 : w7.frozen? ⟨bX, 1, none⟩ = false := (blkc HX7.out).2.2.2
                  clear hr7 hg7 hb7 hw7 hw2 n3 n4 OF S6 z61 z1 z2
                  go_upto_region 22 with (fail)
                  obtain ⟨w8, hw8⟩ : ∃ w8, w8 = w7.setCell ⟨bX, 1, none⟩ (.slice ag4 (ym1 + 1) c4) := ⟨_, rfl⟩
                  rw [← hw8]
                  have b7 : w8.heap[bX]? = some (.cells #[.slice ag2 (xm1 + 1) c2, .slice ag4 (ym1 + 1) c4] 53 (0, 0)) := by rw [hw8]; exact blk_set (i := 1) HX7.out _
                  have b8 : w8.heap[bX + 1]? = some (.cells #[.slice none 0 0, .slice none 0 0] 53 (0, 0)) := by
                    have h1 : bX + 1 < B := by have := lt_of_block G8.out; have h2 := HbX.out; have h3 := hbB.out; have h4 := HSW.out; omega
                    rw [hw8, blk_ne (by omega)]
                    exact (B7.out.block _ (Nat.lt_of_lt_of_le h1 ctB.out)).trans ((HOLD.out _ h1 (by omega)).trans (by rw [Hw.out, HbX.out]; exact G8.out))
                  obtain ⟨k0, k1, _, _⟩ := blkc b7
                  obtain ⟨m0, m1, m2, m3⟩ := blkc b8
                  have hblk : ((w8.setCell ⟨bX + 1, 0, none⟩ (.slice ag2 (xm1 + 1) c2)).setCell ⟨bX + 1, 1, none⟩ (.slice ag4 (ym1 + 1) c4)).heap[bX + 1]? = some (.cells #[.slice ag2 (xm1 + 1) c2, .slice ag4 (ym1 + 1) c4] 53 (0, 0)) := blk_set (i := 1) (blk_set (i := 0) b8 _) _
                  have hld := load_rests (w := ((w8.setCell ⟨bX + 1, 0, none⟩ (.slice ag2 (xm1 + 1) c2)).setCell ⟨bX + 1, 1, none⟩ (.slice ag4 (ym1 + 1) c4)).drew) hblk
                  have HW8 : Hid _ := hw8
                  have hne1 : bX ≠ bX + 1 := by omega
                  have hne2 : bX + 1 ≠ bX := by omega
                  clear hw8 b7 b8 hblk z71 z72
                  go_region
                  go_wp2
                  refine bodyPost_ret (rests_end rfl _ _ _ (x := ⟨bX + 1, 0, none⟩) rfl hld) rfl ?_
                  obtain ⟨w9, hw9⟩ : ∃ w9, w9 = ((w8.setCell ⟨bX + 1, 0, none⟩ (.slice ag2 (xm1 + 1) c2)).setCell ⟨bX + 1, 1, none⟩ (.slice ag4 (ym1 + 1) c4)).drew := ⟨_, rfl⟩
                  rw [← hw9]
                  have hbig : wc.heap.size ≤ w7.heap.size := B7.out.size
                  have hs9 : w9.heap.size = w7.heap.size := by rw [hw9, HW8.out]; simp
                  have ht9 : ∀ b, b ≠ bX → b ≠ bX + 1 → w9.heap[b]? = w7.heap[b]? := fun b h1 h2 => by
                    rw [hw9]
                    show ((w8.setCell ⟨bX + 1, 0, none⟩ (.slice ag2 (xm1 + 1) c2)).setCell ⟨bX + 1, 1, none⟩ (.slice ag4 (ym1 + 1) c4)).heap[b]? = _
                    rw [blk_ne h2, blk_ne h2, HW8.out, blk_ne h1]
                  have hc9 : ∀ b, b < wc.heap.size → b ≠ bX → b ≠ bX + 1 → w9.heap[b]? = wc.heap[b]? := fun b h0 h1 h2 => (ht9 b h1 h2).trans (B7.out.block b h0)
                  have hBu : B = wu.heap.size := hbB.out.trans HSW.out
                  have hwu3 : w.heap.size + 3 ≤ wu.heap.size := lt_of_block G9.out
                  have hbXw := HbX.out
                  have hBc := ctB.out
                  have hu9 : ∀ b, b < wu.heap.size → b ≠ bX → b ≠ bX + 1 → w9.heap[b]? = wu.heap[b]? := fun b h0 h1 h2 => (hc9 b (by omega) h1 h2).trans ((HOLD.out b (by omega) h1).trans (by rw [Hw.out]; rfl))
                  obtain ⟨F', hF'⟩ : ∃ F' : Nat → Prop, F' = fun b => F b ∨ (w.heap.size ≤ b ∧ b < w9.heap.size) := ⟨_, rfl⟩
                  have hin : ∀ b, w.heap.size ≤ b → b < w9.heap.size → F' b := fun b h1 h2 => by rw [hF']; exact .inr ⟨h1, h2⟩
                  have hwords : wordsOf (leaveK S k).1 (headE L, (leaveK S k).2) = L := by
                    have h1 := leave_words_of (trieW L) HS.out.good
                    rw [Gk.out] at h1
                    simp only at h1
                    rw [h1, ← Gk.out]
                    exact list_words Hri.out
                  have hlow := (leave_good k S HS.out.good).2.2
                  have hE : leaveN S (trieW L) = ((leaveK S k).1 ++ [(headE L, (leaveK S k).2)], xm1) := by
                    rw [HXm.out.1]
                    show putS (leaveK S (trieW L).2).1 ((trieW L).1, (leaveK S (trieW L).2).2) = _
                    rw [Gk.out]
                    exact look_out (s := (headE L, (leaveK S k).2)) G2.out.good fun i hi => by rw [hwords]; exact hA.out i (by have := HXm.out.2; omega)
                  have hgood2 : GoodS ((leaveK S k).1 ++ [(headE L, (leaveK S k).2)]) := by
                    have h1 := put_good (s := (headE L, (leaveK S k).2)) G2.out.good hlow
                    have h2 : putS (leaveK S k).1 (headE L, (leaveK S k).2) = leaveN S (trieW L) := by
                      show _ = putS (leaveK S (trieW L).2).1 ((trieW L).1, (leaveK S (trieW L).2).2)
                      rw [Gk.out]
                    rw [h2, hE] at h1
                    exact h1
                  rw [hE]
                  have hlv := G4.out.lv
                  have hlw := G4.out.lw
                  have agu : ∀ v : World, Agree F' w9 v → ∀ b, w.heap.size ≤ b → b < wu.heap.size → b ≠ bX → b ≠ bX + 1 → v.heap[b]? = wu.heap[b]? := fun v hv b h0 h1 h2 h3 => (hv b (hin b h0 (by omega))).trans (hu9 b h1 h2 h3)
                  have agF : ∀ v : World, Agree F' w9 v → Agree Fc wu v := fun v hv b hb => by
                    obtain ⟨h1, h2⟩ := G6.out b hb
                    rcases h1 with h1 | h1
                    · have h3 := HFs.out b h1
                      refine (hv b (by rw [hF']; exact .inl h1)).trans (hu9 b h2 (by omega) (by omega))
                    · exact agu v hv b (by omega) h2 (by omega) (by omega)
                  have agw : ∀ v : World, Agree F' w9 v → Agree F w v := fun v hv b hb => by
                    have h3 := HFs.out b hb
                    exact (hv b (by rw [hF']; exact .inl hb)).trans ((hu9 b (by omega) (by omega) (by omega)).trans (G14.out.block b h3))
                  refine ⟨_, _, _, _, _, _, vs1 ++ [(headE L, .slice eg n ec)], ws1 ++ [.slice ra rl rc], rfl, ?_, ?_⟩
                  · rw [← hF']
                    refine ⟨by simp [hlv], by simp [hlw], fun v hv => ?_, fun v hv i q st hi hst => ?_, fun v hv => ?_, fun v hv i u hi hil => ?_⟩
                    · have h1 := owns_block (w' := v) HROW.out (fun kk hkk => by
                        have h2 := HROW.out.lt kk hkk
                        exact (hv kk (hin kk (by omega) (by omega))).trans (hc9 kk h2.2 (by omega) (by omega)))
                      rw [cellsA_app]
                      exact ReadsE.own h1
                    · by_cases hq : i < vs1.length
                      · rw [List.getElem?_append_left hq] at hi
                        rw [List.getElem?_append_left (by omega)] at hst
                        exact G4.out.xi v (agF v hv) i q st hi hst
                      · rw [List.getElem?_append_right (by omega)] at hi
                        rw [List.getElem?_append_right (by omega)] at hst
                        have hi0 : i - vs1.length = 0 := by
                          have := (List.getElem?_eq_some_iff.1 hi).1
                          simp at this; omega
                        rw [hi0] at hi
                        rw [← hlv, hi0] at hst
                        cases hi
                        cases hst
                        have h1 := owns_block (w' := v) G12.out (fun kk hkk => by
                          have h2 := G12.out.lt kk hkk
                          exact agu v hv kk (by omega) h2.2 (by omega) (by omega))
                        have h2 := G10.out
                        refine ⟨rfl, eg, ec, ?_, ?_⟩
                        · show Value.slice eg n ec = .slice eg (leaveK S k).2.length ec
                          rw [← h2]
                        · show ReadsE v eg (leaveK S k).2.length ec (cellsEd (zE (leaveK S k).2))
                          rw [← h2]
                          exact ReadsE.own h1
                    · have h1 := owns_block (w' := v) HR7.out (fun kk hkk => by
                        have h2 := HR7.out.lt kk hkk
                        exact (hv kk (hin kk (by omega) (by omega))).trans (ht9 kk (by omega) (by omega)))
                      exact Reads.own h1
                    · by_cases hq : i < ws1.length
                      · rw [List.getElem?_append_left hq] at hi
                        rw [lang_pre G2.out.good hgood2 (List.prefix_append _ _) i (by omega)]
                        exact G4.out.yi v (agF v hv) i u hi (by omega)
                      · rw [List.getElem?_append_right (by omega)] at hi
                        have hi0 : i - ws1.length = 0 := by
                          have := (List.getElem?_eq_some_iff.1 hi).1
                          simp at this; omega
                        rw [hi0] at hi
                        cases hi
                        have hil2 : i = (leaveK S k).1.length := by omega
                        rw [hil2, lang_last G2.out.good hgood2 hlow, hwords]
                        refine ⟨ra, rc, by rw [Hrl.out], ?_⟩
                        rw [Hrl.out]
                        exact HR.out v (agw v hv)
                  · have h1 : Below w.heap.size wr wc := by rw [← hbXw]; exact HBL20.out
                    have h2 : Below w.heap.size w wr := by rw [Hw.out]; exact below_drewN G14.out qd
                    have h3 := (h2.trans h1).trans (B7.out.mono (by omega))
                    rw [hw9, HW8.out]
                    exact (((h3.setCell (show w.heap.size ≤ bX by omega) _).setCell (show w.heap.size ≤ bX + 1 by omega) _).setCell (show w.heap.size ≤ bX + 1 by omega) _).drew
end Go.Proofs.Ytkcledkfgmdcgaa
