/- Plain helpers: what a slice value shows in a world; numbers as bytes, over lists. Slices cut, and read as texts; growth of the world. A slice of slices of bytes: what it shows; how one that came in is shown to a walk. Rows that a call made: kept by calls, and by appends onto rows of another element's type; slices cut at both ends; rows of own rows. Two rows of one element's type that a call made: where an append leaves them. What the program says of its plain types: zero values and sizes (stage 4 on). How a slice of integers that came in is shown to a walk: its elements, each fitting its kind, and the form's own reach. Whole arrays by value, in blocks of the call's own. -/
import Derived.Test.YtkcledkfgmdcgaaRows
import Derived.WalkKit
import Derived.WalkSpells
import Derived.WalkLawsBesides
import Derived.Laws.BytesArg
import Derived.Laws.AppendOwnNone
import Derived.ProofKit
import Derived.OpenShut
import Derived.SizedLaws
import Derived.Deep.Matrix
import Derived.Deep.MidRow
import Derived.Deep.WholeRow
import Derived.Laws.IdiomStrings
import Derived.Lib.SlBytesConst
namespace Go.Proofs.Ytkcledkfgmdcgaa
open Go.RowKit

/-- What a slice value shows: its elements, and nothing of its spare room. -/
structure Reads (w : World) (ao : Option Addr) (len cap : Nat) (xs : List Value) : Prop where
  length : xs.length = len
  le : len ≤ cap
  most : cap ≤ maxLen
  bare : ao = none → len = 0 ∧ cap = 0
  cell : ∀ a, ao = some a → ∀ j u, xs[j]? = some u → w.cell? (a.add j) = some u

theorem Reads.nil (w : World) : Reads w none 0 0 [] := ⟨rfl, Nat.le_refl _, Nat.zero_le _, fun _ => ⟨rfl, rfl⟩, fun _ h => by cases h⟩

theorem Reads.later {w w' : World} {ao : Option Addr} {len cap : Nat} {xs : List Value} {B : Nat} (h : Reads w ao len cap xs) (hb : Below B w w') (hB : w.heap.size ≤ B) : Reads w' ao len cap xs :=
  ⟨h.length, h.le, h.most, h.bare, fun a ha j u hu => by
    have hc := h.cell a ha j u hu
    have hlt := World.block_lt_of_cell? w _ hc
    rw [hb.cell (by omega)]; exact hc⟩

theorem Reads.owned {w : World} {base e g n cap : Nat} {xs : List Value} (h : w.ownsRow base e 1 (.slice (some ⟨g, 0, none⟩) n cap) n xs) : Reads w (some ⟨g, 0, none⟩) n cap xs := by
  have hl := h.1
  have hcells := h.cells (g := g) rfl
  rcases h.2 with ⟨h, _⟩ | ⟨g', cap', cur, hv, hb, hg, hle, hm, hs, ht⟩
  · cases h
  · simp only [Value.slice.injEq, Option.some.injEq, Addr.mk.injEq, and_true, true_and] at hv
    obtain ⟨rfl, rfl⟩ := hv
    exact ⟨by simpa using hl, hle, hm, fun h => (by cases h), fun a ha j u hu => by cases ha; exact hcells j u hu⟩

/-- At a place within the slice. -/
theorem Reads.at {w : World} {ao : Option Addr} {len cap : Nat} {zs : List Int} {k : IntKind} (h : Reads w ao len cap (zs.map (.int k))) (hp : 0 < len) :
    ∃ b off, ao = some ⟨b, off, none⟩ ∧ b < w.heap.size ∧ ∀ j, j < len → w.cell? ⟨b, off + j, none⟩ = some (.int k (zs.getD j 0)) := by
  have hl := h.length
  simp only [List.length_map] at hl
  cases ao with
  | none => have := h.bare rfl; omega
  | some a =>
    obtain ⟨b, off, spot⟩ := a
    have h0 := h.cell _ rfl 0 (.int k (zs.getD 0 0)) (by simp [List.getD, show 0 < zs.length by omega])
    have hspot : spot = none := by simpa [Addr.add] using World.cell?_spot h0
    subst hspot
    refine ⟨b, off, rfl, by simpa [Addr.add] using World.block_lt_of_cell? w _ h0, fun j hj => ?_⟩
    have := h.cell _ rfl j (.int k (zs.getD j 0)) (by simp [List.getD, show j < zs.length by omega])
    simpa [Addr.add_lit] using this

/-! Numbers as bytes. -/
def enc : Nat → Nat → List Int
  | 0, n => [(n : Int)]
  | f + 1, n => if n < 128 then [(n : Int)] else ((n : Int) % 128 + 128) :: enc f (n / 128)
def lim : Nat → Nat
  | 0 => 2
  | f + 1 => 128 * lim f
def encode (n : Nat) : List Int := enc 9 n

theorem enc_len (f n : Nat) : 1 ≤ (enc f n).length ∧ (enc f n).length ≤ f + 1 := by
  induction f generalizing n with
  | zero => simp [enc]
  | succ f ih =>
    unfold enc
    split
    · simp
    · have := ih (n / 128)
      simp; omega

theorem lim_le (f : Nat) (h : f ≤ 9) : lim f ≤ 18446744073709551616 := by
  match f, h with
  | 0, _ => decide
  | 1, _ => decide
  | 2, _ => decide
  | 3, _ => decide
  | 4, _ => decide
  | 5, _ => decide
  | 6, _ => decide
  | 7, _ => decide
  | 8, _ => decide
  | 9, _ => decide

theorem enc_stop (f m : Nat) (h : m < 128) : enc f m = [(m : Int)] := by
  cases f with
  | zero => rfl
  | succ f => unfold enc; rw [if_pos h]

theorem enc_step {f m : Nat} {pre E : List Int} (h : 128 ≤ m) (hm : m < lim f) (he : pre ++ enc f m = E) (hf : pre.length + f = 9) :
    ∃ f', m / 128 < lim f' ∧ (pre ++ [(m : Int) % 128 + 128]) ++ enc f' (m / 128) = E ∧ (pre ++ [(m : Int) % 128 + 128]).length + f' = 9 := by
  cases f with
  | zero => simp [lim] at hm; omega
  | succ f =>
    refine ⟨f, ?_, ?_, ?_⟩
    · simp only [lim] at hm; omega
    · rw [← he]; conv => rhs; unfold enc
      rw [if_neg (by omega)]; simp
    · simp; omega

theorem encode_len (n : Nat) : 1 ≤ (encode n).length ∧ (encode n).length ≤ 10 := enc_len 9 n

/-- The number with which bytes begin: from the i-th byte on, n read so far. -/
def scan : List Int → Nat → Nat → Nat × Nat × Nat
  | [], _, _ => (0, 0, 3)
  | c :: r, i, n => if (i = 9 ∧ 1 < c) ∨ (0 < i ∧ c = 0) then (0, 0, 2) else if c < 128 then (n + c.toNat % 128 * 128 ^ i, i + 1, 0) else scan r (i + 1) (n + c.toNat % 128 * 128 ^ i)
def getL (zs : List Int) : Nat × Nat × Nat := scan zs 0 0

theorem drop_at (zs : List Int) (j : Nat) (h : j < zs.length) : zs.drop j = zs.getD j 0 :: zs.drop (j + 1) := by
  rw [List.drop_eq_getElem_cons h]
  simp [List.getD, h]

theorem or_add (m x j : Nat) (hm : m < 2 ^ j) : m ||| x * 2 ^ j = m + x * 2 ^ j := by
  have := Nat.two_pow_add_eq_or_of_lt hm x
  rw [Nat.or_comm, Nat.mul_comm, ← this, Nat.add_comm]

theorem pow_128 (j : Nat) : 128 ^ j = 2 ^ (7 * j) := by
  rw [Nat.pow_mul]

/-- One byte more of a number. -/
theorem or_more (m c j : Nat) (hm : m < 128 ^ j) (hc : c ≤ 255) (hj : j ≤ 9) (h : j = 9 → c ≤ 1) :
    bits BinOp.or IntKind.u64 (m : Int) (IntKind.u64.wrap ((c : Int) % 128 * 2 ^ (7 * j))) = ((m + c % 128 * 128 ^ j : Nat) : Int) ∧ m + c % 128 * 128 ^ j < 128 ^ (j + 1) ∧ m + c % 128 * 128 ^ j < 18446744073709551616 := by
  have hp : (128 : Nat) ^ j ≤ 9223372036854775808 := by
    have : (128 : Nat) ^ j ≤ 128 ^ 9 := Nat.pow_le_pow_right (by decide) hj
    have e : (128 : Nat) ^ 9 = 9223372036854775808 := by decide
    omega
  have hlt : c % 128 * 128 ^ j ≤ 127 * 128 ^ j := Nat.mul_le_mul_right _ (by omega)
  have hs : m + c % 128 * 128 ^ j < 128 ^ (j + 1) := by rw [Nat.pow_succ]; omega
  have h64 : m + c % 128 * 128 ^ j < 18446744073709551616 := by
    by_cases h9 : j = 9
    · have := h h9
      have : c % 128 * 128 ^ j ≤ 1 * 128 ^ j := Nat.mul_le_mul_right _ (by omega)
      omega
    · have : (128 : Nat) ^ (j + 1) ≤ 128 ^ 9 := Nat.pow_le_pow_right (by decide) (by omega)
      have e : (128 : Nat) ^ 9 = 9223372036854775808 := by decide
      omega
  refine ⟨?_, hs, h64⟩
  have e1 : ((c : Int) % 128 * 2 ^ (7 * j)) = ((c % 128 * 128 ^ j : Nat) : Int) := by
    rw [pow_128]; simp
  rw [e1, IntKind.wrap_u64]
  have e2 : ((c % 128 * 128 ^ j : Nat) : Int) % 18446744073709551616 = ((c % 128 * 128 ^ j : Nat) : Int) := by omega
  rw [e2, u64_or_nat _ _ (by omega) (by omega), pow_128, or_add _ _ _ (by rw [← pow_128]; exact hm)]

def isBytes (zs : List Int) : Prop := ∀ z ∈ zs, 0 ≤ z ∧ z ≤ 255

theorem isBytes.get {zs : List Int} (h : isBytes zs) (j : Nat) : ∃ c : Nat, zs.getD j 0 = (c : Int) ∧ c ≤ 255 := by
  by_cases hj : j < zs.length
  · have := h (zs[j]) (List.getElem_mem hj)
    refine ⟨(zs[j]).toNat, ?_, by omega⟩
    simp [List.getD, hj]; omega
  · exact ⟨0, by simp [List.getD, List.getElem?_eq_none (Nat.le_of_not_lt hj)], by omega⟩
end Go.Proofs.Ytkcledkfgmdcgaa

namespace Go.Proofs.Ytkcledkfgmdcgaa
open Go.RowKit

/-- Nothing that was there has turned. -/
abbrev Grow (w w' : World) : Prop := Below w.heap.size w w'
theorem Grow.trans {a b c : World} (h : Grow a b) (k : Grow b c) : Grow a c := Below.trans h (Below.mono k h.size)

theorem Reads.plain {w : World} {a : Addr} {len cap : Nat} {xs : List Value} (h : Reads w (some a) len cap xs) (hp : 0 < len) : ∃ b off, a = ⟨b, off, none⟩ := by
  have hl := h.length
  obtain ⟨b, off, spot⟩ := a
  have h0 := h.cell _ rfl 0 xs[0] (List.getElem?_eq_getElem (by omega))
  have hspot : spot = none := by simpa [Addr.add] using World.cell?_spot h0
  exact ⟨b, off, by rw [hspot]⟩

theorem Reads.from {P : Program} {t e : TypeId} (ht : P.underlying t = some (.slice e)) (hs : ∀ W, (sizeOf e).run P W = .ok 1 W) {ao : Option Addr} {len cap : Nat} (l : Nat) (hl : l ≤ len) :
    ∃ ao', (∀ W, (Instr.slice t (.slice ao len cap) (some (.int .i64 (l : Int))) none none).run P W = .ok (.slice ao' (len - l) (cap - l)) W) ∧ (∀ W xs, Reads W ao len cap xs → Reads W ao' (len - l) (cap - l) (xs.drop l)) := by
  have ht' : P.underlying t = some (.slice (P.elem t)) := by simp [Program.elem, ht]
  have he : P.elem t = e := by simp [Program.elem, ht]
  refine ⟨if cap = l then ao else ao.map (·.add (l * 1)), fun W => ?_, fun W xs h => ⟨?_, ?_, ?_, ?_, ?_⟩⟩
  · rw [run_slice_l (P := P) W t ao len cap ht' .i64 l (by omega) (by omega), he, hs]
    simp [Result.andThen, sliced]
  · have := h.length; simp; omega
  · have := h.le; omega
  · have := h.most; omega
  · intro hn
    split at hn
    · have := h.bare hn; omega
    · simp only [Option.map_eq_none_iff] at hn
      have := h.bare hn; omega
  · intro a ha j u hu
    have hle := h.le
    have hj : l + j < xs.length := by
      have := (List.getElem?_eq_some_iff.1 hu).1
      simp at this; omega
    have := h.length
    rw [if_neg (by omega)] at ha
    cases ao with
    | none => simp at ha
    | some x =>
      simp only [Option.map_some, Option.some.injEq] at ha
      subst ha
      obtain ⟨b, off, rfl⟩ := h.plain (by omega)
      have hc := h.cell _ rfl (l + j) u (by simpa using hu)
      rw [Nat.mul_one, Addr.add_lit, Addr.add_lit, Nat.add_assoc]
      rw [Addr.add_lit] at hc
      exact hc

theorem Reads.to {P : Program} {t e : TypeId} (ht : P.underlying t = some (.slice e)) (hs : ∀ W, (sizeOf e).run P W = .ok 1 W) {ao : Option Addr} {len cap : Nat} (hc : len ≤ cap) (h : Nat) (hh : h ≤ len) :
    ∃ ao', (∀ W, (Instr.slice t (.slice ao len cap) none (some (.int .i64 (h : Int))) none).run P W = .ok (.slice ao' h cap) W) ∧ (∀ W xs, Reads W ao len cap xs → Reads W ao' h cap (xs.take h)) := by
  have ht' : P.underlying t = some (.slice (P.elem t)) := by simp [Program.elem, ht]
  have he : P.elem t = e := by simp [Program.elem, ht]
  refine ⟨if cap = 0 then ao else ao.map (·.add (0 * 1)), fun W => ?_, fun W xs hr => ⟨?_, ?_, ?_, ?_, ?_⟩⟩
  · rw [run_slice_h (P := P) W t ao len cap ht' .i64 h (by omega) (by omega), he, hs]
    simp [Result.andThen, sliced]
  · have := hr.length; simp; omega
  · omega
  · exact hr.most
  · intro hn
    split at hn
    · have := hr.bare hn; omega
    · simp only [Option.map_eq_none_iff] at hn
      have := hr.bare hn; omega
  · intro a ha j u hu
    have hj : j < h ∧ j < xs.length := by
      have := (List.getElem?_eq_some_iff.1 hu).1
      simp at this; omega
    rw [if_neg (by omega)] at ha
    cases ao with
    | none => simp at ha
    | some x =>
      simp only [Option.map_some, Option.some.injEq] at ha
      subst ha
      obtain ⟨b, off, rfl⟩ := hr.plain (by omega)
      have hcc := hr.cell _ rfl j u (by rw [List.getElem?_take_of_lt hj.1] at hu; exact hu)
      rw [Nat.zero_mul, Addr.add_lit, Addr.add_lit, Nat.add_zero]
      rw [Addr.add_lit] at hcc
      exact hcc

theorem size_of {P : Program} {e : TypeId} {z : Value} {b : Nat} (h : (P.info? e).map (fun i => (i.zero, i.size, i.bytes)) = some (some z, 1, b)) : ∀ W, (sizeOf e).run P W = .ok 1 W := by
  obtain ⟨i, hi, _, h1, _⟩ := info_parts h
  intro W
  simp [sizeOf, typeInfo, hi, h1]

/-- 'string(b)'. -/
theorem conv_of {P : Program} {t e s : TypeId} (ht : P.underlying t = some (.slice e)) (he : P.underlying e = some (.int .u8)) (hs : P.underlying s = some .string)
    {W : World} {ao : Option Addr} {len cap : Nat} {zs : List Int} (h : Reads W ao len cap (zs.map (.int .u8))) :
    (convert t s (.slice ao len cap)).run P W = .ok (.string (strOfNums zs)) W := by
  have hl := h.length
  simp only [List.length_map] at hl
  rcases Nat.eq_zero_or_pos len with h0 | h0
  · subst h0
    obtain rfl : zs = [] := List.eq_nil_of_length_eq_zero hl
    cases ao with
    | none => rw [run_convert_bytes_nil W t e ht he 0 cap s hs]; rfl
    | some a =>
      rw [run_convert_bytes_string W t s e _ 0 cap ht he hs]
      have hz := run_loadCells_list (P := P) W a [] (fun j v hj => by simp at hj)
      rw [run_bytesToString W a 0 cap [] (by simpa using hz)]
      rfl
  · obtain ⟨b, off, rfl, _, hc⟩ := h.at h0
    exact run_convert_bytes_arg W t e ht he b off len cap zs hl hc s hs

theorem str_inj {xs ys : List Int} (hx : isBytes xs) (hy : isBytes ys) (h : strOfNums xs = strOfNums ys) : xs = ys := by
  have h1 : (xs.map fun n => UInt8.ofNat n.toNat) = (ys.map fun n => UInt8.ofNat n.toNat) := by
    rw [← strOfNums_data, ← strOfNums_data, h]
  have e : ∀ l : List Int, (∀ z ∈ l, 0 ≤ z ∧ z ≤ 255) → (l.map fun n => UInt8.ofNat n.toNat).map (fun b => (b.toNat : Int)) = l := by
    intro l hl
    rw [List.map_map]
    conv => rhs; rw [← List.map_id l]
    apply List.map_congr_left
    intro z hz
    have := hl z hz
    simp; omega
  rw [← e xs hx, ← e ys hy, h1]

/-- A slice that the call itself made, read. -/
theorem Reads.own {w : World} {base e n cap : Nat} {ao : Option Addr} {xs : List Value} (h : w.ownsRow base e 1 (.slice ao n cap) n xs) : Reads w ao n cap xs := by
  rcases h.2 with ⟨hv, hn⟩ | ⟨g, cap', cur, hv, _⟩
  · simp only [Value.slice.injEq] at hv
    obtain ⟨rfl, rfl, rfl⟩ := hv
    have : xs = [] := List.eq_nil_of_length_eq_zero (by simpa using h.1)
    subst this
    exact Reads.nil w
  · simp only [Value.slice.injEq] at hv
    obtain ⟨rfl, _, rfl⟩ := hv
    exact Reads.owned h

/-- 'append(own, src...)', whatever the source: it may grow. -/
theorem wpList_append_reads {P : Program} {w : World} {ops : Array Oper} {rest : List Oper} {o : Oper} {a : Act} {Q : Exit → Act → World → Prop} (hgd : o.guard = none) (s x : Operand) (t : TypeId)
    (ho : o.op = .call { callee := .builtin .append, args := #[s, x], argTypes := #[t, t] }) (base : Nat) (e : TypeId) {z : Value} {bytes : Nat}
    (hinfo : (P.info? e).map (fun i => (i.zero, i.size, i.bytes)) = some (some z, 1, bytes)) (hzs : z.cells.size = 1) (ht : P.underlying t = some (.slice e))
    (ag : Option Addr) (n c : Nat) (xs : List Value) (hs : a.eval s = .slice ag n c) (hown : w.ownsRow base e 1 (.slice ag n c) n xs)
    (ao : Option Addr) (m d : Nat) (news : List Value) (hx : a.eval x = .slice ao m d) (hr : Reads w ao m d news) (h1 : ∀ u ∈ news, u.oneCell' = true)
    (h63 : n + m ≤ maxLen) (hbytes : (n + m) * bytes ≤ 140737488355328) (hbase : base ≤ w.heap.size)
    (h : ∀ ag' c' w', w'.ownsRow base e 1 (.slice ag' (n + m) c') (n + m) (xs ++ news) → Below base w w' → wpList P ops Q rest (a.put o.dst (.slice ag' (n + m) c')) w') : wpList P ops Q (o :: rest) a w := by
  obtain ⟨i, hi, hz0, hz1, hz2⟩ := info_parts hinfo
  cases ao with
  | none =>
    obtain ⟨rfl, rfl⟩ := hr.bare rfl
    have : news = [] := List.eq_nil_of_length_eq_zero hr.length
    subst this
    refine wpList_append_own_none hgd s x t ho base e i 1 ht hi _ n xs hs hown hx ?_
    exact h ag c w (by simpa using hown) (Below.refl _ _)
  | some ad =>
    refine wpList_append_own w hgd s x t ho base e i z 1 bytes ht hi hz0 hz1 hz2 hzs (by decide) _ n xs hs hown ad m d news hx (by simpa using hr.length) (hr.cell ad rfl) h1 h63 hbytes hbase ?_
    intro v' w' hown' hgrow _
    have hb : Below base w w' := (Below.refl _ _).grown hgrow hbase (fun k hk => (hown.lt k hk).1)
    rcases hown'.2 with ⟨hv, hn⟩ | ⟨g', c', cur, hv, _⟩
    · subst hv
      have hn' : n + m = 0 := hn
      have e1 : (Value.slice none 0 0) = .slice none (n + m) 0 := by rw [hn']
      rw [e1] at hown' ⊢
      exact h none 0 w' hown' hb
    · subst hv
      exact h _ c' w' hown' hb

theorem reads_one (W : World) (x : Value) (t : TypeId) : Reads (W.alloc (.cells #[x] t)) (some ⟨W.heap.size, 0, none⟩) 1 1 [x] :=
  ⟨rfl, Nat.le_refl _, by decide, fun h => (by cases h), fun a ha j u hu => by cases ha; exact cell_one_new W x t j u hu⟩

/-- '[]T{}'. -/
theorem ownsRow_empty (w : World) (e : TypeId) : (w.alloc (.cells #[] e)).ownsRow w.heap.size e 1 (.slice (some ⟨w.heap.size, 0, none⟩) 0 0) 0 [] :=
  World.ownsRow_made w #[] 0 (Nat.le_refl _) (Nat.zero_le _) rfl

/-- Two texts are one just if their bytes are, as a walk spells it. -/
theorem str_beq {xs ys : List Int} (hx : isBytes xs) (hy : isBytes ys) : ((strOfNums xs).toList == (strOfNums ys).toList) = decide (xs = ys) := by
  rw [Bool.eq_iff_iff]
  simp only [beq_iff_eq, decide_eq_true_eq, ByteArray.toList_eq]
  exact ⟨fun h => str_inj hx hy (ByteArray.ext (Array.toList_inj.1 h)), fun h => by rw [h]⟩
end Go.Proofs.Ytkcledkfgmdcgaa

namespace Go.Proofs.Ytkcledkfgmdcgaa
open Go.ChangeShapes Go.WideShapes Go.ChangeAt Go.RowKit

structure ReadsRows (w : World) (ao : Option Addr) (len cap : Nat) (ls : List (List Int)) : Prop where
  length : ls.length = len
  le : len ≤ cap
  most : cap ≤ maxLen
  bare : ao = none → len = 0 ∧ cap = 0
  row : ∀ a, ao = some a → ∀ i l, ls[i]? = some l → ∃ ai li ci, w.cell? (a.add i) = some (.slice ai li ci) ∧ Reads w ai li ci (l.map (.int .u8))

theorem ReadsRows.nil (w : World) : ReadsRows w none 0 0 [] := ⟨rfl, Nat.le_refl _, Nat.zero_le _, fun _ => ⟨rfl, rfl⟩, fun _ h => by cases h⟩

theorem ReadsRows.later {w w' : World} {ao : Option Addr} {len cap : Nat} {ls : List (List Int)} {B : Nat} (h : ReadsRows w ao len cap ls) (hb : Below B w w') (hB : w.heap.size ≤ B) : ReadsRows w' ao len cap ls :=
  ⟨h.length, h.le, h.most, h.bare, fun a ha i l hl => by
    obtain ⟨ai, li, ci, hc, hr⟩ := h.row a ha i l hl
    have hlt := World.block_lt_of_cell? w _ hc
    exact ⟨ai, li, ci, by rw [hb.cell (by omega)]; exact hc, hr.later hb hB⟩⟩

/-- At a place within. -/
theorem ReadsRows.at {w : World} {ao : Option Addr} {len cap : Nat} {ls : List (List Int)} (h : ReadsRows w ao len cap ls) (hp : 0 < len) :
    ∃ b off, ao = some ⟨b, off, none⟩ ∧ b < w.heap.size ∧ ∀ i, i < len → ∃ ai li ci, w.cell? ⟨b, off + i, none⟩ = some (.slice ai li ci) ∧ Reads w ai li ci ((ls.getD i []).map (.int .u8)) := by
  have hl := h.length
  cases ao with
  | none => have := h.bare rfl; omega
  | some a =>
    obtain ⟨b, off, spot⟩ := a
    obtain ⟨a0, l0, c0, h0, _⟩ := h.row _ rfl 0 (ls.getD 0 []) (by simp [List.getD, show 0 < ls.length by omega])
    have hspot : spot = none := by simpa [Addr.add] using World.cell?_spot h0
    subst hspot
    refine ⟨b, off, rfl, by simpa [Addr.add] using World.block_lt_of_cell? w _ h0, fun i hi => ?_⟩
    obtain ⟨ai, li, ci, hc, hr⟩ := h.row _ rfl i (ls.getD i []) (by simp [List.getD, show i < ls.length by omega])
    exact ⟨ai, li, ci, by simpa [Addr.add_lit] using hc, hr⟩

/-- Values that are slices, each of which shows a list. -/
structure RowVals (w : World) (vs : List Value) (ls : List (List Int)) : Prop where
  length : vs.length = ls.length
  row : ∀ (i : Nat) (v : Value) (l : List Int), vs[i]? = some v → ls[i]? = some l → ∃ ai li ci, v = .slice ai li ci ∧ Reads w ai li ci (l.map (.int .u8))

theorem RowVals.nil (w : World) : RowVals w [] [] := ⟨rfl, fun i v l h => by simp at h⟩
theorem RowVals.later {w w' : World} {vs : List Value} {ls : List (List Int)} {B : Nat} (h : RowVals w vs ls) (hb : Below B w w') (hB : w.heap.size ≤ B) : RowVals w' vs ls :=
  ⟨h.length, fun i v l hv hl => by obtain ⟨ai, li, ci, e, hr⟩ := h.row i v l hv hl; exact ⟨ai, li, ci, e, hr.later hb hB⟩⟩
theorem RowVals.append {w : World} {vs us : List Value} {ls ms : List (List Int)} (h : RowVals w vs ls) (k : RowVals w us ms) : RowVals w (vs ++ us) (ls ++ ms) :=
  ⟨by simp [h.length, k.length], fun i v l hv hl => by
    by_cases hi : i < vs.length
    · rw [List.getElem?_append_left hi] at hv
      rw [List.getElem?_append_left (by rw [← h.length]; exact hi)] at hl
      exact h.row i v l hv hl
    · rw [List.getElem?_append_right (by omega)] at hv
      rw [List.getElem?_append_right (by rw [← h.length]; omega), ← h.length] at hl
      exact k.row _ v l hv hl⟩
theorem RowVals.one {w : World} {ai : Option Addr} {li ci : Nat} {l : List Int} (h : Reads w ai li ci (l.map (.int .u8))) : RowVals w [.slice ai li ci] [l] :=
  ⟨rfl, fun i v l' hv hl => by
    match i, hv, hl with
    | 0, hv, hl => simp at hv hl; subst hv hl; exact ⟨ai, li, ci, rfl, h⟩⟩
theorem RowVals.take {w : World} {vs : List Value} {ls : List (List Int)} (h : RowVals w vs ls) (n : Nat) : RowVals w (vs.take n) (ls.take n) :=
  ⟨by simp [h.length], fun i v l hv hl => by
    by_cases hi : i < n
    · rw [List.getElem?_take_of_lt hi] at hv hl
      exact h.row i v l hv hl
    · rw [List.getElem?_take_eq_none (by omega)] at hv; cases hv⟩
theorem RowVals.oneCell {w : World} {vs : List Value} {ls : List (List Int)} (h : RowVals w vs ls) : ∀ u ∈ vs, u.oneCell' = true := fun u hu => by
  obtain ⟨i, hi, rfl⟩ := List.mem_iff_getElem.1 hu
  obtain ⟨ai, li, ci, e, _⟩ := h.row i vs[i] (ls[i]'(by rw [← h.length]; exact hi)) (List.getElem?_eq_getElem hi) (List.getElem?_eq_getElem _)
  rw [e]; rfl

theorem ReadsRows.of {w : World} {ao : Option Addr} {len cap : Nat} {vs : List Value} {ls : List (List Int)} (h : Reads w ao len cap vs) (hv : RowVals w vs ls) : ReadsRows w ao len cap ls :=
  ⟨by rw [← hv.length]; exact h.length, h.le, h.most, h.bare, fun a ha i l hl => by
    have hi : i < vs.length := by rw [hv.length]; exact (List.getElem?_eq_some_iff.1 hl).1
    obtain ⟨ai, li, ci, e, hr⟩ := hv.row i vs[i] l (List.getElem?_eq_getElem hi) hl
    exact ⟨ai, li, ci, by rw [← e]; exact h.cell a ha i _ (List.getElem?_eq_getElem hi), hr⟩⟩

theorem ReadsRows.vals {w : World} {ao : Option Addr} {len cap : Nat} {ls : List (List Int)} (h : ReadsRows w ao len cap ls) : ∃ vs, Reads w ao len cap vs ∧ RowVals w vs ls := by
  have hl := h.length
  cases ao with
  | none =>
    obtain ⟨rfl, rfl⟩ := h.bare rfl
    obtain rfl : ls = [] := List.eq_nil_of_length_eq_zero hl
    exact ⟨[], Reads.nil w, RowVals.nil w⟩
  | some a =>
    refine ⟨(List.range len).map fun i => (w.cell? (a.add i)).getD undef, ⟨by simp, h.le, h.most, fun h => (by cases h), fun b hb i u hu => ?_⟩, ⟨by simp [hl], fun i v l hv hl' => ?_⟩⟩
    · cases hb
      have hi : i < len := by have := (List.getElem?_eq_some_iff.1 hu).1; simpa using this
      obtain ⟨ai, li, ci, hc, _⟩ := h.row a rfl i ls[i] (List.getElem?_eq_getElem (by omega))
      simp [hi, hc] at hu
      rw [hc, hu]
    · have hi : i < len := by have := (List.getElem?_eq_some_iff.1 hv).1; simpa using this
      obtain ⟨ai, li, ci, hc, hr⟩ := h.row a rfl i l hl'
      simp [hi, hc] at hv
      exact ⟨ai, li, ci, hv.symm, hr⟩

theorem rows_in {H : Type} {enc : TypeId × Value → H} {P : Program} {W : World} {t e q : TypeId} {B : Nat} (hu : P.underlying t = some (.slice e)) (he : P.underlying e = some (.slice q)) (hq : P.underlying q = some (.int .u8)) (hce : P.cellsOf e = 1) (hcq : P.cellsOf q = 1) (hB : P.bytesOf e = B)
    {ts : List TypeId} {ds : List (DataW H)} (hsz : (DataW.weightsEach P ts ds).all (· ≤ reachBytes) = true) {j : Nat} {a : Option Addr} {len cap : Nat} {d : DataW H} {p : List MemPlace} (ht : ts[j]? = some t) (hd : ds[j]? = some d)
    (h : DataW.Trod enc P W 0 (fun _ => true) true t (.slice a len cap) d p) :
    ∃ ls : List (List Int), ReadsRows W a len cap ls ∧ (∀ l ∈ ls, isBytes l) ∧ len * B ≤ 140737488351232 := by
  obtain ⟨fuel, hf⟩ := h
  rcases Go.Deep.open_int_rows hu he hq hce hcq hf with ⟨hcs, _⟩ | ⟨x, l, c, A, L, C, Z, hcs, _, hl, hm, hx, hrow⟩
  · simp [Value.cells] at hcs
    obtain ⟨rfl, rfl, rfl⟩ := hcs
    exact ⟨[], ReadsRows.nil W, fun z hz => by simp at hz, by omega⟩
  · simp [Value.cells] at hcs
    obtain ⟨rfl, rfl, rfl⟩ := hcs
    simp only [Prod.mk.injEq] at hx
    have hb := sized_slice hsz (e := e) ht (by rw [hd, hx.1]) hu
    rw [hB] at hb
    simp only [List.length_map, List.length_range, reachBytes] at hb
    refine ⟨(List.range len).map fun r => (Z r).take (L r), ⟨by simp, hl, hm, fun h => (by cases h), fun y hy i u hu => ?_⟩, ?_, ?_⟩
    · cases hy
      have hi : i < len := by
        have := (List.getElem?_eq_some_iff.1 hu).1
        simpa using this
      obtain ⟨r1, r2, r3, r4, r5, r6, r7⟩ := hrow i (by omega)
      have hu' : u = (Z i).take (L i) := by simpa [hi] using hu.symm
      refine ⟨A i, L i, C i, r1, ⟨by rw [hu']; simp; omega, r2, r3, fun hn => by have := r6 hn; omega, fun a' ha' jj uu huu => ?_⟩⟩
      rw [hu'] at huu
      have hjj : jj < L i ∧ jj < (Z i).length := by
        have := (List.getElem?_eq_some_iff.1 huu).1
        simp at this; omega
      rw [(r7 a' ha').2 jj (by omega)]
      simp [List.getElem?_eq_getElem hjj.2, hjj.1] at huu
      simp [List.getD, List.getElem?_eq_getElem hjj.2, huu]
    · intro l hl' z hz
      simp only [List.mem_map, List.mem_range] at hl'
      obtain ⟨r, hr, rfl⟩ := hl'
      exact bounds_u8 ((hrow r (by omega)).2.2.2.2.1 z (List.mem_of_mem_take hz))
    · have e1 : len + (cap - len) = cap := by omega
      rw [e1] at hb
      exact Nat.le_trans (Nat.mul_le_mul_right B hl) hb
end Go.Proofs.Ytkcledkfgmdcgaa

namespace Go.Proofs.Ytkcledkfgmdcgaa
open Go.RowKit

theorem own_later {w w' : World} {base e n B : Nat} {v : Value} {xs : List Value} (h : w.ownsRow base e 1 v n xs) (hb : Below B w w') (hB : w.heap.size ≤ B) : w'.ownsRow base e 1 v n xs := by
  refine ⟨h.1, ?_⟩
  rcases h.2 with hn | ⟨g, cap, cur, rfl, hbb, hgg, rest⟩
  · exact .inl hn
  · refine .inr ⟨g, cap, cur, rfl, hbb, ?_, rest⟩
    rw [hb.block g (by have := (Array.getElem?_eq_some_iff.1 hgg).1; omega)]
    exact hgg

theorem own_mono {w : World} {base base' e n : Nat} {v : Value} {xs : List Value} (h : w.ownsRow base e 1 v n xs) (hb : base' ≤ base) : w.ownsRow base' e 1 v n xs :=
  ⟨h.1, h.2.imp id fun ⟨g, cap, cur, h1, h2, h3⟩ => ⟨g, cap, cur, h1, Nat.le_trans hb h2, h3⟩⟩

/-- Rows of unlike element types lie apart. -/
theorem own_apart {w w' : World} {base base' e e' n n' : Nat} {v v' : Value} {xs xs' : List Value} (h : w.ownsRow base e 1 v n xs) (h' : w.ownsRow base' e' 1 v' n' xs') (hne : e ≠ e') (hg : w.grownBy w' v'.ownBlock) : w'.ownsRow base e 1 v n xs := by
  refine h.kept hg ?_
  rcases h.2 with ⟨rfl, _⟩ | ⟨g, cap, cur, rfl, _, hgg, _⟩
  · exact .inl rfl
  · right
    rcases h'.2 with ⟨rfl, _⟩ | ⟨g', cap', cur', rfl, _, hgg', _⟩
    · simp [Value.ownBlock]
    · simp only [Value.ownBlock, ne_eq, Option.some.injEq]
      intro hc
      subst hc
      rw [hgg] at hgg'
      simp at hgg'
      exact hne hgg'.2

/-- The block in which a slice lies is one of elements of type e. -/
def TypedAt (w : World) (ao : Option Addr) (n : Nat) (e : TypeId) : Prop := 0 < n → ∀ a, ao = some a → ∃ cur fr, w.heap[a.block]? = some (.cells cur e fr)
theorem TypedAt.nil (w : World) (e : TypeId) : TypedAt w none 0 e := fun _ _ h => by cases h
theorem typed_own {w : World} {base e n c : Nat} {ao : Option Addr} {xs : List Value} (h : w.ownsRow base e 1 (.slice ao n c) n xs) : TypedAt w ao n e := fun _ a ha => by
  rcases h.2 with ⟨hv, _⟩ | ⟨g, cap, cur, hv, _, hgg, _⟩
  · simp only [Value.slice.injEq] at hv; rw [hv.1] at ha; cases ha
  · simp only [Value.slice.injEq] at hv; rw [hv.1] at ha; cases ha; exact ⟨cur, _, hgg⟩
theorem TypedAt.later {w w' : World} {ao : Option Addr} {n e B : Nat} (h : TypedAt w ao n e) (hb : Below B w w') (hB : w.heap.size ≤ B) : TypedAt w' ao n e := fun h0 a ha => by
  obtain ⟨cur, fr, hg⟩ := h h0 a ha
  exact ⟨cur, fr, by rw [hb.block _ (by have := (Array.getElem?_eq_some_iff.1 hg).1; omega)]; exact hg⟩
theorem typed_ne {w : World} {ao : Option Addr} {n e e' base n' : Nat} {v' : Value} {xs' : List Value} (h : TypedAt w ao n e) (h' : w.ownsRow base e' 1 v' n' xs') (hne : e ≠ e') (h0 : 0 < n) (a : Addr) (ha : ao = some a) : some a.block ≠ v'.ownBlock := by
  obtain ⟨cur, fr, hg⟩ := h h0 a ha
  rcases h'.2 with ⟨rfl, _⟩ | ⟨g', cap', cur', rfl, _, hgg', _⟩
  · simp [Value.ownBlock]
  · simp only [Value.ownBlock, ne_eq, Option.some.injEq]
    intro hc
    rw [hc, hgg'] at hg
    simp at hg
    exact hne hg.2.1.symm
theorem TypedAt.apart {w w' : World} {ao : Option Addr} {n e e' base n' : Nat} {v' : Value} {xs' : List Value} (h : TypedAt w ao n e) (h' : w.ownsRow base e' 1 v' n' xs') (hne : e ≠ e') (hg : w.grownBy w' v'.ownBlock) : TypedAt w' ao n e := fun h0 a ha => by
  obtain ⟨cur, fr, hgg⟩ := h h0 a ha
  exact ⟨cur, fr, by rw [hg.block _ (Array.getElem?_eq_some_iff.1 hgg).1 (typed_ne h h' hne h0 a ha)]; exact hgg⟩
/-- What lies in a block of another type is read as before. -/
theorem reads_apart {w w' : World} {ao : Option Addr} {n c e e' base n' : Nat} {v' : Value} {xs xs' : List Value} (hr : Reads w ao n c xs) (h : TypedAt w ao n e) (h' : w.ownsRow base e' 1 v' n' xs') (hne : e ≠ e') (hg : w.grownBy w' v'.ownBlock) : Reads w' ao n c xs :=
  ⟨hr.length, hr.le, hr.most, hr.bare, fun a ha j u hu => by
    have hj := (List.getElem?_eq_some_iff.1 hu).1
    have hn : 0 < n := by have := hr.length; omega
    obtain ⟨b, off, rfl⟩ : ∃ b off, a = ⟨b, off, none⟩ := by subst ha; exact hr.plain hn
    have hc := hr.cell _ ha j u hu
    have hne' := typed_ne h h' hne hn _ ha
    rw [Addr.add_lit] at hc ⊢
    exact hg.cell hc hne'⟩
/-- The block in which a slice lies is no older than B. -/
def FreshAt (B : Nat) (ao : Option Addr) (n : Nat) : Prop := 0 < n → ∀ a, ao = some a → B ≤ a.block
theorem FreshAt.nil (B : Nat) : FreshAt B none 0 := fun _ _ h => by cases h
theorem fresh_own {w : World} {base e n c : Nat} {ao : Option Addr} {xs : List Value} (h : w.ownsRow base e 1 (.slice ao n c) n xs) : FreshAt base ao n := fun _ a ha => by
  rcases h.2 with ⟨hv, _⟩ | ⟨g, cap, cur, hv, hb, _⟩
  · simp only [Value.slice.injEq] at hv; rw [hv.1] at ha; cases ha
  · simp only [Value.slice.injEq] at hv; rw [hv.1] at ha; cases ha; exact hb
/-- What is younger than the row that is appended onto is read as before. -/
theorem reads_young {w w' : World} {ao : Option Addr} {n c B : Nat} {v' : Value} {xs : List Value} (hr : Reads w ao n c xs) (h : FreshAt B ao n) (h' : ∀ k, v'.ownBlock = some k → k < B) (hg : w.grownBy w' v'.ownBlock) : Reads w' ao n c xs :=
  ⟨hr.length, hr.le, hr.most, hr.bare, fun a ha j u hu => by
    have hj := (List.getElem?_eq_some_iff.1 hu).1
    have hn : 0 < n := by have := hr.length; omega
    obtain ⟨b, off, rfl⟩ : ∃ b off, a = ⟨b, off, none⟩ := by subst ha; exact hr.plain hn
    have hc := hr.cell _ ha j u hu
    have hB : B ≤ b := h hn _ ha
    rw [Addr.add_lit] at hc ⊢
    refine hg.cell hc ?_
    intro he
    have := h' b he.symm
    omega⟩
theorem typed_young {w w' : World} {ao : Option Addr} {n e B : Nat} {v' : Value} (hT : TypedAt w ao n e) (h : FreshAt B ao n) (h' : ∀ k, v'.ownBlock = some k → k < B) (hg : w.grownBy w' v'.ownBlock) : TypedAt w' ao n e := fun h0 a ha => by
  obtain ⟨cur, fr, hgg⟩ := hT h0 a ha
  have hB := h h0 a ha
  exact ⟨cur, fr, by rw [hg.block _ (Array.getElem?_eq_some_iff.1 hgg).1 (fun he => by have := h' _ he.symm; omega)]; exact hgg⟩

/-- A row whose memory is younger than the other's is kept by an append onto that. -/
theorem own_young {w w' : World} {base base' e n : Nat} {v v' : Value} {xs : List Value} (h : w.ownsRow base e 1 v n xs) (h' : ∀ k, v'.ownBlock = some k → k < base) (hb : base' ≤ base) (hg : w.grownBy w' v'.ownBlock) : w'.ownsRow base' e 1 v n xs := by
  refine own_mono (h.kept hg ?_) hb
  rcases h.2 with ⟨rfl, _⟩ | ⟨g, cap, cur, rfl, hbg, _⟩
  · exact .inl rfl
  · right
    intro hc
    have := h' g (by rw [← hc]; rfl)
    omega

/-- 'append(own, src...)', whatever the source: it may grow; nothing but the own row's block has turned. -/
theorem wpList_append_grown {P : Program} {w : World} {ops : Array Oper} {rest : List Oper} {o : Oper} {a : Act} {Q : Exit → Act → World → Prop} (hgd : o.guard = none) (s x : Operand) (t : TypeId)
    (ho : o.op = .call { callee := .builtin .append, args := #[s, x], argTypes := #[t, t] }) (base : Nat) (e : TypeId) {z : Value} {bytes : Nat}
    (hinfo : (P.info? e).map (fun i => (i.zero, i.size, i.bytes)) = some (some z, 1, bytes)) (hzs : z.cells.size = 1) (ht : P.underlying t = some (.slice e))
    (ag : Option Addr) (n c : Nat) (xs : List Value) (hs : a.eval s = .slice ag n c) (hown : w.ownsRow base e 1 (.slice ag n c) n xs)
    (ao : Option Addr) (m d : Nat) (news : List Value) (hx : a.eval x = .slice ao m d) (hr : Reads w ao m d news) (h1 : ∀ u ∈ news, u.oneCell' = true)
    (h63 : n + m ≤ maxLen) (hbytes : (n + m) * bytes ≤ 140737488355328) (hbase : base ≤ w.heap.size)
    (h : ∀ ag' c' w', w'.ownsRow base e 1 (.slice ag' (n + m) c') (n + m) (xs ++ news) → w.grownBy w' (Value.slice ag n c).ownBlock → Below base w w' → wpList P ops Q rest (a.put o.dst (.slice ag' (n + m) c')) w') : wpList P ops Q (o :: rest) a w := by
  obtain ⟨i, hi, hz0, hz1, hz2⟩ := info_parts hinfo
  cases ao with
  | none =>
    obtain ⟨rfl, rfl⟩ := hr.bare rfl
    have : news = [] := List.eq_nil_of_length_eq_zero hr.length
    subst this
    refine wpList_append_own_none hgd s x t ho base e i 1 ht hi _ n xs hs hown hx ?_
    exact h ag c w (by simpa using hown) (World.grownBy.refl _ _) (Below.refl _ _)
  | some ad =>
    refine wpList_append_own w hgd s x t ho base e i z 1 bytes ht hi hz0 hz1 hz2 hzs (by decide) _ n xs hs hown ad m d news hx (by simpa using hr.length) (hr.cell ad rfl) h1 h63 hbytes hbase ?_
    intro v' w' hown' hgrow _
    have hb : Below base w w' := (Below.refl _ _).grown hgrow hbase (fun k hk => (hown.lt k hk).1)
    rcases hown'.2 with ⟨hv, hn⟩ | ⟨g', c', cur, hv, _⟩
    · subst hv
      have hn' : n + m = 0 := hn
      have e1 : (Value.slice none 0 0) = .slice none (n + m) 0 := by rw [hn']
      rw [e1] at hown' ⊢
      exact h none 0 w' hown' hgrow hb
    · subst hv
      exact h _ c' w' hown' hgrow hb

/-- The same at one operation, guarded or not. -/
theorem wp_append_reads {P : Program} {w : World} {o : Oper} {a : Act} {K : Act → World → Prop} {Q : Exit → Act → World → Prop} (s x : Operand) (t : TypeId)
    (ho : o.op = .call { callee := .builtin .append, args := #[s, x], argTypes := #[t, t] }) (base : Nat) (e : TypeId) {z : Value} {bytes : Nat}
    (hinfo : (P.info? e).map (fun i => (i.zero, i.size, i.bytes)) = some (some z, 1, bytes)) (hzs : z.cells.size = 1) (ht : P.underlying t = some (.slice e))
    (ag : Option Addr) (n c : Nat) (xs : List Value) (hs : a.eval s = .slice ag n c) (hown : w.ownsRow base e 1 (.slice ag n c) n xs)
    (ao : Option Addr) (m d : Nat) (news : List Value) (hx : a.eval x = .slice ao m d) (hr : Reads w ao m d news) (h1 : ∀ u ∈ news, u.oneCell' = true)
    (h63 : n + m ≤ maxLen) (hbytes : (n + m) * bytes ≤ 140737488355328) (hbase : base ≤ w.heap.size)
    (hK : ∀ ag' c' w', w'.ownsRow base e 1 (.slice ag' (n + m) c') (n + m) (xs ++ news) → w.grownBy w' (Value.slice ag n c).ownBlock → Below base w w' → K (a.put o.dst (.slice ag' (n + m) c')) w') :
    Oper.wp P o a w K Q := by
  obtain ⟨i, hi, hz0, hz1, hz2⟩ := info_parts hinfo
  cases ao with
  | none =>
    obtain ⟨rfl, rfl⟩ := hr.bare rfl
    have : news = [] := List.eq_nil_of_length_eq_zero hr.length
    subst this
    have hrun := run_append_owned_none (P := P) (w := w) base t o.type e i 1 ht hi _ n xs hown
    unfold Oper.wp
    simp [execOp, ho, resolve, invoke, builtin, hs, hx, hrun, Result.andThen]
    exact hK ag c w (by simpa using hown) (World.grownBy.refl _ _) (Below.refl _ _)
  | some ad =>
    refine wp_append_own w s x t ho base e i z 1 bytes ht hi hz0 hz1 hz2 hzs (by decide) _ n xs hs hown ad m d news hx (by simpa using hr.length) (hr.cell ad rfl) h1 h63 hbytes hbase ?_
    intro v' w' hown' hgrow _
    have hb : Below base w w' := (Below.refl _ _).grown hgrow hbase (fun k hk => (hown.lt k hk).1)
    rcases hown'.2 with ⟨hv, hn⟩ | ⟨g', c', cur, hv, _⟩
    · subst hv
      have hn' : n + m = 0 := hn
      have e1 : (Value.slice none 0 0) = .slice none (n + m) 0 := by rw [hn']
      rw [e1] at hown' ⊢
      exact hK none 0 w' hown' hgrow hb
    · subst hv
      exact hK _ c' w' hown' hgrow hb

/-- 'append(own, src...)', guarded by what is so. -/
theorem wpList_append_wanted {P : Program} {w : World} {ops : Array Oper} {rest : List Oper} {o : Oper} {a : Act} {Q : Exit → Act → World → Prop} (hw : Region.wanted o (yielded ops a.tmps) = true) (s x : Operand) (t : TypeId)
    (ho : o.op = .call { callee := .builtin .append, args := #[s, x], argTypes := #[t, t] }) (base : Nat) (e : TypeId) {z : Value} {bytes : Nat}
    (hinfo : (P.info? e).map (fun i => (i.zero, i.size, i.bytes)) = some (some z, 1, bytes)) (hzs : z.cells.size = 1) (ht : P.underlying t = some (.slice e))
    (ag : Option Addr) (n c : Nat) (xs : List Value) (hs : a.eval s = .slice ag n c) (hown : w.ownsRow base e 1 (.slice ag n c) n xs)
    (ao : Option Addr) (m d : Nat) (news : List Value) (hx : a.eval x = .slice ao m d) (hr : Reads w ao m d news) (h1 : ∀ u ∈ news, u.oneCell' = true)
    (h63 : n + m ≤ maxLen) (hbytes : (n + m) * bytes ≤ 140737488355328) (hbase : base ≤ w.heap.size)
    (h : ∀ ag' c' w', w'.ownsRow base e 1 (.slice ag' (n + m) c') (n + m) (xs ++ news) → w.grownBy w' (Value.slice ag n c).ownBlock → Below base w w' → wpList P ops Q rest (a.put o.dst (.slice ag' (n + m) c')) w') :
    wpList P ops Q (o :: rest) a w := by
  unfold wpList
  rw [if_pos hw]
  exact .inl (wp_append_reads s x t ho base e hinfo hzs ht ag n c xs hs hown ao m d news hx hr h1 h63 hbytes hbase h)

/-- 's[l:h]'. -/
theorem Reads.mid {P : Program} {t e : TypeId} (ht : P.underlying t = some (.slice e)) (hs : ∀ W, (sizeOf e).run P W = .ok 1 W) {ao : Option Addr} {len cap : Nat} (hc : len ≤ cap) (l h : Nat) (hl : l ≤ h) (hh : h ≤ len) :
    ∃ ao', (∀ W, (Instr.slice t (.slice ao len cap) (some (.int .i64 (l : Int))) (some (.int .i64 (h : Int))) none).run P W = .ok (.slice ao' (h - l) (cap - l)) W) ∧ (∀ W xs, Reads W ao len cap xs → Reads W ao' (h - l) (cap - l) ((xs.drop l).take (h - l))) := by
  have ht' : P.underlying t = some (.slice (P.elem t)) := by simp [Program.elem, ht]
  have he : P.elem t = e := by simp [Program.elem, ht]
  refine ⟨if cap = l then ao else ao.map (·.add (l * 1)), fun W => ?_, fun W xs hr => ⟨?_, ?_, ?_, ?_, ?_⟩⟩
  · rw [run_slice_lh (P := P) W t ao len cap ht' .i64 .i64 l h (by omega) (by omega) (by omega), he, hs]
    simp [Result.andThen, sliced]
  · have := hr.length; simp; omega
  · omega
  · have := hr.most; omega
  · intro hn
    split at hn
    · have := hr.bare hn; omega
    · simp only [Option.map_eq_none_iff] at hn
      have := hr.bare hn; omega
  · intro a ha j u hu
    have hj : j < h - l ∧ l + j < xs.length := by
      have := (List.getElem?_eq_some_iff.1 hu).1
      simp at this; omega
    rw [if_neg (by omega)] at ha
    cases ao with
    | none => simp at ha
    | some x =>
      simp only [Option.map_some, Option.some.injEq] at ha
      subst ha
      obtain ⟨b, off, rfl⟩ := hr.plain (by omega)
      have hcc := hr.cell _ rfl (l + j) u (by rw [List.getElem?_take_of_lt hj.1] at hu; simpa using hu)
      rw [Nat.mul_one, Addr.add_lit, Addr.add_lit, Nat.add_assoc]
      rw [Addr.add_lit] at hcc
      exact hcc

/-- 's[l:]', and the block's type. -/
theorem Reads.from_typed {P : Program} {t e : TypeId} (ht : P.underlying t = some (.slice e)) (hs : ∀ W, (sizeOf e).run P W = .ok 1 W) {ao : Option Addr} {len cap : Nat} (l : Nat) (hl : l ≤ len) :
    ∃ ao', (∀ W, (Instr.slice t (.slice ao len cap) (some (.int .i64 (l : Int))) none none).run P W = .ok (.slice ao' (len - l) (cap - l)) W) ∧ (∀ W xs, Reads W ao len cap xs → Reads W ao' (len - l) (cap - l) (xs.drop l)) ∧ (∀ W e', TypedAt W ao len e' → TypedAt W ao' (len - l) e') ∧ (∀ B, FreshAt B ao len → FreshAt B ao' (len - l)) := by
  have ht' : P.underlying t = some (.slice (P.elem t)) := by simp [Program.elem, ht]
  have he : P.elem t = e := by simp [Program.elem, ht]
  obtain ⟨a0, h1, h2⟩ := Reads.from (P := P) ht hs (ao := ao) (len := len) (cap := cap) l hl
  have h1' := h1 default
  rw [run_slice_l (P := P) default t ao len cap ht' .i64 l (by omega) (by omega), he, hs] at h1'
  simp [Result.andThen, sliced] at h1'
  have hbl : ∀ a, a0 = some a → ∃ x, ao = some x ∧ a.block = x.block := fun a ha => by
    subst ha
    split at h1'
    · exact ⟨a, h1', rfl⟩
    · cases ao with
      | none => simp at h1'
      | some x =>
        simp only [Option.map_some, Option.some.injEq] at h1'
        exact ⟨x, rfl, by rw [← h1']; unfold Addr.add; split <;> rfl⟩
  refine ⟨a0, h1, h2, fun W e' hT h0 a ha => ?_, fun B hF h0 a ha => ?_⟩
  · obtain ⟨x, hx, hb⟩ := hbl a ha
    rw [hb]
    exact hT (by omega) x hx
  · obtain ⟨x, hx, hb⟩ := hbl a ha
    rw [hb]
    exact hF (by omega) x hx

/-- Values that are own rows of bytes. -/
structure RowOwns (w : World) (base : Nat) (vs : List Value) (ls : List (List Int)) : Prop where
  length : vs.length = ls.length
  row : ∀ (i : Nat) (v : Value) (l : List Int), vs[i]? = some v → ls[i]? = some l → ∃ ai ci, v = .slice ai l.length ci ∧ w.ownsRow base 5 1 (.slice ai l.length ci) l.length (l.map (.int .u8))

theorem RowOwns.nil (w : World) (base : Nat) : RowOwns w base [] [] := ⟨rfl, fun i v l h => by simp at h⟩
theorem RowOwns.later {w w' : World} {base : Nat} {vs : List Value} {ls : List (List Int)} {B : Nat} (h : RowOwns w base vs ls) (hb : Below B w w') (hB : w.heap.size ≤ B) : RowOwns w' base vs ls :=
  ⟨h.length, fun i v l hv hl => by obtain ⟨ai, ci, e, hr⟩ := h.row i v l hv hl; exact ⟨ai, ci, e, own_later hr hb hB⟩⟩
theorem RowOwns.apart {w w' : World} {base base' e' n' : Nat} {vs : List Value} {ls : List (List Int)} {v' : Value} {xs' : List Value} (h : RowOwns w base vs ls) (h' : w.ownsRow base' e' 1 v' n' xs') (hne : 5 ≠ e') (hg : w.grownBy w' v'.ownBlock) : RowOwns w' base vs ls :=
  ⟨h.length, fun i v l hv hl => by obtain ⟨ai, ci, e, hr⟩ := h.row i v l hv hl; exact ⟨ai, ci, e, own_apart hr h' hne hg⟩⟩
theorem RowOwns.snoc {w : World} {base : Nat} {vs : List Value} {ls : List (List Int)} {ai : Option Addr} {m ci : Nat} {l : List Int} (h : RowOwns w base vs ls) (hm : l.length = m) (hr : w.ownsRow base 5 1 (.slice ai m ci) m (l.map (.int .u8))) : RowOwns w base (vs ++ [.slice ai m ci]) (ls ++ [l]) :=
  ⟨by simp [h.length], fun i v l' hv hl => by
    subst hm
    by_cases hi : i < vs.length
    · rw [List.getElem?_append_left hi] at hv
      rw [List.getElem?_append_left (by rw [← h.length]; exact hi)] at hl
      exact h.row i v l' hv hl
    · rw [List.getElem?_append_right (by omega)] at hv
      rw [List.getElem?_append_right (by rw [← h.length]; omega), ← h.length] at hl
      match i - vs.length, hv, hl with
      | 0, hv, hl => simp at hv hl; subst hv hl; exact ⟨ai, ci, rfl, hr⟩⟩
theorem RowOwns.vals {w : World} {base : Nat} {vs : List Value} {ls : List (List Int)} (h : RowOwns w base vs ls) : RowVals w vs ls :=
  ⟨h.length, fun i v l hv hl => by obtain ⟨ai, ci, e, hr⟩ := h.row i v l hv hl; exact ⟨ai, l.length, ci, e, Reads.own hr⟩⟩
end Go.Proofs.Ytkcledkfgmdcgaa

namespace Go.Proofs.Ytkcledkfgmdcgaa
open Go.RowKit
set_option linter.unusedVariables false

/-- Where the row lies behind an append: where it lay, or in a block of its own. -/
theorem append_where {P : Program} {w : World} (base : Nat) (t ty e : TypeId) (i : TypeInfo) (z : Value) (size bytes : Nat) (ht : P.underlying t = some (.slice e)) (hi : P.info? e = some i) (hz : i.zero = some z)
    (hsize : i.size = size) (hby : i.bytes = bytes) (hzs : z.cells.size = size) (hsz : 0 < size)
    (v : Value) (n : Nat) (xs : List Value) (hown : w.ownsRow base e size v n xs)
    (a : Addr) (m c : Nat) (news : List Value) (hl : news.length = m * size) (hnews : ∀ j u, news[j]? = some u → w.cell? (a.add j) = some u) (h1 : ∀ u ∈ news, u.oneCell' = true)
    (h63 : n + m ≤ maxLen) (hbytes : (n + m) * bytes ≤ 140737488355328) {v' : Value} {w' : World}
    (hrun : (Builtin.append_ #[t, t] ty #[v, .slice (some a) m c]).run P w = .ok v' w') : v'.ownBlock = v.ownBlock ∨ v'.ownBlock = some w.heap.size := by
  subst hsize
  subst hby
  have hsmall : n + m ≤ 9223372036854775807 := by simp only [maxLen] at h63; omega
  rcases hown.2 with ⟨rfl, rfl⟩ | ⟨g, cap, cur, rfl, hbg, hg, hnc, hcm, hcs, htake⟩
  · by_cases hm : m = 0
    · subst hm
      have hn : news = [] := List.eq_nil_of_length_eq_zero (by simpa using hl)
      subst hn
      have hr : (Builtin.append_ #[t, t] ty #[.slice none 0 0, .slice (some a) 0 c]).run P w = .ok (.slice none 0 0) w := by
        simp [Builtin.append_, run_underlying ht, sizeOf, typeInfo, hi, Builtin.lenOf, Builtin.firstCells, loadCells, loadCellsFrom]
      rw [hr] at hrun
      cases hrun
      exact .inl rfl
    · have hr := run_append_nil (P := P) w t ty e i z ht hi hz a m c news hl hnews (by omega) (by omega) (by have hb := hbytes; simp only [Nat.zero_add] at hb; omega)
      rw [hr] at hrun
      cases hrun
      exact .inr rfl
  · by_cases hroom : n + m ≤ cap
    · have hfit : n * i.size + news.length ≤ cur.size := by rw [hl, hcs, ← Nat.add_mul]; exact Nat.mul_le_mul_right _ hroom
      have hr := run_append_room (P := P) w t ty e i ht hi g n cap cur hg a m c news hl hnews h1 hroom hfit
      rw [hr] at hrun
      cases hrun
      exact .inl rfl
    · have holds : ∀ j u, xs[j]? = some u → w.cell? ((⟨g, 0, none⟩ : Addr).add j) = some u := hown.cells (g := g) rfl
      have hr := run_append_grow (P := P) w t ty e i z ht hi hz ⟨g, 0, none⟩ n cap xs hown.1 holds a m c news hl hnews (by omega) (by omega) (growslice_fits (by omega) hbytes)
      rw [hr] at hrun
      cases hrun
      exact .inr rfl

/-- Two slices lie in blocks of their own. -/
def Off (v v' : Value) : Prop := ∀ k, v.ownBlock = some k → v'.ownBlock = some k → False
theorem Off.symm {v v' : Value} (h : Off v v') : Off v' v := fun k a b => h k b a
theorem Off.nil (v : Value) : Off (.slice none 0 0) v := fun k h => by simp [Value.ownBlock] at h
theorem own_off {w w' : World} {base e n : Nat} {v v' : Value} {xs : List Value} (h : w.ownsRow base e 1 v n xs) (ho : Off v v') (hg : w.grownBy w' v'.ownBlock) : w'.ownsRow base e 1 v n xs := by
  refine h.kept hg ?_
  cases hv : v.ownBlock with
  | none => exact .inl rfl
  | some k => exact .inr (fun he => ho k hv he.symm)
theorem off_append {w : World} {base e n B : Nat} {v v' v'' : Value} {xs : List Value} (h : w.ownsRow base e 1 v n xs) (ho : Off v v') (hw : v''.ownBlock = v'.ownBlock ∨ ∃ k, v''.ownBlock = some k ∧ B ≤ k) (hB : w.heap.size ≤ B) : Off v v'' := fun k hk hk' => by
  rcases hw with he | ⟨j, hj, hl⟩
  · exact ho k hk (he ▸ hk')
  · rw [hj] at hk'
    cases hk'
    have := (h.lt _ hk).2
    omega

/-- 'append(own, src...)', whatever the source, and where it lies then. -/
theorem wpList_append_two {P : Program} {w : World} {ops : Array Oper} {rest : List Oper} {o : Oper} {a : Act} {Q : Exit → Act → World → Prop} (hgd : o.guard = none) (s x : Operand) (t : TypeId)
    (ho : o.op = .call { callee := .builtin .append, args := #[s, x], argTypes := #[t, t] }) (base : Nat) (e : TypeId) {z : Value} {bytes : Nat}
    (hinfo : (P.info? e).map (fun i => (i.zero, i.size, i.bytes)) = some (some z, 1, bytes)) (hzs : z.cells.size = 1) (ht : P.underlying t = some (.slice e))
    (ag : Option Addr) (n c : Nat) (xs : List Value) (hs : a.eval s = .slice ag n c) (hown : w.ownsRow base e 1 (.slice ag n c) n xs)
    (ao : Option Addr) (m d : Nat) (news : List Value) (hx : a.eval x = .slice ao m d) (hr : Reads w ao m d news) (h1 : ∀ u ∈ news, u.oneCell' = true)
    (h63 : n + m ≤ maxLen) (hbytes : (n + m) * bytes ≤ 140737488355328) (hbase : base ≤ w.heap.size)
    (h : ∀ ag' c' w', w'.ownsRow base e 1 (.slice ag' (n + m) c') (n + m) (xs ++ news) → w.grownBy w' (Value.slice ag n c).ownBlock → Below base w w' →
      ((Value.slice ag' (n + m) c').ownBlock = (Value.slice ag n c).ownBlock ∨ ∃ k, (Value.slice ag' (n + m) c').ownBlock = some k ∧ w.heap.size ≤ k) → wpList P ops Q rest (a.put o.dst (.slice ag' (n + m) c')) w') : wpList P ops Q (o :: rest) a w := by
  obtain ⟨i, hi, hz0, hz1, hz2⟩ := info_parts hinfo
  cases ao with
  | none =>
    obtain ⟨rfl, rfl⟩ := hr.bare rfl
    have : news = [] := List.eq_nil_of_length_eq_zero hr.length
    subst this
    refine wpList_append_own_none hgd s x t ho base e i 1 ht hi _ n xs hs hown hx ?_
    exact h ag c w (by simpa using hown) (World.grownBy.refl _ _) (Below.refl _ _) (.inl (by cases ag <;> rfl))
  | some ad =>
    refine wpList_plain hgd fun _ hK => ?_
    obtain ⟨v', w', hrun, hown', hgrow, _⟩ := run_append_own (P := P) w base t o.type e i z 1 bytes ht hi hz0 hz1 hz2 hzs (by decide) _ n xs hown ad m d news (by simpa using hr.length) (hr.cell ad rfl) h1 h63 hbytes hbase
    have hwh := append_where base t o.type e i z 1 bytes ht hi hz0 hz1 hz2 hzs (by decide) _ n xs hown ad m d news (by simpa using hr.length) (hr.cell ad rfl) h1 h63 hbytes hrun
    unfold Oper.wp execOp
    simp only [ho, resolve, invoke, builtin, Sem.run_bind, Sem.run_pure, Result.andThen_ok, List.map_toArray, List.map_cons, List.map_nil, hs, hx, hrun]
    refine hK _ _ ?_
    have hb : Below base w w' := (Below.refl _ _).grown hgrow hbase (fun k hk => (hown.lt k hk).1)
    have hwh' : v'.ownBlock = (Value.slice ag n c).ownBlock ∨ ∃ k, v'.ownBlock = some k ∧ w.heap.size ≤ k := hwh.imp id fun h => ⟨_, h, Nat.le_refl _⟩
    rcases hown'.2 with ⟨hv, hn⟩ | ⟨g', c', cur, hv, _⟩
    · subst hv
      have hn' : n + m = 0 := hn
      have e1 : (Value.slice none 0 0) = .slice none (n + m) 0 := by rw [hn']
      rw [e1] at hown' hwh' ⊢
      exact h none 0 w' hown' hgrow hb hwh'
    · subst hv
      exact h _ c' w' hown' hgrow hb hwh'
end Go.Proofs.Ytkcledkfgmdcgaa

namespace Go.Proofs.Ytkcledkfgmdcgaa
theorem Try.infoByte : (Try.prog.info? 5).map (fun i => (i.zero, i.size, i.bytes)) = some (some (.int .u8 0), 1, 1) := by kernel_rfl
theorem Try.infoRune : (Try.prog.info? 21).map (fun i => (i.zero, i.size, i.bytes)) = some (some (.int .i32 0), 1, 4) := by kernel_rfl
theorem Try.infoStr : (Try.prog.info? 9).map (fun i => (i.zero, i.size, i.bytes)) = some (some (.string ByteArray.empty), 1, 16) := by kernel_rfl
end Go.Proofs.Ytkcledkfgmdcgaa

namespace Go.Proofs.Ytkcledkfgmdcgaa
open Go.ChangeShapes Go.WideShapes Go.ChangeAt Go.RowKit

theorem slice_in {H : Type} {enc : TypeId × Value → H} {P : Program} {W : World} {k : IntKind} {t e : TypeId} {B : Nat} (hu : P.underlying t = some (.slice e)) (he : P.underlying e = some (.int k)) (hc : P.cellsOf e = 1) (hB : P.bytesOf e = B)
    {ts : List TypeId} {ds : List (DataW H)} (hsz : (DataW.weightsEach P ts ds).all (· ≤ reachBytes) = true) {j : Nat} {a : Option Addr} {len cap : Nat} {d : DataW H} {p : List MemPlace} (ht : ts[j]? = some t) (hd : ds[j]? = some d)
    (h : DataW.Trod enc P W 0 (fun _ => true) true t (.slice a len cap) d p) :
    ∃ zs : List Int, Reads W a len cap (zs.map (.int k)) ∧ (∀ z ∈ zs, (Lit.int k z).wf = true) ∧ len * B ≤ 140737488351232 := by
  obtain ⟨fuel, hf⟩ := h
  rcases open_ints hu he hc hf with ⟨hcs, _⟩ | ⟨x, l, c, zs, hcs, _, hl, hm, hz, hx, hcell, hwz⟩
  · simp [Value.cells] at hcs
    obtain ⟨rfl, rfl, rfl⟩ := hcs
    exact ⟨[], Reads.nil W, fun z hz => by simp at hz, by omega⟩
  · simp [Value.cells] at hcs
    obtain ⟨rfl, rfl, rfl⟩ := hcs
    simp only [if_true] at hz
    simp only [Prod.mk.injEq] at hx
    have hb := sized_slice hsz (e := e) ht (by rw [hd, hx.1]) hu
    rw [hB] at hb
    simp only [lits, List.length_map, List.length_take, List.length_drop, reachBytes] at hb
    refine ⟨zs.take len, ⟨by simp; omega, hl, hm, fun h => (by cases h), fun y hy i u hu => ?_⟩, fun z hz => hwz z (List.mem_of_mem_take hz), ?_⟩
    · cases hy
      have hi : i < len := by
        have := (List.getElem?_eq_some_iff.1 hu).1
        simp at this; omega
      rw [hcell i (by omega)]
      simp [hi, List.getElem?_eq_getElem (show i < zs.length by omega)] at hu
      simp [List.getD, List.getElem?_eq_getElem (show i < zs.length by omega), hu]
    · have e1 : min len zs.length + (zs.length - len) = cap := by omega
      rw [e1] at hb
      exact Nat.le_trans (Nat.mul_le_mul_right B hl) hb
end Go.Proofs.Ytkcledkfgmdcgaa

namespace Go.Proofs.Ytkcledkfgmdcgaa
open Go.RowKit

theorem range_new (w : World) (C : Array Value) (t : TypeId) : (w.alloc (.cells C t)).rangeAt w.heap.size 0 C.toList := by
  have := World.rangeAt_of_block (heap_alloc_last w (.cells C t)) 0 C.size
  simpa using this

theorem there_new (w : World) (C : Array Value) (t : TypeId) : (w.alloc (.cells C t)).there w.heap.size 0 C.size := by
  intro j hj
  refine ⟨?_, ?_⟩
  · rw [World.cell?_alloc_at _ _ _ _ rfl]; simp [hj]
  · rw [World.frozen?_alloc_at _ _ _ _ rfl]

/-- A slice literal. -/
theorem reads_new (W : World) (xs : List Value) (t : TypeId) (h : xs.length ≤ maxLen) : Reads (W.alloc (.cells xs.toArray t)) (some ⟨W.heap.size, 0, none⟩) xs.length xs.length xs :=
  ⟨rfl, Nat.le_refl _, h, fun h => (by cases h), fun a ha j u hu => by
    cases ha
    rw [Addr.add_lit, World.cell?_alloc_at _ _ _ _ rfl]
    simpa using hu⟩

/-- The bytes of a constant text. -/
theorem reads_const (W : World) (xs : List Value) (t : TypeId) (fr : Nat × Nat) (h : xs.length ≤ maxLen) : Reads (W.alloc (.cells xs.toArray t fr)) (some ⟨W.heap.size, 0, none⟩) xs.length xs.length xs :=
  ⟨rfl, Nat.le_refl _, h, fun h => (by cases h), fun a ha j u hu => by
    cases ha
    rw [Addr.add_lit, Nat.zero_add, World.cell?_alloc_mark]
    simpa using hu⟩

theorem Below.setCells' {B : Nat} {a : World} (b : Nat) (hb : B ≤ b) : ∀ (vs : List Value) (o : Nat) (w : World), Below B a w → Below B a (w.setCells b o vs)
  | [], _, _, h => h
  | v :: r, o, w, h => by
    rw [World.setCells]
    exact Below.setCells' b hb r (o + 1) _ (h.setCell hb v)

theorem results_cell_one {fn : Func} {p : Tmp} {ty : TypeId} (h : fn.results = #[.cell p ty]) (tmps : Array Value) (P : Program) (w : World) :
    (results fn tmps).run P w = ((asAddr (tmps.getD p undef)).run P w).andThen fun a w₁ => (loadVar ty a).run P w₁ := by
  simp only [results, h]
  simp [Sem.run_bind, Result.andThen]
end Go.Proofs.Ytkcledkfgmdcgaa
