/- Slices cut, and read as texts; growth of the world. -/
import Derived.Test.YtgnhnhachhfafaaBase
import Derived.Laws.BytesArg
import Derived.Laws.AppendOwnNone
namespace Go.Proofs.Ytgnhnhachhfafaa
open Go.RowKit

/-- Nothing that was there has turned. -/
abbrev Grow (w w' : World) : Prop := Below w.heap.size w w'
theorem Grow.trans {a b c : World} (h : Grow a b) (k : Grow b c) : Grow a c := Below.trans h (Below.mono k h.size)

theorem Reads.plain {w : World} {a : Addr} {len cap : Nat} {xs : List Value} (h : Reads w (some a) len cap xs) (hp : 0 < len) : ∃ b off, a = ⟨b, off, none⟩ := by
  have hl := h.length
  obtain ⟨b, off, spot⟩ := a
  have h0 := h.cell _ rfl 0 xs[0] (List.getElem?_eq_getElem (by omega))
  have hspot : spot = none := by simpa [Addr.add] using World.cell?_spot h0
  exact ⟨b, off, by rw [hspot]⟩

theorem Reads.from {P : Program} {t e : TypeId} (ht : P.underlying t = some (.slice e)) (hs : ∀ W, (sizeOf e).run P W = .ok 1 W) {ao : Option Addr} {len cap : Nat} (l : Nat) (hl : l ≤ len) :
    ∃ ao', (∀ W, (Instr.slice t (.slice ao len cap) (some (.int .i64 (l : Int))) none none).run P W = .ok (.slice ao' (len - l) (cap - l)) W) ∧ (∀ W xs, Reads W ao len cap xs → Reads W ao' (len - l) (cap - l) (xs.drop l)) := by
  have ht' : P.underlying t = some (.slice (P.elem t)) := by simp [Program.elem, ht]
  have he : P.elem t = e := by simp [Program.elem, ht]
  refine ⟨if cap = l then ao else ao.map (·.add (l * 1)), fun W => ?_, fun W xs h => ⟨?_, ?_, ?_, ?_, ?_⟩⟩
  · rw [run_slice_l (P := P) W t ao len cap ht' .i64 l (by omega) (by omega), he, hs]
    simp [Result.andThen, sliced]
  · have := h.length; simp; omega
  · have := h.le; omega
  · have := h.most; omega
  · intro hn
    split at hn
    · have := h.bare hn; omega
    · simp only [Option.map_eq_none_iff] at hn
      have := h.bare hn; omega
  · intro a ha j u hu
    have hle := h.le
    have hj : l + j < xs.length := by
      have := (List.getElem?_eq_some_iff.1 hu).1
      simp at this; omega
    have := h.length
    rw [if_neg (by omega)] at ha
    cases ao with
    | none => simp at ha
    | some x =>
      simp only [Option.map_some, Option.some.injEq] at ha
      subst ha
      obtain ⟨b, off, rfl⟩ := h.plain (by omega)
      have hc := h.cell _ rfl (l + j) u (by simpa using hu)
      rw [Nat.mul_one, Addr.add_lit, Addr.add_lit, Nat.add_assoc]
      rw [Addr.add_lit] at hc
      exact hc

theorem Reads.to {P : Program} {t e : TypeId} (ht : P.underlying t = some (.slice e)) (hs : ∀ W, (sizeOf e).run P W = .ok 1 W) {ao : Option Addr} {len cap : Nat} (hc : len ≤ cap) (h : Nat) (hh : h ≤ len) :
    ∃ ao', (∀ W, (Instr.slice t (.slice ao len cap) none (some (.int .i64 (h : Int))) none).run P W = .ok (.slice ao' h cap) W) ∧ (∀ W xs, Reads W ao len cap xs → Reads W ao' h cap (xs.take h)) := by
  have ht' : P.underlying t = some (.slice (P.elem t)) := by simp [Program.elem, ht]
  have he : P.elem t = e := by simp [Program.elem, ht]
  refine ⟨if cap = 0 then ao else ao.map (·.add (0 * 1)), fun W => ?_, fun W xs hr => ⟨?_, ?_, ?_, ?_, ?_⟩⟩
  · rw [run_slice_h (P := P) W t ao len cap ht' .i64 h (by omega) (by omega), he, hs]
    simp [Result.andThen, sliced]
  · have := hr.length; simp; omega
  · omega
  · exact hr.most
  · intro hn
    split at hn
    · have := hr.bare hn; omega
    · simp only [Option.map_eq_none_iff] at hn
      have := hr.bare hn; omega
  · intro a ha j u hu
    have hj : j < h ∧ j < xs.length := by
      have := (List.getElem?_eq_some_iff.1 hu).1
      simp at this; omega
    rw [if_neg (by omega)] at ha
    cases ao with
    | none => simp at ha
    | some x =>
      simp only [Option.map_some, Option.some.injEq] at ha
      subst ha
      obtain ⟨b, off, rfl⟩ := hr.plain (by omega)
      have hcc := hr.cell _ rfl j u (by rw [List.getElem?_take_of_lt hj.1] at hu; exact hu)
      rw [Nat.zero_mul, Addr.add_lit, Addr.add_lit, Nat.add_zero]
      rw [Addr.add_lit] at hcc
      exact hcc

theorem size_of {P : Program} {e : TypeId} {z : Value} {b : Nat} (h : (P.info? e).map (fun i => (i.zero, i.size, i.bytes)) = some (some z, 1, b)) : ∀ W, (sizeOf e).run P W = .ok 1 W := by
  obtain ⟨i, hi, _, h1, _⟩ := info_parts h
  intro W
  simp [sizeOf, typeInfo, hi, h1]

/-- 'string(b)'. -/
theorem conv_of {P : Program} {t e s : TypeId} (ht : P.underlying t = some (.slice e)) (he : P.underlying e = some (.int .u8)) (hs : P.underlying s = some .string)
    {W : World} {ao : Option Addr} {len cap : Nat} {zs : List Int} (h : Reads W ao len cap (zs.map (.int .u8))) :
    (convert t s (.slice ao len cap)).run P W = .ok (.string (strOfNums zs)) W := by
  have hl := h.length
  simp only [List.length_map] at hl
  rcases Nat.eq_zero_or_pos len with h0 | h0
  · subst h0
    obtain rfl : zs = [] := List.eq_nil_of_length_eq_zero hl
    cases ao with
    | none => rw [run_convert_bytes_nil W t e ht he 0 cap s hs]; rfl
    | some a =>
      rw [run_convert_bytes_string W t s e _ 0 cap ht he hs]
      have hz := run_loadCells_list (P := P) W a [] (fun j v hj => by simp at hj)
      rw [run_bytesToString W a 0 cap [] (by simpa using hz)]
      rfl
  · obtain ⟨b, off, rfl, _, hc⟩ := h.at h0
    exact run_convert_bytes_arg W t e ht he b off len cap zs hl hc s hs

theorem str_inj {xs ys : List Int} (hx : isBytes xs) (hy : isBytes ys) (h : strOfNums xs = strOfNums ys) : xs = ys := by
  have h1 : (xs.map fun n => UInt8.ofNat n.toNat) = (ys.map fun n => UInt8.ofNat n.toNat) := by
    rw [← strOfNums_data, ← strOfNums_data, h]
  have e : ∀ l : List Int, (∀ z ∈ l, 0 ≤ z ∧ z ≤ 255) → (l.map fun n => UInt8.ofNat n.toNat).map (fun b => (b.toNat : Int)) = l := by
    intro l hl
    rw [List.map_map]
    conv => rhs; rw [← List.map_id l]
    apply List.map_congr_left
    intro z hz
    have := hl z hz
    simp; omega
  rw [← e xs hx, ← e ys hy, h1]

/-- A slice that the call itself made, read. -/
theorem Reads.own {w : World} {base e n cap : Nat} {ao : Option Addr} {xs : List Value} (h : w.ownsRow base e 1 (.slice ao n cap) n xs) : Reads w ao n cap xs := by
  rcases h.2 with ⟨hv, hn⟩ | ⟨g, cap', cur, hv, _⟩
  · simp only [Value.slice.injEq] at hv
    obtain ⟨rfl, rfl, rfl⟩ := hv
    have : xs = [] := List.eq_nil_of_length_eq_zero (by simpa using h.1)
    subst this
    exact Reads.nil w
  · simp only [Value.slice.injEq] at hv
    obtain ⟨rfl, _, rfl⟩ := hv
    exact Reads.owned h

/-- 'append(own, src...)', whatever the source: it may grow. -/
theorem wpList_append_reads {P : Program} {w : World} {ops : Array Oper} {rest : List Oper} {o : Oper} {a : Act} {Q : Exit → Act → World → Prop} (hgd : o.guard = none) (s x : Operand) (t : TypeId)
    (ho : o.op = .call { callee := .builtin .append, args := #[s, x], argTypes := #[t, t] }) (base : Nat) (e : TypeId) {z : Value} {bytes : Nat}
    (hinfo : (P.info? e).map (fun i => (i.zero, i.size, i.bytes)) = some (some z, 1, bytes)) (hzs : z.cells.size = 1) (ht : P.underlying t = some (.slice e))
    (ag : Option Addr) (n c : Nat) (xs : List Value) (hs : a.eval s = .slice ag n c) (hown : w.ownsRow base e 1 (.slice ag n c) n xs)
    (ao : Option Addr) (m d : Nat) (news : List Value) (hx : a.eval x = .slice ao m d) (hr : Reads w ao m d news) (h1 : ∀ u ∈ news, u.oneCell' = true)
    (h63 : n + m ≤ maxLen) (hbytes : (n + m) * bytes ≤ 140737488355328) (hbase : base ≤ w.heap.size)
    (h : ∀ ag' c' w', w'.ownsRow base e 1 (.slice ag' (n + m) c') (n + m) (xs ++ news) → Below base w w' → wpList P ops Q rest (a.put o.dst (.slice ag' (n + m) c')) w') : wpList P ops Q (o :: rest) a w := by
  obtain ⟨i, hi, hz0, hz1, hz2⟩ := info_parts hinfo
  cases ao with
  | none =>
    obtain ⟨rfl, rfl⟩ := hr.bare rfl
    have : news = [] := List.eq_nil_of_length_eq_zero hr.length
    subst this
    refine wpList_append_own_none hgd s x t ho base e i 1 ht hi _ n xs hs hown hx ?_
    exact h ag c w (by simpa using hown) (Below.refl _ _)
  | some ad =>
    refine wpList_append_own w hgd s x t ho base e i z 1 bytes ht hi hz0 hz1 hz2 hzs (by decide) _ n xs hs hown ad m d news hx (by simpa using hr.length) (hr.cell ad rfl) h1 h63 hbytes hbase ?_
    intro v' w' hown' hgrow _
    have hb : Below base w w' := (Below.refl _ _).grown hgrow hbase (fun k hk => (hown.lt k hk).1)
    rcases hown'.2 with ⟨hv, hn⟩ | ⟨g', c', cur, hv, _⟩
    · subst hv
      have hn' : n + m = 0 := hn
      have e1 : (Value.slice none 0 0) = .slice none (n + m) 0 := by rw [hn']
      rw [e1] at hown' ⊢
      exact h none 0 w' hown' hb
    · subst hv
      exact h _ c' w' hown' hb

theorem reads_one (W : World) (x : Value) (t : TypeId) : Reads (W.alloc (.cells #[x] t)) (some ⟨W.heap.size, 0, none⟩) 1 1 [x] :=
  ⟨rfl, Nat.le_refl _, by decide, fun h => (by cases h), fun a ha j u hu => by cases ha; exact cell_one_new W x t j u hu⟩

/-- '[]T{}'. -/
theorem ownsRow_empty (w : World) (e : TypeId) : (w.alloc (.cells #[] e)).ownsRow w.heap.size e 1 (.slice (some ⟨w.heap.size, 0, none⟩) 0 0) 0 [] :=
  World.ownsRow_made w #[] 0 (Nat.le_refl _) (Nat.zero_le _) rfl

/-- Two texts are one just if their bytes are, as a walk spells it. -/
theorem str_beq {xs ys : List Int} (hx : isBytes xs) (hy : isBytes ys) : ((strOfNums xs).toList == (strOfNums ys).toList) = decide (xs = ys) := by
  rw [Bool.eq_iff_iff]
  simp only [beq_iff_eq, decide_eq_true_eq, ByteArray.toList_eq]
  exact ⟨fun h => str_inj hx hy (ByteArray.ext (Array.toList_inj.1 h)), fun h => by rw [h]⟩
end Go.Proofs.Ytgnhnhachhfafaa
