/- Slices cut, and read as texts; growth of the world. -/
import Derived.Test.YtnlgghfiddmfkaaBase
import Derived.Laws.BytesArg
namespace Go.Proofs.Ytnlgghfiddmfkaa
open Go.RowKit

/-- Nothing that was there has turned. -/
abbrev Grow (w w' : World) : Prop := Below w.heap.size w w'
theorem Grow.trans {a b c : World} (h : Grow a b) (k : Grow b c) : Grow a c := Below.trans h (Below.mono k h.size)

theorem Reads.plain {w : World} {a : Addr} {len cap : Nat} {xs : List Value} (h : Reads w (some a) len cap xs) (hp : 0 < len) : ∃ b off, a = ⟨b, off, none⟩ := by
  have hl := h.length
  obtain ⟨b, off, spot⟩ := a
  have h0 := h.cell _ rfl 0 xs[0] (List.getElem?_eq_getElem (by omega))
  have hspot : spot = none := by simpa [Addr.add] using World.cell?_spot h0
  exact ⟨b, off, by rw [hspot]⟩

theorem Reads.from {P : Program} {t e : TypeId} (ht : P.underlying t = some (.slice e)) (hs : ∀ W, (sizeOf e).run P W = .ok 1 W) {ao : Option Addr} {len cap : Nat} (l : Nat) (hl : l ≤ len) :
    ∃ ao', (∀ W, (Instr.slice t (.slice ao len cap) (some (.int .i64 (l : Int))) none none).run P W = .ok (.slice ao' (len - l) (cap - l)) W) ∧ (∀ W xs, Reads W ao len cap xs → Reads W ao' (len - l) (cap - l) (xs.drop l)) := by
  have ht' : P.underlying t = some (.slice (P.elem t)) := by simp [Program.elem, ht]
  have he : P.elem t = e := by simp [Program.elem, ht]
  refine ⟨if cap = l then ao else ao.map (·.add (l * 1)), fun W => ?_, fun W xs h => ⟨?_, ?_, ?_, ?_, ?_⟩⟩
  · rw [run_slice_l (P := P) W t ao len cap ht' .i64 l (by omega) (by omega), he, hs]
    simp [Result.andThen, sliced]
  · have := h.length; simp; omega
  · have := h.le; omega
  · have := h.most; omega
  · intro hn
    split at hn
    · have := h.bare hn; omega
    · simp only [Option.map_eq_none_iff] at hn
      have := h.bare hn; omega
  · intro a ha j u hu
    have hle := h.le
    have hj : l + j < xs.length := by
      have := (List.getElem?_eq_some_iff.1 hu).1
      simp at this; omega
    have := h.length
    rw [if_neg (by omega)] at ha
    cases ao with
    | none => simp at ha
    | some x =>
      simp only [Option.map_some, Option.some.injEq] at ha
      subst ha
      obtain ⟨b, off, rfl⟩ := h.plain (by omega)
      have hc := h.cell _ rfl (l + j) u (by simpa using hu)
      rw [Nat.mul_one, Addr.add_lit, Addr.add_lit, Nat.add_assoc]
      rw [Addr.add_lit] at hc
      exact hc

theorem Reads.to {P : Program} {t e : TypeId} (ht : P.underlying t = some (.slice e)) (hs : ∀ W, (sizeOf e).run P W = .ok 1 W) {ao : Option Addr} {len cap : Nat} (hc : len ≤ cap) (h : Nat) (hh : h ≤ len) :
    ∃ ao', (∀ W, (Instr.slice t (.slice ao len cap) none (some (.int .i64 (h : Int))) none).run P W = .ok (.slice ao' h cap) W) ∧ (∀ W xs, Reads W ao len cap xs → Reads W ao' h cap (xs.take h)) := by
  have ht' : P.underlying t = some (.slice (P.elem t)) := by simp [Program.elem, ht]
  have he : P.elem t = e := by simp [Program.elem, ht]
  refine ⟨if cap = 0 then ao else ao.map (·.add (0 * 1)), fun W => ?_, fun W xs hr => ⟨?_, ?_, ?_, ?_, ?_⟩⟩
  · rw [run_slice_h (P := P) W t ao len cap ht' .i64 h (by omega) (by omega), he, hs]
    simp [Result.andThen, sliced]
  · have := hr.length; simp; omega
  · omega
  · exact hr.most
  · intro hn
    split at hn
    · have := hr.bare hn; omega
    · simp only [Option.map_eq_none_iff] at hn
      have := hr.bare hn; omega
  · intro a ha j u hu
    have hj : j < h ∧ j < xs.length := by
      have := (List.getElem?_eq_some_iff.1 hu).1
      simp at this; omega
    rw [if_neg (by omega)] at ha
    cases ao with
    | none => simp at ha
    | some x =>
      simp only [Option.map_some, Option.some.injEq] at ha
      subst ha
      obtain ⟨b, off, rfl⟩ := hr.plain (by omega)
      have hcc := hr.cell _ rfl j u (by rw [List.getElem?_take_of_lt hj.1] at hu; exact hu)
      rw [Nat.zero_mul, Addr.add_lit, Addr.add_lit, Nat.add_zero]
      rw [Addr.add_lit] at hcc
      exact hcc

theorem size_of {P : Program} {e : TypeId} {z : Value} {b : Nat} (h : (P.info? e).map (fun i => (i.zero, i.size, i.bytes)) = some (some z, 1, b)) : ∀ W, (sizeOf e).run P W = .ok 1 W := by
  obtain ⟨i, hi, _, h1, _⟩ := info_parts h
  intro W
  simp [sizeOf, typeInfo, hi, h1]

/-- 'string(b)'. -/
theorem conv_of {P : Program} {t e s : TypeId} (ht : P.underlying t = some (.slice e)) (he : P.underlying e = some (.int .u8)) (hs : P.underlying s = some .string)
    {W : World} {ao : Option Addr} {len cap : Nat} {zs : List Int} (h : Reads W ao len cap (zs.map (.int .u8))) :
    (convert t s (.slice ao len cap)).run P W = .ok (.string (strOfNums zs)) W := by
  have hl := h.length
  simp only [List.length_map] at hl
  rcases Nat.eq_zero_or_pos len with h0 | h0
  · subst h0
    obtain rfl : zs = [] := List.eq_nil_of_length_eq_zero hl
    cases ao with
    | none => rw [run_convert_bytes_nil W t e ht he 0 cap s hs]; rfl
    | some a =>
      rw [run_convert_bytes_string W t s e _ 0 cap ht he hs]
      have hz := run_loadCells_list (P := P) W a [] (fun j v hj => by simp at hj)
      rw [run_bytesToString W a 0 cap [] (by simpa using hz)]
      rfl
  · obtain ⟨b, off, rfl, _, hc⟩ := h.at h0
    exact run_convert_bytes_arg W t e ht he b off len cap zs hl hc s hs

theorem str_inj {xs ys : List Int} (hx : ∀ z ∈ xs, 0 ≤ z ∧ z ≤ 255) (hy : ∀ z ∈ ys, 0 ≤ z ∧ z ≤ 255) (h : strOfNums xs = strOfNums ys) : xs = ys := by
  have h1 : (xs.map fun n => UInt8.ofNat n.toNat) = (ys.map fun n => UInt8.ofNat n.toNat) := by
    rw [← strOfNums_data, ← strOfNums_data, h]
  have e : ∀ l : List Int, (∀ z ∈ l, 0 ≤ z ∧ z ≤ 255) → (l.map fun n => UInt8.ofNat n.toNat).map (fun b => (b.toNat : Int)) = l := by
    intro l hl
    rw [List.map_map]
    conv => rhs; rw [← List.map_id l]
    apply List.map_congr_left
    intro z hz
    have := hl z hz
    simp; omega
  rw [← e xs hx, ← e ys hy, h1]
end Go.Proofs.Ytnlgghfiddmfkaa
