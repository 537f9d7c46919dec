/- Conversions between bytes, texts and runes, as a walk meets them. -/
import Derived.Test.YtdhbbknjnbdplaaDoorUtfEncode
import Derived.Laws.IdiomStrings
import Derived.Laws.Cover4
namespace Go.Proofs.YtdhbbknjnbdplaaDoor
open Go.Lib Go.RowKit
set_option linter.unusedVariables false

theorem runes_from (zs : List Int) (h8 : isBytes zs) : ∀ (f i : Nat) (acc : Array Value), i ≤ zs.length → zs.length - i ≤ f →
    (Conv.runesFrom (strOfNums zs) f i acc).toList = acc.toList ++ (allU (zs.drop i)).map (.int .i32)
  | 0, i, acc, hi, hf => by
    rw [List.drop_eq_nil_of_le (by omega)]
    simp [Conv.runesFrom, all_nil]
  | f + 1, i, acc, hi, hf => by
    unfold Conv.runesFrom
    rw [str_size]
    by_cases h : i < zs.length
    · rw [if_pos h]
      have hd : zs.drop i ≠ [] := by intro e; have := congrArg List.length e; simp at this; omega
      obtain ⟨r, e1, e2⟩ := decode_str zs h8 i h
      have p1 := one_pos (zs.drop i)
      have p2 := one_le hd
      rw [List.length_drop] at p2
      rw [e1]
      simp only
      rw [runes_from zs h8 f _ _ (by omega) (by omega), all_step hd, e2, List.drop_drop]
      simp
    · rw [if_neg h, List.drop_eq_nil_of_le (by omega)]
      simp [all_nil]

theorem all_le (b : List Int) : (allU b).length ≤ b.length := by
  refine along (Q := fun b => (allU b).length ≤ b.length) (Nat.le_refl _) (fun b hb ih => ?_) b
  have p1 := one_pos b
  have p2 := one_le hb
  rw [all_step hb]
  simp at ih ⊢
  omega

/-- '[]rune(s)'. -/
theorem conv_to_runes {P : Program} {t s e : TypeId} (hs : P.underlying s = some .string) (ht : P.underlying t = some (.slice e)) (he : P.underlying e = some (.int .i32)) (zs : List Int) (h8 : isBytes zs) (hl : zs.length ≤ 70368744177664) (W : World) :
    ∃ cap w', (convert s t (.string (strOfNums zs))).run P W = .ok (.slice (some ⟨W.heap.size, 0, none⟩) (allU zs).length cap) w' ∧ Reads w' (some ⟨W.heap.size, 0, none⟩) (allU zs).length cap ((allU zs).map (.int .i32)) ∧ Below W.heap.size W w' := by
  have hr := runes_from zs h8 zs.length 0 #[] (Nat.zero_le _) (Nat.le_refl _)
  simp only [List.drop_zero, List.nil_append] at hr
  have hle := all_le zs
  have hz : (Conv.runesFrom (strOfNums zs) (strOfNums zs).size 0 #[]) = ((allU zs).map (Value.int .i32)).toArray := by
    rw [str_size]; apply Array.toList_inj.1; rw [hr]
  have hsz : ((allU zs).map (Value.int .i32)).toArray.size = (allU zs).length := by simp
  have hrun := run_runes_of_string (P := P) W s t e (strOfNums zs) hs ht he (by rw [hz, hsz]; omega)
  rw [hz, hsz] at hrun
  have hge := grownCap_ge W (allU zs).length 0 e
  have hmx := grownCap_le_maxLen W (allU zs).length 0 e (by unfold maxLen; omega)
  refine ⟨_, _, hrun, ⟨by simp, hge, hmx, fun h => (by cases h), fun a ha j u hu => ?_⟩, ?_⟩
  · cases ha
    have hj : j < (allU zs).length := by have := (List.getElem?_eq_some_iff.1 hu).1; simpa using this
    rw [Addr.add_lit, World.cell?_alloc_at _ _ _ _ (by simp)]
    rw [Nat.zero_add, Array.getElem?_append_left (by simpa using hj)]
    simpa using hu
  · exact (Below.drew (Below.refl _ _)).alloc (by simp) _

theorem runes_text (rs : List Int) : runesBytes rs = strOfNums (textU rs) := by
  have : ∀ (l : List Int) (p : List Int), l.foldl (fun r n => r ++ Utf8.encode n) (strOfNums p) = strOfNums (p ++ textU l) := by
    intro l
    induction l with
    | nil => intro p; simp [textU]
    | cons r l ih =>
      intro p
      rw [List.foldl_cons, encode_str, str_app, ih, textU, List.append_assoc]
  exact this rs []

/-- 'string(rs)'. -/
theorem conv_runes {P : Program} {t s e : TypeId} (hs : P.underlying s = some .string) (ht : P.underlying t = some (.slice e)) (he : P.underlying e = some (.int .i32)) {W : World} {ao : Option Addr} {len cap : Nat} {rs : List Int} (h : Reads W ao len cap (rs.map (.int .i32))) :
    (convert t s (.slice ao len cap)).run P W = .ok (.string (strOfNums (textU rs))) W := by
  have hl := h.length
  simp only [List.length_map] at hl
  cases ao with
  | none =>
    obtain ⟨h1, h2⟩ := h.bare rfl
    obtain rfl : rs = [] := List.eq_nil_of_length_eq_zero (by omega)
    rw [run_convert_runes_nil W t s e len cap ht he hs]
    rfl
  | some a =>
    have := run_convert_runes (P := P) W t s e a len cap rs (by omega) ht he hs (fun j hj => h.cell a rfl j _ (by simp [List.getD, hj]))
    rw [this, List.take_of_length_le (by omega), runes_text]

/-- '[]byte(s)': what it reads as. -/
theorem str_bytes_inv (s : ByteArray) : ∃ zs, isBytes zs ∧ s = strOfNums zs ∧ zs.length = s.size := by
  refine ⟨s.data.toList.map (fun b => (b.toNat : Int)), ?_, ?_, ?_⟩
  · intro z hz
    simp only [List.mem_map] at hz
    obtain ⟨b, _, rfl⟩ := hz
    have := b.toNat_lt
    omega
  · apply ByteArray.ext
    apply Array.toList_inj.1
    rw [strOfNums_data, List.map_map]
    conv => lhs; rw [← List.map_id s.data.toList]
    apply List.map_congr_left
    intro b _
    simp
  · rw [List.length_map]; rfl

/-- '[]byte(s)'. -/
theorem conv_bytes {P : Program} {t s e : TypeId} (hs : P.underlying s = some .string) (ht : P.underlying t = some (.slice e)) (he : P.underlying e = some (.int .u8)) (zs : List Int) (h8 : isBytes zs) (hl : zs.length ≤ 70368744177664) (W : World) :
    ∃ cap w', (convert s t (.string (strOfNums zs))).run P W = .ok (.slice (some ⟨W.heap.size, 0, none⟩) zs.length cap) w' ∧ Reads w' (some ⟨W.heap.size, 0, none⟩) zs.length cap (zs.map (.int .u8)) ∧ Below W.heap.size W w' := by
  have hrun := run_bytes_of_string (P := P) W s t e (strOfNums zs) hs ht he
  rw [str_size] at hrun
  have hge := grownCap_ge W zs.length 0 e
  have hmx := grownCap_le_maxLen W zs.length 0 e (by unfold maxLen; omega)
  refine ⟨_, _, hrun, ⟨by simp, hge, hmx, fun h => (by cases h), fun a ha j u hu => ?_⟩, ?_⟩
  · cases ha
    have hj : j < zs.length := by have := (List.getElem?_eq_some_iff.1 hu).1; simpa using this
    have hz := h8 (zs[j]) (List.getElem_mem hj)
    have hcell : ∀ (X : World) (C : Array Value) (fr : Nat × Nat) (i : Nat), (X.alloc (.cells C e fr)).cell? ⟨X.heap.size, i, none⟩ = C[i]? := fun X C fr i => by simp [World.cell?, World.alloc, -World.alloc_eq]
    rw [Addr.add_lit, Nat.zero_add, show W.heap.size = W.drew.heap.size from rfl, hcell]
    simp only [List.getElem?_map, List.getElem?_eq_getElem hj, Option.map_some, Option.some.injEq] at hu
    rw [← hu]
    have hd : (strOfNums zs).data.toList = zs.map fun n => UInt8.ofNat n.toNat := strOfNums_data zs
    unfold bytesRow
    rw [Array.getElem?_append_left (by simp [← Array.length_toList, hd]; omega)]
    rw [Array.getElem?_map, ← Array.getElem?_toList, hd]
    simp [List.getElem?_eq_getElem hj]
    omega
  · exact (Below.drew (Below.refl _ _)).alloc (by simp) _
end Go.Proofs.YtdhbbknjnbdplaaDoor
