/- Runes as bytes, and back: what a text made of runes has as its runes. -/
import Derived.Test.YtdhbbknjnbdplaaDoorUtfDecode
namespace Go.Proofs.YtdhbbknjnbdplaaDoor
open Go.Lib
set_option linter.unusedVariables false

/-- A rune that may be, or else U+FFFD. -/
def fixN (r : Int) : Nat := if Utf8.valid r then r.toNat else 65533
def encN (c : Nat) : List Nat :=
  if c < 0x80 then [c]
  else if c < 0x800 then [0xC0 + c / 64, 0x80 + c % 64]
  else if c < 0x10000 then [0xE0 + c / 4096, 0x80 + c / 64 % 64, 0x80 + c % 64]
  else [0xF0 + c / 262144, 0x80 + c / 4096 % 64, 0x80 + c / 64 % 64, 0x80 + c % 64]
def encU (r : Int) : List Int := (encN (fixN r)).map (fun (n : Nat) => (n : Int))

theorem fix_ok (r : Int) : fixN r < 0xD800 ∨ (0xE000 ≤ fixN r ∧ fixN r ≤ 0x10FFFF) := by
  unfold fixN
  by_cases h : Utf8.valid r = true
  · rw [if_pos h]
    simp only [Utf8.valid, Bool.or_eq_true, Bool.and_eq_true, decide_eq_true_eq] at h
    omega
  · rw [if_neg h]; omega
theorem fix_fix (r : Int) : fixN (fixN r : Int) = fixN r := by
  have := fix_ok r
  generalize fixN r = c at this
  have h : Utf8.valid (c : Int) = true := by
    simp only [Utf8.valid, Bool.or_eq_true, Bool.and_eq_true, decide_eq_true_eq]
    omega
  unfold fixN
  rw [if_pos h, Int.toNat_natCast]

theorem enc_lt {c : Nat} (h : c ≤ 0x10FFFF) : ∀ n ∈ encN c, n < 256 := by
  intro n hn
  unfold encN at hn
  split at hn
  · simp at hn; omega
  · split at hn
    · simp at hn; omega
    · split at hn
      · simp at hn; omega
      · simp at hn; omega
theorem encU_bytes (r : Int) : isBytes (encU r) := fun z hz => by
  simp only [encU, List.mem_map] at hz
  obtain ⟨n, hn, rfl⟩ := hz
  have := fix_ok r
  have := enc_lt (c := fixN r) (by omega) n hn
  omega
theorem encU_ne (r : Int) : encU r ≠ [] := by
  unfold encU encN
  repeat' split
  all_goals simp

theorem one_enc (r : Int) : oneU (encU r) = ((fixN r : Int), (encU r).length) ∧ ¬ pendU (encU r) := by
  have hf := fix_ok r
  have hne := encU_ne r
  unfold encU at hne ⊢
  generalize fixN r = c at hf hne
  have pend_no : ∀ (b : List Int) (v : Int) (n : Nat), oneU b = (v, n) → b ≠ [] → n = b.length → (n = 1 → sizeU (headU b) = 1) → ¬ pendU b := by
    intro b v n ho hb hn h1 hp
    rw [pend_iff hb] at hp
    unfold oneU at ho
    rw [if_pos (Or.inr (by omega))] at ho
    simp only [Prod.mk.injEq] at ho
    have := h1 ho.2.symm
    omega
  unfold encN at hne ⊢
  by_cases c1 : c < 0x80
  · rw [if_pos c1] at hne ⊢
    have ho : oneU ([c].map (fun (n : Nat) => (n : Int))) = ((c : Int), 1) := by
      rw [one_oneN hne c 0 0 0 rfl rfl rfl rfl]
      unfold oneN
      rw [if_pos c1]
    exact ⟨ho, pend_no _ _ _ ho hne rfl (fun _ => by simp only [headU, List.map_cons, List.headD_cons]; unfold sizeU; rw [if_pos (by omega)])⟩
  rw [if_neg c1] at hne ⊢
  by_cases c2 : c < 0x800
  · rw [if_pos c2] at hne ⊢
    have ho : oneU ([0xC0 + c / 64, 0x80 + c % 64].map (fun (n : Nat) => (n : Int))) = ((c : Int), 2) := by
      rw [one_oneN hne (0xC0 + c / 64) (0x80 + c % 64) 0 0 rfl rfl rfl rfl]
      unfold oneN
      have s : secN (0xC0 + c / 64) (0x80 + c % 64) := by unfold secN; omega
      rw [if_neg (by omega), if_pos (by omega), if_pos ⟨by simp, s⟩]
      apply Prod.ext <;> simp only <;> omega
    exact ⟨ho, pend_no _ _ _ ho hne rfl (fun h => by omega)⟩
  rw [if_neg c2] at hne ⊢
  by_cases c3 : c < 0x10000
  · rw [if_pos c3] at hne ⊢
    have ho : oneU ([0xE0 + c / 4096, 0x80 + c / 64 % 64, 0x80 + c % 64].map (fun (n : Nat) => (n : Int))) = ((c : Int), 3) := by
      rw [one_oneN hne (0xE0 + c / 4096) (0x80 + c / 64 % 64) (0x80 + c % 64) 0 rfl rfl rfl rfl]
      unfold oneN
      have s : secN (0xE0 + c / 4096) (0x80 + c / 64 % 64) := by unfold secN; omega
      have t : conN (0x80 + c % 64) := by unfold conN; omega
      rw [if_neg (by omega), if_neg (by omega), if_pos (by omega), if_pos ⟨by simp, s, by simp, t⟩]
      apply Prod.ext <;> simp only <;> omega
    exact ⟨ho, pend_no _ _ _ ho hne rfl (fun h => by omega)⟩
  rw [if_neg c3] at hne ⊢
  have ho : oneU ([0xF0 + c / 262144, 0x80 + c / 4096 % 64, 0x80 + c / 64 % 64, 0x80 + c % 64].map (fun (n : Nat) => (n : Int))) = ((c : Int), 4) := by
    rw [one_oneN hne (0xF0 + c / 262144) (0x80 + c / 4096 % 64) (0x80 + c / 64 % 64) (0x80 + c % 64) rfl rfl rfl rfl]
    unfold oneN
    have s : secN (0xF0 + c / 262144) (0x80 + c / 4096 % 64) := by unfold secN; omega
    have t : conN (0x80 + c / 64 % 64) := by unfold conN; omega
    have u : conN (0x80 + c % 64) := by unfold conN; omega
    rw [if_neg (by omega), if_neg (by omega), if_neg (by omega), if_pos (by omega), if_pos ⟨by simp, s, by simp, t, by simp, u⟩]
    apply Prod.ext <;> simp only <;> omega
  exact ⟨ho, pend_no _ _ _ ho hne rfl (fun h => by omega)⟩

/-- A text of runes. -/
def textU : List Int → List Int
  | [] => []
  | r :: l => encU r ++ textU l
theorem text_bytes : ∀ l, isBytes (textU l)
  | [] => fun z hz => by simp [textU] at hz
  | r :: l => fun z hz => by
    rcases List.mem_append.1 hz with h | h
    · exact encU_bytes r z h
    · exact text_bytes l z h
theorem all_text : ∀ l, allU (textU l) = l.map (fun r => (fixN r : Int)) ∧ feedU (textU l) = (l.map (fun r => (fixN r : Int)), [])
  | [] => ⟨rfl, rfl⟩
  | r :: l => by
    obtain ⟨o1, o2⟩ := one_enc r
    obtain ⟨i1, i2⟩ := all_text l
    have hne := encU_ne r
    have hb : encU r ++ textU l ≠ [] := by simp [hne]
    have ho : oneU (encU r ++ textU l) = ((fixN r : Int), (encU r).length) := by rw [one_app hne o2, o1]
    refine ⟨?_, ?_⟩
    · rw [textU, all_step hb, ho]
      simp only [List.drop_left, List.map_cons]
      rw [i1]
    · rw [textU, feed_step hb (fun h => o2 (pend_pre hne h)), ho]
      simp only [List.drop_left, List.map_cons]
      rw [i2]
theorem text_fix : ∀ l : List Int, textU (l.map (fun r => (fixN r : Int))) = textU l
  | [] => rfl
  | r :: l => by simp only [List.map_cons, textU, text_fix l, encU, fix_fix]

/-- The model's own encoding. -/
theorem str_nat (l : List Nat) : strOfNums (l.map (fun (n : Nat) => (n : Int))) = ⟨(l.map UInt8.ofNat).toArray⟩ := by
  unfold strOfNums
  rw [List.map_map]
  rfl
theorem encode_str (r : Int) : Utf8.encode r = strOfNums (encU r) := by
  have hc : (if Utf8.valid r then r.toNat else Utf8.runeError) = fixN r := rfl
  unfold Utf8.encode encU encN
  simp only [hc]
  rw [str_nat]
  repeat' split
  all_goals rfl
theorem str_app (a b : List Int) : strOfNums a ++ strOfNums b = strOfNums (a ++ b) := by
  apply ByteArray.ext
  rw [ByteArray.data_append]
  apply Array.toList_inj.1
  rw [Array.toList_append, strOfNums_data, strOfNums_data, strOfNums_data, List.map_append]
end Go.Proofs.YtdhbbknjnbdplaaDoor
