/- Runs: entries as bytes, and back. -/
import Derived.Test.YtgnhnhachhfafaaFrameMath
import Derived.Test.YtgnhnhachhfafaaTabMath
namespace Go.Proofs.Ytgnhnhachhfafaa
open Go.RowKit
set_option linter.unusedVariables false
set_option linter.unusedSimpArgs false

/-- A word's bytes, as numbers; and back. -/
def bytesI (k : Wd) : List Int := k.map fun b => ((b.toNat : Nat) : Int)
def wordI (z : List Int) : Wd := z.map fun x => UInt8.ofNat x.toNat
theorem bytesI_len (k : Wd) : (bytesI k).length = k.length := by simp [bytesI]
theorem bytesI_bytes (k : Wd) : isBytes (bytesI k) := fun z hz => by
  obtain ⟨b, _, rfl⟩ := List.mem_map.1 hz
  have := b.toNat_lt
  constructor <;> omega
theorem wordI_bytes (k : Wd) : wordI (bytesI k) = k := by
  simp [wordI, bytesI, List.map_map, Function.comp_def]
theorem bytesI_inj {a b : Wd} (h : bytesI a = bytesI b) : a = b := by rw [← wordI_bytes a, h, wordI_bytes]
theorem bytesI_word {z : List Int} (h : isBytes z) : bytesI (wordI z) = z := by
  induction z with
  | nil => rfl
  | cons a z ih =>
    have ha := h a (by simp)
    have := ih fun x hx => h x (by simp [hx])
    simp only [bytesI, wordI, List.map_cons, List.cons.injEq] at this ⊢
    refine ⟨?_, this⟩
    rw [UInt8.toNat_ofNat', Nat.mod_eq_of_lt (by omega)]; omega

/-- How many bytes two words begin with together. -/
def alikeW : Wd → Wd → Nat
  | a :: x, b :: y => if a = b then alikeW x y + 1 else 0
  | _, _ => 0
theorem alike_nil (b : Wd) : alikeW [] b = 0 := by cases b <;> rfl
theorem alike_le : ∀ a b : Wd, alikeW a b ≤ a.length ∧ alikeW a b ≤ b.length
  | [], b => by rw [alike_nil]; exact ⟨Nat.zero_le _, Nat.zero_le _⟩
  | _ :: _, [] => ⟨Nat.zero_le _, Nat.zero_le _⟩
  | a :: x, b :: y => by
    unfold alikeW
    have := alike_le x y
    split
    · simp only [List.length_cons]; omega
    · exact ⟨Nat.zero_le _, Nat.zero_le _⟩
theorem alike_take : ∀ a b : Wd, a.take (alikeW a b) = b.take (alikeW a b)
  | [], b => by rw [alike_nil]; simp
  | _ :: _, [] => by simp [alikeW]
  | a :: x, b :: y => by
    unfold alikeW
    split
    · rename_i h; rw [h]; simp [alike_take x y]
    · simp

def entL (was : Wd) (e : En) : List Int := encode (alikeW was e.1) ++ (encode (e.1.length - alikeW was e.1) ++ (bytesI (e.1.drop (alikeW was e.1)) ++ encode e.2))
def entsL : Wd → List En → List Int
  | _, [] => []
  | was, e :: l => entL was e ++ entsL e.1 l
def blockL (l : List En) : List Int := encode l.length ++ entsL [] l
def chunksF : Nat → Nat → List En → List (List En)
  | 0, _, _ => []
  | f + 1, s, l => if l = [] then [] else l.take s :: chunksF f s (l.drop s)
def chunksE (s : Nat) (l : List En) : List (List En) := chunksF l.length s l
def runRows (l : List En) (s : Nat) : List (List Int) := encode s :: ((chunksE s l).map blockL ++ [encode 0 ++ encode l.length])
def runL (l : List En) (s : Nat) : List Int := recs (runRows l s)

/-- Which entries may be. -/
def oneE (e : En) : Bool := decide (1 ≤ e.1.length) && decide (e.1.length ≤ 255) && decide (1 ≤ e.2) && decide (e.2 ≤ 4611686018427387904)
def upsE : List En → Bool
  | a :: b :: l => lessB a.1 b.1 && upsE (b :: l)
  | _ => true
def mayE (l : List En) : Nat := if l.all oneE then (if upsE l then 0 else 9) else 1
theorem one_ok {e : En} : oneE e = true ↔ 1 ≤ e.1.length ∧ e.1.length ≤ 255 ∧ 1 ≤ e.2 ∧ e.2 ≤ 4611686018427387904 := by
  simp [oneE, and_assoc]
theorem may_zero {l : List En} : mayE l = 0 ↔ l.all oneE = true ∧ upsE l = true := by
  unfold mayE
  by_cases h : l.all oneE = true
  · by_cases k : upsE l = true <;> simp [h, k]
  · simp [h]

/-! Entry by entry. -/
def takeE (was : Wd) (b : List Int) : Option (En × Nat) :=
  if (getL b).2.2 = 0 ∧ (getL b).1 ≤ was.length then
    (if (getL (b.drop (getL b).2.1)).2.2 = 0 ∧ (getL (b.drop (getL b).2.1)).1 ≤ b.length - ((getL b).2.1 + (getL (b.drop (getL b).2.1)).2.1) then
      (if (getL (b.drop ((getL b).2.1 + (getL (b.drop (getL b).2.1)).2.1 + (getL (b.drop (getL b).2.1)).1))).2.2 = 0 then
        some ((was.take (getL b).1 ++ wordI ((b.drop ((getL b).2.1 + (getL (b.drop (getL b).2.1)).2.1)).take (getL (b.drop (getL b).2.1)).1), (getL (b.drop ((getL b).2.1 + (getL (b.drop (getL b).2.1)).2.1 + (getL (b.drop (getL b).2.1)).1))).1),
          (getL b).2.1 + (getL (b.drop (getL b).2.1)).2.1 + (getL (b.drop (getL b).2.1)).1 + (getL (b.drop ((getL b).2.1 + (getL (b.drop (getL b).2.1)).2.1 + (getL (b.drop (getL b).2.1)).1))).2.1)
      else none) else none) else none
def takesE : Nat → Wd → List Int → Option (List En)
  | 0, _, _ => some []
  | k + 1, was, b => match takeE was b with
    | none => none
    | some (e, n) => (takesE k e.1 (b.drop n)).map (e :: ·)
theorem take_ent (was : Wd) (e : En) (r : List Int) (h1 : e.1.length ≤ 1000000) (h2 : was.length ≤ 1000000) (h3 : e.2 < 18446744073709551616) : takeE was (entL was e ++ r) = some (e, (entL was e).length) := by
  have ha := alike_le was e.1
  have g1 : getL (entL was e ++ r) = (alikeW was e.1, (encode (alikeW was e.1)).length, 0) := by
    unfold entL; rw [List.append_assoc]; exact get_back _ _ (by omega)
  have d1 : (entL was e ++ r).drop (encode (alikeW was e.1)).length = encode (e.1.length - alikeW was e.1) ++ (bytesI (e.1.drop (alikeW was e.1)) ++ (encode e.2 ++ r)) := by
    unfold entL; simp [List.append_assoc]
  have g2 : getL ((entL was e ++ r).drop (encode (alikeW was e.1)).length) = (e.1.length - alikeW was e.1, (encode (e.1.length - alikeW was e.1)).length, 0) := by rw [d1]; exact get_back _ _ (by omega)
  have d2 : (entL was e ++ r).drop ((encode (alikeW was e.1)).length + (encode (e.1.length - alikeW was e.1)).length) = bytesI (e.1.drop (alikeW was e.1)) ++ (encode e.2 ++ r) := by
    rw [← List.drop_drop, d1, List.drop_left]
  have hbl : (bytesI (e.1.drop (alikeW was e.1))).length = e.1.length - alikeW was e.1 := by rw [bytesI_len]; simp
  have d3 : (entL was e ++ r).drop ((encode (alikeW was e.1)).length + (encode (e.1.length - alikeW was e.1)).length + (e.1.length - alikeW was e.1)) = encode e.2 ++ r := by
    rw [← List.drop_drop, d2]
    conv => lhs; rw [← hbl]
    rw [List.drop_left]
  have g3 : getL ((entL was e ++ r).drop ((encode (alikeW was e.1)).length + (encode (e.1.length - alikeW was e.1)).length + (e.1.length - alikeW was e.1))) = (e.2, (encode e.2).length, 0) := by rw [d3]; exact get_back _ _ h3
  have hlen : (entL was e ++ r).length = (encode (alikeW was e.1)).length + (encode (e.1.length - alikeW was e.1)).length + (e.1.length - alikeW was e.1) + (encode e.2).length + r.length := by
    unfold entL; simp [hbl]; omega
  have t2 : ((entL was e ++ r).drop ((encode (alikeW was e.1)).length + (encode (e.1.length - alikeW was e.1)).length)).take (e.1.length - alikeW was e.1) = bytesI (e.1.drop (alikeW was e.1)) := by
    rw [d2]
    conv => lhs; rw [← hbl]
    rw [List.take_left]
  unfold takeE
  simp only [g1, g2, g3]
  rw [if_pos ⟨trivial, ha.1⟩, if_pos ⟨trivial, by omega⟩, if_pos trivial, t2, wordI_bytes, alike_take, List.take_append_drop]
  congr 2
  unfold entL; simp [hbl]; omega
theorem takes_ents : ∀ (l : List En) (was : Wd) (r : List Int), (∀ e ∈ l, oneE e = true) → was.length ≤ 255 → takesE l.length was (entsL was l ++ r) = some l
  | [], was, r, _, _ => rfl
  | e :: l, was, r, h, hw => by
    have he := one_ok.1 (h e (by simp))
    rw [List.length_cons, takesE, entsL, List.append_assoc, take_ent was e _ (by omega) (by omega) (by omega)]
    simp only [List.drop_left]
    rw [takes_ents l e.1 r (fun x hx => h x (by simp [hx])) he.2.1]; rfl
/-- Blocks are told apart by what they begin with. -/
theorem block_free {l l' : List En} {X Y : List Int} (h : ∀ e ∈ l, oneE e = true) (h' : ∀ e ∈ l', oneE e = true) (hl : l.length ≤ 1000000) (hl' : l'.length ≤ 1000000) (e : blockL l ++ X = blockL l' ++ Y) : l = l' := by
  unfold blockL at e
  rw [List.append_assoc, List.append_assoc] at e
  have g1 := get_back l.length (entsL [] l ++ X) (by omega)
  have g2 := get_back l'.length (entsL [] l' ++ Y) (by omega)
  rw [e, g2] at g1
  simp only [Prod.mk.injEq, and_true] at g1
  rw [g1.1] at e
  have e2 := List.append_cancel_left e
  have t1 := takes_ents l [] X h (by simp)
  rw [e2, ← g1.1, takes_ents l' [] Y h' (by simp)] at t1
  exact (Option.some.inj t1).symm
end Go.Proofs.Ytgnhnhachhfafaa
