/- Runs: entries as bytes, and back. Runs: records, row by row; a byte that is another one. Runs: bytes as entries. -/
import Derived.Test.YtknfjonaepggnaaFrameAll
import Derived.Test.YtknfjonaepggnaaEnAll
import Derived.Test.YtknfjonaepggnaaCrcAll
namespace Go.Proofs.Ytknfjonaepggnaa
open Go.RowKit
set_option linter.unusedVariables false
set_option linter.unusedSimpArgs false

/-- A word's bytes, as numbers; and back. -/
def bytesI (k : Wd) : List Int := k.map fun b => ((b.toNat : Nat) : Int)
def wordI (z : List Int) : Wd := z.map fun x => UInt8.ofNat x.toNat
theorem bytesI_len (k : Wd) : (bytesI k).length = k.length := by simp [bytesI]
theorem bytesI_bytes (k : Wd) : isBytes (bytesI k) := fun z hz => by
  obtain ⟨b, _, rfl⟩ := List.mem_map.1 hz
  have := b.toNat_lt
  constructor <;> omega
theorem wordI_bytes (k : Wd) : wordI (bytesI k) = k := by
  simp [wordI, bytesI, List.map_map, Function.comp_def]
theorem bytesI_inj {a b : Wd} (h : bytesI a = bytesI b) : a = b := by rw [← wordI_bytes a, h, wordI_bytes]
theorem bytesI_word {z : List Int} (h : isBytes z) : bytesI (wordI z) = z := by
  induction z with
  | nil => rfl
  | cons a z ih =>
    have ha := h a (by simp)
    have := ih fun x hx => h x (by simp [hx])
    simp only [bytesI, wordI, List.map_cons, List.cons.injEq] at this ⊢
    refine ⟨?_, this⟩
    rw [UInt8.toNat_ofNat', Nat.mod_eq_of_lt (by omega)]; omega

/-- How many bytes two words begin with together. -/
def alikeW : Wd → Wd → Nat
  | a :: x, b :: y => if a = b then alikeW x y + 1 else 0
  | _, _ => 0
theorem alike_nil (b : Wd) : alikeW [] b = 0 := by cases b <;> rfl
theorem alike_le : ∀ a b : Wd, alikeW a b ≤ a.length ∧ alikeW a b ≤ b.length
  | [], b => by rw [alike_nil]; exact ⟨Nat.zero_le _, Nat.zero_le _⟩
  | _ :: _, [] => ⟨Nat.zero_le _, Nat.zero_le _⟩
  | a :: x, b :: y => by
    unfold alikeW
    have := alike_le x y
    split
    · simp only [List.length_cons]; omega
    · exact ⟨Nat.zero_le _, Nat.zero_le _⟩
theorem alike_take : ∀ a b : Wd, a.take (alikeW a b) = b.take (alikeW a b)
  | [], b => by rw [alike_nil]; simp
  | _ :: _, [] => by simp [alikeW]
  | a :: x, b :: y => by
    unfold alikeW
    split
    · rename_i h; rw [h]; simp [alike_take x y]
    · simp

def entL (was : Wd) (e : En) : List Int := encode (alikeW was e.1) ++ (encode (e.1.length - alikeW was e.1) ++ (bytesI (e.1.drop (alikeW was e.1)) ++ encode e.2))
def entsL : Wd → List En → List Int
  | _, [] => []
  | was, e :: l => entL was e ++ entsL e.1 l
def blockL (l : List En) : List Int := encode l.length ++ entsL [] l
def chunksF : Nat → Nat → List En → List (List En)
  | 0, _, _ => []
  | f + 1, s, l => if l = [] then [] else l.take s :: chunksF f s (l.drop s)
def chunksE (s : Nat) (l : List En) : List (List En) := chunksF l.length s l
def runRows (l : List En) (s : Nat) : List (List Int) := encode s :: ((chunksE s l).map blockL ++ [encode 0 ++ encode l.length])
def runL (l : List En) (s : Nat) : List Int := recs (runRows l s)

/-- Which entries may be. -/
def oneE (e : En) : Bool := decide (1 ≤ e.1.length) && decide (e.1.length ≤ 255) && decide (1 ≤ e.2) && decide (e.2 ≤ 4611686018427387904)
def upsE : List En → Bool
  | a :: b :: l => lessB a.1 b.1 && upsE (b :: l)
  | _ => true
def mayE (l : List En) : Nat := if l.all oneE then (if upsE l then 0 else 9) else 1
theorem one_ok {e : En} : oneE e = true ↔ 1 ≤ e.1.length ∧ e.1.length ≤ 255 ∧ 1 ≤ e.2 ∧ e.2 ≤ 4611686018427387904 := by
  simp [oneE, and_assoc]
theorem may_zero {l : List En} : mayE l = 0 ↔ l.all oneE = true ∧ upsE l = true := by
  unfold mayE
  by_cases h : l.all oneE = true
  · by_cases k : upsE l = true <;> simp [h, k]
  · simp [h]

/-! Entry by entry. -/
def takeE (was : Wd) (b : List Int) : Option (En × Nat) :=
  if (getL b).2.2 = 0 ∧ (getL b).1 ≤ was.length then
    (if (getL (b.drop (getL b).2.1)).2.2 = 0 ∧ (getL (b.drop (getL b).2.1)).1 ≤ b.length - ((getL b).2.1 + (getL (b.drop (getL b).2.1)).2.1) then
      (if (getL (b.drop ((getL b).2.1 + (getL (b.drop (getL b).2.1)).2.1 + (getL (b.drop (getL b).2.1)).1))).2.2 = 0 then
        some ((was.take (getL b).1 ++ wordI ((b.drop ((getL b).2.1 + (getL (b.drop (getL b).2.1)).2.1)).take (getL (b.drop (getL b).2.1)).1), (getL (b.drop ((getL b).2.1 + (getL (b.drop (getL b).2.1)).2.1 + (getL (b.drop (getL b).2.1)).1))).1),
          (getL b).2.1 + (getL (b.drop (getL b).2.1)).2.1 + (getL (b.drop (getL b).2.1)).1 + (getL (b.drop ((getL b).2.1 + (getL (b.drop (getL b).2.1)).2.1 + (getL (b.drop (getL b).2.1)).1))).2.1)
      else none) else none) else none
def takesE : Nat → Wd → List Int → Option (List En)
  | 0, _, _ => some []
  | k + 1, was, b => match takeE was b with
    | none => none
    | some (e, n) => (takesE k e.1 (b.drop n)).map (e :: ·)
theorem take_ent (was : Wd) (e : En) (r : List Int) (h1 : e.1.length ≤ 1000000) (h2 : was.length ≤ 1000000) (h3 : e.2 < 18446744073709551616) : takeE was (entL was e ++ r) = some (e, (entL was e).length) := by
  have ha := alike_le was e.1
  have g1 : getL (entL was e ++ r) = (alikeW was e.1, (encode (alikeW was e.1)).length, 0) := by
    unfold entL; rw [List.append_assoc]; exact get_back _ _ (by omega)
  have d1 : (entL was e ++ r).drop (encode (alikeW was e.1)).length = encode (e.1.length - alikeW was e.1) ++ (bytesI (e.1.drop (alikeW was e.1)) ++ (encode e.2 ++ r)) := by
    unfold entL; simp [List.append_assoc]
  have g2 : getL ((entL was e ++ r).drop (encode (alikeW was e.1)).length) = (e.1.length - alikeW was e.1, (encode (e.1.length - alikeW was e.1)).length, 0) := by rw [d1]; exact get_back _ _ (by omega)
  have d2 : (entL was e ++ r).drop ((encode (alikeW was e.1)).length + (encode (e.1.length - alikeW was e.1)).length) = bytesI (e.1.drop (alikeW was e.1)) ++ (encode e.2 ++ r) := by
    rw [← List.drop_drop, d1, List.drop_left]
  have hbl : (bytesI (e.1.drop (alikeW was e.1))).length = e.1.length - alikeW was e.1 := by rw [bytesI_len]; simp
  have d3 : (entL was e ++ r).drop ((encode (alikeW was e.1)).length + (encode (e.1.length - alikeW was e.1)).length + (e.1.length - alikeW was e.1)) = encode e.2 ++ r := by
    rw [← List.drop_drop, d2]
    conv => lhs; rw [← hbl]
    rw [List.drop_left]
  have g3 : getL ((entL was e ++ r).drop ((encode (alikeW was e.1)).length + (encode (e.1.length - alikeW was e.1)).length + (e.1.length - alikeW was e.1))) = (e.2, (encode e.2).length, 0) := by rw [d3]; exact get_back _ _ h3
  have hlen : (entL was e ++ r).length = (encode (alikeW was e.1)).length + (encode (e.1.length - alikeW was e.1)).length + (e.1.length - alikeW was e.1) + (encode e.2).length + r.length := by
    unfold entL; simp [hbl]; omega
  have t2 : ((entL was e ++ r).drop ((encode (alikeW was e.1)).length + (encode (e.1.length - alikeW was e.1)).length)).take (e.1.length - alikeW was e.1) = bytesI (e.1.drop (alikeW was e.1)) := by
    rw [d2]
    conv => lhs; rw [← hbl]
    rw [List.take_left]
  unfold takeE
  simp only [g1, g2, g3]
  rw [if_pos ⟨trivial, ha.1⟩, if_pos ⟨trivial, by omega⟩, if_pos trivial, t2, wordI_bytes, alike_take, List.take_append_drop]
  congr 2
  unfold entL; simp [hbl]; omega
theorem takes_ents : ∀ (l : List En) (was : Wd) (r : List Int), (∀ e ∈ l, oneE e = true) → was.length ≤ 255 → takesE l.length was (entsL was l ++ r) = some l
  | [], was, r, _, _ => rfl
  | e :: l, was, r, h, hw => by
    have he := one_ok.1 (h e (by simp))
    rw [List.length_cons, takesE, entsL, List.append_assoc, take_ent was e _ (by omega) (by omega) (by omega)]
    simp only [List.drop_left]
    rw [takes_ents l e.1 r (fun x hx => h x (by simp [hx])) he.2.1]; rfl
/-- Blocks are told apart by what they begin with. -/
theorem block_free {l l' : List En} {X Y : List Int} (h : ∀ e ∈ l, oneE e = true) (h' : ∀ e ∈ l', oneE e = true) (hl : l.length ≤ 1000000) (hl' : l'.length ≤ 1000000) (e : blockL l ++ X = blockL l' ++ Y) : l = l' := by
  unfold blockL at e
  rw [List.append_assoc, List.append_assoc] at e
  have g1 := get_back l.length (entsL [] l ++ X) (by omega)
  have g2 := get_back l'.length (entsL [] l' ++ Y) (by omega)
  rw [e, g2] at g1
  simp only [Prod.mk.injEq, and_true] at g1
  rw [g1.1] at e
  have e2 := List.append_cancel_left e
  have t1 := takes_ents l [] X h (by simp)
  rw [e2, ← g1.1, takes_ents l' [] Y h' (by simp)] at t1
  exact (Option.some.inj t1).symm
end Go.Proofs.Ytknfjonaepggnaa

namespace Go.Proofs.Ytknfjonaepggnaa
open Go.RowKit
set_option linter.unusedVariables false
set_option linter.unusedSimpArgs false

/-! The rows that a run has. -/
def SizeRow (p : List Int) : Prop := ∃ s, 1 ≤ s ∧ s ≤ 255 ∧ p = encode s
def BlockRow (p : List Int) : Prop := ∃ l : List En, l ≠ [] ∧ l.length ≤ 255 ∧ (∀ e ∈ l, oneE e = true) ∧ p = blockL l
def EndRow (p : List Int) : Prop := ∃ n, n < 18446744073709551616 ∧ p = encode 0 ++ encode n
/-- Two rows at one place. -/
def Paired (p q : List Int) : Prop := (SizeRow p ∧ SizeRow q) ∨ ((BlockRow p ∨ EndRow p) ∧ (BlockRow q ∨ EndRow q))
theorem Paired.symm {p q : List Int} (h : Paired p q) : Paired q p := h.imp (fun h => ⟨h.2, h.1⟩) fun h => ⟨h.2, h.1⟩
theorem encode_zero : encode 0 = [0] := by decide
theorem num_free {a b : Nat} {X Y : List Int} (ha : a < 18446744073709551616) (hb : b < 18446744073709551616) (e : encode a ++ X = encode b ++ Y) : a = b := by
  have g1 := get_back a X ha
  rw [e, get_back b Y hb] at g1
  simp only [Prod.mk.injEq, and_true] at g1
  exact g1.1.symm
theorem block_end {l : List En} {n : Nat} {X Y : List Int} (hl : l ≠ []) (hl2 : l.length ≤ 255) (e : blockL l ++ X = (encode 0 ++ encode n) ++ Y) : False := by
  unfold blockL at e
  rw [List.append_assoc, List.append_assoc] at e
  have := num_free (by omega) (by omega) e
  exact hl (List.length_eq_zero_iff.1 this)
theorem pay_free {p q X Y : List Int} (h : Paired p q) (e : p ++ X = q ++ Y) : p = q := by
  rcases h with ⟨⟨s, h1, h2, rfl⟩, ⟨t, h3, h4, rfl⟩⟩ | ⟨hp, hq⟩
  · rw [num_free (by omega) (by omega) e]
  · rcases hp with ⟨l, h1, h2, h3, rfl⟩ | ⟨n, h1, rfl⟩
    · rcases hq with ⟨l', k1, k2, k3, rfl⟩ | ⟨m, k1, rfl⟩
      · rw [block_free h3 k3 (by omega) (by omega) e]
      · exact (block_end h1 h2 e).elim
    · rcases hq with ⟨l', k1, k2, k3, rfl⟩ | ⟨m, k1, rfl⟩
      · exact (block_end k1 k2 e.symm).elim
      · rw [List.append_assoc, List.append_assoc] at e
        rw [num_free h1 k1 (List.append_cancel_left e)]

/-! Numbers end where they say. -/
theorem enc_last (f : Nat) : ∀ n : Nat, n ≠ 0 → ∃ c, (enc f n).getLast? = some c ∧ c ≠ 0 := by
  induction f with
  | zero => intro n hn; exact ⟨n, by simp [enc], by omega⟩
  | succ f ih =>
    intro n hn
    unfold enc
    split
    · exact ⟨n, by simp, by omega⟩
    · obtain ⟨c, h1, h2⟩ := ih (n / 128) (by omega)
      refine ⟨c, ?_, h2⟩
      rw [List.getLast?_cons, h1]; rfl
theorem enc_head (f : Nat) (n : Nat) (hn : n ≠ 0) (hl : n < lim f) : ∃ c r, enc f n = c :: r ∧ c ≠ 0 := by
  cases f with
  | zero => exact ⟨n, [], rfl, by omega⟩
  | succ f =>
    unfold enc
    split
    · exact ⟨n, [], rfl, by omega⟩
    · exact ⟨_, _, rfl, by omega⟩
/-- All bytes but the last one go on. -/
def Delim : List Int → Prop
  | [] => False
  | [c] => c < 128
  | c :: d :: r => 128 ≤ c ∧ Delim (d :: r)
theorem delim_free : ∀ {a b X Y : List Int}, Delim a → Delim b → a ++ X = b ++ Y → a = b
  | [], _, _, _, h, _, _ => h.elim
  | _, [], _, _, _, h, _ => h.elim
  | [c], [d], X, Y, _, _, e => by simp at e; rw [e.1]
  | [c], d :: d2 :: r, X, Y, h, k, e => by
    simp only [List.cons_append, List.nil_append, List.cons.injEq] at e
    have h1 : c < 128 := h
    have h2 : 128 ≤ d := k.1
    omega
  | c :: c2 :: r, [d], X, Y, h, k, e => by
    simp only [List.cons_append, List.nil_append, List.cons.injEq] at e
    have h1 : d < 128 := k
    have h2 : 128 ≤ c := h.1
    omega
  | c :: c2 :: r, d :: d2 :: r', X, Y, h, k, e => by
    simp only [List.cons_append, List.cons.injEq] at e
    have := delim_free (a := c2 :: r) (b := d2 :: r') h.2 k.2 (by simp only [List.cons_append, List.cons.injEq]; exact e.2)
    rw [e.1, this]
theorem delim_drop : ∀ {a : List Int} {n : Nat}, Delim a → n < a.length → Delim (a.drop n)
  | a, 0, h, _ => h
  | [c], n + 1, _, hn => by simp at hn
  | c :: d :: r, n + 1, h, hn => delim_drop (a := d :: r) h.2 (by simpa using hn)
theorem delim_enc (f : Nat) : ∀ n : Nat, n < lim f → Delim (enc f n) := by
  induction f with
  | zero => intro n hn; simp only [lim] at hn; show (n : Int) < 128; omega
  | succ f ih =>
    intro n hn
    unfold enc
    split
    · show (n : Int) < 128; omega
    · have h1 := ih (n / 128) (by simp only [lim] at hn; omega)
      cases he : enc f (n / 128) with
      | nil => rw [he] at h1; exact h1.elim
      | cons c r => rw [he] at h1; exact ⟨by omega, h1⟩
theorem delim_encode (n : Nat) (hn : n < 18446744073709551616) : Delim (encode n) := delim_enc 9 n (by simp [lim]; omega)
theorem delim_last : ∀ {a : List Int} (h : Delim a) (n : Nat), n + 1 = a.length → a.getD n 0 < 128
  | [c], h, 0, _ => h
  | [c], h, n + 1, hn => by simp at hn
  | c :: d :: r, h, 0, hn => by simp at hn
  | c :: d :: r, h, n + 1, hn => by
    have := delim_last (a := d :: r) h.2 n (by simpa using hn)
    simpa using this
theorem delim_on : ∀ {a : List Int} (h : Delim a) (n : Nat), n + 1 < a.length → 128 ≤ a.getD n 0
  | [c], h, n, hn => by simp at hn
  | c :: d :: r, h, 0, hn => h.1
  | c :: d :: r, h, n + 1, hn => by
    have := delim_on (a := d :: r) h.2 n (by simpa using hn)
    simpa using this

/-- A length's number that goes on into the row: no. -/
theorem pay_clash {p q X Y : List Int} (h : Paired p q) (hp : p.length < 18446744073709551616) (hq : q.length < 18446744073709551616) (hlt : (encode p.length).length < (encode q.length).length) (e : p ++ X = (encode q.length).drop (encode p.length).length ++ (q ++ Y)) : False := by
  have h1 : ¬ q.length < 128 := fun hs => by
    have := (encode_one q.length).2 hs
    have := encode_len p.length
    omega
  have small : ∀ n, n < 18446744073709551616 → (encode n).length ≤ 10 := fun n _ => (encode_len n).2
  have hdel := delim_drop (delim_encode q.length hq) hlt
  obtain ⟨c, hc, hc0⟩ := enc_last 9 q.length (by omega)
  have hlast : ((encode q.length).drop (encode p.length).length).getLast? = some c := by
    rw [List.getLast?_drop, if_neg (by omega)]; exact hc
  generalize (encode q.length).drop (encode p.length).length = t at e hdel hlast
  have qsmall : EndRow q → q.length < 128 := fun ⟨n, hn, he⟩ => by
    rw [he, List.length_append]
    have := small 0 (by omega)
    have := small n hn
    omega
  rcases h with ⟨_, ⟨t', h3, h4, he⟩⟩ | ⟨hpr, hqr⟩
  · have : q.length ≤ 10 := by rw [he]; exact small t' (by omega)
    omega
  · rcases hqr with ⟨l', k1, k2, k3, he⟩ | hqe
    rotate_left
    · exact h1 (qsmall hqe)
    · rcases hpr with ⟨l, m1, m2, m3, rfl⟩ | ⟨n, hn, rfl⟩
      · have e2 := e
        unfold blockL at e
        rw [List.append_assoc] at e
        have et := delim_free (delim_encode l.length (by omega)) hdel e
        rw [← et] at e
        have e3 := List.append_cancel_left e
        rw [he] at e3
        cases l with
        | nil => exact m1 rfl
        | cons a l =>
          rw [entsL, entL, alike_nil, encode_zero] at e3
          obtain ⟨c', r, hc', hc1⟩ := enc_head 9 l'.length (fun h => k1 (List.length_eq_zero_iff.1 h)) (by simp [lim]; omega)
          unfold blockL encode at e3
          rw [hc'] at e3
          simp only [List.cons_append, List.cons.injEq] at e3
          exact hc1 e3.1.symm
      · rw [List.append_assoc] at e
        have et := delim_free (delim_encode 0 (by omega)) hdel e
        rw [← et, encode_zero] at hlast
        simp at hlast
        exact hc0 hlast.symm

/-! One byte that is another one. -/
structure Diff1 (x c : List Int) (k : Nat) : Prop where
  length : x.length = c.length
  lt : k < x.length
  same : ∀ i, i ≠ k → x[i]? = c[i]?
  turned : x[k]? ≠ c[k]?
theorem Diff1.symm {x c : List Int} {k : Nat} (h : Diff1 x c k) : Diff1 c x k := ⟨h.length.symm, h.length ▸ h.lt, fun i hi => (h.same i hi).symm, fun e => h.turned e.symm⟩
theorem Diff1.drop {x c : List Int} {k : Nat} (h : Diff1 x c k) {n : Nat} (hn : k < n) : x.drop n = c.drop n := by
  apply List.ext_getElem?
  intro i
  rw [List.getElem?_drop, List.getElem?_drop]
  exact h.same _ (by omega)
theorem Diff1.take {x c : List Int} {k : Nat} (h : Diff1 x c k) {n : Nat} (hn : n ≤ k) : x.take n = c.take n := by
  apply List.ext_getElem?
  intro i
  by_cases hi : i < n
  · rw [List.getElem?_take_of_lt hi, List.getElem?_take_of_lt hi]; exact h.same _ (by omega)
  · rw [List.getElem?_take_eq_none (by omega), List.getElem?_take_eq_none (by omega)]
theorem Diff1.tail {A X Y : List Int} {k : Nat} (h : Diff1 (A ++ X) (A ++ Y) k) : A.length ≤ k ∧ Diff1 X Y (k - A.length) := by
  have hk : A.length ≤ k := by
    rcases Nat.lt_or_ge k A.length with hlt | hge
    · exact absurd (by rw [List.getElem?_append_left hlt, List.getElem?_append_left hlt]) h.turned
    · exact hge
  have hl := h.length
  have hlt := h.lt
  simp only [List.length_append] at hl hlt
  refine ⟨hk, ⟨by omega, by omega, fun i hi => ?_, fun e => h.turned ?_⟩⟩
  · have := h.same (A.length + i) (by omega)
    rw [List.getElem?_append_right (by omega), List.getElem?_append_right (by omega)] at this
    simpa using this
  · rw [List.getElem?_append_right hk, List.getElem?_append_right hk]; exact e
theorem sum4_inj {a b : Nat} (ha : a < 4294967296) (hb : b < 4294967296) (h : sum4 a = sum4 b) : a = b := by
  simp only [sum4, List.cons.injEq, and_true] at h
  omega

theorem ofL_lt (p : List Int) : ofL p < 4294967296 := by unfold ofL moreL; exact flip_lt _
/-- Records: the first ones are the same. -/
theorem rec_apart {p q X Y : List Int} {k : Nat} (hd : Diff1 (recL p ++ X) (recL q ++ Y) k) (h : Paired p q) (p8 : isBytes p) (q8 : isBytes q) (hp : p.length ≤ 1048576) (hq : q.length ≤ 1048576) : p = q := by
  have ex : recL p ++ X = encode p.length ++ (p ++ (sum4 (ofL p) ++ X)) := by simp [recL, List.append_assoc]
  have ey : recL q ++ Y = encode q.length ++ (q ++ (sum4 (ofL q) ++ Y)) := by simp [recL, List.append_assoc]
  rw [ex, ey] at hd
  -- where both numbers are whole they are one
  have whole : ∀ {a b : List Int} {A B : List Int}, a.length ≤ 1048576 → b.length ≤ 1048576 → Diff1 (encode a.length ++ A) (encode b.length ++ B) k → (encode a.length).length ≤ k → a.length = b.length := by
    intro a b A B ha hb hd hk
    have h1 := hd.take hk
    rw [List.take_left] at h1
    have h2 : encode b.length ++ B = encode a.length ++ (encode b.length ++ B).drop (encode a.length).length := by
      conv => lhs; rw [← List.take_append_drop (encode a.length).length (encode b.length ++ B)]
      rw [← h1]
    exact num_free (by omega) (by omega) h2.symm
  have finish : p.length = q.length → p = q := by
    intro hl
    rw [← hl] at hd
    obtain ⟨hk, hd2⟩ := hd.tail
    generalize k - (encode p.length).length = j at hd2
    rcases Nat.lt_or_ge j p.length with hj | hj
    · -- within the row: the sums would part
      have hs := hd2.drop (n := p.length) hj
      rw [List.drop_left, hl, List.drop_left] at hs
      have hs2 : sum4 (ofL p) = sum4 (ofL q) := by
        have := congrArg (List.take 4) hs
        rw [List.take_append_of_le_length (by simp [sum4_len]), List.take_append_of_le_length (by simp [sum4_len])] at this
        simpa [sum4] using this
      have hcrc := sum4_inj (ofL_lt p) (ofL_lt q) hs2
      have hset : q = p.set j (q.getD j 0) := by
        apply List.ext_getElem?
        intro i
        by_cases hi : i = j
        · subst hi
          rw [List.getElem?_set_self hj, List.getD, List.getElem?_eq_getElem (by omega)]; rfl
        · rw [List.getElem?_set_ne (by omega)]
          have := hd2.same i hi
          by_cases hi2 : i < p.length
          · rw [List.getElem?_append_left hi2, List.getElem?_append_left (by omega)] at this; exact this.symm
          · rw [List.getElem?_eq_none (by omega), List.getElem?_eq_none (by omega)]
      have hne : q.getD j 0 ≠ p.getD j 0 := fun e => hd2.turned (by
        rw [List.getElem?_append_left hj, List.getElem?_append_left (by omega), List.getElem?_eq_getElem hj, List.getElem?_eq_getElem (by omega)]
        rw [List.getD, List.getD, List.getElem?_eq_getElem hj, List.getElem?_eq_getElem (by omega)] at e
        simp only [Option.getD_some] at e
        rw [e])
      have hq8 := q8 (q.getD j 0) (by rw [List.getD, List.getElem?_eq_getElem (by omega)]; exact List.getElem_mem _)
      exact absurd (by rw [← hset]; exact hcrc.symm) (turned_set p8 hj hq8 hne)
    · have ht := hd2.take hj
      rw [List.take_left, hl, List.take_left] at ht
      exact ht
  rcases Nat.lt_or_ge k (encode p.length).length with h1 | h1
  · rcases Nat.lt_or_ge k (encode q.length).length with h2 | h2
    · rcases Nat.lt_trichotomy (encode p.length).length (encode q.length).length with h3 | h3 | h3
      · exfalso
        have hk : k + 1 = (encode p.length).length := by
          rcases Nat.lt_or_ge (k + 1) (encode p.length).length with h4 | h4
          · have a1 := delim_last (delim_encode p.length (by omega)) ((encode p.length).length - 1) (by omega)
            have a2 := delim_on (delim_encode q.length (by omega)) ((encode p.length).length - 1) (by omega)
            have a3 := hd.same ((encode p.length).length - 1) (by omega)
            rw [List.getElem?_append_left (by omega), List.getElem?_append_left (by omega)] at a3
            rw [List.getD, a3] at a1
            rw [List.getD] at a2
            omega
          · omega
        have hdr := hd.drop (n := (encode p.length).length) (by omega)
        rw [List.drop_left, List.drop_append_of_le_length (by omega)] at hdr
        exact pay_clash h (by omega) (by omega) h3 hdr
      · have hdr := hd.drop (n := (encode p.length).length) h1
        rw [List.drop_left, h3, List.drop_left] at hdr
        exact pay_free h hdr
      · exfalso
        have hk : k + 1 = (encode q.length).length := by
          rcases Nat.lt_or_ge (k + 1) (encode q.length).length with h4 | h4
          · have a1 := delim_last (delim_encode q.length (by omega)) ((encode q.length).length - 1) (by omega)
            have a2 := delim_on (delim_encode p.length (by omega)) ((encode q.length).length - 1) (by omega)
            have a3 := hd.same ((encode q.length).length - 1) (by omega)
            rw [List.getElem?_append_left (by omega), List.getElem?_append_left (by omega)] at a3
            rw [List.getD, a3] at a2
            rw [List.getD] at a1
            omega
          · omega
        have hdr := hd.drop (n := (encode q.length).length) (by omega)
        rw [List.drop_append_of_le_length (by omega), List.drop_left] at hdr
        exact pay_clash h.symm (by omega) (by omega) h3 hdr.symm
    · exact finish (whole hq hp hd.symm h2).symm
  · exact finish (whole hp hq hd h1)
#print axioms rec_apart
def okRow (p : List Int) : Prop := isBytes p ∧ p.length ≤ 1048576
theorem rows_apart : ∀ (ps qs : List (List Int)) (e e' : List Int) (k : Nat), (∀ p ∈ ps, BlockRow p) → (∀ q ∈ qs, BlockRow q) → EndRow e → EndRow e' → okRows (ps ++ [e]) → okRows (qs ++ [e']) → ¬ Diff1 (recs (ps ++ [e])) (recs (qs ++ [e'])) k
  | [], [], e, e', k, _, _, he, he', ok, ok', hd => by
    simp only [List.nil_append, recs, List.append_nil] at hd
    have o1 := ok e (by simp)
    have o2 := ok' e' (by simp)
    have h1 := rec_apart (X := []) (Y := []) (by simpa using hd) (.inr ⟨.inr he, .inr he'⟩) o1.1 o2.1 o1.2 o2.2
    rw [h1] at hd
    exact hd.turned rfl
  | [], q :: qs, e, e', k, _, hq, he, he', ok, ok', hd => by
    simp only [List.nil_append, List.cons_append, recs] at hd
    have o1 := ok e (by simp)
    have o2 := ok' q (by simp)
    have hb := hq q (by simp)
    have h1 := rec_apart hd (.inr ⟨.inr he, .inl hb⟩) o1.1 o2.1 o1.2 o2.2
    obtain ⟨l, k1, k2, k3, hl⟩ := hb
    obtain ⟨n, hn, hne⟩ := he
    exact block_end (X := []) (Y := []) k1 k2 (by rw [← hl, ← h1, hne])
  | p :: ps, [], e, e', k, hp, _, he, he', ok, ok', hd => by
    simp only [List.nil_append, List.cons_append, recs] at hd
    have o1 := ok p (by simp)
    have o2 := ok' e' (by simp)
    have hb := hp p (by simp)
    have h1 := rec_apart hd (.inr ⟨.inl hb, .inr he'⟩) o1.1 o2.1 o1.2 o2.2
    obtain ⟨l, k1, k2, k3, hl⟩ := hb
    obtain ⟨n, hn, hne⟩ := he'
    exact block_end (X := []) (Y := []) k1 k2 (by rw [← hl, h1, hne])
  | p :: ps, q :: qs, e, e', k, hp, hq, he, he', ok, ok', hd => by
    simp only [List.cons_append, recs] at hd
    have o1 := ok p (by simp)
    have o2 := ok' q (by simp)
    have h1 := rec_apart hd (.inr ⟨.inl (hp p (by simp)), .inl (hq q (by simp))⟩) o1.1 o2.1 o1.2 o2.2
    subst h1
    exact rows_apart ps qs e e' _ (fun x hx => hp x (by simp [hx])) (fun x hx => hq x (by simp [hx])) he he' (fun x hx => ok x (by simp only [List.cons_append, List.mem_cons]; exact .inr hx)) (fun x hx => ok' x (by simp only [List.cons_append, List.mem_cons]; exact .inr hx)) hd.tail.2

/-! The rows of a run. -/
theorem chunks_blocks : ∀ (f s : Nat) (l : List En), 1 ≤ s → s ≤ 255 → (∀ e ∈ l, oneE e = true) → ∀ c ∈ chunksF f s l, c ≠ [] ∧ c.length ≤ 255 ∧ ∀ e ∈ c, oneE e = true
  | 0, _, _, _, _, _, c, hc => by simp [chunksF] at hc
  | f + 1, s, l, h1, h2, h, c, hc => by
    unfold chunksF at hc
    by_cases hl : l = []
    · rw [if_pos hl] at hc; simp at hc
    · rw [if_neg hl] at hc
      rcases List.mem_cons.1 hc with rfl | hc
      · refine ⟨fun e => hl ?_, by rw [List.length_take]; omega, fun e he => h e (List.mem_of_mem_take he)⟩
        have := congrArg List.length e
        simp only [List.length_take, List.length_nil] at this
        exact List.length_eq_zero_iff.1 (by omega)
      · exact chunks_blocks f s (l.drop s) h1 h2 (fun e he => h e (List.mem_of_mem_drop he)) c hc
theorem ent_len (was : Wd) (e : En) (h : oneE e = true) : (entL was e).length ≤ 285 := by
  have h1 := one_ok.1 h
  have a := encode_len (alikeW was e.1)
  have b := encode_len (e.1.length - alikeW was e.1)
  have c := encode_len e.2
  unfold entL
  simp only [List.length_append, bytesI_len, List.length_drop]
  omega
theorem ents_len : ∀ (l : List En) (was : Wd), (∀ e ∈ l, oneE e = true) → (entsL was l).length ≤ l.length * 285
  | [], _, _ => by simp [entsL]
  | e :: l, was, h => by
    have h1 := ent_len was e (h e (by simp))
    have h2 := ents_len l e.1 fun x hx => h x (by simp [hx])
    simp only [entsL, List.length_append, List.length_cons]
    omega
theorem ent_bytes (was : Wd) (e : En) (h : oneE e = true) (hw : was.length ≤ 255) : isBytes (entL was e) := by
  have h1 := one_ok.1 h
  have ha := alike_le was e.1
  unfold entL
  exact (encode_bytes _ (by omega)).app ((encode_bytes _ (by omega)).app ((bytesI_bytes _).app (encode_bytes _ (by omega))))
theorem ents_bytes : ∀ (l : List En) (was : Wd), (∀ e ∈ l, oneE e = true) → was.length ≤ 255 → isBytes (entsL was l)
  | [], _, _, _ => fun z hz => by simp [entsL] at hz
  | e :: l, was, h, hw => (ent_bytes was e (h e (by simp)) hw).app (ents_bytes l e.1 (fun x hx => h x (by simp [hx])) (one_ok.1 (h e (by simp))).2.1)
theorem block_ok {l : List En} (h2 : l.length ≤ 255) (h : ∀ e ∈ l, oneE e = true) : isBytes (blockL l) ∧ (blockL l).length ≤ 1048576 := by
  refine ⟨(encode_bytes _ (by omega)).app (ents_bytes l [] h (by simp)), ?_⟩
  have := encode_len l.length
  have := ents_len l [] h
  unfold blockL
  rw [List.length_append]
  omega
theorem end_ok {n : Nat} (hn : n < 18446744073709551616) : isBytes (encode 0 ++ encode n) ∧ (encode 0 ++ encode n).length ≤ 1048576 := by
  refine ⟨(encode_bytes _ (by omega)).app (encode_bytes _ hn), ?_⟩
  have := encode_len 0
  have := encode_len n
  rw [List.length_append]; omega
/-- What may be a run. -/
def RunOk (l : List En) (s : Nat) : Prop := 1 ≤ s ∧ s ≤ 255 ∧ (∀ e ∈ l, oneE e = true) ∧ l.length < 18446744073709551616
theorem run_blocks {l : List En} {s : Nat} (h : RunOk l s) : ∀ p ∈ (chunksE s l).map blockL, BlockRow p := fun p hp => by
  obtain ⟨c, hc, rfl⟩ := List.mem_map.1 hp
  obtain ⟨h1, h2, h3⟩ := chunks_blocks _ s l h.1 h.2.1 h.2.2.1 c hc
  exact ⟨c, h1, h2, h3, rfl⟩
theorem run_rest {l : List En} {s : Nat} (h : RunOk l s) : okRows ((chunksE s l).map blockL ++ [encode 0 ++ encode l.length]) := fun p hp => by
  rcases List.mem_append.1 hp with hp | hp
  · obtain ⟨c, h1, h2, h3, rfl⟩ := run_blocks h p hp
    exact block_ok h2 h3
  · simp only [List.mem_singleton] at hp; subst hp; exact end_ok h.2.2.2
theorem size_ok {s : Nat} (h : s ≤ 255) : isBytes (encode s) ∧ (encode s).length ≤ 1048576 := ⟨encode_bytes _ (by omega), by have := encode_len s; omega⟩
theorem run_rows {l : List En} {s : Nat} (h : RunOk l s) : okRows (runRows l s) := fun p hp => by
  rcases List.mem_cons.1 hp with rfl | hp
  · exact size_ok h.2.1
  · exact run_rest h p hp
/-- No run with one byte that is another one is a run. -/
theorem run_apart {l l' : List En} {s s' k : Nat} (h : RunOk l s) (h' : RunOk l' s') : ¬ Diff1 (runL l s) (runL l' s') k := fun hd => by
  unfold runL runRows at hd
  rw [recs, recs] at hd
  have o1 := size_ok h.2.1
  have o2 := size_ok h'.2.1
  have h1 := rec_apart hd (.inl ⟨⟨s, h.1, h.2.1, rfl⟩, ⟨s', h'.1, h'.2.1, rfl⟩⟩) o1.1 o2.1 o1.2 o2.2
  rw [h1] at hd
  exact rows_apart _ _ _ _ _ (run_blocks h) (run_blocks h') ⟨_, h.2.2.2, rfl⟩ ⟨_, h'.2.2.2, rfl⟩ (run_rest h) (run_rest h') hd.tail.2
#print axioms run_apart
/-- What a run begins with is one run at most. -/
theorem chunks_join : ∀ (f s : Nat) (l : List En), 1 ≤ s → l.length ≤ f → (chunksF f s l).flatten = l
  | 0, _, l, _, hl => by
    have h0 : l = [] := List.length_eq_zero_iff.1 (by omega)
    subst h0; rfl
  | f + 1, s, l, hs, hl => by
    unfold chunksF
    by_cases h : l = []
    · simp [h]
    · rw [if_neg h, List.flatten_cons, chunks_join f s (l.drop s) hs (by rw [List.length_drop]; omega), List.take_append_drop]
theorem recs_free : ∀ (ps qs : List (List Int)) (e e' : List Int) {X Y : List Int}, (∀ p ∈ ps, BlockRow p) → (∀ q ∈ qs, BlockRow q) → EndRow e → EndRow e' → okRows (ps ++ [e]) → okRows (qs ++ [e']) → recs (ps ++ [e]) ++ X = recs (qs ++ [e']) ++ Y → ps = qs ∧ e = e' ∧ X = Y
  | ps, qs, e, e', X, Y, hp, hq, he, he', ok, ok', hx => by
    have key : ∀ {p q A B : List Int}, okRow p → okRow q → recL p ++ A = recL q ++ B → p = q ∧ A = B := fun {p q A B} hp hq h => by
      have g1 := get_rec p A hp.2
      rw [h, get_rec q B hq.2] at g1
      simp only [Prod.mk.injEq, and_true] at g1
      have e1 := g1.1.symm
      subst e1
      exact ⟨rfl, List.append_cancel_left h⟩
    cases ps with
    | nil =>
      cases qs with
      | nil =>
        simp only [List.nil_append, recs, List.append_nil] at hx
        obtain ⟨h1, h2⟩ := key (ok e (by simp)) (ok' e' (by simp)) hx
        exact ⟨rfl, h1, h2⟩
      | cons q qs =>
        simp only [List.nil_append, List.cons_append, recs, List.append_nil, List.append_assoc] at hx
        obtain ⟨h1, _⟩ := key (ok e (by simp)) (ok' q (by simp)) hx
        obtain ⟨l, k1, k2, k3, hl⟩ := hq q (by simp)
        obtain ⟨n, hn, hne⟩ := he
        exact (block_end (X := []) (Y := []) k1 k2 (by rw [← hl, ← h1, hne])).elim
    | cons p ps =>
      cases qs with
      | nil =>
        simp only [List.nil_append, List.cons_append, recs, List.append_nil, List.append_assoc] at hx
        obtain ⟨h1, _⟩ := key (ok p (by simp)) (ok' e' (by simp)) hx
        obtain ⟨l, k1, k2, k3, hl⟩ := hp p (by simp)
        obtain ⟨n, hn, hne⟩ := he'
        exact (block_end (X := []) (Y := []) k1 k2 (by rw [← hl, h1, hne])).elim
      | cons q qs =>
        simp only [List.cons_append, recs, List.append_assoc] at hx
        obtain ⟨h1, h2⟩ := key (ok p (by simp)) (ok' q (by simp)) hx
        subst h1
        obtain ⟨h3, h4, h5⟩ := recs_free ps qs e e' (fun x hx => hp x (by simp [hx])) (fun x hx => hq x (by simp [hx])) he he' (fun x hx => ok x (by simp only [List.cons_append, List.mem_cons]; exact .inr hx)) (fun x hx => ok' x (by simp only [List.cons_append, List.mem_cons]; exact .inr hx)) h2
        exact ⟨by rw [h3], h4, h5⟩
theorem map_inj {α β : Type} {f : α → β} {P : α → Prop} (hf : ∀ a b, P a → P b → f a = f b → a = b) : ∀ {l l' : List α}, (∀ a ∈ l, P a) → (∀ a ∈ l', P a) → l.map f = l'.map f → l = l'
  | [], [], _, _, _ => rfl
  | [], _ :: _, _, _, h => by simp at h
  | _ :: _, [], _, _, h => by simp at h
  | a :: l, b :: l', h1, h2, h => by
    simp only [List.map_cons, List.cons.injEq] at h
    rw [hf a b (h1 a (by simp)) (h2 b (by simp)) h.1, map_inj hf (fun x hx => h1 x (by simp [hx])) (fun x hx => h2 x (by simp [hx])) h.2]
theorem run_free {l l' : List En} {s s' : Nat} {X Y : List Int} (h : RunOk l s) (h' : RunOk l' s') (e : runL l s ++ X = runL l' s' ++ Y) : l = l' ∧ s = s' ∧ X = Y := by
  unfold runL runRows at e
  rw [recs, recs, List.append_assoc, List.append_assoc] at e
  have g1 := get_rec (encode s) (recs ((chunksE s l).map blockL ++ [encode 0 ++ encode l.length]) ++ X) (size_ok h.2.1).2
  rw [e, get_rec (encode s') _ (size_ok h'.2.1).2] at g1
  simp only [Prod.mk.injEq, and_true] at g1
  have hs : s = s' := encode_inj (by have := h.2.1; omega) (by have := h'.2.1; omega) g1.1.symm
  subst hs
  have e2 := List.append_cancel_left e
  obtain ⟨h1, _, h3⟩ := recs_free _ _ _ _ (run_blocks h) (run_blocks h') ⟨_, h.2.2.2, rfl⟩ ⟨_, h'.2.2.2, rfl⟩ (run_rest h) (run_rest h') e2
  have hc : chunksE s l = chunksE s l' := map_inj (P := fun c => c.length ≤ 255 ∧ ∀ e ∈ c, oneE e = true) (fun a b ha hb hab => block_free (X := []) (Y := []) ha.2 hb.2 (by omega) (by omega) (by rw [hab]))
    (fun c hc => (chunks_blocks _ s l h.1 h.2.1 h.2.2.1 c hc).2) (fun c hc => (chunks_blocks _ s l' h'.1 h'.2.1 h'.2.2.1 c hc).2) h1
  have j1 := chunks_join l.length s l h.1 (Nat.le_refl _)
  have j2 := chunks_join l'.length s l' h'.1 (Nat.le_refl _)
  unfold chunksE at hc
  rw [hc, j2] at j1
  exact ⟨j1.symm, rfl, h3⟩
#print axioms run_free
end Go.Proofs.Ytknfjonaepggnaa

namespace Go.Proofs.Ytknfjonaepggnaa
open Go.RowKit
set_option linter.unusedVariables false
set_option linter.unusedSimpArgs false

/-- The entries of rows, each of which says how many. -/
def candE : List (List Int) → Option (List En)
  | [] => some []
  | r :: rs => if (getL r).2.2 = 0 ∧ (getL r).1 ≤ 255 then
      (match takesE (getL r).1 [] (r.drop (getL r).2.1) with
      | none => none
      | some l => (candE rs).map (l ++ ·)) else none
/-- The size and the entries that bytes could be a run of. -/
def candR (rows : List (List Int)) : Option (List En × Nat) :=
  if 2 ≤ rows.length ∧ (getL (rows.getD 0 [])).2.2 = 0 ∧ (getL (rows.getD 0 [])).1 ≤ 255 then (candE (rows.drop 1).dropLast).map fun l => (l, (getL (rows.getD 0 [])).1) else none
/-- Encode. -/
def encR (l : List En) (s : Nat) : List Int × Nat := if 1 ≤ s ∧ s ≤ 255 then (if mayE l = 0 then (runL l s, 0) else ([], mayE l)) else ([], 1)
/-- Decode. -/
def decL (b : List Int) : List En × Nat := match candR (scanR b).1 with
  | none => ([], 2)
  | some (l, s) => if (encR l s).2 = 0 ∧ (encR l s).1 = b then (l, 0) else ([], 2)
theorem enc_ok {l : List En} {s : Nat} : (encR l s).2 = 0 ↔ 1 ≤ s ∧ s ≤ 255 ∧ mayE l = 0 := by
  unfold encR
  by_cases h : 1 ≤ s ∧ s ≤ 255
  · by_cases k : mayE l = 0
    · simp [h, k]
    · simp [h, k]
  · rw [if_neg h]; simp; omega
theorem enc_is {l : List En} {s : Nat} (h : 1 ≤ s ∧ s ≤ 255 ∧ mayE l = 0) : encR l s = (runL l s, 0) := by
  unfold encR
  rw [if_pos ⟨h.1, h.2.1⟩, if_pos h.2.2]
theorem may_all {l : List En} (h : mayE l = 0) : ∀ e ∈ l, oneE e = true := by
  have := (may_zero.1 h).1
  intro e he
  exact List.all_eq_true.1 this e he
theorem run_ok {l : List En} {s : Nat} (h : 1 ≤ s ∧ s ≤ 255 ∧ mayE l = 0) (hl : l.length < 18446744073709551616) : RunOk l s := ⟨h.1, h.2.1, may_all h.2.2, hl⟩
theorem cand_blocks : ∀ (cs : List (List En)), (∀ c ∈ cs, c.length ≤ 255 ∧ ∀ e ∈ c, oneE e = true) → candE (cs.map blockL) = some cs.flatten
  | [], _ => rfl
  | c :: cs, h => by
    obtain ⟨h1, h2⟩ := h c (by simp)
    have g := get_back c.length (entsL [] c) (by omega)
    rw [List.map_cons, candE]
    have gb : getL (blockL c) = (c.length, (encode c.length).length, 0) := g
    rw [gb]
    have hd : (blockL c).drop (encode c.length).length = entsL [] c ++ [] := by unfold blockL; rw [List.drop_left, List.append_nil]
    simp only
    rw [if_pos ⟨trivial, h1⟩, hd, takes_ents c [] [] h2 (by simp), cand_blocks cs fun x hx => h x (by simp [hx])]
    rfl
/-- What was encoded is decoded. -/
theorem dec_back {l : List En} {s : Nat} (h : 1 ≤ s ∧ s ≤ 255 ∧ mayE l = 0) (hl : l.length < 18446744073709551616) : decL (runL l s) = (l, 0) := by
  have ho := run_ok h hl
  have hs : scanR (runL l s) = (runRows l s, (runL l s).length) := by
    have := scan_recs (runRows l s) [] (run_rows ho) get_nil
    simpa [runL] using this
  have hc : candR (runRows l s) = some (l, s) := by
    unfold candR
    have g0 : getL ((runRows l s).getD 0 []) = (s, (encode s).length, 0) := by
      have := get_back s [] (by omega)
      simpa [runRows] using this
    have g1 : ((runRows l s).drop 1).dropLast = (chunksE s l).map blockL := by simp [runRows]
    unfold chunksE at g1
    rw [g0, g1, if_pos ⟨by simp [runRows], rfl, h.2.1⟩, cand_blocks _ fun c hc => (chunks_blocks _ s l h.1 h.2.1 ho.2.2.1 c hc).2]
    rw [chunks_join _ s l h.1 (Nat.le_refl _)]; rfl
  unfold decL
  rw [hs]
  simp only [hc, enc_is h]
  rw [if_pos ⟨trivial, trivial⟩]
/-- What is decoded is a run, and of these bytes. -/
theorem dec_ok {b : List Int} (h : (decL b).2 = 0) : ∃ s, 1 ≤ s ∧ s ≤ 255 ∧ mayE (decL b).1 = 0 ∧ b = runL (decL b).1 s := by
  unfold decL at h ⊢
  cases hc : candR (scanR b).1 with
  | none => rw [hc] at h; simp at h
  | some x =>
    obtain ⟨l, s⟩ := x
    rw [hc] at h
    simp only at h ⊢
    by_cases hk : (encR l s).2 = 0 ∧ (encR l s).1 = b
    · rw [if_pos hk]
      have h1 := enc_ok.1 hk.1
      refine ⟨s, h1.1, h1.2.1, h1.2.2, ?_⟩
      rw [← hk.2, enc_is h1]
    · rw [if_neg hk] at h; simp at h
theorem dec_err {b : List Int} (h : (decL b).2 ≠ 0) : decL b = ([], 2) := by
  unfold decL at h ⊢
  cases hc : candR (scanR b).1 with
  | none => rfl
  | some x =>
    obtain ⟨l, s⟩ := x
    rw [hc] at h
    simp only at h ⊢
    by_cases hk : (encR l s).2 = 0 ∧ (encR l s).1 = b
    · rw [if_pos hk] at h; simp at h
    · rw [if_neg hk]
theorem dec_cases (b : List Int) : (∃ l s, 1 ≤ s ∧ s ≤ 255 ∧ mayE l = 0 ∧ b = runL l s ∧ decL b = (l, 0)) ∨ decL b = ([], 2) := by
  by_cases h : (decL b).2 = 0
  · obtain ⟨s, h1, h2, h3, h4⟩ := dec_ok h
    exact .inl ⟨_, s, h1, h2, h3, h4, Prod.ext rfl h⟩
  · exact .inr (dec_err h)
/-- No begin of a run is one; nothing that a run begins; no run with a byte that is another one. -/
theorem entries_le : ∀ (l : List En) (was : Wd), l.length ≤ (entsL was l).length
  | [], _ => Nat.zero_le _
  | e :: l, was => by
    have h1 := entries_le l e.1
    have h2 := encode_len (alikeW was e.1)
    simp only [entsL, entL, List.length_append, List.length_cons]
    omega
theorem recs_le : ∀ (ps : List (List Int)) (cs : List (List En)), ps = cs.map blockL → cs.flatten.length ≤ (recs ps).length
  | _, [], h => by subst h; simp
  | _, c :: cs, h => by
    subst h
    have h1 := recs_le (cs.map blockL) cs rfl
    have h2 := entries_le c []
    have h3 := rec_len (blockL c)
    have h4 : (blockL c).length = (encode c.length).length + (entsL [] c).length := by simp [blockL]
    simp only [List.map_cons, recs, List.flatten_cons, List.length_append]
    omega
theorem run_len {l : List En} {s : Nat} (hs : 1 ≤ s) : l.length ≤ (runL l s).length := by
  have h1 := recs_le ((chunksE s l).map blockL) (chunksE s l) rfl
  unfold chunksE at h1
  rw [chunks_join _ s l hs (Nat.le_refl _)] at h1
  unfold runL runRows chunksE
  rw [recs, recs_append]
  simp only [List.length_append]
  omega
theorem ones_cut {l : List En} {s k : Nat} (h : 1 ≤ s ∧ s ≤ 255 ∧ mayE l = 0) (hx : (runL l s).length < 18446744073709551616) (hk : k < (runL l s).length) : decL ((runL l s).take k) = ([], 2) := by
  rcases dec_cases ((runL l s).take k) with ⟨l', s', h1, h2, h3, h4, _⟩ | h0
  · exfalso
    have hl := run_len (l := l) h.1
    have hl' := run_len (l := l') h1
    have e : runL l s ++ [] = runL l' s' ++ (runL l s).drop k := by rw [← h4, List.append_nil, List.take_append_drop]
    have hlt : (runL l' s').length = k := by rw [← h4, List.length_take]; omega
    have := (run_free (run_ok h (by omega)) (run_ok ⟨h1, h2, h3⟩ (by omega)) e).2.2
    have := congrArg List.length this
    simp at this; omega
  · exact h0
theorem ones_more {l : List En} {s : Nat} {c : Int} (h : 1 ≤ s ∧ s ≤ 255 ∧ mayE l = 0) (hx : (runL l s).length < 18446744073709551615) : decL (runL l s ++ [c]) = ([], 2) := by
  rcases dec_cases (runL l s ++ [c]) with ⟨l', s', h1, h2, h3, h4, _⟩ | h0
  · exfalso
    have hl := run_len (l := l) h.1
    have hl' := run_len (l := l') h1
    have hlt : (runL l' s').length = (runL l s).length + 1 := by rw [← h4]; simp
    have := (run_free (X := [c]) (Y := []) (run_ok h (by omega)) (run_ok ⟨h1, h2, h3⟩ (by omega)) (by rw [h4, List.append_nil])).2.2
    simp at this
  · exact h0
theorem ones_turned {l : List En} {s k : Nat} {v : Int} (h : 1 ≤ s ∧ s ≤ 255 ∧ mayE l = 0) (hx : (runL l s).length < 18446744073709551616) (hk : k < (runL l s).length) (hv : v ≠ (runL l s).getD k 0) : decL ((runL l s).set k v) = ([], 2) := by
  rcases dec_cases ((runL l s).set k v) with ⟨l', s', h1, h2, h3, h4, _⟩ | h0
  · exfalso
    have hl := run_len (l := l) h.1
    have hl' := run_len (l := l') h1
    have hlt : (runL l' s').length = (runL l s).length := by rw [← h4, List.length_set]
    refine run_apart (k := k) (run_ok h (by omega)) (run_ok ⟨h1, h2, h3⟩ (by omega)) ⟨hlt.symm, hk, fun i hi => ?_, fun e => ?_⟩
    · rw [← h4, List.getElem?_set_ne (by omega)]
    · rw [← h4, List.getElem?_set_self hk, List.getElem?_eq_getElem hk] at e
      rw [List.getD, List.getElem?_eq_getElem hk] at hv
      exact hv (Option.some.inj e).symm
  · exact h0
#print axioms ones_turned
end Go.Proofs.Ytknfjonaepggnaa
