/- The landed Merge. -/
import Derived.Test.YtgnhnhachhfafaaLoserCount
import Derived.Test.YtgnhnhachhfafaaLoserBegin
import Derived.Test.YtgnhnhachhfafaaRunMay
import Derived.Test.YtgnhnhachhfafaaRunDecode
namespace Go.Proofs.Ytgnhnhachhfafaa
open Go.RowKit
set_option linter.unusedVariables false
set_option linter.unusedSimpArgs false

/-- What comes next of lists, and what is left of them. -/
def NextIs (left : List (List En)) (k : Wd) (c : Nat) (okb : Bool) (left' : List (List En)) : Prop :=
  (okb = true ∧ ∃ i r, left[i]? = some ((k, c) :: r) ∧ left' = left.set i r ∧ LeastE left (k, c)) ∨ (okb = false ∧ left' = left ∧ ∀ l ∈ left, l = [])
/-- How many entries a block of slices shows. -/
def lensV : List Value → Nat
  | [] => 0
  | .slice _ n _ :: vs => n + lensV vs
  | _ :: vs => lensV vs
def lensAt (W : World) (b : Nat) : Nat := match W.heap[b]? with
  | some (.cells cs _ _) => lensV cs.toList
  | _ => 0
theorem lens_vals {B : Nat} {W : World} : ∀ {vs : List Value} {ls : List (List En)}, ListVals B W vs ls → lensV vs = totL ls
  | [], [], _ => rfl
  | [], _ :: _, h => by have := h.length; simp at this
  | _ :: _, [], h => by have := h.length; simp at this
  | v :: vs, l :: ls, h => by
    obtain ⟨ai, ci, rfl, _, _⟩ := h.row 0 v l rfl rfl
    have ih := lens_vals (h.drop 1)
    simp only [List.drop_one, List.tail_cons] at ih
    simp only [lensV, ih, totL, List.flatten_cons, List.length_append]
theorem PlayAt.lens {B : Nat} {W : World} {pb lb ob : Nat} {ls : List (List En)} {L : List Nat} {vs : List Value} (h : PlayAt B W pb lb ob ls L vs) : lensAt W lb = totL ls := by
  unfold lensAt
  rw [h.left]
  simp only [List.toList_toArray]
  exact lens_vals h.vals

def PBoth (B : Nat) (w : World) (pb lb ob : Nat) (left : List (List En)) (n : Nat) (e : Ending) (w' : World) : Prop :=
  ∃ k c okb left' L' W' vs', e = .returned (.tuple #[.agg #[strV k, .int .u64 (c : Nat)], .bool okb]) ∧ Kept2 w w' lb ob ∧ PlayAt B w' pb lb ob left' L' vs' ∧ Hid (L'.length = n ∧ Tree left' L' W' n ∧ L'.getD 0 0 = W' 1) ∧ Hid (NextIs left k c okb left')
theorem pnext_both {B : Nat} {w : World} {pb lb ob : Nat} {left : List (List En)} {L : List Nat} {vs : List Value} {W : Nat → Nat} {n : Nat} (h : PlayAt B w pb lb ob left L vs) (h1 : 1 ≤ n) (hT : L.length = n ∧ Tree left L W n ∧ L.getD 0 0 = W 1) (hR : ∀ l ∈ left, RiseE l) :
    Calls Try.prog 19 #[.pointer (some ⟨pb, 0, none⟩)] w fun e w' => PBoth B w pb lb ob left n e w' := by
  obtain ⟨t1, t2, t3⟩ := hT
  obtain ⟨b1, b2⟩ := best_least (left := left) (n := n) (i := W 1) (h.len.trans t1) t2.all hR
  have hi := t2.lt 1 (by omega) (by omega)
  obtain ⟨l, hl⟩ : ∃ l, left[W 1]? = some l := ⟨_, List.getElem?_eq_getElem (by rw [h.len, t1]; exact hi)⟩
  cases l with
  | nil =>
    refine (pnext_nil h t1 hi t3 hl).mono ?_
    rintro e w' ⟨rfl, hG⟩
    exact ⟨[], 0, false, left, L, W, vs, rfl, Kept2.grow hG _ _, h.later hG (Nat.le_refl _), ⟨t1, t2, t3⟩, .inr ⟨rfl, rfl, b2 hl⟩⟩
  | cons x r =>
    refine (pnext_any h t1 hi t2 t3 rfl hl).mono ?_
    rintro e w' ⟨rfl, hK, L', W', vs', hp, s1, s2, s3⟩
    exact ⟨x.1, x.2, true, left.set (W 1) r, L', W', vs', rfl, hK, hp, ⟨s1, s2, s3⟩, .inl ⟨rfl, W 1, r, hl, rfl, b1 x r hl⟩⟩

/-- What the loop keeps. -/
structure LoopM (ls left : List (List En)) (out : List En) (k : Wd) (c : Nat) (okb : Bool) : Prop where
  ex : ∃ left0, MidL ls left0 out ∧ NextIs left0 k c okb left ∧ out.length + totL left0 ≤ totL ls
theorem LoopM.done {ls left : List (List En)} {out : List En} {k : Wd} {c : Nat} (h : LoopM ls left out k c false) (hl : ls.length ≤ 256) (hb : badL ls = 0) : mergeL ls = (out, 0) := by
  obtain ⟨left0, h1, h2, _⟩ := h.ex
  rcases h2 with ⟨h2, _⟩ | ⟨_, _, h3⟩
  · cases h2
  · exact h1.done h3 hl hb
theorem LoopM.tot {ls left : List (List En)} {out : List En} {k : Wd} {c : Nat} {okb : Bool} (h : LoopM ls left out k c okb) : out.length ≤ totL ls := by
  obtain ⟨left0, _, _, h3⟩ := h.ex; omega
/-- The next entry, and how much is left. -/
theorem LoopM.next {ls left left2 : List (List En)} {out : List En} {k2 : Wd} {c2 : Nat} {okb2 : Bool} (h : MidL ls left out) (ht : out.length + totL left ≤ totL ls) (hN : NextIs left k2 c2 okb2 left2) :
    LoopM ls left2 out k2 c2 okb2 ∧ totL left2 + (if okb2 then 1 else 0) = totL left := by
  refine ⟨⟨left, h, hN, ht⟩, ?_⟩
  rcases hN with ⟨rfl, i, r, h1, rfl, _⟩ | ⟨rfl, rfl, _⟩
  · rw [tot_set h1]; rfl
  · simp
/-- What count must make of it. -/
theorem LoopM.step {ls left : List (List En)} {out : List En} {k : Wd} {c : Nat} (h : LoopM ls left out k c true) (hl : ls.length ≤ 256) (hb : badL ls = 0) :
    ((∀ z, out.getLast? = some z → z.1 ≠ k) ∧ MidL ls left (out ++ [(k, c)]) ∧ (out ++ [(k, c)]).length + totL left ≤ totL ls) ∨
    (∃ zn, out.getLast? = some (k, zn) ∧ zn + c ≤ 4611686018427387904 ∧ MidL ls left (out.set (out.length - 1) (k, zn + c)) ∧ (out.set (out.length - 1) (k, zn + c)).length + totL left ≤ totL ls) ∨
    (∃ zn, out.getLast? = some (k, zn) ∧ 4611686018427387904 < zn + c ∧ zn ≤ 4611686018427387904 ∧ c ≤ 4611686018427387904 ∧ mergeL ls = ([], 5)) := by
  obtain ⟨left0, h1, h2, h3⟩ := h.ex
  rcases h2 with ⟨_, i, r, g1, rfl, g2⟩ | ⟨h2, _⟩
  · have ht := tot_set g1
    by_cases hz : ∃ zn, out.getLast? = some (k, zn)
    · obtain ⟨zn, hz⟩ := hz
      right
      by_cases hs : zn + c ≤ 4611686018427387904
      · left
        exact ⟨zn, hz, hs, h1.more g1 g2 hz rfl hs, by rw [List.length_set]; omega⟩
      · right
        have hzp := h1.good.pos _ (List.mem_of_getLast? hz)
        have hcp := (h1.rise _ (List.mem_of_getElem? g1)).2.1 (k, c) (by simp)
        simp only at hzp hcp
        exact ⟨zn, hz, by omega, by omega, by omega, h1.over g1 hz rfl (by simp only; omega) hl hb⟩
    · left
      have hn : ∀ z, out.getLast? = some z → z.1 ≠ k := fun z hz' e => hz ⟨z.2, by rw [hz', ← e]⟩
      exact ⟨hn, h1.put g1 g2 hn, by rw [List.length_append]; simp only [List.length_singleton]; omega⟩
  · cases h2
def okN : Value → Nat
  | .bool true => 1
  | _ => 0
theorem okN_bool (b : Bool) : okN (.bool b) = if b then 1 else 0 := by cases b <;> rfl
end Go.Proofs.Ytgnhnhachhfafaa
