/- Plain mathematics of a State as bytes: put, and got. -/
import Derived.Test.YtdhbbknjnbdplaaDoorTokenMath
namespace Go.Proofs.YtdhbbknjnbdplaaDoor
set_option linter.unusedVariables false

def runeN (c : Int) : Nat := c.toNat
def flagB (mk lg : Bool) : Int := (if mk then 1 else 0) + (if lg then 2 else 0)
def runesP (ws : List Int) : List Int := (ws.map fun c => encode (runeN c)).flatten
def putT (p ws : List Int) (mk lg : Bool) : List Int := encode p.length ++ p ++ encode ws.length ++ runesP ws ++ [flagB mk lg]

/-- So many runes, and what is behind them. -/
def runesT : Nat → List Int → Option (List Int × List Int)
  | 0, r => some ([], r)
  | m + 1, r => if (getL r).2.2 = 0 ∧ (getL r).1 ≤ 1114111 then (runesT m (r.drop (getL r).2.1)).map fun x => (((getL r).1 : Int) :: x.1, x.2) else none
def flagT : List Int → Option (Bool × Bool)
  | [x] => if x ≤ 3 then some (decide (x % 2 = 1), decide (2 ≤ x)) else none
  | _ => none
structure TokS where
  pend : List Int
  word : List Int
  mark : Bool
  long : Bool
def getT (b : List Int) : Option TokS :=
  if (getL b).2.2 = 0 ∧ (getL b).1 ≤ b.length - (getL b).2.1 ∧ ((getL b).1 = 0 ∨ pendU ((b.drop (getL b).2.1).take (getL b).1)) then
    let p := (b.drop (getL b).2.1).take (getL b).1
    let r := b.drop ((getL b).2.1 + (getL b).1)
    if (getL r).2.2 = 0 ∧ (getL r).1 ≤ 32 then
      (runesT (getL r).1 (r.drop (getL r).2.1)).bind fun x => (flagT x.2).map fun f => ⟨p, x.1, f.1, f.2⟩
    else none
  else none

def smallT (ws : List Int) : Prop := ∀ c ∈ ws, 0 ≤ c ∧ c ≤ 1114111
theorem runes_back : ∀ (ws q : List Int), smallT ws → runesT ws.length (runesP ws ++ q) = some (ws, q)
  | [], q, _ => rfl
  | c :: ws, q, h => by
    have hc := h c (by simp)
    have hg : getL (runesP (c :: ws) ++ q) = (runeN c, (encode (runeN c)).length, 0) := by
      have : runesP (c :: ws) ++ q = encode (runeN c) ++ (runesP ws ++ q) := by simp [runesP]
      rw [this]
      exact get_back _ _ (by unfold runeN; omega)
    have hd : (runesP (c :: ws) ++ q).drop (encode (runeN c)).length = runesP ws ++ q := by
      have : runesP (c :: ws) ++ q = encode (runeN c) ++ (runesP ws ++ q) := by simp [runesP]
      rw [this, List.drop_left]
    have ih := runes_back ws q (fun x hx => h x (by simp [hx]))
    simp only [List.length_cons, runesT, hg]
    rw [if_pos ⟨trivial, by unfold runeN; omega⟩, hd, ih]
    simp only [Option.map_some]
    have : ((runeN c : Nat) : Int) = c := by unfold runeN; omega
    rw [this]
theorem flag_back (mk lg : Bool) : flagT [flagB mk lg] = some (mk, lg) := by cases mk <;> cases lg <;> decide
theorem get_put {p ws : List Int} (mk lg : Bool) (hp : p = [] ∨ pendU p) (hw : ws.length ≤ 32) (hs : smallT ws) : getT (putT p ws mk lg) = some ⟨p, ws, mk, lg⟩ := by
  have hpl : p.length ≤ 3 := by rcases hp with rfl | h; simp; exact h.2.1
  have e1 : putT p ws mk lg = encode p.length ++ (p ++ (encode ws.length ++ (runesP ws ++ [flagB mk lg]))) := by simp [putT]
  have g1 : getL (putT p ws mk lg) = (p.length, (encode p.length).length, 0) := by rw [e1]; exact get_back _ _ (by omega)
  have d1 : (putT p ws mk lg).drop (encode p.length).length = p ++ (encode ws.length ++ (runesP ws ++ [flagB mk lg])) := by rw [e1, List.drop_left]
  have t1 : ((putT p ws mk lg).drop (encode p.length).length).take p.length = p := by rw [d1, List.take_left]
  have d2 : (putT p ws mk lg).drop ((encode p.length).length + p.length) = encode ws.length ++ (runesP ws ++ [flagB mk lg]) := by rw [← List.drop_drop, d1, List.drop_left]
  have g2 : getL (encode ws.length ++ (runesP ws ++ [flagB mk lg])) = (ws.length, (encode ws.length).length, 0) := get_back _ _ (by omega)
  have l1 : p.length ≤ (putT p ws mk lg).length - (encode p.length).length := by rw [e1]; simp
  unfold getT
  simp only [g1, t1, d2, g2, List.drop_left]
  rw [if_pos ⟨trivial, l1, by rcases hp with rfl | h; exact .inl rfl; exact .inr h⟩, if_pos ⟨trivial, hw⟩, runes_back ws _ hs]
  simp [flag_back]

theorem runes_got : ∀ (m : Nat) (r ws q : List Int), isBytes r → runesT m r = some (ws, q) → ws.length = m ∧ r = runesP ws ++ q ∧ smallT ws
  | 0, r, ws, q, _, h => by
    simp only [runesT, Option.some.injEq, Prod.mk.injEq] at h
    obtain ⟨rfl, rfl⟩ := h
    exact ⟨rfl, by simp [runesP], fun c hc => by simp at hc⟩
  | m + 1, r, ws, q, h8, h => by
    simp only [runesT] at h
    split at h
    · rename_i hg
      obtain ⟨x, hx, he⟩ := Option.map_eq_some_iff.1 h
      simp only [Prod.mk.injEq] at he
      obtain ⟨rfl, rfl⟩ := he
      have hok := get_ok r h8 (getL r).1 (getL r).2.1 (by rw [← hg.1])
      have ih := runes_got m (r.drop (getL r).2.1) x.1 x.2 (fun z hz => h8 z (List.mem_of_mem_drop hz)) hx
      refine ⟨by simp [ih.1], ?_, ?_⟩
      · have e : runesP (((getL r).1 : Int) :: x.1) = encode (getL r).1 ++ runesP x.1 := by simp [runesP, runeN]
        rw [e, List.append_assoc, ← ih.2.1, hok.2.2.1, List.take_append_drop]
      · intro c hc
        rcases List.mem_cons.1 hc with rfl | hc
        · omega
        · exact ih.2.2 c hc
    · cases h
theorem flag_got {q : List Int} (h8 : isBytes q) {f : Bool × Bool} (h : flagT q = some f) : q = [flagB f.1 f.2] := by
  match q, h with
  | [x], h =>
    have hx : 0 ≤ x := by obtain ⟨c, hc, _⟩ := h8.get 0; simp at hc; omega
    simp only [flagT] at h
    split at h
    · rename_i h3
      simp only [Option.some.injEq] at h
      subst h
      have : x = 0 ∨ x = 1 ∨ x = 2 ∨ x = 3 := by omega
      rcases this with rfl | rfl | rfl | rfl <;> decide
    · cases h
theorem put_get {zs : List Int} (h8 : isBytes zs) {s : TokS} (h : getT zs = some s) : putT s.pend s.word s.mark s.long = zs ∧ (s.pend = [] ∨ pendU s.pend) ∧ s.word.length ≤ 32 ∧ smallT s.word := by
  unfold getT at h
  split at h
  · rename_i h1
    simp only at h
    split at h
    · rename_i h2
      obtain ⟨x, hx, hf⟩ := Option.bind_eq_some_iff.1 h
      obtain ⟨f, hf1, hf2⟩ := Option.map_eq_some_iff.1 hf
      subst hf2
      generalize hr : zs.drop ((getL zs).2.1 + (getL zs).1) = r at h2 hx
      have r8 : isBytes r := fun z hz => h8 z (by rw [← hr] at hz; exact List.mem_of_mem_drop hz)
      have hok := get_ok zs h8 (getL zs).1 (getL zs).2.1 (by rw [← h1.1])
      have hok2 := get_ok r r8 (getL r).1 (getL r).2.1 (by rw [← h2.1])
      have hru := runes_got _ _ _ _ (fun z hz => r8 z (List.mem_of_mem_drop hz)) hx
      have q8 : isBytes x.2 := fun z hz => r8 z (List.mem_of_mem_drop (by rw [hru.2.1]; exact List.mem_append_right _ hz))
      have hfl := flag_got q8 hf1
      have hpl : ((zs.drop (getL zs).2.1).take (getL zs).1).length = (getL zs).1 := by rw [List.length_take, List.length_drop]; omega
      refine ⟨?_, ?_, by rw [hru.1]; exact h2.2, hru.2.2⟩
      · unfold putT
        simp only
        rw [hpl, hru.1, hok.2.2.1, hok2.2.2.1, List.append_assoc, List.append_assoc, ← hfl, ← hru.2.1, List.take_append_drop, ← hr, ← List.drop_drop, List.append_assoc, List.take_append_drop, List.take_append_drop]
      · rcases h1.2.2 with h0 | h0
        · left; simp only; rw [h0]; rfl
        · right; exact h0
    · cases h
  · cases h
end Go.Proofs.YtdhbbknjnbdplaaDoor
