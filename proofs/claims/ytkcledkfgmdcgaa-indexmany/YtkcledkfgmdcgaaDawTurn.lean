/- What may be an automaton, by its form: states that end words or go on, lower edges that rise, no two alike, and all left in the turn of their numbers. -/
import Derived.Test.YtkcledkfgmdcgaaDawZ
namespace Go.Proofs.Ytkcledkfgmdcgaa
open Go.RowKit
set_option linter.unusedVariables false
set_option linter.unusedSimpArgs false

/-- Edges gone along: those that lead to a number that isn't left yet are left. -/
def turnE (go : Nat → Nat → Option Nat) : List (UInt8 × Nat) → Nat → Option Nat
  | [], next => some next
  | e :: es, next => if next ≤ e.2 then (match go e.2 next with
    | some m => turnE go es m
    | none => none) else turnE go es next
/-- A state left; those below 'next' were: what is next then, if the turn is kept. -/
def turnN (A : List Stt) : Nat → Nat → Nat → Option Nat
  | 0, _, _ => none
  | f + 1, n, next => match A[n]? with
    | none => none
    | some s => match turnE (turnN A f) s.2 next with
      | some nx => if n = nx then some (nx + 1) else none
      | none => none
theorem turn_some {A : List Stt} {f n next m : Nat} (h : turnN A f n next = some m) : m = n + 1 ∧ n < A.length := by
  cases f with
  | zero => simp [turnN] at h
  | succ f =>
    rw [turnN] at h
    cases hs : A[n]? with
    | none => rw [hs] at h; cases h
    | some s =>
      rw [hs] at h
      simp only at h
      cases he : turnE (turnN A f) s.2 next with
      | none => rw [he] at h; cases h
      | some nx =>
        rw [he] at h
        simp only at h
        split at h
        · rename_i hn
          simp only [Option.some.injEq] at h
          exact ⟨by omega, (List.getElem?_eq_some_iff.1 hs).1⟩
        · cases h
/-- A state among those that were left leaves nothing. -/
theorem leave_none {S : List Stt} (h : GoodS S) (t : Node) (hm : (leaveN S t).2 < S.length) : (leaveN S t).1 = S := by
  obtain ⟨a1, a2, a3⟩ := leave_good t.2 S h
  obtain ⟨b1, b2, b3, b4⟩ := leaveN_good h t
  have hat : S[(leaveN S t).2]? = some (t.1, (leaveK S t.2).2) := by
    obtain ⟨u, hu⟩ := b1
    rw [← hu, List.getElem?_append_left hm] at b4
    exact b4
  have hlow := h.low _ _ hat
  have hlen : (leaveK S t.2).1.length = S.length := by
    have h1 := a1.length_le
    by_cases h2 : S.length < (leaveK S t.2).1.length
    · exfalso
      obtain ⟨e, he, hle⟩ := leave_top t.2 S h S.length (Nat.le_refl _) h2
      have := hlow e he
      omega
    · omega
  have hS : (leaveK S t.2).1 = S := (a1.eq_of_length hlen.symm).symm
  show (putS _ _).1 = S
  unfold putS
  rw [if_pos (by rw [hS]; exact List.mem_of_getElem? hat)]
  exact hS
/-- A state that is left anew is left last. -/
theorem leave_last {S : List Stt} (h : GoodS S) (t : Node) (hm : S.length ≤ (leaveN S t).2) : (leaveN S t).1 = (leaveK S t.2).1 ++ [(t.1, (leaveK S t.2).2)] ∧ (leaveN S t).2 = (leaveK S t.2).1.length := by
  obtain ⟨a1, a2, a3⟩ := leave_good t.2 S h
  have hnot : (t.1, (leaveK S t.2).2) ∉ (leaveK S t.2).1 := by
    intro hin
    have hidx := List.idxOf_lt_length_iff.2 hin
    have h2 : (leaveN S t).2 = (leaveK S t.2).1.idxOf (t.1, (leaveK S t.2).2) := by show (putS _ _).2 = _; unfold putS; rw [if_pos hin]
    rw [h2] at hm
    obtain ⟨e, he, hle⟩ := leave_top t.2 S h _ hm hidx
    have := a2.low _ _ (List.getElem?_eq_getElem hidx) e (by rw [List.getElem_idxOf]; exact he)
    omega
  constructor
  · show (putS _ _).1 = _
    unfold putS; rw [if_neg hnot]
  · show (putS _ _).2 = _
    unfold putS; rw [if_neg hnot]
/-- What is left is left in turn. -/
theorem turn_leave {A : List Stt} (hA : GoodS A) : ∀ (k : Kids) (S : List Stt) (f : Nat), GoodS S → (leaveK S k).1 <+: A → (∀ e ∈ (leaveK S k).2, e.2 < f) → turnE (turnN A f) (leaveK S k).2 S.length = some (leaveK S k).1.length
  | .nil, S, f, _, _, _ => rfl
  | .cons c g sub rest, S, f, hS, hp, hf => by
    obtain ⟨b1, b2, b3, b4⟩ := leaveN_good hS (g, sub)
    rw [leaveK_cons] at hp hf ⊢
    simp only at hp hf ⊢
    have c1 := (leave_good rest _ b2).1
    have hrest := turn_leave hA rest (leaveN S (g, sub)).1 f b2 hp (fun e he => hf e (List.mem_cons_of_mem _ he))
    have hmf := hf _ List.mem_cons_self
    simp only at hmf
    rw [turnE]
    simp only
    by_cases hm : S.length ≤ (leaveN S (g, sub)).2
    · rw [if_pos hm]
      obtain ⟨l1, l2⟩ := leave_last hS (g, sub) hm
      simp only at l1 l2
      obtain ⟨f', rfl⟩ : ∃ f', f = f' + 1 := ⟨f - 1, by omega⟩
      have hpN : (leaveN S (g, sub)).1 <+: A := c1.trans hp
      have hat := pre_at hpN b4
      have hsub := turn_leave hA sub S f' hS ((show (leaveK S sub).1 <+: (leaveN S (g, sub)).1 from put_pre _ _).trans hpN) (fun e he => by
        have := b2.low _ _ b4 e he
        omega)
      have hgo : turnN A (f' + 1) (leaveN S (g, sub)).2 S.length = some (leaveN S (g, sub)).1.length := by
        rw [turnN, hat]
        simp only
        rw [hsub]
        simp only
        rw [if_pos l2, l1, List.length_append]; rfl
      rw [hgo]
      exact hrest
    · rw [if_neg hm]
      have h1 := leave_none hS (g, sub) (by omega)
      rw [h1] at hrest
      rw [h1]
      exact hrest
theorem turn_root (l : List Wd) : turnN (buildL l) (buildL l).length ((buildL l).length - 1) 0 = some (buildL l).length := by
  obtain ⟨h1, h2⟩ := build_is l
  have hg := build_good l
  obtain ⟨S, hS⟩ : ∃ S, S = (leaveK [] (trieW l).2).1 := ⟨_, rfl⟩
  rw [← hS] at h1 h2
  have hlen : (buildL l).length = S.length + 1 := by rw [h1]; simp
  have hlow := (leave_good (trieW l).2 [] GoodS.nil).2.2
  have hp : (leaveK [] (trieW l).2).1 <+: buildL l := by rw [h1, hS]; exact List.prefix_append _ _
  have hsub := turn_leave hg (trieW l).2 [] S.length GoodS.nil hp (fun e he => by rw [hS]; exact hlow e he)
  have hat : (buildL l)[S.length]? = some ((trieW l).1, (leaveK [] (trieW l).2).2) := by rw [h1]; simp
  rw [hlen]
  show turnN (buildL l) (S.length + 1) (S.length + 1 - 1) 0 = _
  rw [Nat.add_sub_cancel, turnN, hat]
  simp only
  rw [show (0 : Nat) = ([] : List Stt).length from rfl, hsub]
  simp only
  rw [← hS, if_pos rfl]
/-- Automata by their form. -/
structure BuiltP (B : List Stt) : Prop where
  any : B ≠ []
  first : ∀ s, B[B.length - 1]? = some s → s.1 = false
  each : ∀ (i : Nat) (s : Stt), B[i]? = some s → (s.1 = true ∨ s.2 ≠ []) ∧ (∀ e ∈ s.2, e.2 < i) ∧ RiseEd s.2
  nodup : B.Nodup
  turn : ∃ m, turnN B B.length (B.length - 1) 0 = some m
def MayP (A : List StZ) : Prop := A = [(false, [])] ∨ ((∀ f, A ≠ [(f, [])]) ∧ ∃ B, A = zA B ∧ BuiltP B)
theorem build_may {l : List Wd} (hne : [] ∉ l) : MayP (zA (buildL l)) := by
  by_cases hl : l = []
  · subst hl
    exact .inl rfl
  have hne2 : ∀ w ∈ l, w ≠ [] := fun w hw h => hne (h ▸ hw)
  have hg := build_good l
  have hl1 := (build_len l).1
  refine .inr ⟨fun f h => ?_, buildL l, rfl, ⟨fun h => by rw [h] at hl1; simp at hl1, fun s hs => ?_, fun i s hs => ?_, hg.nodup, _, turn_root l⟩⟩
  · have hlen : (buildL l).length = 1 := by
      have := congrArg List.length h
      rw [zA_len] at this; exact this
    obtain ⟨w, l', rfl⟩ := List.exists_cons_of_ne_nil hl
    obtain ⟨c, v, rfl⟩ := List.exists_cons_of_ne_nil (hne2 w (by simp))
    have h1 := built_has ((c :: v) :: l') (c :: v)
    rw [h] at h1
    simp [hasZ, hasZn, atZ, stepZ] at h1
  · have h1 := build_has l []
    rw [hasS_at hs] at h1
    simp only at h1
    rw [h1]; exact decide_eq_false hne
  · obtain ⟨u1, u2⟩ := build_use hne2 s (List.mem_of_getElem? hs)
    exact ⟨u2 hl, hg.low i s hs, u1⟩
end Go.Proofs.Ytkcledkfgmdcgaa
