/- A range over a function whose values lie in memory: round by round the iterator says what its values show in the world of that round. -/
import Derived.Test.YtgnhnhachhfafaaOwn
import Derived.RangeFuncNested
import Derived.RangeFuncBound
import Derived.RangeFuncCalls
import Derived.RangeFuncLeaves
import Derived.Shelf.Abstract
namespace Go.Proofs.Ytgnhnhachhfafaa
open Go.RowKit
set_option linter.unusedVariables false
set_option linter.unusedSimpArgs false

theorem Grow.grown {A B : World} (h : Grow A B) (row : Option Nat) : A.grownBy B row := ⟨h.os, h.tape, h.output, h.size, fun k hk _ => h.block k hk⟩

/-- An iterator's word: N rounds; the k-th hands out what 'V k' says; 'Kp' is what a round that goes on must keep. -/
def GivesBy (P : Program) (g : Nat) (lb : Array Value) (N : Nat) (V : Nat → Array Value → World → Prop) (Kp : World → World → Prop) (w : World) : Prop :=
  ∀ (l : Nat) (J : Nat → World → Prop) (Jx : World → Prop) (W : World), Kp w W →
    (∀ k A B, J k A → Grow A B → J k B) → (∀ A B, Jx A → Grow A B → Jx B) →
    (∀ k args W1, k < N → J k W1 → V k args W1 → YieldAt Fence.wide 8 P l args W1 fun e W' => (e = .returned (.bool true) ∧ J (k + 1) W' ∧ Kp W1 W') ∨ (e = .returned (.bool false) ∧ Jx W')) →
    J 0 W → CallsIn Fence.wide 9 P g (#[.func (.yield l) #[] #[]] ++ lb) W fun e W' => (∃ v, e = .returned v) ∧ (J N W' ∨ Jx W')

/-- How a round's body may be left. -/
def postBy (B : Nat) (Kp : World → World → Prop) (I : World → Prop) (Ix : Code → World → Prop) (W : World) : Exit → Act → World → Prop
  | .normal, _, W' => KeepsFrom B W W' ∧ Kp W W' ∧ I W'
  | .ret, _, W' => KeepsFrom B W W' ∧ Ix .ret W'
  | .exit id, _, W' => KeepsFrom B W W' ∧ Ix (.exit id) W'
  | _, _, _ => False

abbrev markBy (D : Nat) : Deferred := { target := .collected D, args := #[] }

theorem range_by {P : Program} {g : Operand} {ps : Array Tmp} {assign body : Code} {Q : Exit → Act → World → Prop} {a : Act} {w : World}
    {gf : Nat} {lb : Array Value} (hg : a.eval g = .func (.func gf) #[] lb) (eg : ∀ args w, (callFunc gf args).run P w = .ok (.enter gf args) w)
    {N : Nat} {V : Nat → Array Value → World → Prop} {Kp : World → World → Prop} (hseq : GivesBy P gf lb N V Kp w)
    (hKt : ∀ {A B C : World}, Kp A B → Kp B C → Kp A C) (hKg : ∀ {A B : World}, w.heap.size ≤ A.heap.size → Grow A B → Kp A B) (hKb : ∀ (W : World) (l : Nat) (o : Obj), w.heap.size ≤ l → Kp W (W.putObj l o))
    (hV : ∀ k args, OwnFrom w.heap.size (fun (_ : Unit) W => V k args W)) (hsz : ∀ k args W, V k args W → args.size = ps.size)
    (I : Nat → World → Prop) (Ix : Code → World → Prop) (hI : OwnFrom w.heap.size I) (hIx : OwnFrom w.heap.size Ix) (h0 : I 0 w) (a₁ : Array Value → Act)
    (hassign : ∀ (l k : Nat) (args : Array Value) (W : World) (K : Act → World → Prop), V k args W → K (a₁ args) W →
      assign.wpIn (Fence.wide.inRound l) 8 P (Exit.then K (fun _ _ _ => False)) { tmps := (ps.zip args).foldl (fun t (p, v) => t.setIfInBounds p v) a.tmps, defers := [] } W)
    (hbody : ∀ (l k : Nat) (args : Array Value) (W : World), k < N → I k W → V k args W → w.heap.size ≤ W.heap.size → body.wpIn (Fence.wide.inRound l) 8 P (postBy w.heap.size Kp (I (k + 1)) Ix W) (a₁ args) W)
    (hdone : ∀ (D : Nat) (W : World), w.heap.size ≤ D → I N W → W.heap[D]? = some (.deferred (some [])) → Q .normal { a with defers := markBy D :: a.defers } W)
    (hstop : ∀ (D : Nat) (c : Code) (W : World), w.heap.size ≤ D → Ix c W → W.heap[D]? = some (.deferred (some [])) → c.wpIn Fence.wide 10 P Q { a with defers := markBy D :: a.defers } W) :
    (Code.rangeFunc g ps assign body).wpIn Fence.wide 10 P Q a w := by
  refine wpIn_rangeFunc fun fn hfn => ?_
  generalize hS : w.heap.size = S at *
  -- the loop's record, and what is known of it and of the deferred calls' block
  let rc : LoopState → Option Code → Loop := fun st pe => { state := st, pending := pe, fn, tmps := a.tmps, params := ps, assign, body, defers := S }
  let Held : LoopState → Option Code → World → Prop := fun st pe W => W.heap[S + 1]? = some (.loop (rc st pe)) ∧ W.heap[S]? = some (.deferred (some []))
  have put : ∀ {st pe W} (st' pe'), Held st pe W → Held st' pe' (W.putObj (S + 1) (.loop (rc st' pe'))) := fun st' pe' h =>
    ⟨World.putObj_heap_same (Array.getElem?_eq_some_iff.1 h.1).1, (World.putObj_heap_other (by omega)).trans h.2⟩
  have grow : ∀ {st pe A B}, Held st pe A → Grow A B → Held st pe B := fun h hb =>
    ⟨(hb.block _ (Array.getElem?_eq_some_iff.1 h.1).1).trans h.1, (hb.block _ (Array.getElem?_eq_some_iff.1 h.2).1).trans h.2⟩
  have keep : ∀ {st pe A B}, Held st pe A → KeepsFrom S A B → Held st pe B := fun h hk => ⟨hk.same _ _ (by omega) h.1 rfl, hk.same _ _ (Nat.le_refl _) h.2 rfl⟩
  have big : ∀ {st pe W}, Held st pe W → S ≤ W.heap.size := fun h => Nat.le_of_lt (Array.getElem?_eq_some_iff.1 h.2).1
  have grI : ∀ k A B, I k A → Grow A B → I k B := fun k A B h hb => hI k A B none h (hb.grown _) (fun r e => by cases e)
  have grX : ∀ c A B, Ix c A → Grow A B → Ix c B := fun c A B h hb => hIx c A B none h (hb.grown _) (fun r e => by cases e)
  obtain ⟨W1, hW1⟩ : ∃ W1, W1 = (w.alloc (.deferred (some []))).alloc (.loop (rc .ready none)) := ⟨_, rfl⟩
  have hG1 : Grow w W1 := by
    rw [hW1]
    exact ((Below.refl _ w).alloc (Nat.le_refl _) _).alloc (by simp) _
  have hH1 : Held .ready none W1 := by
    rw [hW1]
    refine ⟨?_, ?_⟩
    · have := World.alloc_heap_new (w.alloc (.deferred (some []))) (.loop (rc .ready none))
      rw [World.size_alloc, hS] at this
      exact this
    · have := World.alloc_heap_new w (.deferred (some []))
      rw [hS] at this
      exact (Below.heap_alloc _ _ _ (by rw [World.size_alloc]; omega)).trans this
  refine ⟨S + 1, [markBy S], W1, { target := .fn (.func gf) lb, args := #[.func (.yield (S + 1)) #[] #[]] }, W1, gf, #[.func (.yield (S + 1)) #[] #[]] ++ lb, W1, ?_, ?_, fun _ _ => trivial, ?_, fun h => ?_, ?_⟩
  · rw [hW1]
    have := run_enterLoop_outer (P := P) (w := w) fn a.tmps ps assign body
    rw [hS] at this
    exact this
  · simp only [resolve, hg]
    simp [go_sem]
  · simp [invoke, go_sem, eg]
  · cases h
  refine (hseq (S + 1) (fun k W => I k W ∧ Held .ready none W) (fun W => ∃ c, Ix c W ∧ Held .done (some c) W) W1 (hKg (by omega) hG1)
    (fun k A B h hb => ⟨grI k A B h.1 hb, grow h.2 hb⟩) (fun A B ⟨c, h1, h2⟩ hb => ⟨c, grX c A B h1 hb, grow h2 hb⟩) ?_ ⟨grI _ _ _ h0 hG1, hH1⟩).mono ?_
  · -- one round
    rintro k args W hk ⟨hi, hh⟩ hv
    have hy := run_yield (P := P) (args := args) hh.1 (hsz k args W hv)
    refine ⟨fn, _, assign, body, hy, roundIn_of_wpIn hfn (hassign (S + 1) k args W _ hv ⟨_, run_beginRound hh.1 rfl, ?_⟩)⟩
    have hb := put .busy none hh
    have hi2 : I k (W.putObj (S + 1) (.loop (rc .busy none))) := hI.putObj _ hi (by omega) hh.1 rfl
    have hv2 : V k args (W.putObj (S + 1) (.loop (rc .busy none))) := (hV k args).putObj (s := ()) _ hv (by omega) hh.1 rfl
    have hk2 : Kp W (W.putObj (S + 1) (.loop (rc .busy none))) := hKb _ _ _ (by omega)
    refine wpIn_mono (hbody (S + 1) k args _ hk hi2 hv2 (big hb)) ?_
    rintro e a3 W3 hp
    cases e with
    | normal =>
      obtain ⟨k3, kp3, i3⟩ := hp
      have h3 := keep hb k3
      exact ⟨_, _, run_endRound none h3.1, .inl ⟨rfl, ⟨hI.putObj _ i3 (by omega) h3.1 rfl, put .ready none h3⟩, hKt (hKt hk2 kp3) (hKb _ _ _ (by omega))⟩⟩
    | ret =>
      obtain ⟨k3, i3⟩ := hp
      have h3 := keep hb k3
      exact ⟨_, _, run_endRound (some .ret) h3.1, .inr ⟨rfl, .ret, hIx.putObj _ i3 (by omega) h3.1 rfl, put .done (some .ret) h3⟩⟩
    | exit id =>
      obtain ⟨k3, i3⟩ := hp
      have h3 := keep hb k3
      exact ⟨_, _, run_endRound (some (.exit id)) h3.1, .inr ⟨rfl, .exit id, hIx.putObj _ i3 (by omega) h3.1 rfl, put .done (some (.exit id)) h3⟩⟩
    | goto t => exact hp.elim
    | panic ch => exact hp.elim
    | outgrown => exact hp.elim
  · -- behind the iterator
    rintro e W2 ⟨⟨v, rfl⟩, ⟨hi, hh⟩ | ⟨c, hc, hh⟩⟩
    · have hend := run_endLoop (P := P) hh.1 (by simp [rc])
      exact ⟨none, _, hend, hdone S _ (Nat.le_refl _) (hI.putObj _ hi (by omega) hh.1 rfl) ((World.putObj_heap_other (by omega)).trans hh.2)⟩
    · have hend := run_endLoop (P := P) hh.1 (by simp [rc])
      exact ⟨some c, _, hend, hstop S c _ (Nat.le_refl _) (hIx.putObj _ hc (by omega) hh.1 rfl) ((World.putObj_heap_other (by omega)).trans hh.2)⟩
#print axioms range_by
end Go.Proofs.Ytgnhnhachhfafaa
