/- The chain of doubles in memory: an own row of states that grows by one, each edge list in a block of its own. -/
import Derived.Test.YtkcledkfgmdcgaaIndexChain
namespace Go.Proofs.Ytkcledkfgmdcgaa
open Go.RowKit
set_option linter.unusedVariables false
set_option linter.unusedSimpArgs false

theorem readsE_four (W : World) (x y z u : Value) (t : TypeId) : ReadsE (W.alloc (.cells #[x, y, z, u] t)) (some ⟨W.heap.size, 0, none⟩) 2 2 [x, y, z, u] :=
  ⟨rfl, Nat.le_refl _, by unfold maxLen; omega, (fun h => by cases h), fun a ha j v hv => by
    cases ha
    rw [Addr.add_lit, World.cell?_alloc_at _ _ _ _ rfl]
    simpa using hv⟩
theorem readsE_block {W W' : World} {b len cap : Nat} {xs : List Value} (h : ReadsE W (some ⟨b, 0, none⟩) len cap xs) (hb : W'.heap[b]? = W.heap[b]?) : ReadsE W' (some ⟨b, 0, none⟩) len cap xs :=
  ⟨h.length, h.le, h.most, h.bare, fun a ha j u hu => by
    cases ha
    have hc := h.cell _ rfl j u hu
    have hcc : W'.cell? ((⟨b, 0, none⟩ : Addr).add j) = W.cell? ((⟨b, 0, none⟩ : Addr).add j) := cell_agree (by rw [Addr.add_lit]; exact hb)
    rw [hcc]; exact hc⟩
structure ChainAt (B j : Nat) (w : World) (ag : Option Addr) (c : Nat) : Prop where
  ex : ∃ (F : Nat → Prop) (vs : List (Bool × Value)), vs.length = j + 1 ∧ w.ownsRow B 45 2 (.slice ag (j + 1) c) (j + 1) (cellsA vs) ∧ (∀ b, F b → b < w.heap.size) ∧ (∀ b, (Value.slice ag (j + 1) c).ownBlock = some b → ¬ F b) ∧
    ∀ w', Agree F w w' → ∀ (i : Nat) (p : Bool × Value) (s : StZ), vs[i]? = some p → (zA (chainS j))[i]? = some s → p.1 = s.1 ∧ ∃ eg c, p.2 = .slice eg s.2.length c ∧ ReadsE w' eg s.2.length c (cellsEd s.2)
theorem ChainAt.reads {B j : Nat} {w : World} {ag : Option Addr} {c : Nat} (h : ChainAt B j w ag c) : ReadsA w ag (j + 1) c (zA (chainS j)) := by
  obtain ⟨F, vs, h1, h2, h3, h4, h5⟩ := h.ex
  exact ⟨vs, by rw [zA_len, links_len, h1], ReadsE.own h2, h5 w (Agree.refl _ _)⟩
theorem chain_start {B : Nat} {w : World} (hB : B ≤ w.heap.size) : ChainAt B 0 (w.alloc (.cells #[.bool true, .slice none 0 0] 45)) (some ⟨w.heap.size, 0, none⟩) 1 := by
  refine ⟨fun _ => False, [(true, .slice none 0 0)], rfl, ⟨rfl, .inr ⟨w.heap.size, 1, #[.bool true, .slice none 0 0], rfl, hB, heap_alloc_new _ _, Nat.le_refl _, by unfold maxLen; omega, rfl, rfl⟩⟩, (fun _ h => h.elim), (fun _ _ h => h), fun w' _ i p s hp hs => ?_⟩
  match i, hp, hs with
  | 0, hp, hs => cases hp; cases hs; exact ⟨rfl, none, 0, rfl, ⟨rfl, Nat.le_refl _, Nat.zero_le _, fun _ => ⟨rfl, rfl⟩, fun a ha => by cases ha⟩⟩
theorem chain_step {B j : Nat} {w w2 : World} {F : Nat → Prop} {vs : List (Bool × Value)} {ag ag2 : Option Addr} {c c2 : Nat} (h1 : vs.length = j + 1) (hlt : ∀ b, (Value.slice ag (j + 1) c).ownBlock = some b → b < w.heap.size) (h3 : ∀ b, F b → b < w.heap.size)
    (h4 : ∀ b, (Value.slice ag (j + 1) c).ownBlock = some b → ¬ F b)
    (h5 : ∀ w', Agree F w w' → ∀ (i : Nat) (p : Bool × Value) (s : StZ), vs[i]? = some p → (zA (chainS j))[i]? = some s → p.1 = s.1 ∧ ∃ eg c, p.2 = .slice eg s.2.length c ∧ ReadsE w' eg s.2.length c (cellsEd s.2)) {L : Obj}
    (hrow : w2.ownsRow B 45 2 (.slice ag2 (j + 1 + 1) c2) (j + 1 + 1) (cellsA vs ++ [.bool false, .slice (some ⟨w.heap.size, 0, none⟩) 2 2]))
    (hg : ((w.alloc (.cells #[.int .u8 97, .int .i64 (j : Nat), .int .u8 98, .int .i64 (j : Nat)] 47)).alloc L).grownBy w2 (Value.slice ag (j + 1) c).ownBlock)
    (hw : (Value.slice ag2 (j + 1 + 1) c2).ownBlock = (Value.slice ag (j + 1) c).ownBlock ∨ (Value.slice ag2 (j + 1 + 1) c2).ownBlock = some (w.heap.size + 1 + 1)) :
    ChainAt B (j + 1) w2 ag2 c2 := by
  have hold : ∀ b, b < w.heap.size → (Value.slice ag (j + 1) c).ownBlock ≠ some b → w2.heap[b]? = w.heap[b]? := fun b h1 h2 =>
    (hg.block b (by simp; omega) (fun e => h2 e.symm)).trans ((heap_alloc_old _ _ (by simp; omega)).trans (heap_alloc_old _ _ h1))
  have hnew : w2.heap[w.heap.size]? = (w.alloc (.cells #[.int .u8 97, .int .i64 (j : Nat), .int .u8 98, .int .i64 (j : Nat)] 47)).heap[w.heap.size]? :=
    (hg.block _ (by simp; omega) (fun e => by have := hlt _ e.symm; omega)).trans (heap_alloc_old _ _ (by simp))
  have hsz := hg.size
  simp at hsz
  refine ⟨fun b => F b ∨ b = w.heap.size, vs ++ [(false, .slice (some ⟨w.heap.size, 0, none⟩) 2 2)], by simp [h1], by rw [cellsA_app]; exact hrow, fun b hb => ?_, fun b hb hF => ?_, fun w' hv i p s hp hs => ?_⟩
  · rcases hb with hb | hb
    · have := h3 b hb; omega
    · omega
  · rcases hw with h | h
    · rw [h] at hb
      rcases hF with hF | hF
      · exact h4 b hb hF
      · have := hlt b hb; omega
    · rw [h] at hb
      simp at hb
      rcases hF with hF | hF
      · have := h3 b hF; omega
      · omega
  · have hz : zA (chainS (j + 1)) = zA (chainS j) ++ [(false, [(97, (j : Int)), (98, (j : Int))])] := by rw [chain_succ]; unfold zA; rw [List.map_append]; rfl
    rw [hz] at hs
    have hzl : (zA (chainS j)).length = j + 1 := by rw [zA_len, links_len]
    by_cases hi : i < j + 1
    · rw [List.getElem?_append_left (by omega)] at hp
      rw [List.getElem?_append_left (by omega)] at hs
      exact h5 w' (fun b hb => (hv b (.inl hb)).trans (hold b (h3 b hb) fun e => h4 b e hb)) i p s hp hs
    · rw [List.getElem?_append_right (by omega)] at hp hs
      have hi0 : i - vs.length = 0 := by have := (List.getElem?_eq_some_iff.1 hp).1; simp at this; omega
      have hi1 : i - (zA (chainS j)).length = 0 := by omega
      rw [hi0] at hp
      rw [hi1] at hs
      cases hp
      cases hs
      exact ⟨rfl, _, 2, rfl, readsE_block (readsE_four w _ _ _ _ 47) ((hv _ (.inr rfl)).trans hnew)⟩
end Go.Proofs.Ytkcledkfgmdcgaa
