/- Readings that hold in every world that agrees on some blocks. -/
import Derived.Test.YtkcledkfgmdcgaaRestMath
import Derived.Test.YtkcledkfgmdcgaaDawZ
import Derived.Test.YtkcledkfgmdcgaaKept
namespace Go.Proofs.Ytkcledkfgmdcgaa
open Go.RowKit
set_option linter.unusedVariables false
set_option linter.unusedSimpArgs false

def Agree (F : Nat → Prop) (w w' : World) : Prop := ∀ b, F b → w'.heap[b]? = w.heap[b]?
theorem Agree.refl (F : Nat → Prop) (w : World) : Agree F w w := fun _ _ => rfl
theorem Agree.trans {F : Nat → Prop} {a b c : World} (h : Agree F a b) (k : Agree F b c) : Agree F a c := fun x hx => (k x hx).trans (h x hx)
theorem Agree.mono {F G : Nat → Prop} {a b : World} (h : Agree G a b) (k : ∀ x, F x → G x) : Agree F a b := fun x hx => h x (k x hx)
theorem Agree.below {F : Nat → Prop} {B : Nat} {w w' : World} (h : Below B w w') (k : ∀ x, F x → x < B) : Agree F w w' := fun x hx => h.block x (k x hx)
theorem Agree.grown {F : Nat → Prop} {w w' : World} {ob : Option Nat} (h : w.grownBy w' ob) (k : ∀ x, F x → x < w.heap.size ∧ ob ≠ some x) : Agree F w w' := fun x hx => h.block x (k x hx).1 fun he => (k x hx).2 he.symm
theorem cell_agree {w w' : World} {a : Addr} (h : w'.heap[a.block]? = w.heap[a.block]?) : w'.cell? a = w.cell? a := by unfold World.cell?; rw [h]
theorem readsE_agree {w w' : World} {ao : Option Addr} {len cap : Nat} {xs : List Value} (h : ReadsE w ao len cap xs) (k : ∀ x, x < w.heap.size → w'.heap[x]? = w.heap[x]?) : ReadsE w' ao len cap xs :=
  ⟨h.length, h.le, h.most, h.bare, fun a ha j u hu => by
    have hc := h.cell a ha j u hu
    have hlt := World.block_lt_of_cell? w _ hc
    rw [cell_agree (k _ hlt)]; exact hc⟩
theorem reads_agree {w w' : World} {ao : Option Addr} {len cap : Nat} {xs : List Value} (h : Reads w ao len cap xs) (k : ∀ x, x < w.heap.size → w'.heap[x]? = w.heap[x]?) : Reads w' ao len cap xs :=
  ⟨h.length, h.le, h.most, h.bare, fun a ha j u hu => by
    have hc := h.cell a ha j u hu
    have hlt := World.block_lt_of_cell? w _ hc
    rw [cell_agree (k _ hlt)]; exact hc⟩
/-- Words in memory, whatever happens outside of some blocks. -/
def RAt (F : Nat → Prop) (w : World) (ra : Option Addr) (rl rc : Nat) (L : List Wd) : Prop := ∀ w', Agree F w w' → Reads w' ra rl rc (L.map strV)
theorem RAt.here {F : Nat → Prop} {w : World} {ra : Option Addr} {rl rc : Nat} {L : List Wd} (h : RAt F w ra rl rc L) : Reads w ra rl rc (L.map strV) := h w (Agree.refl _ _)
theorem RAt.keep {F : Nat → Prop} {w w' : World} {ra : Option Addr} {rl rc : Nat} {L : List Wd} (h : RAt F w ra rl rc L) (k : Agree F w w') : RAt F w' ra rl rc L := fun v hv => h v (k.trans hv)
theorem RAt.of {w : World} {ra : Option Addr} {rl rc : Nat} {L : List Wd} (h : Reads w ra rl rc (L.map strV)) : RAt (· < w.heap.size) w ra rl rc L := fun v hv => reads_agree h hv
theorem RAt.wide {F G : Nat → Prop} {w : World} {ra : Option Addr} {rl rc : Nat} {L : List Wd} (h : RAt F w ra rl rc L) (k : ∀ x, F x → G x) : RAt G w ra rl rc L := fun v hv => h v (hv.mono k)
/-- States, and of each the words that it takes. -/
structure XAt (F : Nat → Prop) (w : World) (xa : Option Addr) (xm xc : Nat) (ya : Option Addr) (ym yc : Nat) (S : List Stt) (vs : List (Bool × Value)) (ws : List Value) : Prop where
  lv : vs.length = S.length
  lw : ws.length = S.length
  xo : ∀ w', Agree F w w' → ReadsE w' xa xm xc (cellsA vs)
  xi : ∀ w', Agree F w w' → ∀ (i : Nat) (p : Bool × Value) (s : Stt), vs[i]? = some p → S[i]? = some s → p.1 = s.1 ∧ ∃ eg c, p.2 = .slice eg s.2.length c ∧ ReadsE w' eg s.2.length c (cellsEd (zE s.2))
  yo : ∀ w', Agree F w w' → Reads w' ya ym yc ws
  yi : ∀ w', Agree F w w' → ∀ (i : Nat) (v : Value), ws[i]? = some v → i < S.length → ∃ a c, v = .slice a (langS S i).length c ∧ Reads w' a (langS S i).length c ((langS S i).map strV)
theorem XAt.keep {F : Nat → Prop} {w w' : World} {xa ya : Option Addr} {xm xc ym yc : Nat} {S : List Stt} {vs : List (Bool × Value)} {ws : List Value} (h : XAt F w xa xm xc ya ym yc S vs ws) (k : Agree F w w') : XAt F w' xa xm xc ya ym yc S vs ws :=
  ⟨h.lv, h.lw, fun v hv => h.xo v (k.trans hv), fun v hv => h.xi v (k.trans hv), fun v hv => h.yo v (k.trans hv), fun v hv => h.yi v (k.trans hv)⟩
theorem XAt.wide {F G : Nat → Prop} {w : World} {xa ya : Option Addr} {xm xc ym yc : Nat} {S : List Stt} {vs : List (Bool × Value)} {ws : List Value} (h : XAt F w xa xm xc ya ym yc S vs ws) (k : ∀ x, F x → G x) : XAt G w xa xm xc ya ym yc S vs ws :=
  ⟨h.lv, h.lw, fun v hv => h.xo v (hv.mono k), fun v hv => h.xi v (hv.mono k), fun v hv => h.yo v (hv.mono k), fun v hv => h.yi v (hv.mono k)⟩
theorem XAt.states {F : Nat → Prop} {w : World} {xa ya : Option Addr} {xm xc ym yc : Nat} {S : List Stt} {vs : List (Bool × Value)} {ws : List Value} (h : XAt F w xa xm xc ya ym yc S vs ws) : ReadsA w xa xm xc (zA S) := by
  refine ⟨vs, by rw [h.lv, zA_len], h.xo w (Agree.refl _ _), fun i p s hp hs => ?_⟩
  have hi := (List.getElem?_eq_some_iff.1 hs).1
  rw [zA_len] at hi
  obtain ⟨t, ht⟩ : ∃ t, S[i]? = some t := ⟨_, List.getElem?_eq_getElem hi⟩
  have := zA_at ht
  rw [hs] at this
  cases this
  simp only [zE_len]
  exact h.xi w (Agree.refl _ _) i p t hp ht
theorem XAt.count {F : Nat → Prop} {w : World} {xa ya : Option Addr} {xm xc ym yc : Nat} {S : List Stt} {vs : List (Bool × Value)} {ws : List Value} (h : XAt F w xa xm xc ya ym yc S vs ws) : xm = S.length ∧ ym = S.length := by
  have h1 := h.states.count
  rw [zA_len] at h1
  have h2 := (h.yo w (Agree.refl _ _)).length
  rw [h.lw] at h2
  exact ⟨h1.symm, h2.symm⟩
theorem XAt.nil (F : Nat → Prop) (w : World) : XAt F w none 0 0 none 0 0 [] [] [] :=
  ⟨rfl, rfl, fun _ _ => ⟨rfl, Nat.le_refl _, Nat.zero_le _, fun _ => ⟨rfl, rfl⟩, fun a ha => by cases ha⟩, (fun _ _ i p s h => by simp at h), fun _ _ => Reads.nil _, (fun _ _ i v h => by simp at h)⟩
theorem blk_set {w : World} {b i : Nat} {cs : Array Value} {t : TypeId} (h : w.heap[b]? = some (.cells cs t (0, 0))) (v : Value) : (w.setCell ⟨b, i, none⟩ v).heap[b]? = some (.cells (cs.setIfInBounds i v) t (0, 0)) := by
  show (w.heap.modify b _)[b]? = _
  rw [Array.getElem?_modify, if_pos rfl, h]; rfl
theorem blk_ne {w : World} {b c i : Nat} (h : c ≠ b) (v : Value) : (w.setCell ⟨b, i, none⟩ v).heap[c]? = w.heap[c]? := by
  show (w.heap.modify b _)[c]? = _
  rw [Array.getElem?_modify, if_neg (Ne.symm h)]
theorem Agree.set {F : Nat → Prop} {w : World} {b i : Nat} (h : ¬ F b) (v : Value) : Agree F w (w.setCell ⟨b, i, none⟩ v) := fun x hx => blk_ne (fun e => h (by rw [← e]; exact hx)) v
/-- An own row of words: whatever happens outside of new blocks. -/
theorem RAt.own {w : World} {base e m oc : Nat} {og : Option Addr} {L : List Wd} (h : w.ownsRow base e 1 (.slice og m oc) m (L.map strV)) : RAt (fun b => base ≤ b ∧ b < w.heap.size) w og m oc L := fun v hv => by
  have h1 := Reads.own h
  refine ⟨h1.length, h1.le, h1.most, h1.bare, fun a ha j u hu => ?_⟩
  have hc := h1.cell a ha j u hu
  have hlt := World.block_lt_of_cell? w _ hc
  have hb : base ≤ (a.add j).block := by
    rcases h.2 with ⟨hn, _⟩ | ⟨g, cap, cur, hvv, hbg, _⟩
    · simp only [Value.slice.injEq] at hn
      rw [hn.1] at ha; cases ha
    · simp only [Value.slice.injEq] at hvv
      rw [hvv.1] at ha; cases ha
      rw [Addr.add_lit]; exact hbg
  rw [cell_agree (hv _ ⟨hb, hlt⟩)]; exact hc
end Go.Proofs.Ytkcledkfgmdcgaa
