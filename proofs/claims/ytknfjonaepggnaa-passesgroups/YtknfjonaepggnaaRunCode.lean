/- A range over a function whose values lie in memory: round by round the iterator says what its values show in the world of that round. The landed run.pack: a block's bytes. The landed run.payloads: an iterator over a run's records. The landed run.Encode. -/
import Derived.Test.YtknfjonaepggnaaFound
import Derived.RangeFuncNested
import Derived.RangeFuncBound
import Derived.RangeFuncCalls
import Derived.RangeFuncLeaves
import Derived.Shelf.Abstract
import Derived.Test.YtknfjonaepggnaaRunMay
import Derived.Test.YtknfjonaepggnaaRef09All
import Derived.Test.YtknfjonaepggnaaNumAll
import Derived.Shelf.RegionOpen
import Derived.WalkKit
import Derived.OwnWalkIn
import Derived.TacticsInMore
import Derived.LoopNIn
import Derived.LoopIn
import Derived.Test.YtknfjonaepggnaaFrameAll
namespace Go.Proofs.Ytknfjonaepggnaa
open Go.RowKit
set_option linter.unusedVariables false
set_option linter.unusedSimpArgs false

theorem Grow.grown {A B : World} (h : Grow A B) (row : Option Nat) : A.grownBy B row := ⟨h.os, h.tape, h.output, h.size, fun k hk _ => h.block k hk⟩

/-- An iterator's word: N rounds; the k-th hands out what 'V k' says; 'Kp' is what a round that goes on must keep. -/
def GivesBy (P : Program) (g : Nat) (lb : Array Value) (N : Nat) (V : Nat → Array Value → World → Prop) (Kp : World → World → Prop) (w : World) : Prop :=
  ∀ (l : Nat) (J : Nat → World → Prop) (Jx : World → Prop) (W : World), Kp w W →
    (∀ k A B, J k A → Grow A B → J k B) → (∀ A B, Jx A → Grow A B → Jx B) →
    (∀ k args W1, k < N → J k W1 → V k args W1 → YieldAt Fence.wide 8 P l args W1 fun e W' => (e = .returned (.bool true) ∧ J (k + 1) W' ∧ Kp W1 W') ∨ (e = .returned (.bool false) ∧ Jx W')) →
    J 0 W → CallsIn Fence.wide 9 P g (#[.func (.yield l) #[] #[]] ++ lb) W fun e W' => (∃ v, e = .returned v) ∧ (J N W' ∨ Jx W')

/-- How a round's body may be left. -/
def postBy (B : Nat) (Kp : World → World → Prop) (I : World → Prop) (Ix : Code → World → Prop) (W : World) : Exit → Act → World → Prop
  | .normal, _, W' => KeepsFrom B W W' ∧ Kp W W' ∧ I W'
  | .ret, _, W' => KeepsFrom B W W' ∧ Ix .ret W'
  | .exit id, _, W' => KeepsFrom B W W' ∧ Ix (.exit id) W'
  | _, _, _ => False

abbrev markBy (D : Nat) : Deferred := { target := .collected D, args := #[] }

theorem range_by {P : Program} {g : Operand} {ps : Array Tmp} {assign body : Code} {Q : Exit → Act → World → Prop} {a : Act} {w : World}
    {gf : Nat} {lb : Array Value} (hg : a.eval g = .func (.func gf) #[] lb) (eg : ∀ args w, (callFunc gf args).run P w = .ok (.enter gf args) w)
    {N : Nat} {V : Nat → Array Value → World → Prop} {Kp : World → World → Prop} (hseq : GivesBy P gf lb N V Kp w)
    (hKt : ∀ {A B C : World}, Kp A B → Kp B C → Kp A C) (hKg : ∀ {A B : World}, w.heap.size ≤ A.heap.size → Grow A B → Kp A B) (hKb : ∀ (W : World) (l : Nat) (o : Obj), w.heap.size ≤ l → Kp W (W.putObj l o))
    (hV : ∀ k args, OwnFrom w.heap.size (fun (_ : Unit) W => V k args W)) (hsz : ∀ k args W, V k args W → args.size = ps.size)
    (I : Nat → World → Prop) (Ix : Code → World → Prop) (hI : OwnFrom w.heap.size I) (hIx : OwnFrom w.heap.size Ix) (h0 : I 0 w) (a₁ : Array Value → Act)
    (hassign : ∀ (l k : Nat) (args : Array Value) (W : World) (K : Act → World → Prop), V k args W → K (a₁ args) W →
      assign.wpIn (Fence.wide.inRound l) 8 P (Exit.then K (fun _ _ _ => False)) { tmps := (ps.zip args).foldl (fun t (p, v) => t.setIfInBounds p v) a.tmps, defers := [] } W)
    (hbody : ∀ (l k : Nat) (args : Array Value) (W : World), k < N → I k W → V k args W → w.heap.size ≤ W.heap.size → body.wpIn (Fence.wide.inRound l) 8 P (postBy w.heap.size Kp (I (k + 1)) Ix W) (a₁ args) W)
    (hdone : ∀ (D : Nat) (W : World), w.heap.size ≤ D → I N W → W.heap[D]? = some (.deferred (some [])) → Q .normal { a with defers := markBy D :: a.defers } W)
    (hstop : ∀ (D : Nat) (c : Code) (W : World), w.heap.size ≤ D → Ix c W → W.heap[D]? = some (.deferred (some [])) → c.wpIn Fence.wide 10 P Q { a with defers := markBy D :: a.defers } W) :
    (Code.rangeFunc g ps assign body).wpIn Fence.wide 10 P Q a w := by
  refine wpIn_rangeFunc fun fn hfn => ?_
  generalize hS : w.heap.size = S at *
  -- the loop's record, and what is known of it and of the deferred calls' block
  let rc : LoopState → Option Code → Loop := fun st pe => { state := st, pending := pe, fn, tmps := a.tmps, params := ps, assign, body, defers := S }
  let Held : LoopState → Option Code → World → Prop := fun st pe W => W.heap[S + 1]? = some (.loop (rc st pe)) ∧ W.heap[S]? = some (.deferred (some []))
  have put : ∀ {st pe W} (st' pe'), Held st pe W → Held st' pe' (W.putObj (S + 1) (.loop (rc st' pe'))) := fun st' pe' h =>
    ⟨World.putObj_heap_same (Array.getElem?_eq_some_iff.1 h.1).1, (World.putObj_heap_other (by omega)).trans h.2⟩
  have grow : ∀ {st pe A B}, Held st pe A → Grow A B → Held st pe B := fun h hb =>
    ⟨(hb.block _ (Array.getElem?_eq_some_iff.1 h.1).1).trans h.1, (hb.block _ (Array.getElem?_eq_some_iff.1 h.2).1).trans h.2⟩
  have keep : ∀ {st pe A B}, Held st pe A → KeepsFrom S A B → Held st pe B := fun h hk => ⟨hk.same _ _ (by omega) h.1 rfl, hk.same _ _ (Nat.le_refl _) h.2 rfl⟩
  have big : ∀ {st pe W}, Held st pe W → S ≤ W.heap.size := fun h => Nat.le_of_lt (Array.getElem?_eq_some_iff.1 h.2).1
  have grI : ∀ k A B, I k A → Grow A B → I k B := fun k A B h hb => hI k A B none h (hb.grown _) (fun r e => by cases e)
  have grX : ∀ c A B, Ix c A → Grow A B → Ix c B := fun c A B h hb => hIx c A B none h (hb.grown _) (fun r e => by cases e)
  obtain ⟨W1, hW1⟩ : ∃ W1, W1 = (w.alloc (.deferred (some []))).alloc (.loop (rc .ready none)) := ⟨_, rfl⟩
  have hG1 : Grow w W1 := by
    rw [hW1]
    exact ((Below.refl _ w).alloc (Nat.le_refl _) _).alloc (by simp) _
  have hH1 : Held .ready none W1 := by
    rw [hW1]
    refine ⟨?_, ?_⟩
    · have := World.alloc_heap_new (w.alloc (.deferred (some []))) (.loop (rc .ready none))
      rw [World.size_alloc, hS] at this
      exact this
    · have := World.alloc_heap_new w (.deferred (some []))
      rw [hS] at this
      exact (Below.heap_alloc _ _ _ (by rw [World.size_alloc]; omega)).trans this
  refine ⟨S + 1, [markBy S], W1, { target := .fn (.func gf) lb, args := #[.func (.yield (S + 1)) #[] #[]] }, W1, gf, #[.func (.yield (S + 1)) #[] #[]] ++ lb, W1, ?_, ?_, fun _ _ => trivial, ?_, fun h => ?_, ?_⟩
  · rw [hW1]
    have := run_enterLoop_outer (P := P) (w := w) fn a.tmps ps assign body
    rw [hS] at this
    exact this
  · simp only [resolve, hg]
    simp [go_sem]
  · simp [invoke, go_sem, eg]
  · cases h
  refine (hseq (S + 1) (fun k W => I k W ∧ Held .ready none W) (fun W => ∃ c, Ix c W ∧ Held .done (some c) W) W1 (hKg (by omega) hG1)
    (fun k A B h hb => ⟨grI k A B h.1 hb, grow h.2 hb⟩) (fun A B ⟨c, h1, h2⟩ hb => ⟨c, grX c A B h1 hb, grow h2 hb⟩) ?_ ⟨grI _ _ _ h0 hG1, hH1⟩).mono ?_
  · -- one round
    rintro k args W hk ⟨hi, hh⟩ hv
    have hy := run_yield (P := P) (args := args) hh.1 (hsz k args W hv)
    refine ⟨fn, _, assign, body, hy, roundIn_of_wpIn hfn (hassign (S + 1) k args W _ hv ⟨_, run_beginRound hh.1 rfl, ?_⟩)⟩
    have hb := put .busy none hh
    have hi2 : I k (W.putObj (S + 1) (.loop (rc .busy none))) := hI.putObj _ hi (by omega) hh.1 rfl
    have hv2 : V k args (W.putObj (S + 1) (.loop (rc .busy none))) := (hV k args).putObj (s := ()) _ hv (by omega) hh.1 rfl
    have hk2 : Kp W (W.putObj (S + 1) (.loop (rc .busy none))) := hKb _ _ _ (by omega)
    refine wpIn_mono (hbody (S + 1) k args _ hk hi2 hv2 (big hb)) ?_
    rintro e a3 W3 hp
    cases e with
    | normal =>
      obtain ⟨k3, kp3, i3⟩ := hp
      have h3 := keep hb k3
      exact ⟨_, _, run_endRound none h3.1, .inl ⟨rfl, ⟨hI.putObj _ i3 (by omega) h3.1 rfl, put .ready none h3⟩, hKt (hKt hk2 kp3) (hKb _ _ _ (by omega))⟩⟩
    | ret =>
      obtain ⟨k3, i3⟩ := hp
      have h3 := keep hb k3
      exact ⟨_, _, run_endRound (some .ret) h3.1, .inr ⟨rfl, .ret, hIx.putObj _ i3 (by omega) h3.1 rfl, put .done (some .ret) h3⟩⟩
    | exit id =>
      obtain ⟨k3, i3⟩ := hp
      have h3 := keep hb k3
      exact ⟨_, _, run_endRound (some (.exit id)) h3.1, .inr ⟨rfl, .exit id, hIx.putObj _ i3 (by omega) h3.1 rfl, put .done (some (.exit id)) h3⟩⟩
    | goto t => exact hp.elim
    | panic ch => exact hp.elim
    | outgrown => exact hp.elim
  · -- behind the iterator
    rintro e W2 ⟨⟨v, rfl⟩, ⟨hi, hh⟩ | ⟨c, hc, hh⟩⟩
    · have hend := run_endLoop (P := P) hh.1 (by simp [rc])
      exact ⟨none, _, hend, hdone S _ (Nat.le_refl _) (hI.putObj _ hi (by omega) hh.1 rfl) ((World.putObj_heap_other (by omega)).trans hh.2)⟩
    · have hend := run_endLoop (P := P) hh.1 (by simp [rc])
      exact ⟨some c, _, hend, hstop S c _ (Nat.le_refl _) (hIx.putObj _ hc (by omega) hh.1 rfl) ((World.putObj_heap_other (by omega)).trans hh.2)⟩
#print axioms range_by
end Go.Proofs.Ytknfjonaepggnaa

namespace Go.Proofs.Ytknfjonaepggnaa
open Go.RowKit
set_option linter.unusedVariables false
set_option linter.unusedSimpArgs false

/-- A struct's block lies on behind an append onto a row of another type. -/
theorem cells_kept {w w' : World} {b base e n size : Nat} {cs : Array Value} {t : TypeId} {v : Value} {xs : List Value} (h : w.heap[b]? = some (.cells cs t (0, 0))) (hr : w.ownsRow base e size v n xs) (hne : t ≠ e) (hg : w.grownBy w' v.ownBlock) : w'.heap[b]? = some (.cells cs t (0, 0)) := by
  refine (hg.block b (Array.getElem?_eq_some_iff.1 h).1 fun e' => ?_).trans h
  rcases hr.2 with ⟨rfl, _⟩ | ⟨g, cap, cur, rfl, _, hgb, _⟩
  · simp [Value.ownBlock] at e'
  · obtain rfl : b = g := by simpa [Value.ownBlock] using e'
    rw [h] at hgb
    simp at hgb
    exact hne hgb.2
theorem cells_later {w w' : World} {b : Nat} {o : Obj} (h : w.heap[b]? = some o) (hb : Grow w w') : w'.heap[b]? = some o := (hb.block b (Array.getElem?_eq_some_iff.1 h).1).trans h
theorem blk2_cells {w : World} {b : Nat} {x y : Value} {t : TypeId} (h : w.heap[b]? = some (.cells #[x, y] t (0, 0))) : w.cell? ⟨b, 0, none⟩ = some x ∧ w.cell? ⟨b, 1, none⟩ = some y := by
  constructor <;> simp [World.cell?, h]

set_option maxRecDepth 100000 in
set_option maxHeartbeats 4000000 in
theorem pack_any {w : World} {ao : Option Addr} {len cap : Nat} {es : List En} (h : ReadsE w ao len cap (cellsE es)) (ho : ∀ e ∈ es, oneE e = true) (hl : len ≤ 255) :
    Calls Try.prog 54 #[.slice ao len cap] w fun e w' => BytesOut w (blockL es) e w' := by
  have hlx := h.count
  subst hlx
  obtain ⟨i0, hi, hz0, hz1, hz2⟩ := info_parts Try.infoByte
  have p0 := put_any none 0 0 [] es.length w (Reads.nil w) (by omega) (by omega)
  rw [List.nil_append] at p0
  go_enter Try.func54, Try.ntmps54
  go_wp2_with fail
  refine p0.mono ?_
  rintro e wa ⟨g, c, m, hm, rfl, hra, hba⟩
  clear hm
  have hra' : wa.ownsRow w.heap.size 5 1 (.slice (some ⟨g, 0, none⟩) m c) m ((encode es.length ++ entsL [] (es.take 0)).map (.int .u8)) := by simpa [entsL] using hra
  clear p0 hra
  go_wp2_with fail
  go_loopw [3, 4, 14] (fun bv sv i wr => ∃ (j : Nat) (ag : Option Addr) (c m : Nat), i = .int .i64 j ∧ bv = .slice ag m c ∧ sv = strV (lastW [] (es.take j)) ∧ j ≤ es.length ∧ wr.ownsRow w.heap.size 5 1 (.slice ag m c) m ((encode es.length ++ entsL [] (es.take j)).map (.int .u8)) ∧ Below w.heap.size w wr) (fun _ _ i _ => (es.length - intOf i).toNat)
  case atStart => exact ⟨0, _, c, m, rfl, rfl, rfl, by omega, hra', hba⟩
  case round =>
    obtain ⟨j, ag, c, m, rfl, rfl, rfl, hj, hr, hB⟩ := hrel
    clear hra' hba
    have hlen : m = (encode es.length ++ entsL [] (es.take j)).length := by have := hr.1; simp at this ⊢; omega
    have hsm : m ≤ 100000 := by
      have h1 := ents_len (es.take j) [] fun e he => ho e (List.mem_of_mem_take he)
      have h2 := encode_len es.length
      rw [List.length_take] at h1
      rw [hlen, List.length_append]
      omega
    have Hlen : Hid _ := hlen
    clear hlen
    by_cases hjl : j < es.length
    case neg =>
      have hje : j = es.length := by omega
      have hE : Hid (encode es.length ++ entsL [] (es.take j) = blockL es) := by show _ = _; rw [hje, List.take_of_length_le (Nat.le_refl _)]; rfl
      have hlt : ¬ (j : Int) < es.length := by omega
      clear hje hjl
      rw [hE.out] at hr Hlen
      go_wp2
      go_ret
      exact ⟨ag, c, m, rfl, Hlen.out, hr, hB⟩
    have hji : (j : Int) < es.length := by omega
    obtain ⟨⟨ek, en⟩, he⟩ : ∃ e, es[j]? = some e := ⟨_, List.getElem?_eq_getElem hjl⟩
    have hone := one_ok.1 (ho _ (List.mem_of_getElem? he))
    simp only at hone
    obtain ⟨b, off, rfl, hbl, hc⟩ := h.at (by omega)
    have c1 : wr.cell? ⟨b, off + j * 2, none⟩ = some (strV ek) := (hB.cell (p := ⟨b, off + j * 2, none⟩) hbl).trans (hc j _ he).1
    have c2 : wr.cell? ⟨b, off + j * 2 + 1, none⟩ = some (.int .u64 (en : Nat)) := (hB.cell (p := ⟨b, off + j * 2 + 1, none⟩) hbl).trans (hc j _ he).2
    have hnext : Hid (encode es.length ++ entsL [] (es.take (j + 1)) = (encode es.length ++ entsL [] (es.take j)) ++ entL (lastW [] (es.take j)) (ek, en)) := by show _ = _; rw [ents_next he, List.append_assoc]
    have hlast : Hid (lastW [] (es.take (j + 1)) = ek) := last_take he
    generalize hwas : lastW [] (es.take j) = was at hnext
    have hwl : was.length ≤ 255 := by
      rw [← hwas]
      cases j with
      | zero => simp [lastW]
      | succ j' =>
        obtain ⟨e', he'⟩ : ∃ e, es[j']? = some e := ⟨_, List.getElem?_eq_getElem (by omega)⟩
        rw [last_take he']
        exact (one_ok.1 (ho _ (List.mem_of_getElem? he'))).2.1
    have hal := alike_le was ek
    obtain ⟨N, hN⟩ : ∃ N, N = alikeW was ek := ⟨_, rfl⟩
    have HN : Hid _ := hN
    have hNe : N ≤ ek.length := by omega
    have hNi : (N : Int) ≤ ek.length := by omega
    have hwr : IntKind.i64.wrap ((ek.length : Int) - N) = ((ek.length - N : Nat) : Int) := by simp [IntKind.wrap, IntKind.bits, IntKind.signed]; omega
    have hsub : (ek.length : Int) - N = ((ek.length - N : Nat) : Int) := by omega
    have hsl : ∀ W, (Instr.slice 9 (strV ek) (some (.int .i64 (N : Int))) none none).run Try.prog W = .ok (strV (ek.drop N)) W := fun W => by
      rw [run_slice_string_l W 9 _ Try.underlying9 .i64 (N : Int) (by omega) (by simp [ByteArray.size]; omega), Int.toNat_natCast, str_from]
    obtain ⟨w1, hw1⟩ : ∃ w1, w1 = wr.alloc (.cells #[strV ek, .int .u64 en] 64) := ⟨_, rfl⟩
    have hG1 : Grow wr w1 := by rw [hw1]; exact (Below.refl _ _).alloc (Nat.le_refl _) _
    have k1 : w1.heap[wr.heap.size]? = some (.cells #[strV ek, .int .u64 en] 64 (0, 0)) := by rw [hw1]; exact Array.getElem?_push_size
    have Hw1 : Hid _ := hw1
    have ps := shared_any was ek w1 (by omega) (by omega)
    rw [← hN] at ps
    have hzl : m = (encode es.length ++ entsL [] (es.take j)).length := Hlen.out
    generalize hzs : encode es.length ++ entsL [] (es.take j) = zs at hr hnext hzl
    have Hzl : Hid _ := hzl
    have hB1 := Below.trans hB (hG1.mono hB.size)
    have hr1 := own_later hr hG1 (Nat.le_refl _)
    clear hw1 hN hal hwas he hc hzs hzl Hlen
    go_wp2_with fail
    rw [← Hw1.out]
    refine ps.mono ?_
    rintro e w2 ⟨rfl, md, hw2⟩
    have hG2 : Grow w1 w2 := by rw [hw2]; exact below_drewN (Below.refl _ _) _
    have hB2 := Below.trans hB1 (hG2.mono hB1.size)
    have hr2 := own_later hr1 hG2 (Nat.le_refl _)
    have k2 := cells_later k1 hG2
    have p1 := put_any none 0 0 [] N w2 (Reads.nil w2) (by omega) (by omega)
    rw [List.nil_append] at p1
    clear hw2 ps hr1 k1 hB1 hG1 hG2 hr c1 c2 Hw1 hB
    go_wp2_with fail
    refine p1.mono ?_
    rintro e w3 ⟨g3, c3, m3, hm3, rfl, hq3, hG3⟩
    have e3 := encode_len N
    have hB3 := Below.trans hB2 (hG3.mono hB2.size)
    have hr3 := own_later hr2 hG3 (Nat.le_refl _)
    have k3 := cells_later k2 hG3
    have hm3' : m3 ≤ 10 := by omega
    clear p1 hr2 k2 hB2 hG3 hm3 e3
    go_wp2_with (at_builtin; refine wpList_append_grown rfl _ _ 30 rfl w.heap.size 5 Try.infoByte rfl Try.underlying30 _ _ _ _ rfl hr3 _ _ _ _ rfl (Reads.own hq3) (ints_oneCell _ _) (by unfold maxLen; omega) (by omega) hB3.size ?_; intro ag4 c4 w4 hr4 hg4 hb4; have hB4 := Below.trans hB3 hb4; have k4 := cells_kept k3 hr3 (by decide) hg4; have d4 := (blk2_cells k4).1)
    rw [← List.map_append] at hr4
    have hm4 : m + m3 ≤ 100010 := by omega
    generalize hM4 : m + m3 = m4 at hr4 hm4 ⊢
    have p2 := put_any none 0 0 [] (ek.length - N) w4 (Reads.nil w4) (by omega) (by omega)
    rw [List.nil_append] at p2
    clear hr3 hq3 hg4 hb4 k3 hB3 hM4
    go_wp2_with fail
    refine p2.mono ?_
    rintro e w5 ⟨g5, c5, m5, hm5, rfl, hq5, hG5⟩
    have e5 := encode_len (ek.length - N)
    have hB5 := Below.trans hB4 (hG5.mono hB4.size)
    have hr5 := own_later hr4 hG5 (Nat.le_refl _)
    have k5 := cells_later k4 hG5
    have hm5' : m5 ≤ 10 := by omega
    have hdz : (⟨(ek.drop N).toArray⟩ : ByteArray).size = ek.length - N := by simp [ByteArray.size]
    have Hdz : Hid _ := hdz
    clear p2 hr4 k4 hB4 hG5 hm5 e5 d4 hdz
    go_wp2_with (first | (at_builtin; refine wpList_append_grown rfl _ _ 30 rfl w.heap.size 5 Try.infoByte rfl Try.underlying30 _ _ _ _ rfl hr5 _ _ _ _ rfl (Reads.own hq5) (ints_oneCell _ _) (by unfold maxLen; omega) (by omega) hB5.size ?_; intro ag6 c6 w6 hr6 hg6 hb6; have hB6 := Below.trans hB5 hb6; have k6 := cells_kept k5 hr5 (by decide) hg6; have d6 := (blk2_cells k6).1; rw [← List.map_append] at hr6; have hm6 : m4 + m5 ≤ 100020 := by omega) | (at_builtin; refine Lib.wpList_append_own_string _ rfl _ _ 30 9 rfl w.heap.size 5 i0 Try.underlying30 Try.underlying9 hi hz0 hz1 hz2 _ (m4 + m5) _ rfl hr6 ⟨(ek.drop N).toArray⟩ rfl (by rw [Hdz.out]; unfold maxLen; omega) (by rw [Hdz.out]; omega) hB6.size ?_; intro v7 w7 hr7 hg7 hn7; obtain ⟨ag7, c7, rfl⟩ := own1_slice hr7; have hB7 := hB6.grown hg7 hB6.size (fun k hk => (hr6.lt k hk).1); have k7 := cells_kept k6 hr6 (by decide) hg7; have d7 := (blk2_cells k7).2))
    rw [Hdz.out, str_cells, ← List.map_append] at hr7
    have hm7 : m4 + m5 + (ek.length - N) ≤ 100275 := by omega
    generalize hM7 : m4 + m5 + (ek.length - N) = m7 at hr7 hm7 ⊢
    have p3 := put_any none 0 0 [] en w7 (Reads.nil w7) (by omega) (by omega)
    rw [List.nil_append] at p3
    clear hr5 hq5 hg6 hb6 k5 hB5 hr6 hg7 hn7 k6 hB6 d6 hM7 hm6
    go_wp2_with fail
    refine p3.mono ?_
    rintro e w8 ⟨g8, c8, m8, hm8, rfl, hq8, hG8⟩
    have e8 := encode_len en
    have hB8 := Below.trans hB7 (hG8.mono hB7.size)
    have hr8 := own_later hr7 hG8 (Nat.le_refl _)
    have k8 := cells_later k7 hG8
    have hm8' : m8 ≤ 10 := by omega
    have Hr : Hid (encode es.length ++ entsL [] (es.take (j + 1)) = (zs ++ encode N ++ encode (ek.length - N) ++ bytesI (ek.drop N)) ++ encode en) := by
      show _ = _
      rw [hnext.out, HN.out]
      simp [entL, List.append_assoc]
    clear p3 hr7 k7 hB7 hG8 hm8 e8 d7
    go_wp2_with (at_builtin; refine wpList_append_grown rfl _ _ 30 rfl w.heap.size 5 Try.infoByte rfl Try.underlying30 _ _ _ _ rfl hr8 _ _ _ _ rfl (Reads.own hq8) (ints_oneCell _ _) (by unfold maxLen; omega) (by omega) hB8.size ?_; intro ag9 c9 w9 hr9 hg9 hb9; have hB9 := Below.trans hB8 hb9; have k9 := cells_kept k8 hr8 (by decide) hg9; have d9 := (blk2_cells k9).1)
    rw [← List.map_append, ← Hr.out] at hr9
    go_roundw
    case rel => exact ⟨j + 1, ag9, c9, m7 + m8, by go_num, rfl, by rw [hlast.out], by omega, hr9, hB9⟩
    case measure => simp [intOf]; omega
#print axioms pack_any
end Go.Proofs.Ytknfjonaepggnaa

namespace Go.Proofs.Ytknfjonaepggnaa
open Go.RowKit
set_option linter.unusedVariables false
set_option linter.unusedSimpArgs false
attribute [local go_sem] Oper.semAt_some

theorem Reads.kept_own {w w' : World} {ao : Option Addr} {len cap : Nat} {xs : List Value} {row : Option Nat} (h : Reads w ao len cap xs) (hg : w.grownBy w' row) (hr : ∀ r, row = some r → ∃ o : Obj, w.heap[r]? = some o ∧ o.isCells = false) : Reads w' ao len cap xs :=
  ⟨h.length, h.le, h.most, h.bare, fun a ha j u hu => cell_kept (h.cell a ha j u hu) hg hr⟩
/-- What the k-th round hands out: the k-th row's bytes. -/
def VRow (rows : List (List Int)) (k : Nat) (args : Array Value) (W : World) : Prop :=
  ∃ row ag c m, rows[k]? = some row ∧ args = #[.slice ag m c] ∧ m = row.length ∧ Reads W ag m c (row.map (.int .u8))
theorem VRow.own (rows : List (List Int)) (B k : Nat) (args : Array Value) : OwnFrom B (fun (_ : Unit) W => VRow rows k args W) := fun _ A C row h hg hr => by
  obtain ⟨r, ag, c, m, h1, h2, h3, h4⟩ := h
  exact ⟨r, ag, c, m, h1, h2, h3, h4.kept_own hg fun r e => (hr r e).2⟩

theorem payloads_any (ao : Option Addr) (len cap : Nat) (s : Int) (w : World) :
    Calls Try.prog 34 #[.slice ao len cap, .int .i64 s] w fun e w' =>
      e = .returned (.func (.func 52) #[] #[.pointer (some ⟨w.heap.size + 1, 0, none⟩), .pointer (some ⟨w.heap.size, 0, none⟩)]) ∧
      w' = (w.alloc (.cells #[.slice ao len cap] 49)).alloc (.cells #[.int .i64 s] 3) := by
  go_enter Try.func34, Try.ntmps34
  go_wp2
  go_ret
  exact ⟨rfl, rfl⟩
#print axioms payloads_any

theorem rows_next {α : Type} {l : List α} {k : Nat} {x : α} {r : List α} (h : l.drop k = x :: r) : l[k]? = some x ∧ l.drop (k + 1) = r ∧ k < l.length := by
  have h1 : (l.drop k)[0]? = some x := by rw [h]; rfl
  rw [List.getElem?_drop, Nat.add_zero] at h1
  refine ⟨h1, ?_, (List.getElem?_eq_some_iff.1 h1).1⟩
  have : (l.drop k).drop 1 = r := by rw [h]; rfl
  rw [List.drop_drop] at this
  exact this

theorem rows_left {es : List En} {s at' : Nat} {E : List Int} (hs : 1 ≤ s) (h : at' < es.length) : (chunksE s (es.drop at')).map blockL ++ [E] = blockL ((es.drop at').take s) :: ((chunksE s (es.drop (at' + s))).map blockL ++ [E]) := by
  unfold chunksE
  have hl : (es.drop at').length = es.length - at' := by simp
  have hne : es.drop at' ≠ [] := fun e => by rw [e] at hl; simp at hl; omega
  obtain ⟨f, hf⟩ : ∃ f, (es.drop at').length = f + 1 := ⟨es.length - at' - 1, by omega⟩
  rw [hf, chunksF, if_neg hne, List.map_cons, List.cons_append, List.drop_drop]
  congr 3
  exact chunks_fuel f (es.drop (at' + s)).length s _ hs (by simp; omega) (Nat.le_refl _)

set_option maxRecDepth 100000 in
set_option maxHeartbeats 4000000 in
theorem payloads_gives {w : World} {Kp : World → World → Prop} {ao : Option Addr} {len cap s B1 B2 : Nat} {es : List En} (ho : ∀ e ∈ es, oneE e = true) (h1 : 1 ≤ s) (h2 : s ≤ 255) (hl : len ≤ 100000000000)
    (hKt : ∀ {A B C : World}, Kp A B → Kp B C → Kp A C) (hKg : ∀ {A B : World}, w.heap.size ≤ A.heap.size → Grow A B → Kp A B) (hKs : ∀ W, Kp w W → w.heap.size ≤ W.heap.size)
    (hK : ∀ W, Kp w W → W.cell? ⟨B1, 0, none⟩ = some (.slice ao len cap) ∧ W.cell? ⟨B2, 0, none⟩ = some (.int .i64 (s : Nat)) ∧ ReadsE W ao len cap (cellsE es)) :
    GivesBy Try.prog 52 #[.pointer (some ⟨B2, 0, none⟩), .pointer (some ⟨B1, 0, none⟩)] (runRows es s).length (VRow (runRows es s)) Kp w := by
  intro l J Jx W hkW hJ hJx hY hJ0
  have hrd := (hK W hkW).2.2
  have hlx := hrd.count
  subst hlx
  have hle := hrd.le
  have hrun : (runRows es s).drop 1 = (chunksE s (es.drop 0)).map blockL ++ [encode 0 ++ encode es.length] := by simp [runRows]
  have hrun0 : (runRows es s)[0]? = some (encode s) := by simp [runRows]
  have hrl : 0 < (runRows es s).length := by simp [runRows]
  generalize runRows es s = rows at hY hrun hrun0 hrl ⊢
  refine callsIn_of_wp Try.func52 rfl trivial ?_ rfl
  simp only [Try.ntmps52, List.size_toArray, List.length_cons, List.length_nil, Nat.reduceAdd, Nat.reduceSub, Array.replicate_succ, Array.replicate_zero, List.push_toArray, List.append_toArray, List.nil_append, List.cons_append]
  obtain ⟨c1, c2, _⟩ := hK W hkW
  have hsz := hKs W hkW
  have hsi : (s : Int) ≤ 255 := by omega
  have p0 := put_any none 0 0 [] s W (Reads.nil W) (by omega) (by omega)
  rw [List.nil_append] at p0
  have V0 : ∀ {k row ag c m W}, rows[k]? = some row → m = 0 + row.length → Reads W ag m c (row.map (.int .u8)) → VRow rows k #[.slice ag m c] W := fun h1 h2 h3 => ⟨_, _, _, _, h1, rfl, by omega, h3⟩
  gi_wp2_with fail
  refine ⟨trivial, (callsIn_wide.2 p0).mono ?_⟩
  rintro e w1 ⟨g, c, m, hm, rfl, hr, hG⟩
  obtain ⟨fn, tmps, assign, body, hy, hR⟩ := hY 0 _ w1 hrl (hJ _ _ _ hJ0 hG) (V0 hrun0 hm (Reads.own hr))
  have hk1 : Kp w w1 := hKt hkW (hKg hsz hG)
  have hcl : ∀ {W'}, Kp w W' → (W'.cell? ⟨B1, 0, none⟩ = some (.slice ao es.length cap) ∧ W'.cell? ⟨B2, 0, none⟩ = some (.int .i64 (s : Nat)) ∧ ReadsE W' ao es.length cap (cellsE es)) ∧ w.heap.size ≤ W'.heap.size := fun h => ⟨hK _ h, hKs _ h⟩
  clear p0 hr hm hG hJ0 hkW c1 c2 hrun0
  gi_wp2_with fail
  refine hR.mono ?_
  rintro e w2 (⟨rfl, hJ2, hk2⟩ | ⟨rfl, hx2⟩)
  rotate_left
  · gi_wp2_with fail
    refine bodyPost_ret (results_none rfl _ _ _) rfl ?_
    exact ⟨⟨_, rfl⟩, .inr hx2⟩
  have hk2' := hKt hk1 hk2
  clear hR hy hk2 hk1
  gi_wp2_with fail
  gi_loopw [4] (fun i wr => ∃ at' k : Nat, i = .int .i64 (at' : Nat) ∧ at' ≤ es.length + 255 ∧ Hid (rows.drop k = (chunksE s (es.drop at')).map blockL ++ [encode 0 ++ encode es.length]) ∧ J k wr ∧ Kp w wr) (fun i _ => (es.length - intOf i).toNat)
  case atStart => exact ⟨0, 1, rfl, by omega, hrun, hJ2, hk2'⟩
  case round =>
    obtain ⟨at', k, rfl, hat, hD, hJr, hkr⟩ := hrel
    obtain ⟨⟨c1, c2, hre⟩, hsr⟩ := hcl hkr
    clear hJ2 hk2' hrun
    by_cases hlt : at' < es.length
    case neg =>
      have hlti : ¬ (at' : Int) < es.length := by omega
      have hrow := rows_next (l := rows) (k := k) (x := encode 0 ++ encode es.length) (r := []) (by rw [hD.out]; unfold chunksE; rw [List.drop_of_length_le (by omega)]; simp [chunksF])
      have hkl : k + 1 = rows.length := by
        have h3 := congrArg List.length hrow.2.1
        simp at h3
        omega
      clear hlt hD hre
      have hmx : Try.prog.follows .mixedOrders = true := by kernel_rfl
      have p3 : ∀ W, Calls Try.prog 53 #[.slice none 0 0, .int .u64 0] W fun e w' => ∃ g c m, e = .returned (.slice (some ⟨g, 0, none⟩) m c) ∧ m ≤ 10 ∧ w'.ownsRow W.heap.size 5 1 (.slice (some ⟨g, 0, none⟩) m c) m ((encode 0).map (.int .u8)) ∧ Grow W w' := fun W => by
        have := put_any none 0 0 [] 0 W (Reads.nil W) (by omega) (by omega)
        rw [List.nil_append] at this
        refine this.mono ?_
        rintro e w' ⟨g, c, m, hm, rfl, hr, hG⟩
        have := encode_len 0
        exact ⟨g, c, m, rfl, by omega, hr, hG⟩
      have p4 : ∀ W g m c B, m ≤ 10 → W.ownsRow B 5 1 (.slice (some ⟨g, 0, none⟩) m c) m ((encode 0).map (.int .u8)) → Calls Try.prog 53 #[.slice (some ⟨g, 0, none⟩) m c, .int .u64 (es.length : Nat)] W fun e w' => ∃ g c m, e = .returned (.slice (some ⟨g, 0, none⟩) m c) ∧ m = 0 + (encode 0 ++ encode es.length).length ∧ Reads w' (some ⟨g, 0, none⟩) m c ((encode 0 ++ encode es.length).map (.int .u8)) ∧ Grow W w' := fun W g m c B hm hr => by
        have h0 : m = (encode 0).length := by have := hr.1; simp at this; omega
        refine (put_any (some ⟨g, 0, none⟩) m c (encode 0) es.length W (Reads.own hr) (by omega) (by omega)).mono ?_
        rintro e w' ⟨g, c, m, hm, rfl, hr, hG⟩
        refine ⟨g, c, m, rfl, ?_, Reads.own hr, hG⟩
        rw [hm, h0, List.length_append]; omega
      have hYk : ∀ W3 args, Grow wr W3 → VRow rows k args W3 → YieldAt Fence.wide 8 Try.prog l args W3 fun e W' => ∃ b, e = .returned (.bool b) ∧ (J rows.length W' ∨ Jx W') := fun W3 args hG hv => by
        refine (hY k args W3 hrow.2.2 (hJ _ _ _ hJr hG) hv).mono ?_
        rintro e w' (⟨h1, h2, _⟩ | ⟨h1, h2⟩)
        · exact ⟨_, h1, .inl (hkl ▸ h2)⟩
        · exact ⟨_, h1, .inr h2⟩
      have hc1 : ∀ W3, Grow wr W3 → W3.cell? ⟨B1, 0, none⟩ = some (.slice ao es.length cap) := fun W3 hG => (hcl (hKt hkr (hKg hsr hG))).1.1
      have hD1 : Grow wr wr.drew := (Below.refl _ _).drew
      have c1d := hc1 _ hD1
      have hrow1 := hrow.1
      have wl : IntKind.u64.wrap (es.length : Int) = es.length := by rw [IntKind.wrap_u64]; omega
      clear hY hcl hJr hkr hJ hrow hK hKg hKt hKs
      gi_wp2_with fail
      gi_region_with_o (first
        | (refine ⟨trivial, ?_⟩; gi_at_call 53; refine (callsIn_wide.2 (p3 _)).mono ?_; clear p3; rintro e w3 ⟨g3, c3, m3, rfl, hm3, hr3, hG3⟩; have hG3' := hD1.trans hG3; have c3' := hc1 _ hG3')
        | (refine ⟨trivial, ?_⟩; gi_at_call 53; refine (callsIn_wide.2 (p4 _ _ _ _ _ hm3 hr3)).mono ?_; rintro e w4 ⟨g4, c4, m4, rfl, hm4, hr4, hG4⟩; obtain ⟨fn, tmps, assign, body, hy, hR⟩ := hYk w4 _ (Grow.trans hG3' hG4) (V0 hrow1 hm4 hr4); clear hm4 hr4)
        | (refine hR.mono ?_; rintro e w5 ⟨bb, rfl, hend⟩))
      all_goals go_end0
      all_goals exact ⟨⟨_, rfl⟩, hend⟩
    have hlti : (at' : Int) < es.length := by omega
    have hrow := rows_next (hD.out.trans (rows_left h1 hlt))
    obtain ⟨b, hb⟩ : ∃ b, b = (es.drop at').take s := ⟨_, rfl⟩
    rw [← hb] at hrow
    have hD2 : Hid _ := hrow.2.1
    obtain ⟨tt, hto⟩ : ∃ tt, tt = min (at' + s) es.length := ⟨_, rfl⟩
    have hto1 : at' ≤ tt := by omega
    have hto2 : tt ≤ es.length := by omega
    have hsp : (at' + s = tt ∧ tt ≤ es.length) ∨ (tt = es.length ∧ es.length < at' + s) := by omega
    obtain ⟨x1, hs1, hd1⟩ := ReadsE.mid (P := Try.prog) Try.underlying49 Try.sizeEn2 (ao := ao) (len := es.length) (cap := cap) hle at' tt hto1 hto2
    have hr1 := hd1 wr _ hre
    have heb : ((cellsE es).drop (at' * 2)).take ((tt - at') * 2) = cellsE b := by
      rw [cells_drop, cells_take, hb]
      congr 1
      rw [List.take_eq_take_iff]
      simp
      omega
    rw [heb] at hr1
    have hob : ∀ e ∈ b, oneE e = true := fun e he => ho e (List.mem_of_mem_drop (List.mem_of_mem_take (by rw [← hb]; exact he)))
    have pp := pack_any hr1 hob (by omega)
    have x2 : IntKind.i64.wrap ((at' : Int) + s) = (at' : Int) + s := by simp [IntKind.wrap, IntKind.bits, IntKind.signed]; omega
    have hYk : ∀ W3 args, Grow wr W3 → VRow rows k args W3 → YieldAt Fence.wide 8 Try.prog l args W3 fun e W' => (e = .returned (.bool true) ∧ J (k + 1) W' ∧ Kp w W') ∨ (e = .returned (.bool false) ∧ Jx W') := fun W3 args hG hv => by
      refine (hY k args W3 hrow.2.2 (hJ _ _ _ hJr hG) hv).mono ?_
      rintro e w' (⟨h1, h2, h3⟩ | ⟨h1, h2⟩)
      · exact .inl ⟨h1, h2, hKt (hKt hkr (hKg hsr hG)) h3⟩
      · exact .inr ⟨h1, h2⟩
    have hrow1 := hrow.1
    have H1 : Hid _ := hrow1
    clear hd1 heb hto hD hb hY hrow hrow1 hkr hJr
    rcases hsp with ⟨q, i2⟩ | ⟨q, i2⟩
    · have q' : (at' : Int) + s = tt := by omega
      have i1 : (at' : Int) ≤ tt := by omega
      have i3 : (tt : Int) ≤ es.length := by omega
      rw [q'] at x2
      have q : Hid (at' + s = tt) := q
      gi_wp2_with fail
      refine ⟨trivial, (callsIn_wide.2 pp).mono ?_⟩
      rintro e w3 ⟨ag3, c3, m3, rfl, hm3, hr3, hG3⟩
      obtain ⟨fn, tmps, assign, body, hy, hR⟩ := hYk w3 _ hG3 (V0 H1.out (by omega) (Reads.own hr3))
      clear pp hm3 hYk
      gi_wp2_with fail
      refine hR.mono ?_
      rintro e w4 (⟨rfl, hJ4, hk4⟩ | ⟨rfl, hx4⟩)
      · have c2' := (hcl hk4).1.2.1
        clear hr3 hs1 hr1 c1 c2 hre hR hy
        gi_wp2_with fail
        go_roundw
        case rel => exact ⟨tt, k + 1, rfl, by omega, by rw [← q.out]; exact hD2, hJ4, hk4⟩
        case measure => simp [intOf]; omega
      · gi_wp2_with fail
        refine bodyPost_ret (results_none rfl _ _ _) rfl ?_
        exact ⟨⟨_, rfl⟩, .inr hx4⟩
    · subst q
      have i1 : (at' : Int) ≤ es.length := by omega
      have i3 : (es.length : Int) < (at' : Int) + s := by omega
      gi_wp2_with fail
      refine ⟨trivial, (callsIn_wide.2 pp).mono ?_⟩
      rintro e w3 ⟨ag3, c3, m3, rfl, hm3, hr3, hG3⟩
      obtain ⟨fn, tmps, assign, body, hy, hR⟩ := hYk w3 _ hG3 (V0 H1.out (by omega) (Reads.own hr3))
      clear pp hm3 hYk
      gi_wp2_with fail
      refine hR.mono ?_
      rintro e w4 (⟨rfl, hJ4, hk4⟩ | ⟨rfl, hx4⟩)
      · have c2' := (hcl hk4).1.2.1
        clear hr3 hs1 hr1 c1 c2 hre hR hy
        gi_wp2_with fail
        go_roundw
        case rel => exact ⟨at' + s, k + 1, by go_num, by omega, hD2, hJ4, hk4⟩
        case measure => simp [intOf]; omega
      · gi_wp2_with fail
        refine bodyPost_ret (results_none rfl _ _ _) rfl ?_
        exact ⟨⟨_, rfl⟩, .inr hx4⟩
#print axioms payloads_gives
end Go.Proofs.Ytknfjonaepggnaa

namespace Go.Proofs.Ytknfjonaepggnaa
open Go.RowKit
set_option linter.unusedVariables false
set_option linter.unusedSimpArgs false
attribute [local go_sem] Oper.semAt_some

/-- What a loop's body must keep: all that lay when the loop began, but one box. -/
structure KeepBox (Bo S : Nat) (A B : World) : Prop where
  size : A.heap.size ≤ B.heap.size
  block : ∀ k, k < S → k ≠ Bo → B.heap[k]? = A.heap[k]?
theorem KeepBox.refl (Bo S : Nat) (A : World) : KeepBox Bo S A A := ⟨Nat.le_refl _, fun _ _ _ => rfl⟩
theorem KeepBox.trans {Bo S : Nat} {A B C : World} (h : KeepBox Bo S A B) (k : KeepBox Bo S B C) : KeepBox Bo S A C := ⟨Nat.le_trans h.size k.size, fun i hi hn => (k.block i hi hn).trans (h.block i hi hn)⟩
theorem KeepBox.grow {Bo S : Nat} {A B : World} (hS : S ≤ A.heap.size) (h : Grow A B) : KeepBox Bo S A B := ⟨h.size, fun k hk _ => h.block k (by omega)⟩
theorem KeepBox.put {Bo S : Nat} (W : World) (l : Nat) (o : Obj) (hl : S ≤ l) : KeepBox Bo S W (W.putObj l o) := ⟨by simp, fun k hk _ => World.putObj_heap_other (by omega)⟩
theorem KeepBox.set {Bo S : Nat} (W : World) (v : Value) : KeepBox Bo S W (W.setCell ⟨Bo, 0, none⟩ v) := ⟨(grownBy_setCell' W Bo v).size, fun k hk hn => Below.heap_setCell _ _ _ _ hn⟩
theorem KeepBox.cell {Bo S : Nat} {A B : World} (h : KeepBox Bo S A B) {p : Addr} (hp : p.block < S) (hn : p.block ≠ Bo) : B.cell? p = A.cell? p := World.cell?_of_block (w := A) (h.block p.block hp hn)
theorem ReadsE.same {w w' : World} {ao : Option Addr} {len cap : Nat} {xs : List Value} (h : ReadsE w ao len cap xs) (hb : ∀ k, k < w.heap.size → w'.heap[k]? = w.heap[k]?) : ReadsE w' ao len cap xs :=
  ⟨h.length, h.le, h.most, h.bare, fun a ha j u hu => by
    have hc := h.cell a ha j u hu
    have hlt := World.block_lt_of_cell? w _ hc
    rw [World.cell?_of_block (w := w) (hb _ hlt)]; exact hc⟩
theorem recs_take {rows : List (List Int)} {k : Nat} {row : List Int} (h : rows[k]? = some row) : recs (rows.take (k + 1)) = recs (rows.take k) ++ recL row := by
  rw [List.take_add_one, h, Option.toList_some, recs_append]
  simp [recs]
theorem row_some {w : World} {base e n cap : Nat} {ao : Option Addr} {xs : List Value} (h : w.ownsRow base e 1 (.slice ao n cap) n xs) (hp : 0 < n) : ∃ g, ao = some ⟨g, 0, none⟩ := by
  rcases h.2 with ⟨h1, h2⟩ | ⟨g, cap', cur, h1, _⟩
  · omega
  · simp only [Value.slice.injEq] at h1
    exact ⟨g, h1.1⟩
/-- A row of the call's own from S on is not in what was kept. -/
theorem keep_row {Bo S e size n : Nat} {w w' : World} {v : Value} {xs : List Value} (h : w.ownsRow S e size v n xs) (hS : S ≤ w.heap.size) (hg : w.grownBy w' v.ownBlock) : KeepBox Bo S w w' :=
  ⟨hg.size, fun k hk _ => hg.block k (by omega) (fun e' => by have := (h.lt k e'.symm).1; omega)⟩
theorem keeps_row {base e size n : Nat} {w w' : World} {v : Value} {xs : List Value} (h : w.ownsRow base e size v n xs) (hg : w.grownBy w' v.ownBlock) : KeepsOthers w w' :=
  KeepsOthers.of_grownBy hg fun j o ej hj => by
    rcases h.2 with ⟨rfl, _⟩ | ⟨g, cap, cur, rfl, _, hgb, _⟩
    · simp [Value.ownBlock] at ej
    · obtain rfl : g = j := by simpa [Value.ownBlock] using ej
      rw [hgb] at hj; cases hj; rfl
theorem grow_others {w w' : World} (h : Grow w w') : KeepsOthers w w' := KeepsOthers.of_grownBy (h.grown none) fun j o ej _ => by cases ej

theorem res_cells2 {fn : Func} {p q : Tmp} {t u : TypeId} (h : fn.results = #[.cell p t, .cell q u]) (tmps : Array Value) (P : Program) (w : World) {x y : Addr} {v v' : Value} (hx : tmps.getD p undef = .pointer (some x)) (hv : (loadVar t x).run P w = .ok v w)
    (hy : tmps.getD q undef = .pointer (some y)) (hv' : (loadVar u y).run P w = .ok v' w) : (results fn tmps).run P w = .ok (.tuple #[v, v']) w := by
  have hx' : tmps[p]?.getD undef = .pointer (some x) := by simpa using hx
  have hy' : tmps[q]?.getD undef = .pointer (some y) := by simpa using hy
  simp only [results, h]
  simp [Sem.run_bind, Result.andThen, hx', hy', asAddr, hv, hv']
theorem load_row {w : World} {b : Nat} {v : Value} {t : TypeId} (h : Boxed w b t v) : (loadVar 30 ⟨b, 0, none⟩).run Try.prog w = .ok v w := by
  have h0 := h.cell
  simp [loadVar, Try.isAgg30, Try.sizeOf30, loadCells, loadCellsFrom, go_sem, h0]
theorem load_errno {w : World} {b : Nat} {v : Value} {t : TypeId} (h : Boxed w b t v) : (loadVar 31 ⟨b, 0, none⟩).run Try.prog w = .ok v w := by
  have h0 := h.cell
  simp [loadVar, Try.isAgg31, Try.sizeOf31, loadCells, loadCellsFrom, go_sem, h0]
theorem load_ents {w : World} {b : Nat} {v : Value} {t : TypeId} (h : Boxed w b t v) : (loadVar 49 ⟨b, 0, none⟩).run Try.prog w = .ok v w := by
  have h0 := h.cell
  simp [loadVar, Try.isAgg49, Try.sizeOf49, loadCells, loadCellsFrom, go_sem, h0]

theorem two_boxes (w : World) (t u : TypeId) (x y : Value) : Boxed ((w.alloc (.cells #[x] t)).alloc (.cells #[y] u)) w.heap.size t x ∧ Boxed ((w.alloc (.cells #[x] t)).alloc (.cells #[y] u)) (w.heap.size + 1) u y := by
  refine ⟨(Boxed.new w _ _).alloc _, ?_⟩
  have := Boxed.new (w.alloc (.cells #[x] t)) u y
  rw [World.size_alloc] at this
  exact this
theorem two_below (w : World) (t u : TypeId) (x y : Value) : Below w.heap.size w ((w.alloc (.cells #[x] t)).alloc (.cells #[y] u)) := ((Below.refl _ w).alloc (Nat.le_refl _) _).alloc (by simp) _

set_option maxRecDepth 100000 in
set_option maxHeartbeats 4000000 in
theorem encode_any {w : World} {ao : Option Addr} {len cap : Nat} {es : List En} (h : ReadsE w ao len cap (cellsE es)) (hb : ∀ e ∈ es, e.2 ≤ 18446744073709551615) (hw : ∀ e ∈ es, e.1.length ≤ 140737488355328) (hl : len ≤ 100000000000) (sz : Int) (s : Nat) (hs : sz = s ∨ (sz < 0 ∧ s = 0)) (hsz : sz ≤ 9223372036854775807) :
    Calls Try.prog 23 #[.slice ao len cap, .int .i64 sz] w fun e w' => EncOut w (encR es s) e w' := by
  have hlx := h.count
  subst hlx
  obtain ⟨W0, hW0⟩ : ∃ W0, W0 = (w.alloc (.cells #[.slice none 0 0] 30)).alloc (.cells #[.int .i64 0] 31) := ⟨_, rfl⟩
  have b1 : Boxed W0 w.heap.size 30 (.slice none 0 0) := by rw [hW0]; exact (Boxed.new w _ _).alloc _
  have b2 : Boxed W0 (w.heap.size + 1) 31 (.int .i64 0) := by
    rw [hW0]
    have := Boxed.new (w.alloc (.cells #[.slice none 0 0] 30)) 31 (.int .i64 0)
    rw [World.size_alloc] at this
    exact this
  have hB0 : Below w.heap.size w W0 := by rw [hW0]; exact ((Below.refl _ w).alloc (Nat.le_refl _) _).alloc (by simp) _
  have hbad : ∀ (W : World) (c : Nat), Boxed W w.heap.size 30 (.slice none 0 0) → Boxed W (w.heap.size + 1) 31 (.int .i64 0) → Below w.heap.size w W →
      Boxed ((W.setCell ⟨w.heap.size, 0, none⟩ (.slice none 0 0)).setCell ⟨w.heap.size + 1, 0, none⟩ (.int .i64 c)) w.heap.size 30 (.slice none 0 0) ∧ Boxed ((W.setCell ⟨w.heap.size, 0, none⟩ (.slice none 0 0)).setCell ⟨w.heap.size + 1, 0, none⟩ (.int .i64 c)) (w.heap.size + 1) 31 (.int .i64 c) ∧
      Below w.heap.size w ((W.setCell ⟨w.heap.size, 0, none⟩ (.slice none 0 0)).setCell ⟨w.heap.size + 1, 0, none⟩ (.int .i64 c)) := fun W c k1 k2 hB =>
    ⟨(k1.set _).other (by omega) _, ((k2.other (by omega) _).set _), (hB.setCell (p := ⟨w.heap.size, 0, none⟩) (Nat.le_refl _) _).setCell (p := ⟨w.heap.size + 1, 0, none⟩) (by simp) _⟩
  have HW0 : Hid _ := hW0
  have hr0 := h.later hB0 (Nat.le_refl _)
  clear hW0
  by_cases hr : 1 ≤ s ∧ s ≤ 255
  case neg =>
    have hE : Hid (encR es s = ([], 1)) := by show _ = _; unfold encR; rw [if_neg hr]
    have hsp : sz < 1 ∨ (1 ≤ sz ∧ 255 < sz) := by omega
    obtain ⟨q1, q2, q3⟩ := hbad W0 1 b1 b2 hB0
    clear hr hs
    rcases hsp with i1 | ⟨i1, i2⟩
    all_goals
      refine (callsIn_wide (n := 10)).1 ?_
      refine callsIn_of_wp_marks Try.func23 rfl trivial ?_ rfl
      simp only [Try.ntmps23, List.size_toArray, List.length_cons, List.length_nil, Nat.reduceAdd, Nat.reduceSub, Array.replicate_succ, Array.replicate_zero, List.push_toArray, List.append_toArray, List.nil_append, List.cons_append]
      gi_wp2_with fail
      refine ⟨_, res_cells2 rfl _ _ _ rfl (load_row (two_boxes _ _ _ _ _).1) rfl (load_errno (two_boxes _ _ _ _ _).2), ?_⟩
      rw [hE.out]
      exact EncOut.bad (two_below _ _ _ _ _)
  obtain rfl : sz = s := by omega
  have i1 : ¬ (s : Int) < 1 := by omega
  have i2 : ¬ (255 : Int) < s := by omega
  have pm := may_any hr0 hb hw
  by_cases hm : mayE es = 0
  case neg =>
    have hE : Hid (encR es s = ([], mayE es)) := by show _ = _; unfold encR; rw [if_pos hr, if_neg hm]
    generalize mayE es = c at pm hE hm
    have hmi : ((c : Int) != 0) = true := by rw [bne_iff_ne]; omega
    have hmi2 : ¬ (c : Int) = 0 := by omega
    clear hm
    refine (callsIn_wide (n := 10)).1 ?_
    refine callsIn_of_wp_marks Try.func23 rfl trivial ?_ rfl
    simp only [Try.ntmps23, List.size_toArray, List.length_cons, List.length_nil, Nat.reduceAdd, Nat.reduceSub, Array.replicate_succ, Array.replicate_zero, List.push_toArray, List.append_toArray, List.nil_append, List.cons_append]
    gi_wp2_with fail
    rw [← HW0.out]
    refine ⟨trivial, (callsIn_wide.2 pm).mono ?_⟩
    rintro e w1 ⟨rfl, hG⟩
    have k1 : Boxed w1 _ _ _ := cells_later b1 hG
    have k2 : Boxed w1 _ _ _ := cells_later b2 hG
    have hB1 := hB0.trans (hG.mono hB0.size)
    obtain ⟨q1, q2, q3⟩ := hbad w1 c k1 k2 hB1
    have d1 := k1.cell
    have d2 := k2.cell
    have f1 := k1.frozen
    have f2 := k2.frozen
    gi_wp2_with fail
    refine ⟨_, res_cells2 rfl _ _ _ rfl (load_row q1) rfl (load_errno q2), ?_⟩
    rw [hE.out]
    exact EncOut.bad q3
  have hok := run_ok (l := es) (s := s) ⟨hr.1, hr.2, hm⟩ (by omega)
  have hE : Hid (encR es s = (runL es s, 0)) := enc_is ⟨hr.1, hr.2, hm⟩
  have hmax := run_len_le hok
  rw [hm] at pm
  refine (callsIn_wide (n := 10)).1 ?_
  refine callsIn_of_wp_marks Try.func23 rfl trivial ?_ rfl
  simp only [Try.ntmps23, List.size_toArray, List.length_cons, List.length_nil, Nat.reduceAdd, Nat.reduceSub, Array.replicate_succ, Array.replicate_zero, List.push_toArray, List.append_toArray, List.nil_append, List.cons_append]
  gi_wp2_with fail
  rw [← HW0.out]
  refine ⟨trivial, (callsIn_wide.2 pm).mono ?_⟩
  rintro e w1 ⟨rfl, hG⟩
  have k1 : Boxed w1 _ _ _ := cells_later b1 hG
  have k2 : Boxed w1 _ _ _ := cells_later b2 hG
  have hB1 := hB0.trans (hG.mono hB0.size)
  have hz1 : w.heap.size + 2 ≤ w1.heap.size := by have := hG.size; have h2 := b2.lt; omega
  clear pm hG hbad b1 b2 hr0 HW0 hB0
  gi_wp2_with fail
  refine ⟨trivial, (callsIn_wide.2 (payloads_any _ _ _ _ _)).mono ?_⟩
  rintro e w2 ⟨rfl, hw2⟩
  have bO : Boxed w2 w1.heap.size 30 (.slice none 0 0) := by rw [hw2]; exact ((Boxed.new w1 _ _).alloc _).alloc _
  have k1 : Boxed w2 w.heap.size 30 (.slice none 0 0) := by rw [hw2]; exact ((k1.alloc _).alloc _).alloc _
  have k2 : Boxed w2 (w.heap.size + 1) 31 (.int .i64 0) := by rw [hw2]; exact ((k2.alloc _).alloc _).alloc _
  have bL : Boxed w2 (w1.heap.size + 1) 49 (.slice ao es.length cap) := by
    rw [hw2]
    have := (Boxed.new (w1.alloc (.cells #[.slice none 0 0] 30)) 49 (.slice ao es.length cap)).alloc (.cells #[.int .i64 (s : Nat)] 3)
    rw [World.size_alloc] at this
    exact this
  have bS : Boxed w2 (w1.heap.size + 2) 3 (.int .i64 (s : Nat)) := by
    rw [hw2]
    have := Boxed.new ((w1.alloc (.cells #[.slice none 0 0] 30)).alloc (.cells #[.slice ao es.length cap] 49)) 3 (.int .i64 (s : Nat))
    rw [World.size_alloc, World.size_alloc] at this
    exact this
  have hB2 : Below w.heap.size w w2 := by rw [hw2]; exact ((hB1.alloc (by omega) _).alloc (by simp; omega) _).alloc (by simp; omega) _
  have hz2 : w2.heap.size = w1.heap.size + 3 := by rw [hw2]; simp
  rw [World.size_alloc]
  generalize hBo : w1.heap.size = Bo at *
  clear hw2 hB1
  have hre : ∀ W, KeepBox Bo w2.heap.size w2 W → ReadsE W ao es.length cap (cellsE es) := fun W hW => h.same fun k hk => (hW.block k (by omega) (by omega)).trans (hB2.block k hk)
  have hgives := payloads_gives (w := w2) (Kp := KeepBox Bo w2.heap.size) (ao := ao) (len := es.length) (cap := cap) (s := s) (B1 := Bo + 1) (B2 := Bo + 2) (es := es) hok.2.2.1 hr.1 hr.2 hl
    (fun h k => h.trans k) (fun hS hG => KeepBox.grow hS hG) (fun W hW => hW.size) (fun W hW => ⟨(hW.cell (p := ⟨Bo + 1, 0, none⟩) (by show Bo + 1 < _; omega) (by show Bo + 1 ≠ _; omega)).trans bL.cell, (hW.cell (p := ⟨Bo + 2, 0, none⟩) (by show Bo + 2 < _; omega) (by show Bo + 2 ≠ _; omega)).trans bS.cell, hre W hW⟩)
  have hrr := run_rows hok
  have hfin : Hid (recs ((runRows es s).take (runRows es s).length) = runL es s) := by show _ = _; rw [List.take_of_length_le (Nat.le_refl _)]; rfl
  have hmx : ∀ k, (recs ((runRows es s).take k)).length ≤ 309 * es.length + 100 := fun k => by
    refine Nat.le_trans ?_ hmax
    have e : runL es s = recs ((runRows es s).take k) ++ recs ((runRows es s).drop k) := by rw [← recs_append, List.take_append_drop]; rfl
    rw [e, List.length_append]; omega
  generalize runRows es s = rows at hgives hrr hfin hmx
  obtain ⟨i0, hi, hzz0, hzz1, hzz2⟩ := info_parts Try.infoByte
  clear hre bL bS
  gi_wp2_with fail
  refine range_by (gf := 52) (lb := #[.pointer (some ⟨Bo + 2, 0, none⟩), .pointer (some ⟨Bo + 1, 0, none⟩)]) rfl (enters_of Try.func52 (by kernel_rfl) rfl) hgives
    (fun h k => h.trans k) (fun hS hG => KeepBox.grow hS hG) (fun W l o hl => KeepBox.put W l o hl) (VRow.own rows _) (by rintro k args W ⟨_, _, _, _, _, rfl, _⟩; rfl)
    (fun k W => ((∃ v, Boxed W Bo 30 v ∧ W.ownsRow w2.heap.size 5 1 v (recs (rows.take k)).length ((recs (rows.take k)).map (.int .u8)) ∧ True) ∧ (Boxed W w.heap.size 30 (.slice none 0 0) ∧ Boxed W (w.heap.size + 1) 31 (.int .i64 0))) ∧ Below w.heap.size w W)
    (fun _ _ => False)
    (OwnFrom.and (OwnFrom.and (Own.from (holdsRow_own w2.heap.size Bo 30 5 1 (fun k => (recs (rows.take k)).length) (fun k => (recs (rows.take k)).map (.int .u8)) (fun _ _ => True)) _) (OwnFrom.and (Own.from (boxed_own _ _ (fun (_ : Nat) => Value.slice none 0 0)) _) (Own.from (boxed_own _ _ (fun (_ : Nat) => Value.int .i64 0)) _))) (ownFrom_below (Nat.le_refl _) (by omega)))
    (fun _ _ _ _ hs _ _ => hs.elim)
    ⟨⟨⟨_, bO, by simpa [recs] using World.ownsRow_nil w2 w2.heap.size 5 1, trivial⟩, k1, k2⟩, hB2⟩
    (fun args => { tmps := #[.slice ao es.length cap, .int .i64 (s : Nat), undef, undef, .pointer (some ⟨w.heap.size, 0, none⟩), .pointer (some ⟨w.heap.size + 1, 0, none⟩), .int .i64 0, .pointer (some ⟨Bo, 0, none⟩), args.toList.headD undef, undef, undef, .int .i64 (s : Nat), .bool false, .bool false, .int .i64 (s : Nat), .bool false, .bool false, .slice ao es.length cap, .int .i64 0, .int .i64 0, .bool false, undef, .slice ao es.length cap, .int .i64 (s : Nat), .func (.func 52) #[] #[.pointer (some ⟨Bo + 1 + 1, 0, none⟩), .pointer (some ⟨Bo + 1, 0, none⟩)], args.toList.headD undef, undef, undef, undef, undef, undef, undef, undef, undef, undef, undef, undef, undef], defers := [] }) ?assign ?body ?done ?stop
  case assign =>
    rintro l k args W K ⟨row, ag, c, m, h1, rfl, h2⟩ hK
    clear h1 h2
    gi_wp2_with fail
    exact hK
  case body =>
    rintro l k args W hk ⟨⟨⟨v, hv, hrow, _⟩, k1', k2'⟩, hB⟩ ⟨row, ag, c, m, hrk, rfl, hm, hrd⟩ hsW
    obtain ⟨hby, hle⟩ := hrr row (List.mem_of_getElem? hrk)
    have hm' : m ≤ 1048576 := by omega
    have pf := fput_ok none 0 0 [] ag m c row W (Reads.nil W) hrd hby (by omega) hm'
    rw [List.nil_append] at pf
    have hmk := hmx (k + 1)
    have htk := recs_take hrk
    have hI' : Hid (recs (rows.take (k + 1)) = recs (rows.take k) ++ recL row) := htk
    rw [htk, List.length_append] at hmk
    simp only [List.toList_toArray, List.headD_cons]
    clear hm hrd hby hle hrk htk k1 k2 hB2 bO hgives
    gi_wp2_with fail
    refine ⟨trivial, (CallsIn.inRound l (callsIn_wide.2 pf)).mono ?_⟩
    rintro e w3 ⟨ag3, c3, m3, hm3, rfl, hr3, hG3⟩
    have hl3 : m3 = (recL row).length := by omega
    have hp3 : 0 < m3 := by rw [hl3]; unfold recL; have := encode_len row.length; rw [List.length_append]; omega
    obtain ⟨g3, rfl⟩ := row_some hr3 hp3
    have hrow3 := own_later hrow hG3 (Nat.le_refl _)
    have hv3 : Boxed w3 Bo 30 v := cells_later hv hG3
    have k13 : Boxed w3 _ _ _ := cells_later k1' hG3
    have k23 : Boxed w3 _ _ _ := cells_later k2' hG3
    have hB3 := hB.trans (hG3.mono hB.size)
    have hsW3 : w2.heap.size ≤ w3.heap.size := by have := hG3.size; omega
    have hc3 := hv3.cell
    have Hl3 : Hid _ := hl3
    generalize hN : (recs (rows.take k)).length = n at *
    clear pf hm3 hl3
    gi_wp2_with (gi_at_builtin; refine wpListIn_append_own _ rfl _ _ 30 rfl w2.heap.size 5 i0 (.int .u8 0) 1 1 Try.underlying30 hi hzz0 hzz1 hzz2 rfl (by decide) _ _ _ rfl hrow3 ⟨g3, 0, none⟩ m3 c3 ((recL row).map (.int .u8)) rfl (by rw [Hl3.out]; simp) (fun j u hu => hr3.cells rfl j u hu) (ints_oneCell _ _) (by rw [Hl3.out]; unfold maxLen; omega) (by rw [Hl3.out]; omega) hsW3 ?_; intro v' w4 hown' hgrow hnil; obtain ⟨ag4, c4, rfl⟩ := own1_slice hown'; have hv4 : Boxed w4 Bo 30 v := hv3.kept hgrow (hv3.not_row (by decide) hrow3); have hc4 := hv4.cell; have hf4 := hv4.frozen)
    rw [← List.map_append, ← hI'.out] at hown'
    have e : (recs (rows.take (k + 1))).length = n + m3 := by rw [hI'.out, List.length_append, hN, Hl3.out]
    have hne1 : w.heap.size ≠ Bo := by omega
    have hne2 : w.heap.size + 1 ≠ Bo := by omega
    have hB4 := hB3.grown hgrow hB3.size (fun k hk => by have := (hrow3.lt k hk).1; omega)
    exact ⟨(((grow_others hG3).trans (keeps_row hrow3 hgrow)).trans (KeepsOthers.setCell _ _ _)).from _, ((KeepBox.grow hsW hG3).trans (keep_row hrow3 hsW3 hgrow)).trans (KeepBox.set _ _),
      ⟨⟨_, hv4.set _, by rw [e]; exact hown'.kept (grownBy_setCell' w4 Bo _) (.inr (hv4.not_row (by decide) hown').symm), trivial⟩,
        (k13.kept hgrow (k13.not_row (by decide) hrow3)).other hne1 _, (k23.kept hgrow (k23.not_row (by decide) hrow3)).other hne2 _⟩, hB4.setCell (p := ⟨Bo, 0, none⟩) (by show _ ≤ Bo; omega) _⟩
  case done =>
    rintro D W hD ⟨⟨⟨v, hv, hrow, _⟩, k1', k2'⟩, hB⟩ hK
    rw [hfin.out] at hrow
    have c0 := hv.cell
    have c1 := k1'.cell
    have c2 := k2'.cell
    have f1 := k1'.frozen
    have f2 := k2'.frozen
    obtain ⟨ag, c, rfl⟩ := own1_slice hrow
    have q1 : Boxed ((W.setCell ⟨w.heap.size, 0, none⟩ (.slice ag (runL es s).length c)).setCell ⟨w.heap.size + 1, 0, none⟩ (.int .i64 0)) w.heap.size 30 (.slice ag (runL es s).length c) := (k1'.set _).other (by omega) _
    have q2 : Boxed ((W.setCell ⟨w.heap.size, 0, none⟩ (.slice ag (runL es s).length c)).setCell ⟨w.heap.size + 1, 0, none⟩ (.int .i64 0)) (w.heap.size + 1) 31 (.int .i64 0) := (k2'.other (by omega) _).set _
    have qo : KeepsOthers W ((W.setCell ⟨w.heap.size, 0, none⟩ (.slice ag (runL es s).length c)).setCell ⟨w.heap.size + 1, 0, none⟩ (.int .i64 0)) := (KeepsOthers.setCell _ _ _).trans (KeepsOthers.setCell _ _ _)
    have qb : Below w.heap.size w ((W.setCell ⟨w.heap.size, 0, none⟩ (.slice ag (runL es s).length c)).setCell ⟨w.heap.size + 1, 0, none⟩ (.int .i64 0)) := (hB.setCell (p := ⟨w.heap.size, 0, none⟩) (Nat.le_refl _) _).setCell (p := ⟨w.heap.size + 1, 0, none⟩) (by simp) _
    have qr : ((W.setCell ⟨w.heap.size, 0, none⟩ (.slice ag (runL es s).length c)).setCell ⟨w.heap.size + 1, 0, none⟩ (.int .i64 0)).ownsRow w2.heap.size 5 1 (.slice ag (runL es s).length c) (runL es s).length ((runL es s).map (.int .u8)) := by
      have r1 := hrow.kept (grownBy_setCell' W w.heap.size (.slice ag (runL es s).length c)) (.inr (k1'.not_row (by decide) hrow).symm)
      have k3 := k2'.other (show w.heap.size + 1 ≠ w.heap.size by omega) (.slice ag (runL es s).length c)
      exact r1.kept (grownBy_setCell' _ (w.heap.size + 1) (.int .i64 0)) (.inr (k3.not_row (by decide) r1).symm)
    have hKD := qo.same D _ hK rfl
    clear hK hv hrow k1' k2' hB hgives hrr hfin hmx
    generalize hMl : (runL es s).length = M at *
    gi_wp2_with fail
    refine ⟨by simp, .inl ⟨_, _, rfl, run_takeDeferred hKD, ?_⟩⟩
    have g1 := grownBy_putObj' ((W.setCell ⟨w.heap.size, 0, none⟩ (.slice ag M c)).setCell ⟨w.heap.size + 1, 0, none⟩ (.int .i64 0)) D (.deferred none)
    refine ⟨_, res_cells2 rfl _ _ _ rfl (load_row (q1.kept g1 (by simp; omega))) rfl (load_errno (q2.kept g1 (by simp; omega))), ?_⟩
    rw [hE.out]
    exact ⟨ag, c, M, rfl, hMl.symm, own_mono (ownsRow_putObj qr _ hKD rfl) (by omega), qb.grown g1 qb.size (fun k e => by cases e; omega)⟩
  case stop =>
    intro D c W _ h
    exact h.elim
#print axioms encode_any
end Go.Proofs.Ytknfjonaepggnaa
