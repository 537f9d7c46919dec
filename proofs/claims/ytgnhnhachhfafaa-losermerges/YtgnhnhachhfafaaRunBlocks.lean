/- The landed run.blocks: an iterator over the entries of blocks. -/
import Derived.Test.YtgnhnhachhfafaaRunDecL
import Derived.Test.YtgnhnhachhfafaaRunPay
import Derived.Test.YtgnhnhachhfafaaRows2
namespace Go.Proofs.Ytgnhnhachhfafaa
open Go.RowKit
set_option linter.unusedVariables false
set_option linter.unusedSimpArgs false
attribute [local go_sem] Oper.semAt_some

theorem ReadsE.kept_own {w w' : World} {ao : Option Addr} {len cap : Nat} {xs : List Value} {row : Option Nat} (h : ReadsE w ao len cap xs) (hg : w.grownBy w' row) (hr : ∀ r, row = some r → ∃ o : Obj, w.heap[r]? = some o ∧ o.isCells = false) : ReadsE w' ao len cap xs :=
  ⟨h.length, h.le, h.most, h.bare, fun a ha j u hu => cell_kept (h.cell a ha j u hu) hg hr⟩
/-- What the k-th round hands out: the k-th block's entries, or that there are none. -/
def VBlk (rows : List (List Int)) (k : Nat) (args : Array Value) (W : World) : Prop :=
  ∃ r, rows[k]? = some r ∧ ((unpackS r = none ∧ args = #[.slice none 0 0, .bool false]) ∨ ∃ l ag c m, unpackS r = some l ∧ args = #[.slice ag m c, .bool true] ∧ m = l.length ∧ ReadsE W ag m c (cellsE l))
theorem VBlk.own (rows : List (List Int)) (B k : Nat) (args : Array Value) : OwnFrom B (fun (_ : Unit) W => VBlk rows k args W) := fun _ A C row h hg hr => by
  obtain ⟨r, h1, h2 | ⟨l, ag, c, m, h2, h3, h4, h5⟩⟩ := h
  · exact ⟨r, h1, .inl h2⟩
  · exact ⟨r, h1, .inr ⟨l, ag, c, m, h2, h3, h4, h5.kept_own hg fun r e => (hr r e).2⟩⟩
theorem VBlk.size {rows : List (List Int)} {k : Nat} {args : Array Value} {W : World} (h : VBlk rows k args W) : args.size = 2 := by
  obtain ⟨r, h1, ⟨_, rfl⟩ | ⟨l, ag, c, m, h2, rfl, h4, h5⟩⟩ := h <;> rfl

theorem RowVals.drop {w : World} {vs : List Value} {ls : List (List Int)} (h : RowVals w vs ls) (n : Nat) : RowVals w (vs.drop n) (ls.drop n) :=
  ⟨by simp [h.length], fun i v l hv hl => by
    rw [List.getElem?_drop] at hv hl
    exact h.row _ v l hv hl⟩
theorem ReadsRows.mid {P : Program} {t e : TypeId} (ht : P.underlying t = some (.slice e)) (hs : ∀ W, (sizeOf e).run P W = .ok 1 W) {ao : Option Addr} {len cap : Nat} (hc : len ≤ cap) (l h : Nat) (hl : l ≤ h) (hh : h ≤ len) :
    ∃ ao', (∀ W, (Instr.slice t (.slice ao len cap) (some (.int .i64 (l : Int))) (some (.int .i64 (h : Int))) none).run P W = .ok (.slice ao' (h - l) (cap - l)) W) ∧ (∀ W ls, ReadsRows W ao len cap ls → ReadsRows W ao' (h - l) (cap - l) ((ls.drop l).take (h - l))) := by
  obtain ⟨ao', h1, h2⟩ := Reads.mid (P := P) ht hs (ao := ao) hc l h hl hh
  refine ⟨ao', h1, fun W ls hr => ?_⟩
  obtain ⟨vs, hv, hw⟩ := hr.vals
  exact ReadsRows.of (h2 W vs hv) ((hw.drop l).take (h - l))
theorem Reads.same {w w' : World} {ao : Option Addr} {len cap : Nat} {xs : List Value} (h : Reads w ao len cap xs) (hb : ∀ k, k < w.heap.size → w'.heap[k]? = w.heap[k]?) : Reads w' ao len cap xs :=
  ⟨h.length, h.le, h.most, h.bare, fun a ha j u hu => by
    have hc := h.cell a ha j u hu
    rw [World.cell?_of_block (w := w) (hb _ (World.block_lt_of_cell? w _ hc))]; exact hc⟩
theorem ReadsRows.same {w w' : World} {ao : Option Addr} {len cap : Nat} {ls : List (List Int)} (h : ReadsRows w ao len cap ls) (hb : ∀ k, k < w.heap.size → w'.heap[k]? = w.heap[k]?) : ReadsRows w' ao len cap ls :=
  ⟨h.length, h.le, h.most, h.bare, fun a ha i l hl => by
    obtain ⟨ai, li, ci, hc, hr⟩ := h.row a ha i l hl
    exact ⟨ai, li, ci, by rw [World.cell?_of_block (w := w) (hb _ (World.block_lt_of_cell? w _ hc))]; exact hc, hr.same hb⟩⟩

theorem blocks_any (ao : Option Addr) (len cap : Nat) (w : World) :
    Calls Try.prog 46 #[.slice ao len cap] w fun e w' =>
      e = .returned (.func (.func 58) #[] #[.pointer (some ⟨w.heap.size, 0, none⟩)]) ∧ w' = w.alloc (.cells #[.slice ao len cap] 32) := by
  go_enter Try.func46, Try.ntmps46
  go_wp2
  go_ret
  exact ⟨rfl, rfl⟩

set_option maxRecDepth 100000 in
set_option maxHeartbeats 4000000 in
theorem blocks_gives {w : World} {Kp : World → World → Prop} {ao : Option Addr} {len cap B1 : Nat} {rows : List (List Int)} (h8 : ∀ r ∈ rows, isBytes r) (hrl : ∀ r ∈ rows, r.length ≤ 1000000000000) (hm : len ≤ 1000000000000)
    (hKt : ∀ {A B C : World}, Kp A B → Kp B C → Kp A C) (hKg : ∀ {A B : World}, w.heap.size ≤ A.heap.size → Grow A B → Kp A B) (hKs : ∀ W, Kp w W → w.heap.size ≤ W.heap.size)
    (hK : ∀ W, Kp w W → W.cell? ⟨B1, 0, none⟩ = some (.slice ao len cap) ∧ ReadsRows W ao len cap rows) :
    GivesBy Try.prog 58 #[.pointer (some ⟨B1, 0, none⟩)] rows.length (VBlk rows) Kp w := by
  intro l J Jx W hkW hJ hJx hY hJ0
  obtain ⟨c1, hrd⟩ := hK W hkW
  have hlx := hrd.length
  subst hlx
  have HR : Hid (∀ W', Kp w W' → ReadsRows W' ao rows.length cap rows ∧ w.heap.size ≤ W'.heap.size) := fun W' h => ⟨(hK _ h).2, hKs _ h⟩
  refine callsIn_of_wp Try.func58 rfl trivial ?_ rfl
  simp only [Try.ntmps58, List.size_toArray, List.length_cons, List.length_nil, Nat.reduceAdd, Nat.reduceSub, Array.replicate_succ, Array.replicate_zero, List.push_toArray, List.append_toArray, List.nil_append, List.cons_append]
  clear hrd
  gi_wp2_with fail
  gi_loopw [7] (fun i wr => ∃ k : Nat, i = .int .i64 (k : Nat) ∧ k ≤ rows.length ∧ J k wr ∧ Kp w wr) (fun i _ => (rows.length - intOf i).toNat)
  case atStart => exact ⟨0, rfl, Nat.zero_le _, hJ0, hkW⟩
  case round =>
    obtain ⟨k, rfl, hk, hJr, hkr⟩ := hrel
    obtain ⟨hre, hsr⟩ := HR.out _ hkr
    clear hJ0 hkW c1
    by_cases hlt : k < rows.length
    case neg =>
      have hlti : ¬ (k : Int) < rows.length := by omega
      have hke : k = rows.length := by omega
      have HJ : Hid (J rows.length wr) := by show J _ _; rw [← hke]; exact hJr
      clear hke hlt
      gi_wp2_with fail
      go_end0
      exact ⟨⟨_, rfl⟩, .inl HJ.out⟩
    have hlti : (k : Int) < rows.length := by omega
    obtain ⟨b, off, hao, _, hc⟩ := hre.at (by omega)
    obtain ⟨ai, li, ci, cc, hr⟩ := hc k hlt
    obtain ⟨r, hrk⟩ : ∃ r, rows[k]? = some r := ⟨_, List.getElem?_eq_getElem hlt⟩
    have hgd : rows.getD k [] = r := by simp [List.getD, hrk]
    rw [hgd] at hr
    have hrm := List.mem_of_getElem? hrk
    have hli : li ≤ 1000000000000 := by have := hr.length; simp at this; have := hrl r hrm; omega
    have pu := unpack_any hr (h8 r hrm) hli
    have Hao : Hid _ := hao
    have hYk : ∀ W3 args, Grow wr W3 → VBlk rows k args W3 → YieldAt Fence.wide 8 Try.prog l args W3 fun e W' => (e = .returned (.bool true) ∧ J (k + 1) W' ∧ Kp w W') ∨ (e = .returned (.bool false) ∧ Jx W') := fun W3 args hG hv => by
      refine (hY k args W3 hlt (hJ _ _ _ hJr hG) hv).mono ?_
      rintro e w' (⟨h1, h2, h3⟩ | ⟨h1, h2⟩)
      · exact .inl ⟨h1, h2, hKt (hKt hkr (hKg hsr hG)) h3⟩
      · exact .inr ⟨h1, h2⟩
    have H1 : Hid _ := hrk
    subst hao
    clear hc hgd hrm hr hrk hli hY hKt hKg hKs hK hJr hkr hre
    cases hu : unpackS r with
    | none =>
      rw [hu] at pu
      have HU : Hid _ := hu
      clear hu
      gi_wp2_with fail
      refine ⟨trivial, (callsIn_wide.2 pu).mono ?_⟩
      rintro e w3 ⟨hG3, rfl⟩
      obtain ⟨fn, tmps, assign, body, hy, hR⟩ := hYk w3 _ hG3 ⟨r, H1.out, .inl ⟨HU.out, rfl⟩⟩
      clear pu hYk hG3
      gi_wp2_with fail
      refine hR.mono ?_
      rintro e w4 (⟨rfl, hJ4, hk4⟩ | ⟨rfl, hx4⟩)
      · clear hR hy cc
        gi_wp2_with fail
        go_roundw
        case rel => exact ⟨k + 1, by go_num, by omega, hJ4, hk4⟩
        case measure => simp [intOf]; omega
      · gi_wp2_with fail
        refine bodyPost_ret (results_none rfl _ _ _) rfl ?_
        exact ⟨⟨_, rfl⟩, .inr hx4⟩
    | some es =>
      rw [hu] at pu
      have HU : Hid _ := hu
      clear hu
      gi_wp2_with fail
      refine ⟨trivial, (callsIn_wide.2 pu).mono ?_⟩
      rintro e w3 ⟨hG3, ag, c, m, rfl, hm3, hrow⟩
      obtain ⟨fn, tmps, assign, body, hy, hR⟩ := hYk w3 _ hG3 ⟨r, H1.out, .inr ⟨es, ag, c, m, HU.out, rfl, hm3, ReadsE.own hrow⟩⟩
      clear pu hYk hG3 hm3 hrow
      gi_wp2_with fail
      refine hR.mono ?_
      rintro e w4 (⟨rfl, hJ4, hk4⟩ | ⟨rfl, hx4⟩)
      · clear hR hy cc
        gi_wp2_with fail
        go_roundw
        case rel => exact ⟨k + 1, by go_num, by omega, hJ4, hk4⟩
        case measure => simp [intOf]; omega
      · gi_wp2_with fail
        refine bodyPost_ret (results_none rfl _ _ _) rfl ?_
        exact ⟨⟨_, rfl⟩, .inr hx4⟩
#print axioms blocks_gives
end Go.Proofs.Ytgnhnhachhfafaa
