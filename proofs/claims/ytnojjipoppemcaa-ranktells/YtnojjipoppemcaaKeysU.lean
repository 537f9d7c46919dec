/- maps.Keys of a map whose keys are uint64s: its iterator gives each key once, in some order; slices.AppendSeq, Collect, Sorted over it. -/
import Derived.Test.YtnojjipoppemcaaSortU9
import Derived.RangeFuncNested
import Derived.RangeFuncBound
import Derived.RangeFuncCalls
import Derived.RangeFuncLeaves
import Derived.RangeFuncFrom
import Derived.RangeFuncBox
import Derived.Shelf.Abstract
import Derived.Shelf.RegionOpen
import Derived.WalkKit
import Derived.OwnWalkIn
import Derived.TacticsInMore
import Derived.RegionIn
import Derived.LoopNIn
import Derived.LoopIn
import Derived.Maps.Own
import Derived.Maps.OwnOps
import Derived.Maps.OwnSet
import Derived.Maps.Views
import Derived.Maps.AppendAt
import Derived.Sort.MapsRangeIn
namespace Go.Proofs.Ytnojjipoppemcaa
open Go.RowKit Go.Maps Go.MapKept Go.WideShapes Go.ChangeMaps Go.Sort
set_option linter.unusedVariables false
set_option linter.unusedSimpArgs false
attribute [local go_sem] Oper.semAt_some

theorem keyOf_u64 {key : Value} {kl : Lit} (h : keyOf Try.prog 23 key = some kl) : ∃ x : Int, key = encU x ∧ kl = .int .u64 x ∧ (Lit.int .u64 x).wf = true := by
  have hk := Try.underlying23
  cases key <;> simp [keyOf, hk, mapKey] at h
  rename_i q a
  obtain ⟨⟨rfl, hw⟩, rfl⟩ := h
  exact ⟨a, rfl, rfl, hw⟩
theorem keyedU : Keyed Try.prog 23 := int_keyed Try.underlying23

/-- What has come: no key twice; just the keys that are no longer to come. -/
def GotU (D0 : DataW Unit) (left : Lit → Bool) (ss : List Int) : Prop := ss.Nodup ∧ ∀ x, x ∈ ss ↔ Maps.has D0 (.int .u64 x) = true ∧ left (.int .u64 x) = false
theorem GotU.start (D0 : DataW Unit) : GotU D0 (Maps.has D0) [] := ⟨List.nodup_nil, fun x => by cases Maps.has D0 (.int .u64 x) <;> simp⟩
theorem GotU.step {D0 : DataW Unit} {left : Lit → Bool} {ss : List Int} (h : GotU D0 left ss) {x : Int} {y : DataW Unit} (hl : left (.int .u64 x) = true) (hat : ∀ zd, D0.atKey (.int .u64 x) zd = y) : GotU D0 (fun z => left z && !z.sameKey (.int .u64 x)) (ss ++ [x]) := by
  have hhas : Maps.has D0 (.int .u64 x) = true := has_true_of_atKey hat
  have hnew : x ∉ ss := fun hx => by have := ((h.2 x).1 hx).2; rw [hl] at this; cases this
  refine ⟨List.nodup_append.2 ⟨h.1, by simp, fun a ha b hb e => ?_⟩, fun y => ?_⟩
  · simp only [List.mem_singleton] at hb; subst hb; exact hnew (e ▸ ha)
  · by_cases hy : y = x
    · subst hy; simp [hhas, Lit.sameKey]
    · simp [h.2 y, hy, Lit.sameKey]
/-- All of a map's keys. -/
def AllU (D0 : DataW Unit) (ss : List Int) : Prop := ss.Nodup ∧ ∀ x, x ∈ ss ↔ Maps.has D0 (.int .u64 x) = true

set_option maxRecDepth 100000 in
set_option maxHeartbeats 2000000 in
/-- maps.Keys' iterator. -/
theorem keysU_stops (n : Nat) (hn : 1 ≤ n) (Bm b nn : Nat) (D0 : DataW Unit) {R : Value → Option (DataW Unit × List MemPlace)} (w : World) (hBm : Bm < w.heap.size) (hm : w.cell? ⟨Bm, 0, none⟩ = some (.map (some b))) (hown : w.ownsMap Try.prog 23 R b nn D0) :
    SeqStopsK Fence.wide n Try.prog 25 #[.pointer (some ⟨Bm, 0, none⟩)] (fun x : Int => #[encU x]) KeepsWalks (AllU D0) (fun _ => True) (Maps.size D0) w := by
  intro l J Jx W hW hJ hJx hY h0
  have hm : W.cell? ⟨Bm, 0, none⟩ = some (.map (some b)) := (hW.cell (p := ⟨Bm, 0, none⟩) hBm).trans hm
  have hown : W.ownsMap Try.prog 23 R b nn D0 := by
    have hbl := hown.lt
    obtain ⟨es, clock, hb, F, hs, hD⟩ := hown
    exact ⟨es, clock, (hW.block b hbl).trans hb, F, hs, hD⟩
  refine callsIn_of_wp Try.func25 rfl trivial ?_ rfl
  simp only [Try.ntmps25, List.size_toArray, List.length_cons, List.length_nil, Nat.reduceAdd, Nat.reduceSub, Array.replicate_succ, Array.replicate_zero, List.push_toArray, List.append_toArray, List.nil_append, List.cons_append]
  gi_wp2_with (first
    | (gi_at_range; refine wpListIn_range_own _ rfl _ 42 rfl 23 3 keyedU Try.underlying42 _ b nn _ rfl hown ?_; intro w0 hrg0 hg0 hs0)
    | gi_in)
  gi_loopw [3] (fun _ wr => ∃ (left : Lit → Bool) (cnt : Nat) (ss : List Int), wr.ranges Try.prog 23 R b W.heap.size nn D0 left cnt ∧ ss.length + cnt ≤ Maps.size D0 ∧ GotU D0 left ss ∧ J ss wr)
    (fun _ wr => wr.rangeLeft b W.heap.size)
  case atStart =>
    exact ⟨_, _, [], hrg0, by simp, GotU.start D0, hJ [] W w0 none h0 hg0 (fun r e => by cases e)⟩
  case round =>
    obtain ⟨left, cnt, ss, hrg, hcs, hC, hJs⟩ := hrel
    gi_wp2_with (first
      | (gi_at_next; refine wpListIn_next_ranges _ rfl _ rfl 23 keyedU R encU id (fun key kl hk => by obtain ⟨x, hx, _⟩ := keyOf_u64 hk; exact ⟨x, hx⟩) (fun v _ _ => ⟨v, rfl⟩) b W.heap.size nn _ _ _ rfl hrg ?_ ?_)
      | gi_in)
    · intro hc0 hl0
      gi_wp2
      go_end0
      exact ⟨⟨_, rfl⟩, .inl ⟨ss, ⟨hC.1, fun x => by rw [hC.2 x, hl0]; simp⟩, hJs⟩⟩
    · intro x c kl yd yp w2 cnt2 hkey hlk hv hat hrg2 hlt hg2 hs2 hen
      obtain ⟨x', ex, rfl, _⟩ := keyOf_u64 hkey
      obtain rfl : x = x' := by simpa [encU] using ex
      have hJ2 : J ss w2 := hJ ss wr w2 (some W.heap.size) hJs hg2 (fun r e => by cases e; exact ⟨Nat.le_refl _, hrg.iter_walk⟩)
      obtain ⟨fn, tmps, assign, body, hy, hR⟩ := hY ss x w2 hJ2 (by omega)
      have hC2 := hC.step hlk hat
      clear hs2
      gi_wp2
      refine hR.mono ?_
      rintro e W3 (⟨rfl, hJ3, hk3⟩ | ⟨rfl, hJx3⟩)
      · gi_wp2
        have hrg3 := hrg2.of_walks hk3
        go_roundw
        case rel => exact ⟨_, cnt2, ss ++ [x], hrg3, by simp; omega, hC2, hJ3⟩
        case measure => rw [hrg3.left_eq, hrg.left_eq]; exact hlt
      · gi_wp2
        refine bodyPost_ret (results_none rfl _ _ _) rfl ?_
        exact ⟨⟨_, rfl⟩, .inr ⟨ss ++ [x], trivial, hJx3⟩⟩

theorem keysU_any (m : Nat) (w : World) : Calls Try.prog 22 #[.map (some m)] w fun e w' => e = .returned (.func (.func 25) #[] #[.pointer (some ⟨w.heap.size, 0, none⟩)]) ∧ w' = w.alloc (.cells #[.map (some m)] 42) := by
  go_enter Try.func22, Try.ntmps22
  go_wp2
  go_ret
  exact ⟨rfl, rfl⟩

theorem Try.infoU64 : (Try.prog.info? 23).map (fun i => (i.zero, i.size, i.bytes)) = some (some (.int .u64 0), 1, 8) := by kernel_rfl

set_option maxRecDepth 100000 in
set_option maxHeartbeats 4000000 in
/-- slices.AppendSeq(nil, seq). -/
theorem appendSeq_any {gf : Nat} {lb : Array Value} {S : List Int → Prop} {N : Nat} {w : World} (eg : ∀ args w, (callFunc gf args).run Try.prog w = .ok (.enter gf args) w)
    (hseq : SeqStopsK Fence.wide 9 Try.prog gf lb (fun x : Int => #[encU x]) KeepsWalks S (fun _ => True) N w) (hN : N ≤ 100000000) :
    Calls Try.prog 26 #[.slice none 0 0, .func (.func gf) #[] lb] w fun e w' => ∃ (v : Value) (ss : List Int), e = .returned v ∧ S ss ∧ ss.length ≤ N ∧ w'.ownsRow w.heap.size 23 1 v ss.length (ss.map encU) ∧ Below w.heap.size w w' := by
  obtain ⟨W0, hW0⟩ : ∃ W0, W0 = w.alloc (.cells #[.slice none 0 0] 32) := ⟨_, rfl⟩
  have b0 : Boxed W0 w.heap.size 32 (.slice none 0 0) := by rw [hW0]; exact Boxed.new w _ _
  have hB0 : Below w.heap.size w W0 := by rw [hW0]; exact (Below.refl _ w).alloc (Nat.le_refl _) _
  have hs0 : W0.heap.size = w.heap.size + 1 := by rw [hW0]; simp
  obtain ⟨i0, hi, hz0, hz1, hz2⟩ := info_parts Try.infoU64
  refine (callsIn_wide (n := 10)).1 ?_
  refine callsIn_of_wp_marks Try.func26 rfl trivial ?_ rfl
  simp only [Try.ntmps26, List.size_toArray, List.length_cons, List.length_nil, Nat.reduceAdd, Nat.reduceSub, Array.replicate_succ, Array.replicate_zero, List.push_toArray, List.append_toArray, List.nil_append, List.cons_append]
  gi_wp2
  rw [← hW0]
  clear hW0
  refine wpIn_rangeFunc_ownF rfl (by decide) (gf := gf) (lb := lb) rfl trivial eg hseq walksK_t walksK_b hB0 (fun _ => rfl)
    (fun pre W => (∃ v, Boxed W w.heap.size 32 v ∧ W.ownsRow w.heap.size 23 1 v pre.length (pre.map encU) ∧ pre.length ≤ N) ∧ Below w.heap.size w W)
    (fun _ _ _ => False)
    (OwnFrom.and (Own.from (holdsRow_own w.heap.size w.heap.size 32 23 1 (fun pre : List Int => pre.length) (fun pre => pre.map encU) (fun pre _ => pre.length ≤ N)) _) (ownFrom_below (Nat.le_refl _) (by omega)))
    (fun _ _ _ _ _ hs _ _ => hs.elim)
    ⟨⟨_, b0, World.ownsRow_nil W0 w.heap.size 23 1, Nat.zero_le _⟩, hB0⟩
    (fun x => { tmps := #[.slice none 0 0, .func (.func gf) #[] lb, .pointer (some ⟨w.heap.size, 0, none⟩), undef, .slice none 0 0, encU x, .func (.func gf) #[] lb, encU x, undef, undef, undef, undef, undef], defers := [] }) ?assign ?body ?done ?stop
  case assign =>
    intro l x W K hK
    gi_wp2
    exact hK
  case body =>
    rintro l pre x W ⟨⟨v, hv, hrow, _⟩, hB⟩ hl
    have hc0 := hv.cell
    have hf0 := hv.frozen
    have hm1 : pre.length + 1 ≤ N := hl
    have hm2 : pre.length + 1 ≤ maxLen := by unfold maxLen; omega
    gi_wp2_with (gi_at_builtin; refine wpListIn_append_own _ rfl _ _ 32 rfl w.heap.size 23 i0 (.int .u64 0) 1 8 Try.underlying32 hi hz0 hz1 hz2 rfl (by decide) _ _ _ rfl (hrow.alloc _) ⟨W.heap.size, 0, none⟩ 1 1 [encU x] rfl rfl (cell_one_new _ _ _) (by simp [Value.oneCell']) (by omega) (by omega) (by have := hB.size; simp; omega) ?_; intro v' w1 hown' hgrow _; obtain ⟨g', cap', rfl⟩ := ownsRow_succ hown'; obtain ⟨hv1, hv2, hr2, hk2, hb2⟩ := hv.appended (by decide) hrow hB.size (Nat.le_refl _) hown' hgrow; have hc1 := hv1.cell; have hf1 := hv1.frozen)
    refine ⟨hk2, hk2.walks, ⟨_, hv2, ?_, by simpa using hm1⟩, hB.trans hb2⟩
    simpa using hr2
  case done =>
    rintro D ss W hD hS ⟨⟨v, hv, hrow, hlN⟩, hB⟩ hK
    have hc0 := hv.cell
    gi_wp2
    refine ⟨by simp, .inl ⟨_, _, rfl, run_takeDeferred hK, ?_⟩⟩
    exact ⟨_, results_tmp rfl _ _ _, v, ss, rfl, hS, hlN, ownsRow_putObj hrow _ hK rfl, hB.trans (belowK_b (w := w) (Nat.le_refl _) W D _ _ (by have := hB0.size; omega) hK rfl rfl)⟩
  case stop => intro D c pre W _ _ h _; exact h.elim

/-- A row of the call's own, once it is sorted, is owned as before; nothing else has turned. -/
theorem SU.row {W w' : World} {g n cap base : Nat} {e : TypeId} {cur : Array Value} {ts : List Int} (S : SU W g 0 n ts.toArray w') (hb : W.heap[g]? = some (.cells cur e (0, 0))) (h1 : n ≤ cap) (h2 : cap ≤ maxLen) (h3 : cur.size = cap * 1) (hbase : base ≤ g) :
    w'.ownsRow base e 1 (.slice (some ⟨g, 0, none⟩) n cap) n (ts.map encU) ∧ W.grownBy w' (some g) := by
  have hn : ts.length = n := by have := S.hs; simpa using this
  obtain ⟨m, os, rfl⟩ := S.sw
  have hg : g < W.heap.size := S.hb
  have hz : (putRow encU (Sort.ahead W m) g 0 ts.toArray).heap.size = W.heap.size := by simp [putRow, mapBlock, Sort.ahead]
  have hcell : ∀ k, k < W.heap.size → (sortWorld encU W g 0 m ts.toArray os).heap[k]? = (putRow encU (Sort.ahead W m) g 0 ts.toArray).heap[k]? := fun k hk => heap_grow_old _ _ (by rw [hz]; exact hk)
  have hblk : (sortWorld encU W g 0 m ts.toArray os).heap[g]? = some (.cells (putCells encU 0 ts.toArray cur) e (0, 0)) := by
    rw [hcell g hg]
    simp [putRow, mapBlock, Sort.ahead, Array.getElem?_modify, hb, onCells]
  refine ⟨⟨by simp [hn], .inr ⟨g, cap, _, rfl, hbase, hblk, h1, h2, by simp [putCells, h3], ?_⟩⟩, rfl, rfl, rfl, by unfold sortWorld; rw [size_grow, hz]; omega, fun k hk hne => ?_⟩
  · apply List.ext_getElem?
    intro j
    by_cases hj : j < ts.length
    · rw [List.getElem?_take_of_lt (by omega), Array.getElem?_toList]
      simp [putCells, hj, show j < cur.size by omega]
    · rw [List.getElem?_take_eq_none (by omega), List.getElem?_eq_none (by simp; omega)]
  · rw [hcell k hk]
    have : g ≠ k := fun e => hne (by rw [e])
    simp [putRow, mapBlock, Sort.ahead, Array.getElem?_modify, this]

set_option maxHeartbeats 2000000 in
theorem collectU_any {gf : Nat} {lb : Array Value} {S : List Int → Prop} {N : Nat} {w : World} (eg : ∀ args w, (callFunc gf args).run Try.prog w = .ok (.enter gf args) w)
    (hseq : SeqStopsK Fence.wide 9 Try.prog gf lb (fun x : Int => #[encU x]) KeepsWalks S (fun _ => True) N w) (hN : N ≤ 100000000) :
    Calls Try.prog 23 #[.func (.func gf) #[] lb] w fun e w' => ∃ (v : Value) (ss : List Int), e = .returned v ∧ S ss ∧ ss.length ≤ N ∧ w'.ownsRow w.heap.size 23 1 v ss.length (ss.map encU) ∧ Below w.heap.size w w' := by
  have p1 := appendSeq_any eg hseq hN
  go_enter Try.func23, Try.ntmps23
  go_wp2_with fail
  refine p1.mono ?_
  rintro e w1 ⟨v, ss, rfl, h⟩
  have H : Hid _ := h
  clear h p1
  go_wp2_with fail
  go_ret
  exact ⟨v, ss, rfl, H.out⟩

/-- Sorted: the numbers, rising. -/
def risen (ss : List Int) : List Int := ss.mergeSort fun x y => decide (x ≤ y)

set_option maxHeartbeats 4000000 in
theorem sortedU_any {gf : Nat} {lb : Array Value} {S : List Int → Prop} {N : Nat} {w : World} (eg : ∀ args w, (callFunc gf args).run Try.prog w = .ok (.enter gf args) w)
    (hseq : SeqStopsK Fence.wide 9 Try.prog gf lb (fun x : Int => #[encU x]) KeepsWalks S (fun _ => True) N w) (hN : N ≤ 100000000) :
    Calls Try.prog 21 #[.func (.func gf) #[] lb] w fun e w' => ∃ (ag : Option Addr) (c : Nat) (ss : List Int), e = .returned (.slice ag ss.length c) ∧ S ss ∧ ss.length ≤ N ∧ w'.ownsRow w.heap.size 23 1 (.slice ag ss.length c) ss.length ((risen ss).map encU) ∧ Below w.heap.size w w' := by
  have p1 := collectU_any eg hseq hN
  go_enter Try.func21, Try.ntmps21
  go_wp2_with fail
  refine p1.mono ?_
  rintro e w1 ⟨v, ss, rfl, hS, hlN, hrow, hB⟩
  have HS : Hid _ := hS
  have HB : Hid _ := hB
  clear hS hB p1
  rcases hrow.2 with ⟨rfl, hz⟩ | ⟨gb, cap, cur, rfl, hbase, hgb, r1, r2, r3, r4⟩
  · have hss : ss = [] := List.eq_nil_of_length_eq_zero hz
    subst hss
    have p2 := sortu_none 0 w1
    clear hrow hz
    go_wp2_with fail
    refine p2.mono ?_
    rintro e w2 ⟨rfl, rfl⟩
    clear p2
    go_wp2_with fail
    go_ret
    exact ⟨none, 0, [], rfl, HS.out, Nat.zero_le _, by simpa [risen] using World.ownsRow_nil _ _ _ _, HB.out⟩
  · have hH : Holds encU w1 gb 0 ss.toArray := by
      intro j hj
      have hj' : j < ss.length := by simpa using hj
      refine ⟨?_, by simp [World.frozen?, hgb]⟩
      have h1 : (cur.toList.take (ss.length * 1))[j]? = (ss.map encU)[j]? := by rw [r4]
      rw [Nat.mul_one, List.getElem?_take_of_lt hj'] at h1
      simp only [World.cell?, hgb, Nat.zero_add]
      simp only [Option.isSome_none, Bool.false_eq_true, if_false]
      rw [← Array.getElem?_toList, h1]
      simp [hj']
    have hgl : gb < w1.heap.size := (Array.getElem?_eq_some_iff.1 hgb).1
    have hsz : ss.length < 4611686018427387904 := by omega
    have S0 := SU.start (n := ss.length) hH (by simp) hgl
    have p2 := sortu_any S0 cap hsz
    have HG : Hid _ := hgb
    have HR : Hid (ss.length ≤ cap ∧ cap ≤ maxLen ∧ cur.size = cap * 1 ∧ w.heap.size ≤ gb) := ⟨r1, r2, r3, hbase⟩
    clear hH S0 r1 r2 r3 r4 hrow hgb hgl hbase
    go_wp2_with fail
    refine p2.mono ?_
    rintro e w2 ⟨rfl, hS2⟩
    have HS2 : Hid _ := hS2
    clear hS2 p2
    go_wp2_with fail
    go_ret
    obtain ⟨r1, r2, r3, hbase⟩ := HR.out
    have := HS2.out.row HG.out r1 r2 r3 hbase
    exact ⟨_, cap, ss, rfl, HS.out, hlN, by simpa [risen] using this.1, HB.out.grown this.2 HB.out.size (fun k e => by cases e; exact hbase)⟩
end Go.Proofs.Ytnojjipoppemcaa
