/- The landed play: how it begins. -/
import Derived.Test.YtknfjonaepggnaaLoserPlays
import Derived.Laws.CopyOwn
import Derived.Laws.MakeOwn
import Derived.Deep.Cut
import Derived.Deep.CutBlock
namespace Go.Proofs.Ytknfjonaepggnaa
open Go.RowKit
set_option linter.unusedVariables false
set_option linter.unusedSimpArgs false

theorem wpList_copy_whole {P : Program} {w : World} {ops : Array Oper} {rest : List Oper} {o : Oper} {a : Act} {Q : Exit → Act → World → Prop} (hgd : o.guard = none) (d s : Operand) (dT sT : TypeId)
    (ho : o.op = .call { callee := .builtin .copy, args := #[d, s], argTypes := #[dT, sT] }) (elem : TypeId) (hu : P.underlying dT = some (.slice elem)) (hsz : (P.info? elem).map (·.size) = some 1)
    (g n dCap : Nat) (ad : Addr) (sCap : Nat) (hd : a.eval d = .slice (some ⟨g, 0, none⟩) n dCap) (hs : a.eval s = .slice (some ad) n sCap)
    (cur : Array Value) (t : TypeId) (hg : w.heap[g]? = some (.cells cur t (0, 0))) (cs : List Value) (hn : cs.length = n) (hcur : cur.size = n)
    (hsrc : ∀ j v, cs[j]? = some v → w.cell? (ad.add j) = some v) (h1 : ∀ v ∈ cs, v.oneCell' = true)
    (h : ∀ w', w'.heap[g]? = some (.cells cs.toArray t (0, 0)) → w.grownBy w' (some g) → wpList P ops Q rest (a.put o.dst (goInt cs.length)) w') : wpList P ops Q (o :: rest) a w := by
  refine wpList_copy_own hgd d s dT sT ho elem hu hsz g 0 n dCap ad n sCap hd hs cur t hg cs (by simp [hn]) hsrc (by omega) h1 (h _ ?_ ?_)
  · have := setRow_heap w g cur (cur.toList.take 0 ++ (cs ++ cur.toList.drop (0 + cs.length))).toArray t _ hg
    rw [this]
    have e : cur.toList.drop (0 + cs.length) = [] := List.drop_eq_nil_of_le (by simp; omega)
    rw [e]; simp
  · refine ⟨rfl, rfl, rfl, by simp [World.setRow], fun k hk hr => setRow_other w g k _ (fun e => hr (by rw [e]))⟩

theorem Try.infoInt : (Try.prog.info? 3).map (fun i => (i.zero, i.size, i.bytes)) = some (some (.int .i64 0), 1, 8) := by kernel_rfl
theorem made_ints (n : Nat) (e : Int) (he : e = n) (h : n ≤ 10000000) (W : World) :
    (Instr.makeSlice 93 (.int .i64 e) (.int .i64 e)).run Try.prog W = .ok (.slice (some ⟨W.heap.size, 0, none⟩) n n) (W.alloc (.cells (numsV (List.replicate n 0)).toArray 3)) := by
  subst he
  obtain ⟨i0, hi, hz0, hz1, hz2⟩ := info_parts Try.infoInt
  have hC : madeCells (Value.int .i64 0).cells (n * i0.size) = (numsV (List.replicate n 0)).toArray := by
    rw [hz1, Nat.mul_one]
    apply Array.ext
    · simp [madeCells, numsV]
    · intro j h1 h2
      simp [madeCells, Value.cells, Nat.mod_one, numsV]
  have := run_make (P := Try.prog) W 93 3 i0 (.int .i64 0) Try.underlying93 hi hz0 .i64 .i64 n n (by omega) (Int.le_refl _) (by rw [hz2]; omega) (by omega)
  rw [Int.toNat_natCast, hC] at this
  exact this
theorem made_lists (n : Nat) (h : n ≤ 10000000) : ∃ C : Array Value, C.size = n ∧ ∀ W : World, (Instr.makeSlice 45 (.int .i64 (n : Int)) (.int .i64 (n : Int))).run Try.prog W = .ok (.slice (some ⟨W.heap.size, 0, none⟩) n n) (W.alloc (.cells C 49)) := by
  obtain ⟨i0, hi, hz0, hz1, hz2⟩ := info_parts Try.infoEs
  refine ⟨madeCells (Value.slice none 0 0).cells (n * i0.size), by simp [madeCells, hz1], fun W => ?_⟩
  have := run_make (P := Try.prog) W 45 49 i0 (.slice none 0 0) Try.underlying45 hi hz0 .i64 .i64 n n (by omega) (Int.le_refl _) (by rw [hz2]; omega) (by omega)
  rw [Int.toNat_natCast] at this
  exact this
theorem three_allocs (w : World) (a b c : Obj) : (((w.alloc a).alloc b).alloc c).heap[w.heap.size]? = some a ∧ (((w.alloc a).alloc b).alloc c).heap[w.heap.size + 1]? = some b ∧ (((w.alloc a).alloc b).alloc c).heap[w.heap.size + 2]? = some c ∧ Below w.heap.size w (((w.alloc a).alloc b).alloc c) := by
  refine ⟨?_, ?_, ?_, (((Below.refl _ w).alloc (Nat.le_refl _) _).alloc (by simp) _).alloc (by simp; omega) _⟩
  · rw [Lib.alloc_old _ _ _ (by simp; omega), Lib.alloc_old _ _ _ (by simp)]; exact Array.getElem?_push_size
  · rw [Lib.alloc_old _ _ _ (by simp)]
    have := heap_alloc_new (w.alloc a) b
    simpa using this
  · have := heap_alloc_new ((w.alloc a).alloc b) c
    simpa using this

/-- A play whose lists were not laid in. -/
structure RawPlay (B : Nat) (W : World) (pb lb ob n : Nat) (C : Array Value) : Prop where
  blk : W.heap[pb]? = some (.cells #[.slice (some ⟨lb, 0, none⟩) n n, .slice (some ⟨ob, 0, none⟩) n n] 95 (0, 0))
  left : W.heap[lb]? = some (.cells C 49 (0, 0))
  los : W.heap[ob]? = some (.cells (numsV (List.replicate n 0)).toArray 3 (0, 0))
  base : B ≤ pb ∧ B ≤ lb ∧ B ≤ ob
/-- The winners, beside a play: one match's two stores, in either order. -/
structure WinsAt (B : Nat) (W : World) (pb lb ob wb : Nat) (ls : List (List En)) (L ws : List Nat) (vs : List Value) : Prop where
  play : PlayAt B W pb lb ob ls L vs
  wins : W.heap[wb]? = some (.cells (numsV ws).toArray 3 (0, 0))
  off : B ≤ wb ∧ wb ≠ pb ∧ wb ≠ lb ∧ wb ≠ ob
theorem WinsAt.later {B C : Nat} {W W' : World} {pb lb ob wb : Nat} {ls : List (List En)} {L ws : List Nat} {vs : List Value} (h : WinsAt B W pb lb ob wb ls L ws vs) (hb : Below C W W') (hC : W.heap.size ≤ C) : WinsAt B W' pb lb ob wb ls L ws vs :=
  ⟨h.play.later hb hC, (hb.block wb (by have := (Array.getElem?_eq_some_iff.1 h.wins).1; omega)).trans h.wins, h.off⟩
theorem WinsAt.setW {B : Nat} {W : World} {pb lb ob wb : Nat} {ls : List (List En)} {L ws : List Nat} {vs : List Value} (h : WinsAt B W pb lb ob wb ls L ws vs) (i v : Nat) : WinsAt B (W.setCell ⟨wb, i, none⟩ (.int .i64 (v : Nat))) pb lb ob wb ls L (ws.set i v) vs := by
  obtain ⟨h1, h2, h3, h4⟩ := h.off
  refine ⟨h.play.kept (Below.heap_setCell _ _ _ _ (fun e => h2 e.symm)) (Below.heap_setCell _ _ _ _ (fun e => h3 e.symm)) (Below.heap_setCell _ _ _ _ (fun e => h4 e.symm)) fun k hk _ => Below.heap_setCell _ _ _ _ (show k ≠ wb by omega), ?_, h.off⟩
  rw [heap_setCell_same W wb i _ _ _ h.wins]; simp [← nums_set]
theorem WinsAt.setL {B : Nat} {W : World} {pb lb ob wb : Nat} {ls : List (List En)} {L ws : List Nat} {vs : List Value} (h : WinsAt B W pb lb ob wb ls L ws vs) (i v : Nat) : WinsAt B (W.setCell ⟨ob, i, none⟩ (.int .i64 (v : Nat))) pb lb ob wb ls (L.set i v) ws vs :=
  ⟨h.play.setL i v, (Below.heap_setCell _ _ _ _ h.off.2.2.2).trans h.wins, h.off⟩
theorem WinsAt.cw {B : Nat} {W : World} {pb lb ob wb : Nat} {ls : List (List En)} {L ws : List Nat} {vs : List Value} (h : WinsAt B W pb lb ob wb ls L ws vs) {i : Nat} (hi : i < ws.length) : W.cell? ⟨wb, i, none⟩ = some (.int .i64 (ws.getD i 0 : Nat)) := by
  have : (numsV ws)[i]? = some (.int .i64 (ws.getD i 0 : Nat)) := by simp [numsV, List.getD_eq_getElem?_getD, List.getElem?_eq_getElem hi]
  simp [World.cell?, h.wins, this]
theorem WinsAt.fw {B : Nat} {W : World} {pb lb ob wb : Nat} {ls : List (List En)} {L ws : List Nat} {vs : List Value} (h : WinsAt B W pb lb ob wb ls L ws vs) (i : Nat) : W.frozen? ⟨wb, i, none⟩ = false := by simp [World.frozen?, h.wins]
def BeginAt (w : World) (ls : List (List En)) (vs : List Value) (n : Nat) (e : Ending) (w' : World) : Prop :=
  Below w.heap.size w w' ∧ ∃ pb lb ob L W, e = .returned (.pointer (some ⟨pb, 0, none⟩)) ∧ PlayAt w.heap.size w' pb lb ob ls L vs ∧ L.length = n ∧ Tree ls L W n ∧ L.getD 0 0 = W 1

set_option maxRecDepth 100000 in
set_option maxHeartbeats 8000000 in
theorem begin_any {B : Nat} {w : World} {ao : Option Addr} {n cap : Nat} {vs : List Value} {ls : List (List En)} (h : Reads w ao n cap vs) (hv : ListVals B w vs ls) (h1 : 1 ≤ n) (h2 : n ≤ 1000000) :
    Calls Try.prog 31 #[.slice ao n cap] w fun e w' => BeginAt w ls vs n e w' := by
  have hlx : ls.length = n := by rw [← hv.length]; exact h.length
  obtain ⟨b, off, rfl, hbl, hc⟩ := h.atV (by omega)
  obtain ⟨C, hC, mk1⟩ := made_lists n (by omega)
  have mk2 := made_ints n n rfl (by omega)
  obtain ⟨m2, hm2⟩ : ∃ m2, m2 = 2 * n := ⟨_, rfl⟩
  have mk3 := made_ints m2 (2 * n) (by omega) (by omega)
  have Hm2 : Hid _ := hm2
  clear hm2
  go_enter Try.func31, Try.ntmps31
  go_upto_region 2 with (fail)
  go_cut [4] from 10 to 15 (fun p wq => ∃ pb lb ob, p = .pointer (some ⟨pb, 0, none⟩) ∧ RawPlay w.heap.size wq pb lb ob n C ∧ Below w.heap.size w wq)
  case first =>
    go_region
    · go_wp2_with fail
      go_meet
      case rel => exact ⟨w.heap.size + 1 + 1, w.heap.size, w.heap.size + 1, rfl, ⟨(three_allocs w _ _ _).2.2.1, (three_allocs w _ _ _).1, (three_allocs w _ _ _).2.1, by omega⟩, (three_allocs w _ _ _).2.2.2.drew⟩
    · go_wp2_with fail
      go_meet
      case rel => exact ⟨w.heap.size + 1 + 1, w.heap.size + 1, w.heap.size, rfl, ⟨(three_allocs w _ _ _).2.2.1, (three_allocs w _ _ _).2.1, (three_allocs w _ _ _).1, by omega⟩, (three_allocs w _ _ _).2.2.2.drew⟩
  case rest =>
    obtain ⟨pb, lb, ob, rfl, hRaw, hB1⟩ := hcut
    have hrd := h.later hB1 (Nat.le_refl _)
    have hv1 := hv.here.later hB1 (Nat.le_refl _)
    have c0 : wc.cell? ⟨pb, 0, none⟩ = some (.slice (some ⟨lb, 0, none⟩) n n) := by simp [World.cell?, hRaw.blk]
    have hsrc : ∀ j v, vs[j]? = some v → wc.cell? ((⟨b, off, none⟩ : Addr).add j) = some v := fun j v hv => hrd.cell _ rfl j v hv
    have hvn : vs.length = n := h.length
    go_wp2_with (with_reducible (show wpList _ _ _ ({ dst := _, op := .call { callee := .builtin .copy, args := _, argTypes := _ }, type := _, pos := _, after := _, guard := _ } :: _) _ _); go_loud (refine wpList_copy_whole rfl (.tmp 19) (.tmp 20) 45 45 rfl 49 Try.underlying45 (by kernel_rfl) lb n n ⟨b, off, none⟩ cap rfl rfl C 49 hRaw.left vs hvn hC hsrc hv1.oneCell ?_); intro w3 hg3 hgr3)
    have hp3 : PlayAt w.heap.size w3 pb lb ob ls (List.replicate n 0) vs := by
      have a1 : pb ≠ lb := fun e => by have := hRaw.blk; rw [e, hRaw.left] at this; simp at this
      have a3 : ob ≠ lb := fun e => by have := hRaw.los; rw [e, hRaw.left] at this; simp at this
      have l1 := (Array.getElem?_eq_some_iff.1 hRaw.blk).1
      have l3 := (Array.getElem?_eq_some_iff.1 hRaw.los).1
      obtain ⟨b1, b2, b3⟩ := hRaw.base
      refine ⟨?_, hg3, ?_, hv1.kept fun k hk hk2 => hgr3.block k hk2 (fun e => by have : k = lb := (by simpa using e); omega), by rw [hlx, List.length_replicate], by rw [List.length_replicate]; exact h2, hRaw.base⟩
      · rw [hgr3.block pb l1 (fun e => a1 (by simpa using e)), hRaw.blk, List.length_replicate]
      · rw [hgr3.block ob l3 (fun e => a3 (by simpa using e)), hRaw.los]
    have hB3 : Below w.heap.size w w3 := hB1.grown hgr3 hB1.size (fun k hk => by cases hk; exact hRaw.base.2.1)
    obtain ⟨wb, hwb⟩ : ∃ wb, wb = w3.heap.size := ⟨_, rfl⟩
    have hlt := hp3.lt
    have hp4 := hp3.later (W' := w3.alloc (.cells (numsV (List.replicate m2 0)).toArray 3)) ((Below.refl _ _).alloc (Nat.le_refl _) _) (Nat.le_refl _)
    have hw4 : (w3.alloc (.cells (numsV (List.replicate m2 0)).toArray 3)).heap[wb]? = some (.cells (numsV (List.replicate m2 0)).toArray 3 (0, 0)) := by rw [hwb]; exact heap_alloc_new _ _
    have hB4 := hB3.alloc hB3.size (.cells (numsV (List.replicate m2 0)).toArray 3)
    have hwbs : w.heap.size ≤ wb ∧ wb ≠ pb ∧ wb ≠ lb ∧ wb ≠ ob := by have := hB3.size; omega
    have HS : Hid (m2 = 2 * n ∧ (List.replicate m2 0).length = m2 ∧ ∀ k, k < 0 → (List.replicate m2 0).getD (n + k) 0 = k) := ⟨Hm2.out, by simp, fun k hk => by omega⟩
    have hW4 : WinsAt w.heap.size (w3.alloc (.cells (numsV (List.replicate m2 0)).toArray 3)) pb lb ob wb ls (List.replicate n 0) (List.replicate m2 0) vs := ⟨hp4, hw4, hwbs⟩
    rw [← hwb]
    generalize w3.alloc (.cells (numsV (List.replicate m2 0)).toArray 3) = w4 at hW4 hB4 ⊢
    clear hp3 hB3 hlt hRaw hgr3 hg3 c0 hsrc hrd hB1 hv1 mk1 mk2 mk3 hc hbl hwb hw4 hp4 hwbs
    go_loopw [27] (fun i wr => ∃ (j : Nat) (ws : List Nat), i = .int .i64 j ∧ j ≤ n ∧ WinsAt w.heap.size wr pb lb ob wb ls (List.replicate n 0) ws vs ∧ Hid (m2 = 2 * n ∧ ws.length = m2 ∧ ∀ k, k < j → ws.getD (n + k) 0 = k) ∧ Below w.heap.size w wr) (fun i _ => (n - intOf i).toNat)
    case atStart => exact ⟨0, _, rfl, Nat.zero_le _, hW4, HS, hB4⟩
    case round =>
      obtain ⟨j, ws, rfl, hj, hw, hS, hB⟩ := hrel
      clear hW4 HS hB4
      obtain ⟨q1, q2, q3⟩ := hS.out
      by_cases hjn : j < n
      · have hji : (j : Int) < n := by omega
        have hx : (n : Int) + j < m2 := by omega
        have hx0 : (0 : Int) ≤ (n : Int) + j := by omega
        have cw := hw.cw (i := n + j) (by omega)
        have fw := hw.fw (n + j)
        have HW2 : Hid _ := hw.setW (n + j) j
        have HB2 : Hid _ := hB.setCell hw.off.1 (p := ⟨wb, n + j, none⟩) (.int .i64 (j : Nat))
        have hS2 : Hid (m2 = 2 * n ∧ (ws.set (n + j) j).length = m2 ∧ ∀ k, k < j + 1 → (ws.set (n + j) j).getD (n + k) 0 = k) := by
          refine ⟨q1, by rw [List.length_set]; exact q2, fun k hk => ?_⟩
          by_cases hkj : k = j
          · subst hkj; exact getD_set_eq (by omega)
          · rw [getD_set_ne (by omega)]; exact q3 k (by omega)
        clear hw hS hB q1 q2 q3
        go_wp2
        go_roundw
        case rel => exact ⟨j + 1, _, by go_num, by omega, HW2.out, hS2, HB2.out⟩
        case measure => simp [intOf]; omega
      · have hje : j = n := by omega
        have hni : ¬ (j : Int) < n := by omega
        have HS : Hid (m2 = 2 * n ∧ (List.replicate n 0).length = n ∧ ws.length = m2 ∧ Built ls (List.replicate n 0) ws n (n - 1)) := ⟨q1, by simp, q2, Built.start fun k hk => q3 k (by omega)⟩
        have hw0 := hw
        have hB0 := hB
        clear hS q1 q2 q3 hje hjn hw hB
        go_wp2_with fail
        go_loopw [7] (fun i wr => ∃ (m : Nat) (L ws : List Nat), i = .int .i64 m ∧ m ≤ n - 1 ∧ WinsAt w.heap.size wr pb lb ob wb ls L ws vs ∧ Hid (m2 = 2 * n ∧ L.length = n ∧ ws.length = m2 ∧ Built ls L ws n m) ∧ Below w.heap.size w wr) (fun i _ => (intOf i).toNat)
        case atStart => exact ⟨n - 1, _, _, by rw [show ((n - 1 : Nat) : Int) = (n : Int) - 1 by omega], Nat.le_refl _, hw0, HS, hB0⟩
        case round =>
          obtain ⟨m, L, ws, rfl, hm, hw, hS, hB⟩ := hrel
          clear hw0 HS hB0
          obtain ⟨q1, q2, q3, q4⟩ := hS.out
          have c1 := hw.play.c1
          rw [q2] at c1
          have hne1 := hw.off.2.2.2
          have hne2 : ob ≠ wb := fun e => hne1 e.symm
          have hne3 := hw.off.2.1
          have hne4 : pb ≠ wb := fun e => hne3 e.symm
          have hne5 := hw.play.apart.2.1
          have hne6 : ob ≠ pb := fun e => hne5 e.symm
          have hB1 := hw.off.1
          have hB2 := hw.play.base.2.2
          by_cases hm0 : 0 < m
          · have hmi : (0 : Int) < m := by omega
            have i1 : (2 * (m : Int)) < m2 := by omega
            have i2 : (2 * (m : Int) + 1) < m2 := by omega
            have i3 : (m : Int) < m2 := by omega
            have i4 : (m : Int) < n := by omega
            have i5 : (0 : Int) ≤ 2 * (m : Int) := by omega
            have i6 : (0 : Int) ≤ 2 * (m : Int) + 1 := by omega
            have i7 : (0 : Int) ≤ m := by omega
            have x1 : IntKind.i64.wrap (2 * (m : Int)) = 2 * m := by simp [IntKind.wrap, IntKind.bits, IntKind.signed]; omega
            have x2 : IntKind.i64.wrap (2 * (m : Int) + 1) = 2 * m + 1 := by simp [IntKind.wrap, IntKind.bits, IntKind.signed]; omega
            have y1 : (2 * (m : Int)).toNat = 2 * m := by omega
            have y2 : (2 * (m : Int) + 1).toNat = 2 * m + 1 := by omega
            have cw1 := hw.cw (i := 2 * m) (by omega)
            have cw2 := hw.cw (i := 2 * m + 1) (by omega)
            have cw3 := hw.cw (i := m) (by omega)
            have fw3 := hw.fw m
            have co := hw.play.co (i := m) (by omega)
            have fo := hw.play.fo m
            have hN := q4.next q2 (by omega) hm0 (by omega)
            have pm := fun W (hW : Below wr.heap.size wr W) => match_any (hw.play.later hW (Nat.le_refl _)) (ws.getD (2 * m) 0) (ws.getD (2 * m + 1) 0) (by rw [q2]; exact q4.lt _ (by omega) (by omega)) (by rw [q2]; exact q4.lt _ (by omega) (by omega))
            generalize matchF ls (ws.getD (2 * m) 0) (ws.getD (2 * m + 1) 0) = r at hN pm
            obtain ⟨ra, rb⟩ := r
            simp only at hN pm
            generalize ws.getD (2 * m) 0 = z1 at *
            generalize ws.getD (2 * m + 1) 0 = z2 at *
            generalize ws.getD m 0 = z3 at *
            generalize L.getD m 0 = z4 at *
            have HN : Hid (m2 = 2 * n ∧ (L.set m rb).length = n ∧ (ws.set m ra).length = m2 ∧ Built ls (L.set m rb) (ws.set m ra) n (m - 1)) := ⟨q1, by rw [List.length_set]; exact q2, by rw [List.length_set]; exact q3, hN⟩
            have HW : Hid _ := hw
            have HB : Hid _ := hB
            clear hN q1 q2 q3 q4 hS hw hB
            go_wp2_with fail
            go_region_with (go_at_call 49; refine (pm _ (by first | exact Below.refl _ _ | exact Below.drew (Below.refl _ _) | exact below_drewN (Below.refl _ _) _)).mono ?_; rintro e w1 ⟨rfl, mm, rfl⟩)
            all_goals
              have HW2 : Hid _ := ((HW.out.later (below_drewN (Below.refl _ _) (1 + mm)) (Nat.le_refl _)).setW m ra).setL m rb
              have HB2 : Hid _ := ((below_drewN HB.out (1 + mm)).setCell hB1 (p := ⟨wb, m, none⟩) (.int .i64 (ra : Nat))).setCell hB2 (p := ⟨ob, m, none⟩) (.int .i64 (rb : Nat))
              clear pm c1 cw1 cw2 cw3 fw3 co fo x1 x2 y1 y2 i1 i2 i3 i4 i5 i6
              go_wp2
              go_roundw
              case rel => exact ⟨m - 1, L.set m rb, ws.set m ra, by rw [show ((m - 1 : Nat) : Int) = (m : Int) - 1 by omega], by omega, HW2.out, HN, HB2.out⟩
              case measure => simp [intOf]; omega
          · have hm1 : m = 0 := by omega
            subst hm1
            have i1 : (1 : Int) < m2 := by omega
            have i2 : (0 : Int) < n := by omega
            have cw := hw.cw (i := 1) (by omega)
            have co := hw.play.co (i := 0) (by omega)
            have fo := hw.play.fo 0
            have hT := q4.done
            have hlt := q4.lt 1 (by omega) (by omega)
            have hw1 : wr.drew.cell? ⟨pb, 1, none⟩ = _ := c1
            have hw2 : wr.drew.cell? ⟨wb, 1, none⟩ = _ := cw
            have hw3 : wr.drew.cell? ⟨ob, 0, none⟩ = _ := co
            have hw4 : wr.drew.frozen? ⟨ob, 0, none⟩ = _ := fo
            have HP : Hid _ := (hw.play.setL 0 (ws.getD 1 0)).later ((Below.refl _ _).drew) (Nat.le_refl _)
            have HBz : Hid _ := (hB.setCell hB2 (p := ⟨ob, 0, none⟩) (.int .i64 (ws.getD 1 0 : Nat))).drew
            have HT : Hid (∃ W, (L.set 0 (ws.getD 1 0)).length = n ∧ Tree ls (L.set 0 (ws.getD 1 0)) W n ∧ (L.set 0 (ws.getD 1 0)).getD 0 0 = W 1) := ⟨_, by rw [List.length_set]; exact q2, hT.set0, getD_set_eq (by omega)⟩
            generalize ws.getD 1 0 = z at *
            clear hT hlt q1 q2 q3 q4 hS hw hB
            go_wp2_with fail
            go_region
            go_wp2
            go_ret
            obtain ⟨W, t1, t2, t3⟩ := HT.out
            exact ⟨HBz.out, pb, lb, ob, _, W, rfl, HP.out, t1, t2, t3⟩
#print axioms begin_any
end Go.Proofs.Ytknfjonaepggnaa
