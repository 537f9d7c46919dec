/- The landed run.payloads: an iterator over a run's records. -/
import Derived.Test.YtgnhnhachhfafaaRunPack
import Derived.Test.YtgnhnhachhfafaaRangeBy
import Derived.Test.YtgnhnhachhfafaaRef09Enc
import Derived.Shelf.RegionOpen
import Derived.WalkKit
import Derived.OwnWalkIn
import Derived.TacticsInMore
import Derived.LoopNIn
import Derived.LoopIn
namespace Go.Proofs.Ytgnhnhachhfafaa
open Go.RowKit
set_option linter.unusedVariables false
set_option linter.unusedSimpArgs false
attribute [local go_sem] Oper.semAt_some

theorem Reads.kept_own {w w' : World} {ao : Option Addr} {len cap : Nat} {xs : List Value} {row : Option Nat} (h : Reads w ao len cap xs) (hg : w.grownBy w' row) (hr : ∀ r, row = some r → ∃ o : Obj, w.heap[r]? = some o ∧ o.isCells = false) : Reads w' ao len cap xs :=
  ⟨h.length, h.le, h.most, h.bare, fun a ha j u hu => cell_kept (h.cell a ha j u hu) hg hr⟩
/-- What the k-th round hands out: the k-th row's bytes. -/
def VRow (rows : List (List Int)) (k : Nat) (args : Array Value) (W : World) : Prop :=
  ∃ row ag c m, rows[k]? = some row ∧ args = #[.slice ag m c] ∧ m = row.length ∧ Reads W ag m c (row.map (.int .u8))
theorem VRow.own (rows : List (List Int)) (B k : Nat) (args : Array Value) : OwnFrom B (fun (_ : Unit) W => VRow rows k args W) := fun _ A C row h hg hr => by
  obtain ⟨r, ag, c, m, h1, h2, h3, h4⟩ := h
  exact ⟨r, ag, c, m, h1, h2, h3, h4.kept_own hg fun r e => (hr r e).2⟩

theorem payloads_any (ao : Option Addr) (len cap : Nat) (s : Int) (w : World) :
    Calls Try.prog 36 #[.slice ao len cap, .int .i64 s] w fun e w' =>
      e = .returned (.func (.func 49) #[] #[.pointer (some ⟨w.heap.size + 1, 0, none⟩), .pointer (some ⟨w.heap.size, 0, none⟩)]) ∧
      w' = (w.alloc (.cells #[.slice ao len cap] 25)).alloc (.cells #[.int .i64 s] 3) := by
  go_enter Try.func36, Try.ntmps36
  go_wp2
  go_ret
  exact ⟨rfl, rfl⟩
#print axioms payloads_any

theorem rows_next {α : Type} {l : List α} {k : Nat} {x : α} {r : List α} (h : l.drop k = x :: r) : l[k]? = some x ∧ l.drop (k + 1) = r ∧ k < l.length := by
  have h1 : (l.drop k)[0]? = some x := by rw [h]; rfl
  rw [List.getElem?_drop, Nat.add_zero] at h1
  refine ⟨h1, ?_, (List.getElem?_eq_some_iff.1 h1).1⟩
  have : (l.drop k).drop 1 = r := by rw [h]; rfl
  rw [List.drop_drop] at this
  exact this

theorem rows_left {es : List En} {s at' : Nat} {E : List Int} (hs : 1 ≤ s) (h : at' < es.length) : (chunksE s (es.drop at')).map blockL ++ [E] = blockL ((es.drop at').take s) :: ((chunksE s (es.drop (at' + s))).map blockL ++ [E]) := by
  unfold chunksE
  have hl : (es.drop at').length = es.length - at' := by simp
  have hne : es.drop at' ≠ [] := fun e => by rw [e] at hl; simp at hl; omega
  obtain ⟨f, hf⟩ : ∃ f, (es.drop at').length = f + 1 := ⟨es.length - at' - 1, by omega⟩
  rw [hf, chunksF, if_neg hne, List.map_cons, List.cons_append, List.drop_drop]
  congr 3
  exact chunks_fuel f (es.drop (at' + s)).length s _ hs (by simp; omega) (Nat.le_refl _)

set_option maxRecDepth 100000 in
set_option maxHeartbeats 4000000 in
theorem payloads_gives {w : World} {Kp : World → World → Prop} {ao : Option Addr} {len cap s B1 B2 : Nat} {es : List En} (ho : ∀ e ∈ es, oneE e = true) (h1 : 1 ≤ s) (h2 : s ≤ 255) (hl : len ≤ 10000000)
    (hKt : ∀ {A B C : World}, Kp A B → Kp B C → Kp A C) (hKg : ∀ {A B : World}, w.heap.size ≤ A.heap.size → Grow A B → Kp A B) (hKs : ∀ W, Kp w W → w.heap.size ≤ W.heap.size)
    (hK : ∀ W, Kp w W → W.cell? ⟨B1, 0, none⟩ = some (.slice ao len cap) ∧ W.cell? ⟨B2, 0, none⟩ = some (.int .i64 (s : Nat)) ∧ ReadsE W ao len cap (cellsE es)) :
    GivesBy Try.prog 49 #[.pointer (some ⟨B2, 0, none⟩), .pointer (some ⟨B1, 0, none⟩)] (runRows es s).length (VRow (runRows es s)) Kp w := by
  intro l J Jx W hkW hJ hJx hY hJ0
  have hrd := (hK W hkW).2.2
  have hlx := hrd.count
  subst hlx
  have hle := hrd.le
  have hrun : (runRows es s).drop 1 = (chunksE s (es.drop 0)).map blockL ++ [encode 0 ++ encode es.length] := by simp [runRows]
  have hrun0 : (runRows es s)[0]? = some (encode s) := by simp [runRows]
  have hrl : 0 < (runRows es s).length := by simp [runRows]
  generalize runRows es s = rows at hY hrun hrun0 hrl ⊢
  refine callsIn_of_wp Try.func49 rfl trivial ?_ rfl
  simp only [Try.ntmps49, List.size_toArray, List.length_cons, List.length_nil, Nat.reduceAdd, Nat.reduceSub, Array.replicate_succ, Array.replicate_zero, List.push_toArray, List.append_toArray, List.nil_append, List.cons_append]
  obtain ⟨c1, c2, _⟩ := hK W hkW
  have hsz := hKs W hkW
  have hsi : (s : Int) ≤ 255 := by omega
  have p0 := put_any none 0 0 [] s W (Reads.nil W) (by omega) (by omega)
  rw [List.nil_append] at p0
  have V0 : ∀ {k row ag c m W}, rows[k]? = some row → m = 0 + row.length → Reads W ag m c (row.map (.int .u8)) → VRow rows k #[.slice ag m c] W := fun h1 h2 h3 => ⟨_, _, _, _, h1, rfl, by omega, h3⟩
  gi_wp2_with fail
  refine ⟨trivial, (callsIn_wide.2 p0).mono ?_⟩
  rintro e w1 ⟨g, c, m, hm, rfl, hr, hG⟩
  obtain ⟨fn, tmps, assign, body, hy, hR⟩ := hY 0 _ w1 hrl (hJ _ _ _ hJ0 hG) (V0 hrun0 hm (Reads.own hr))
  have hk1 : Kp w w1 := hKt hkW (hKg hsz hG)
  have hcl : ∀ {W'}, Kp w W' → (W'.cell? ⟨B1, 0, none⟩ = some (.slice ao es.length cap) ∧ W'.cell? ⟨B2, 0, none⟩ = some (.int .i64 (s : Nat)) ∧ ReadsE W' ao es.length cap (cellsE es)) ∧ w.heap.size ≤ W'.heap.size := fun h => ⟨hK _ h, hKs _ h⟩
  clear p0 hr hm hG hJ0 hkW c1 c2 hrun0
  gi_wp2_with fail
  refine hR.mono ?_
  rintro e w2 (⟨rfl, hJ2, hk2⟩ | ⟨rfl, hx2⟩)
  rotate_left
  · gi_wp2_with fail
    refine bodyPost_ret (results_none rfl _ _ _) rfl ?_
    exact ⟨⟨_, rfl⟩, .inr hx2⟩
  have hk2' := hKt hk1 hk2
  clear hR hy hk2 hk1
  gi_wp2_with fail
  gi_loopw [4] (fun i wr => ∃ at' k : Nat, i = .int .i64 (at' : Nat) ∧ at' ≤ es.length + 255 ∧ Hid (rows.drop k = (chunksE s (es.drop at')).map blockL ++ [encode 0 ++ encode es.length]) ∧ J k wr ∧ Kp w wr) (fun i _ => (es.length - intOf i).toNat)
  case atStart => exact ⟨0, 1, rfl, by omega, hrun, hJ2, hk2'⟩
  case round =>
    obtain ⟨at', k, rfl, hat, hD, hJr, hkr⟩ := hrel
    obtain ⟨⟨c1, c2, hre⟩, hsr⟩ := hcl hkr
    clear hJ2 hk2' hrun
    by_cases hlt : at' < es.length
    case neg =>
      have hlti : ¬ (at' : Int) < es.length := by omega
      have hrow := rows_next (l := rows) (k := k) (x := encode 0 ++ encode es.length) (r := []) (by rw [hD.out]; unfold chunksE; rw [List.drop_of_length_le (by omega)]; simp [chunksF])
      have hkl : k + 1 = rows.length := by
        have h3 := congrArg List.length hrow.2.1
        simp at h3
        omega
      clear hlt hD hre
      have hmx : Try.prog.follows .mixedOrders = true := by kernel_rfl
      have p3 : ∀ W, Calls Try.prog 50 #[.slice none 0 0, .int .u64 0] W fun e w' => ∃ g c m, e = .returned (.slice (some ⟨g, 0, none⟩) m c) ∧ m ≤ 10 ∧ w'.ownsRow W.heap.size 5 1 (.slice (some ⟨g, 0, none⟩) m c) m ((encode 0).map (.int .u8)) ∧ Grow W w' := fun W => by
        have := put_any none 0 0 [] 0 W (Reads.nil W) (by omega) (by omega)
        rw [List.nil_append] at this
        refine this.mono ?_
        rintro e w' ⟨g, c, m, hm, rfl, hr, hG⟩
        have := encode_len 0
        exact ⟨g, c, m, rfl, by omega, hr, hG⟩
      have p4 : ∀ W g m c B, m ≤ 10 → W.ownsRow B 5 1 (.slice (some ⟨g, 0, none⟩) m c) m ((encode 0).map (.int .u8)) → Calls Try.prog 50 #[.slice (some ⟨g, 0, none⟩) m c, .int .u64 (es.length : Nat)] W fun e w' => ∃ g c m, e = .returned (.slice (some ⟨g, 0, none⟩) m c) ∧ m = 0 + (encode 0 ++ encode es.length).length ∧ Reads w' (some ⟨g, 0, none⟩) m c ((encode 0 ++ encode es.length).map (.int .u8)) ∧ Grow W w' := fun W g m c B hm hr => by
        have h0 : m = (encode 0).length := by have := hr.1; simp at this; omega
        refine (put_any (some ⟨g, 0, none⟩) m c (encode 0) es.length W (Reads.own hr) (by omega) (by omega)).mono ?_
        rintro e w' ⟨g, c, m, hm, rfl, hr, hG⟩
        refine ⟨g, c, m, rfl, ?_, Reads.own hr, hG⟩
        rw [hm, h0, List.length_append]; omega
      have hYk : ∀ W3 args, Grow wr W3 → VRow rows k args W3 → YieldAt Fence.wide 8 Try.prog l args W3 fun e W' => ∃ b, e = .returned (.bool b) ∧ (J rows.length W' ∨ Jx W') := fun W3 args hG hv => by
        refine (hY k args W3 hrow.2.2 (hJ _ _ _ hJr hG) hv).mono ?_
        rintro e w' (⟨h1, h2, _⟩ | ⟨h1, h2⟩)
        · exact ⟨_, h1, .inl (hkl ▸ h2)⟩
        · exact ⟨_, h1, .inr h2⟩
      have hc1 : ∀ W3, Grow wr W3 → W3.cell? ⟨B1, 0, none⟩ = some (.slice ao es.length cap) := fun W3 hG => (hcl (hKt hkr (hKg hsr hG))).1.1
      have hD1 : Grow wr wr.drew := (Below.refl _ _).drew
      have c1d := hc1 _ hD1
      have hrow1 := hrow.1
      have wl : IntKind.u64.wrap (es.length : Int) = es.length := by rw [IntKind.wrap_u64]; omega
      clear hY hcl hJr hkr hJ hrow hK hKg hKt hKs
      gi_wp2_with fail
      gi_region_with_o (first
        | (refine ⟨trivial, ?_⟩; gi_at_call 50; refine (callsIn_wide.2 (p3 _)).mono ?_; clear p3; rintro e w3 ⟨g3, c3, m3, rfl, hm3, hr3, hG3⟩; have hG3' := hD1.trans hG3; have c3' := hc1 _ hG3')
        | (refine ⟨trivial, ?_⟩; gi_at_call 50; refine (callsIn_wide.2 (p4 _ _ _ _ _ hm3 hr3)).mono ?_; rintro e w4 ⟨g4, c4, m4, rfl, hm4, hr4, hG4⟩; obtain ⟨fn, tmps, assign, body, hy, hR⟩ := hYk w4 _ (Grow.trans hG3' hG4) (V0 hrow1 hm4 hr4); clear hm4 hr4)
        | (refine hR.mono ?_; rintro e w5 ⟨bb, rfl, hend⟩))
      all_goals go_end0
      all_goals exact ⟨⟨_, rfl⟩, hend⟩
    have hlti : (at' : Int) < es.length := by omega
    have hrow := rows_next (hD.out.trans (rows_left h1 hlt))
    obtain ⟨b, hb⟩ : ∃ b, b = (es.drop at').take s := ⟨_, rfl⟩
    rw [← hb] at hrow
    have hD2 : Hid _ := hrow.2.1
    obtain ⟨tt, hto⟩ : ∃ tt, tt = min (at' + s) es.length := ⟨_, rfl⟩
    have hto1 : at' ≤ tt := by omega
    have hto2 : tt ≤ es.length := by omega
    have hsp : (at' + s = tt ∧ tt ≤ es.length) ∨ (tt = es.length ∧ es.length < at' + s) := by omega
    obtain ⟨x1, hs1, hd1⟩ := ReadsE.mid (P := Try.prog) Try.underlying25 Try.sizeEn2 (ao := ao) (len := es.length) (cap := cap) hle at' tt hto1 hto2
    have hr1 := hd1 wr _ hre
    have heb : ((cellsE es).drop (at' * 2)).take ((tt - at') * 2) = cellsE b := by
      rw [cells_drop, cells_take, hb]
      congr 1
      rw [List.take_eq_take_iff]
      simp
      omega
    rw [heb] at hr1
    have hob : ∀ e ∈ b, oneE e = true := fun e he => ho e (List.mem_of_mem_drop (List.mem_of_mem_take (by rw [← hb]; exact he)))
    have pp := pack_any hr1 hob (by omega)
    have x2 : IntKind.i64.wrap ((at' : Int) + s) = (at' : Int) + s := by simp [IntKind.wrap, IntKind.bits, IntKind.signed]; omega
    have hYk : ∀ W3 args, Grow wr W3 → VRow rows k args W3 → YieldAt Fence.wide 8 Try.prog l args W3 fun e W' => (e = .returned (.bool true) ∧ J (k + 1) W' ∧ Kp w W') ∨ (e = .returned (.bool false) ∧ Jx W') := fun W3 args hG hv => by
      refine (hY k args W3 hrow.2.2 (hJ _ _ _ hJr hG) hv).mono ?_
      rintro e w' (⟨h1, h2, h3⟩ | ⟨h1, h2⟩)
      · exact .inl ⟨h1, h2, hKt (hKt hkr (hKg hsr hG)) h3⟩
      · exact .inr ⟨h1, h2⟩
    have hrow1 := hrow.1
    have H1 : Hid _ := hrow1
    clear hd1 heb hto hD hb hY hrow hrow1 hkr hJr
    rcases hsp with ⟨q, i2⟩ | ⟨q, i2⟩
    · have q' : (at' : Int) + s = tt := by omega
      have i1 : (at' : Int) ≤ tt := by omega
      have i3 : (tt : Int) ≤ es.length := by omega
      rw [q'] at x2
      have q : Hid (at' + s = tt) := q
      gi_wp2_with fail
      refine ⟨trivial, (callsIn_wide.2 pp).mono ?_⟩
      rintro e w3 ⟨ag3, c3, m3, rfl, hm3, hr3, hG3⟩
      obtain ⟨fn, tmps, assign, body, hy, hR⟩ := hYk w3 _ hG3 (V0 H1.out (by omega) (Reads.own hr3))
      clear pp hm3 hYk
      gi_wp2_with fail
      refine hR.mono ?_
      rintro e w4 (⟨rfl, hJ4, hk4⟩ | ⟨rfl, hx4⟩)
      · have c2' := (hcl hk4).1.2.1
        clear hr3 hs1 hr1 c1 c2 hre hR hy
        gi_wp2_with fail
        go_roundw
        case rel => exact ⟨tt, k + 1, rfl, by omega, by rw [← q.out]; exact hD2, hJ4, hk4⟩
        case measure => simp [intOf]; omega
      · gi_wp2_with fail
        refine bodyPost_ret (results_none rfl _ _ _) rfl ?_
        exact ⟨⟨_, rfl⟩, .inr hx4⟩
    · subst q
      have i1 : (at' : Int) ≤ es.length := by omega
      have i3 : (es.length : Int) < (at' : Int) + s := by omega
      gi_wp2_with fail
      refine ⟨trivial, (callsIn_wide.2 pp).mono ?_⟩
      rintro e w3 ⟨ag3, c3, m3, rfl, hm3, hr3, hG3⟩
      obtain ⟨fn, tmps, assign, body, hy, hR⟩ := hYk w3 _ hG3 (V0 H1.out (by omega) (Reads.own hr3))
      clear pp hm3 hYk
      gi_wp2_with fail
      refine hR.mono ?_
      rintro e w4 (⟨rfl, hJ4, hk4⟩ | ⟨rfl, hx4⟩)
      · have c2' := (hcl hk4).1.2.1
        clear hr3 hs1 hr1 c1 c2 hre hR hy
        gi_wp2_with fail
        go_roundw
        case rel => exact ⟨at' + s, k + 1, by go_num, by omega, hD2, hJ4, hk4⟩
        case measure => simp [intOf]; omega
      · gi_wp2_with fail
        refine bodyPost_ret (results_none rfl _ _ _) rfl ?_
        exact ⟨⟨_, rfl⟩, .inr hx4⟩
#print axioms payloads_gives
end Go.Proofs.Ytgnhnhachhfafaa
