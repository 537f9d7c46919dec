/- index.ended, follow, count: one state's edges, by counts that lie in memory. -/
import Derived.Test.YtkcledkfgmdcgaaIndexWalk
import Derived.Test.YtkcledkfgmdcgaaOwnMore
import Derived.Test.YtkcledkfgmdcgaaNumAdd
import Derived.Test.YtkcledkfgmdcgaaRef15C
namespace Go.Proofs.Ytkcledkfgmdcgaa
open Go.RowKit
set_option linter.unusedVariables false
set_option linter.unusedSimpArgs false

/-- The counts of the first i states, in m cells at off of block g. -/
def CntAt (w : World) (g off m : Nat) (S : List Stt) (i : Nat) : Prop :=
  g < w.heap.size ∧ i ≤ m ∧ ∀ t, t < i → w.cell? ⟨g, off + t, none⟩ = some (.int .u64 ((langS S t).length : Nat))
theorem CntAt.later {w w' : World} {g off m i : Nat} {S : List Stt} (h : CntAt w g off m S i) (hB : Below w.heap.size w w') : CntAt w' g off m S i :=
  ⟨Nat.lt_of_lt_of_le h.1 hB.size, h.2.1, fun t ht => (hB.cell (p := ⟨g, off + t, none⟩) h.1).trans (h.2.2 t ht)⟩
/-- Of a flag: how many words end. -/
def oneF (f : Bool) : Nat := if f then 1 else 0
theorem oneF_le (f : Bool) : oneF f ≤ 1 := by cases f <;> decide
theorem lang_parts {S : List Stt} (hS : GoodS S) {n : Nat} {f : Bool} {es : List (UInt8 × Nat)} (hs : S[n]? = some (f, es)) : (langS S n).length = oneF f + (flatS S es).length := by
  rw [lang_at hS hs]; unfold wordsOf
  rw [List.length_append]
  cases f <;> rfl
theorem flat_next (S : List Stt) {es : List (UInt8 × Nat)} {t : Nat} {e : UInt8 × Nat} (he : es[t]? = some e) : (flatS S (es.take (t + 1))).length = (flatS S (es.take t)).length + (langS S e.2).length := by
  have h1 : es.take (t + 1) = es.take t ++ [e] := by rw [List.take_add_one, he]; rfl
  rw [h1]
  unfold flatS
  rw [List.flatMap_append, List.length_append]
  simp
theorem flat_most (S : List Stt) (es : List (UInt8 × Nat)) (t : Nat) : (flatS S (es.take t)).length ≤ (flatS S es).length := by
  have h : flatS S es = flatS S (es.take t) ++ flatS S (es.drop t) := by
    unfold flatS
    rw [← List.flatMap_append, List.take_append_drop]
  rw [h, List.length_append]
  omega

set_option maxRecDepth 100000 in
set_option maxHeartbeats 4000000 in
theorem ended_any (w : World) (f : Bool) (v : Value) : Calls Try.prog 31 #[.agg #[.bool f, v]] w fun e w' => e = .returned (.int .u64 (oneF f : Nat)) ∧ Below w.heap.size w w' := by
  have hB : Below w.heap.size w (w.alloc (.cells #[.bool f, v] 45)) := (Below.refl _ _).alloc (Nat.le_refl _) _
  have HB : Hid _ := hB
  clear hB
  cases f with
  | true =>
    go_enter Try.func31, Try.ntmps31
    go_wp2
    go_ret
    exact ⟨rfl, HB.out⟩
  | false =>
    go_enter Try.func31, Try.ntmps31
    go_wp2
    go_ret
    exact ⟨rfl, HB.out⟩

/-- What follow tells: where a byte's edge leads, and what is ahead of it. -/
def ifollowV (S : List Stt) (f : Bool) (es : List (UInt8 × Nat)) (k : UInt8) : Value := match stepE es k with
  | some m => .tuple #[.int .i64 (m : Nat), .int .u64 ((oneF f + offE S es k : Nat) : Int), .bool true]
  | none => .tuple #[.int .i64 0, .int .u64 0, .bool false]
theorem estep_drop {es : List (UInt8 × Nat)} {j : Nat} {e : UInt8 × Nat} (he : es[j]? = some e) (k : UInt8) : stepE (es.drop j) k = if e.1 = k then some e.2 else stepE (es.drop (j + 1)) k := by
  obtain ⟨h1, h2⟩ := List.getElem?_eq_some_iff.1 he
  rw [List.drop_eq_getElem_cons h1, h2, stepE]
theorem off_drop (S : List Stt) {es : List (UInt8 × Nat)} {j : Nat} {e : UInt8 × Nat} (he : es[j]? = some e) (k : UInt8) : offE S (es.drop j) k = if e.1 = k then 0 else (langS S e.2).length + offE S (es.drop (j + 1)) k := by
  obtain ⟨h1, h2⟩ := List.getElem?_eq_some_iff.1 he
  rw [List.drop_eq_getElem_cons h1, h2, offE]

set_option maxRecDepth 100000 in
set_option maxHeartbeats 4000000 in
theorem ifollow_any {S : List Stt} (hS : GoodS S) {n : Nat} {f : Bool} {es : List (UInt8 × Nat)} (hs : S[n]? = some (f, es)) (hL : (langS S n).length ≤ 4611686018427387904) {w : World} {eg : Option Addr} {k c : Nat} (h : ReadsE w eg k c (cellsEd (zE es))) (hk : es.length = k)
    {g off m cm i : Nat} (hc : CntAt w g off m S i) (hi : n ≤ i) (hm : m ≤ 10000000000000) (b : UInt8) :
    Calls Try.prog 23 #[.agg #[.bool f, .slice eg k c], .int .u8 (b.toNat : Nat), .slice (some ⟨g, off, none⟩) m cm] w fun e w' => e = .returned (ifollowV S f es b) ∧ Below w.heap.size w w' := by
  have HR : Hid _ := h
  have Hk : Hid _ := hk
  have HC : Hid _ := hc
  have Hlow : Hid _ := hS.low n _ hs
  have hmi : k ≤ 9223372036854775807 := by have := Nat.le_trans h.le h.most; unfold maxLen at this; omega
  obtain ⟨b0, hb0⟩ : ∃ b0 : Nat, b0 = oneF f := ⟨_, rfl⟩
  have hb1 : b0 ≤ 1 := by rw [hb0]; exact oneF_le f
  have hpart := lang_parts hS hs
  rw [← hb0] at hpart
  have hsum : ∀ t, b0 + (flatS S (es.take t)).length ≤ 4611686018427387904 := fun t => by
    have := flat_most S es t; omega
  have Hsum : Hid _ := hsum
  have HB0 : Hid _ := hb0
  have p1 := fun (W : World) => ended_any W f (.slice eg k c)
  rw [← hb0] at p1
  clear h hk hc hs hL hpart hsum hS hb0
  go_enter Try.func23, Try.ntmps23
  go_wp2_with fail
  obtain ⟨W1, hW1⟩ : ∃ W1, W1 = w.alloc (.cells #[.bool f, .slice eg k c] 45) := ⟨_, rfl⟩
  rw [← hW1]
  have e1 : W1.heap[w.heap.size]? = some (.cells #[.bool f, .slice eg k c] 45 (0, 0)) := by rw [hW1]; exact heap_alloc_new _ _
  have B1 : Hid (Below w.heap.size w W1) := by rw [hW1]; exact (Below.refl _ _).alloc (Nat.le_refl _) _
  have hlt1 : w.heap.size < W1.heap.size := lt_of_block e1
  refine (p1 W1).mono ?_
  rintro e W2 ⟨rfl, hB2⟩
  have y2 : W2.cell? ⟨w.heap.size, 1, none⟩ = some (.slice eg k c) := (hB2.cell (p := ⟨w.heap.size, 1, none⟩) hlt1).trans (cell_of e1 1)
  have B2 : Hid (Below w.heap.size w W2) := B1.out.trans (hB2.mono (by omega))
  clear hW1 e1 p1 hB2 B1 hlt1
  go_wp2_with fail
  go_loopw [9, 17] (fun v i wr => ∃ (j y : Nat), v = .int .u64 (y : Nat) ∧ i = .int .i64 (j : Nat) ∧ j ≤ k ∧ y ≤ 4611686018427387904 ∧ Hid (y = b0 + (flatS S (es.take j)).length) ∧ Hid (stepE es b = stepE (es.drop j) b) ∧ Hid (∀ m, stepE es b = some m → b0 + offE S es b = y + offE S (es.drop j) b) ∧ Hid (Below w.heap.size w wr)) (fun _ i _ => (k - intOf i).toNat)
  case atStart => exact ⟨0, b0, rfl, rfl, Nat.zero_le _, by omega, (show b0 = b0 + (flatS S (es.take 0)).length by simp [flatS]), rfl, (show ∀ m, _ → b0 + offE S es b = b0 + offE S (es.drop 0) b from fun _ _ => rfl), B2.out⟩
  case round =>
    obtain ⟨j, y, rfl, rfl, hj, hy, hyt, hS, hO, hB⟩ := hrel
    by_cases hjl : j < k
    · have q1 : (j : Int) < k := by omega
      obtain ⟨b', off', hao, hb, hcl⟩ := HR.out.edge (by omega)
      obtain ⟨⟨cb, ct⟩, he⟩ : ∃ e, es[j]? = some e := ⟨_, List.getElem?_eq_getElem (by rw [Hk.out]; exact hjl)⟩
      have hcc := hcl j _ (zE_at he)
      simp only at hcc
      subst hao
      have x1 : wr.cell? ⟨b', off' + j * 2, none⟩ = some (.int .u8 (cb.toNat : Nat)) := (hB.out.cell (p := ⟨b', off' + j * 2, none⟩) hb).trans hcc.1
      have x2 : wr.cell? ⟨b', off' + j * 2 + 1, none⟩ = some (.int .i64 (ct : Nat)) := (hB.out.cell (p := ⟨b', off' + j * 2 + 1, none⟩) hb).trans hcc.2
      have hst := estep_drop he b
      have hof := off_drop S he b
      have hsz := hB.out.size
      have hctn := Hlow.out _ (List.mem_of_getElem? he)
      simp only at hctn
      by_cases hck : cb = b
      · have hE : Hid (stepE es b = some ct) := by show _ = _; rw [hS.out, hst, if_pos hck]
        have hV : Hid (ifollowV S f es b = .tuple #[.int .i64 (ct : Nat), .int .u64 (y : Nat), .bool true]) := by
          show _ = _
          have h1 := hO.out _ hE.out
          rw [hof, if_pos hck, Nat.add_zero] at h1
          unfold ifollowV; rw [hE.out, ← HB0.out]; simp only; rw [h1]
        have hpp : ((cb.toNat : Int) == b.toNat) = true := by rw [byte_eq]; exact decide_eq_true hck
        have HB : Hid _ := hB.out
        clear hcl hcc he hS hst hck hjl hB hb hO hof hyt y2
        go_wp2
        go_ret3
        refine ⟨?_, ?_⟩
        · rw [hV.out]; rfl
        · have h1 := HB.out
          have h2 := h1.size
          repeat' first | exact h1 | (refine Below.setCell ?_ (by first | omega | (simp; done) | (simp; omega)) _) | (refine Below.alloc ?_ (by first | omega | (simp; done) | (simp; omega)) _)
      · obtain ⟨hC1, hC2, hC3⟩ := HC.out
        obtain ⟨p, hp⟩ : ∃ p, p = (langS S ct).length := ⟨_, rfl⟩
        have hcell := hC3 ct (by omega)
        rw [← hp] at hcell hof
        have hctm : (ct : Int) < m := by omega
        have hctl : (ct : Int) ≤ 9223372036854775807 := by omega
        have z : ∀ W, Below wr.heap.size wr W → W.cell? ⟨g, off + ct, none⟩ = some (.int .u64 (p : Nat)) := fun W hW => ((hB.out.trans (hW.mono hB.out.size)).cell (p := ⟨g, off + ct, none⟩) hC1).trans hcell
        have hfl := flat_next S he
        rw [← hp] at hfl
        have hS' : Hid (stepE es b = stepE (es.drop (j + 1)) b) := by show _ = _; rw [hS.out, hst, if_neg hck]
        have hO' : Hid (∀ m, stepE es b = some m → b0 + offE S es b = (y + p) + offE S (es.drop (j + 1)) b) := by
          show ∀ m, _
          intro m hm; rw [hO.out m hm, hof, if_neg hck]; omega
        have hY' : Hid (y + p = b0 + (flatS S (es.take (j + 1))).length) := by show _ = _; rw [hfl, hyt.out]; omega
        have hY2 : y + p ≤ 4611686018427387904 := by rw [hY'.out]; exact Hsum.out (j + 1)
        have hpp : ((cb.toNat : Int) == b.toNat) = false := by rw [byte_eq]; exact decide_eq_false hck
        have HB : Hid _ := hB.out
        obtain ⟨W3, hW3⟩ : ∃ W3, W3 = wr.alloc (.cells #[.int .u8 (cb.toNat : Nat), .int .i64 (ct : Nat)] 47) := ⟨_, rfl⟩
        have hB3 : Below wr.heap.size wr W3 := by rw [hW3]; exact (Below.refl _ _).alloc (Nat.le_refl _) _
        have z1 := z W3 hB3
        have e3 : W3.heap[wr.heap.size]? = some (.cells #[.int .u8 (cb.toNat : Nat), .int .i64 (ct : Nat)] 47 (0, 0)) := by rw [hW3]; exact heap_alloc_new _ _
        have v1 : W3.cell? ⟨wr.heap.size, 0, none⟩ = some (.int .u8 (cb.toNat : Nat)) := cell_of e3 0
        have v2 : W3.cell? ⟨wr.heap.size, 1, none⟩ = some (.int .i64 (ct : Nat)) := cell_of e3 1
        have HB3 : Hid (Below w.heap.size w W3) := HB.out.trans (hB3.mono HB.out.size)
        clear z hcl hcc he hS hst hck hjl hB hb hO hof hyt y2 hfl hC1 hC2 hC3 hcell hp hB3 e3
        go_upto_region 5 with (fail)
        rw [← hW3]
        clear x1 x2 HB hW3
        go_wp2
        go_roundw
        case rel => exact ⟨j + 1, y + p, by go_num, by go_num, by omega, hY2, hY', hS', hO', HB3.out⟩
        case measure => simp [intOf]; omega
    · have q1 : ¬ (j : Int) < k := by omega
      have hE : Hid (stepE es b = none) := by
        show _ = _
        rw [hS.out, List.drop_eq_nil_of_le (by rw [Hk.out]; omega)]; rfl
      have hV : Hid (ifollowV S f es b = .tuple #[.int .i64 0, .int .u64 0, .bool false]) := by show _ = _; unfold ifollowV; rw [hE.out]
      have HB : Hid _ := hB.out
      clear hjl hS hB hO hyt y2
      go_wp2
      go_ret3
      exact ⟨by rw [hV.out]; rfl, HB.out⟩
#print axioms ifollow_any
end Go.Proofs.Ytkcledkfgmdcgaa
