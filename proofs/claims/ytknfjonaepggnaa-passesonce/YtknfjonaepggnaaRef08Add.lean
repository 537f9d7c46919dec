/- The document's own Add for the table. -/
import Derived.Test.YtknfjonaepggnaaEnAll
import Derived.Test.YtknfjonaepggnaaRef08
import Derived.Test.YtknfjonaepggnaaFound
import Derived.Test.YtknfjonaepggnaaRefAdd01
namespace Go.Proofs.Ytknfjonaepggnaa
open Go.RowKit
set_option linter.unusedVariables false
set_option linter.unusedSimpArgs false

theorem Try.sizeEn : ∀ W, (sizeOf 64).run Try.prog W = .ok 2 W := Try.sizeOf64
/-- Where a list lies: nowhere, or in a block from B on. -/
def YoungV (B : Nat) (v : Value) : Prop := ∀ k, v.ownBlock = some k → B ≤ k
theorem YoungV.nil (B : Nat) : YoungV B (.slice none 0 0) := fun k h => by cases h
theorem young_own {w : World} {base e n : Nat} {v : Value} {xs : List Value} (h : w.ownsRow base e 2 v n xs) : YoungV base v := fun k hk => (h.lt k hk).1

/-- What Add tells: the entries then, in its own list or the one that was, and the error. -/
def AddOut (w : World) (v : Value) (y : List En × Nat) (e : Ending) (w' : World) : Prop :=
  ∃ v', e = .returned (.tuple #[v', .int .i64 (y.2 : Nat)]) ∧ w'.ownsRow 0 64 2 v' y.1.length (cellsE y.1) ∧ Below w.heap.size w w' ∧ (v' = v ∨ YoungV w.heap.size v')
theorem AddOut.same {w w' : World} {v : Value} {x : List En} {c : Nat} (h : w.ownsRow 0 64 2 v x.length (cellsE x)) (hb : Below w.heap.size w w') : AddOut w v (x, c) (.returned (.tuple #[v, .int .i64 (c : Nat)])) w' :=
  ⟨v, rfl, own2_later h hb (Nat.le_refl _), hb, .inl rfl⟩

set_option maxRecDepth 100000 in
set_option maxHeartbeats 4000000 in
theorem raddE_any {w : World} {v : Value} {x : List En} (h : w.ownsRow 0 64 2 v x.length (cellsE x)) (room : Int) (R : Nat) (hR : room = R) (k : Wd) (n : Nat) (hn2 : n ≤ 18446744073709551615) (hg : getQ x k ≤ 4611686018427387904) (hx : x.length ≤ 1000000) :
    Calls Try.prog 40 #[v, .int .i64 room, strV k, .int .u64 n] w fun e w' => AddOut w v (addR R x k n) e w' := by
  have hA : addR R x k n = if k = [] ∨ n = 0 then (x, 1) else if 4611686018427387904 < getQ x k + n then (x, 5) else if 0 < getQ x k then (x.set (atE x k) (((x[atE x k]?).getD ([], 0)).1, getQ x k + n), 0)
    else if R ≤ x.length then (x, 6) else (x.take (atE x k) ++ [(k, n)] ++ x.drop (atE x k), 0) := rfl
  obtain ⟨ao, cap, rfl⟩ := own2_slice h
  by_cases h1 : k = [] ∨ n = 0
  · rw [if_pos h1] at hA
    have H : Hid _ := hA
    clear hA
    by_cases hk : k = []
    · subst hk
      go_enter Try.func40, Try.ntmps40
      go_wp2
      go_ret2
      rw [H.out]
      exact AddOut.same h (Below.refl _ _)
    · obtain rfl : n = 0 := by rcases h1 with h | h; exact absurd h hk; exact h
      have hkl : ¬ (k.length : Int) = 0 := by have := List.length_pos_iff.2 hk; omega
      go_enter Try.func40, Try.ntmps40
      go_wp2
      go_ret2
      rw [H.out]
      exact AddOut.same h (Below.refl _ _)
  rw [if_neg h1] at hA
  have h1' : k ≠ [] ∧ n ≠ 0 := by simpa using h1
  have hkl : ¬ (k.length : Int) = 0 := by have := List.length_pos_iff.2 h1'.1; omega
  have hkb : ((k.length : Int) == 0) = false := by rw [beq_eq_false_iff_ne]; exact hkl
  have hn0 := zero_not (n := n) (by omega)
  have hget := rgetE_any h k
  have hadd := fun W => radd_any (getQ x k : Nat) (n : Nat) W (by omega) (by omega) (by omega) (by omega)
  clear h1 hkl
  by_cases h2 : 4611686018427387904 < getQ x k + n
  · rw [if_pos h2] at hA
    have H : Hid _ := hA
    have e1 : addN (getQ x k : Nat) (n : Nat) = 0 := by unfold addN; rw [if_neg (by omega)]
    have e2 : addB (getQ x k : Nat) (n : Nat) = false := by simp [addB]; omega
    rw [e1, e2] at hadd
    generalize getQ x k = c at hget hadd
    clear hA e1 e2 h2
    go_enter Try.func40, Try.ntmps40
    go_wp2_with (first | (go_at_call 57; refine hget.mono ?_; rintro e w' ⟨rfl, rfl⟩) | (go_at_call 58; refine (hadd _).mono ?_; rintro e w' ⟨rfl, rfl⟩))
    go_ret2
    rw [H.out]
    exact AddOut.same h (Below.refl _ _)
  rw [if_neg h2] at hA
  have e1 : addN (getQ x k : Nat) (n : Nat) = ((getQ x k + n : Nat) : Int) := by unfold addN; rw [if_pos (by omega)]; omega
  have e2 : addB (getQ x k : Nat) (n : Nat) = true := by simp [addB]; omega
  rw [e1, e2] at hadd
  have hat := fun W hW => rat_any (w := W) (x := x) (v := .slice ao x.length cap) hW k
  have hal := at_le x k
  clear e1 e2
  by_cases h3 : 0 < getQ x k
  · rw [if_pos h3] at hA
    have H : Hid _ := hA
    have hlt : atE x k < x.length := by
      rcases Nat.lt_or_eq_of_le hal with h | h
      · exact h
      · unfold getQ at h3; rw [h, List.getElem?_eq_none (Nat.le_refl _)] at h3; simp at h3
    have he : x[atE x k]? = some x[atE x k] := List.getElem?_eq_getElem hlt
    have hli : (atE x k : Int) < x.length := by omega
    have hl0 : (0 : Int) ≤ atE x k := by omega
    have h3i : (0 : Int) < (getQ x k : Nat) := by omega
    obtain ⟨e0, he0⟩ : ∃ e0, x[atE x k]? = some e0 := ⟨_, he⟩
    have hcs := cells_set x (atE x k) e0 (getQ x k + n) he0
    rw [he0, Option.getD_some] at H
    have hat0 := hat w h
    have hyl : (x.set (atE x k) (e0.1, getQ x k + n)).length = x.length := by simp
    generalize x.set (atE x k) (e0.1, getQ x k + n) = ys at H hcs hyl
    have hpos : 0 < x.length := by omega
    clear hA he hat hal hlt
    generalize getQ x k = c at *
    generalize atE x k = j at *
    have hnew := own2_empty w 64
    have hBa : Below w.heap.size w (w.alloc (.cells #[] 64)) := (Below.refl _ _).alloc (Nat.le_refl _) _
    have hrd := (ReadsE.own h).later hBa (Nat.le_refl _)
    have hm1 : x.length ≤ maxLen := by unfold maxLen; omega
    have hm2 : x.length * 24 ≤ 140737488355328 := by omega
    go_enter Try.func40, Try.ntmps40
    go_wp2_with (first | (go_at_call 57; refine hget.mono ?_; rintro e w' ⟨rfl, rfl⟩) | (go_at_call 58; refine (hadd _).mono ?_; rintro e w' ⟨rfl, rfl⟩) | (go_at_call 59; refine hat0.mono ?_; rintro e w' ⟨rfl, rfl⟩) | (at_builtin; refine wpList_append_new rfl _ _ rfl w'.heap.size _ _ rfl hnew _ _ _ _ rfl hrd (cells_one x) hm1 hm2 (by simp) ?_; intro ag c3 w3 hr3 hb3; obtain ⟨g3, cc3, hv3, q1, q2, q3, hc3, hf3⟩ := own2_at hr3 hpos; obtain ⟨rfl, rfl⟩ := slice_inj hv3; have s1 := (hc3 j _ he0).2; have s2 := hf3 (j * 2 + 1)))
    go_ret2
    rw [H.out]
    have hr4 := own2_set hr3 (j := j * 2 + 1) (by omega) (.int .u64 ((c + n : Nat) : Int))
    rw [hcs] at hr4
    refine ⟨_, rfl, ?_, (Below.trans hBa hb3).setCell (hr3.lt g3 rfl).1 _, .inr (young_own hr3)⟩
    simp only; rw [hyl]; exact own2_mono hr4 (Nat.zero_le _)
  rw [if_neg h3] at hA
  have hg0 : getQ x k = 0 := by omega
  rw [hg0] at hget hadd
  have h3i : ¬ (0 : Int) < 0 := by omega
  simp only [Nat.zero_add] at hadd
  by_cases h4 : R ≤ x.length
  · rw [if_pos h4] at hA
    have H : Hid _ := hA
    have hat0 := hat w h
    have hri : room ≤ x.length := by omega
    clear hA hat h4 hg0 h2 h3 hal
    generalize atE x k = j at *
    go_enter Try.func40, Try.ntmps40
    go_wp2_with (first | (go_at_call 57; refine hget.mono ?_; rintro e w' ⟨rfl, rfl⟩) | (go_at_call 58; refine (hadd _).mono ?_; rintro e w' ⟨rfl, rfl⟩) | (go_at_call 59; refine hat0.mono ?_; rintro e w' ⟨rfl, rfl⟩))
    go_ret2
    rw [H.out]
    exact AddOut.same h (Below.refl _ _)
  rw [if_neg h4] at hA
  have H : Hid _ := hA
  have hat0 := hat w h
  have hri : ¬ room ≤ x.length := by omega
  have hle := (ReadsE.own h).le
  have hmo := (ReadsE.own h).most
  have hji : (atE x k : Int) ≤ x.length := by omega
  obtain ⟨x1, hs1, hd1⟩ := ReadsE.to (P := Try.prog) Try.underlying49 Try.sizeEn (ao := ao) (len := x.length) (cap := cap) hle (atE x k) hal
  obtain ⟨x2, hs2, hd2⟩ := ReadsE.from (P := Try.prog) Try.underlying49 Try.sizeEn (ao := ao) (len := x.length) (cap := cap) (atE x k) hal
  have hBa : Below w.heap.size w (w.alloc (.cells #[] 64)) := (Below.refl _ _).alloc (Nat.le_refl _) _
  have hrd1 := (hd1 _ _ (ReadsE.own h)).later hBa (Nat.le_refl _)
  have hrd2 := hd2 _ _ (ReadsE.own h)
  rw [cells_take] at hrd1
  rw [cells_drop] at hrd2
  have hnew := own2_empty w 64
  have hyl : (x.take (atE x k) ++ [(k, n)] ++ x.drop (atE x k)).length = x.length + 1 := by simp; omega
  clear hA hat h4 hg0 h2 h3 hd1 hd2
  generalize hxt : x.take (atE x k) = xt at *
  generalize hxd : x.drop (atE x k) = xd at *
  generalize atE x k = j at *
  have hone : ∀ u ∈ [strV k, Value.int .u64 (n : Int)], u.oneCell' = true := by simp [Value.oneCell']
  have hm1 : j ≤ maxLen := by unfold maxLen; omega
  have hm2 : j * 24 ≤ 140737488355328 := by omega
  have hm3 : j + 1 ≤ maxLen := by unfold maxLen; omega
  have hm4 : (j + 1) * 24 ≤ 140737488355328 := by omega
  have hm5 : j + 1 + (x.length - j) ≤ maxLen := by unfold maxLen; omega
  have hm6 : (j + 1 + (x.length - j)) * 24 ≤ 140737488355328 := by omega
  go_enter Try.func40, Try.ntmps40
  go_wp2_with (first | (go_at_call 57; refine hget.mono ?_; rintro e w' ⟨rfl, rfl⟩) | (go_at_call 58; refine (hadd _).mono ?_; rintro e w' ⟨rfl, rfl⟩) | (go_at_call 59; refine hat0.mono ?_; rintro e w' ⟨rfl, rfl⟩) | (at_builtin; refine wpList_append_en rfl _ _ rfl w'.heap.size _ _ _ _ rfl hr2 _ _ _ _ rfl hrd3 (cells_one xd) hm5 hm6 hB2.size ?_; intro ag3 c3 w3 hr3 hg3 hb3 hw3) | (at_builtin; refine wpList_append_en rfl _ _ rfl w'.heap.size _ _ _ _ rfl (hr1.alloc _) _ _ _ _ rfl (reads_lit _ _ _ _) hone hm3 hm4 hBl.size ?_; intro ag2 c2 w2 hr2 hg2 hb2 hw2; have hB2 := Below.trans hBl hb2; have hrd3 := hrd2.later hB2 (Nat.le_refl _)) | (at_builtin; refine wpList_append_new rfl _ _ rfl w'.heap.size _ _ rfl hnew _ _ _ _ rfl hrd1 (cells_one xt) hm1 hm2 hBa.size ?_; intro ag1 c1 w1 hr1 hb1; have hB1 := Below.trans hBa hb1; have hBl := hB1.alloc hB1.size (.cells #[strV k, .int .u64 (n : Int)] 64)))
  go_ret2
  rw [H.out]
  refine ⟨_, rfl, ?_, Below.trans hB2 hb3, .inr (young_own hr3)⟩
  simp only
  have e5 : j + 1 + (x.length - j) = x.length + 1 := by omega
  rw [hyl, ← e5, cells_app, cells_app]
  exact own2_mono hr3 (Nat.zero_le _)
#print axioms raddE_any
end Go.Proofs.Ytknfjonaepggnaa
