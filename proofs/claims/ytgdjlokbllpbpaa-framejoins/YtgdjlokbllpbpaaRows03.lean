/- The contract of the statements' helper: records of rows, one behind the other, and where each ends. -/
import Derived.Test.YtgdjlokbllpbpaaFrameScan
import Derived.Test.YtgdjlokbllpbpaaFrameMore
namespace Go.Proofs.Ytgdjlokbllpbpaa
open Go.RowKit

theorem Try.infoInt : (Try.prog.info? 3).map (fun i => (i.zero, i.size, i.bytes)) = some (some (.int .i64 0), 1, 8) := by kernel_rfl

def recAt (ls : List (List Int)) (j : Nat) : Nat := (recs (ls.take j)).length
def endsL (ls : List (List Int)) (n : Nat) : List Int := (List.range n).map fun i => (recAt ls (i + 1) : Int)

theorem take_next {α : Type} (ls : List α) (j : Nat) (d : α) (h : j < ls.length) : ls.take (j + 1) = ls.take j ++ [ls.getD j d] := by
  rw [List.take_add_one, List.getD, List.getElem?_eq_getElem h]; rfl
theorem recs_next (ls : List (List Int)) (j : Nat) (h : j < ls.length) : recs (ls.take (j + 1)) = recs (ls.take j) ++ recL (ls.getD j []) := by
  rw [take_next ls j [] h, recs_append]; simp [recs]
theorem recAt_zero (ls : List (List Int)) : recAt ls 0 = 0 := by simp [recAt, recs]
theorem recAt_next (ls : List (List Int)) (j : Nat) (h : j < ls.length) : recAt ls (j + 1) = recAt ls j + (recL (ls.getD j [])).length := by
  unfold recAt; rw [recs_next ls j h, List.length_append]
theorem recAt_mono (ls : List (List Int)) (i j : Nat) (h : i ≤ j) : recAt ls i ≤ recAt ls j := by
  unfold recAt
  have e : ls.take j = ls.take i ++ (ls.drop i).take (j - i) := by
    conv => lhs; rw [show j = i + (j - i) by omega]
    rw [List.take_add]
  rw [e, recs_append, List.length_append]; omega
theorem recAt_most (ls : List (List Int)) (j : Nat) (h : ∀ i, i < j → i < ls.length → (ls.getD i []).length ≤ 1000) (hj : j ≤ ls.length) : recAt ls j ≤ j * 1014 := by
  induction j with
  | zero => exact Nat.le_trans (Nat.le_of_eq (recAt_zero ls)) (Nat.zero_le _)
  | succ j ih =>
    rw [recAt_next ls j (by omega), rec_len]
    have := ih (fun i hi => h i (by omega)) (by omega)
    have h2 := h j (by omega) (by omega)
    have := encode_len (ls.getD j []).length
    omega
theorem endsL_next (ls : List (List Int)) (n : Nat) : endsL ls (n + 1) = endsL ls n ++ [(recAt ls (n + 1) : Int)] := by
  simp [endsL, List.range_succ]
theorem endsL_len (ls : List (List Int)) (n : Nat) : (endsL ls n).length = n := by simp [endsL]
theorem endsL_at (ls : List (List Int)) (n i : Nat) (h : i < n) : (endsL ls n).getD i 0 = (recAt ls (i + 1) : Int) := by
  simp [endsL, List.getD, h]

set_option maxRecDepth 100000 in
set_option maxHeartbeats 400000 in
theorem rows_any (ao : Option Addr) (len cap : Nat) (ls : List (List Int)) (w : World) (hr : ReadsRows w ao len cap ls) (h8 : ∀ l ∈ ls, isBytes l) (hmost : ∀ i, i < 20 → i < ls.length → (ls.getD i []).length ≤ 1000) (hlen : len ≤ 140737488351232) :
    Calls Try.prog 16 #[.slice ao len cap] w fun e w' => ∃ ab cb ae ce m n, e = .returned (.tuple #[.slice ab m cb, .slice ae n ce]) ∧ n = min len 20 ∧ m = recAt ls n ∧
      Reads w' ab m cb ((recs (ls.take n)).map (.int .u8)) ∧ Reads w' ae n ce ((endsL ls n).map (.int .i64)) ∧ Below w.heap.size w w' := by
  have hl := hr.length
  go_enter Try.func16, Try.ntmps16
  go_wp2_with fail
  go_loopw [4, 5, 6] (fun vb ve i wr => ∃ (j : Nat) (ab : Option Addr) (cb : Nat) (ae : Option Addr) (ce m : Nat), i = .int .i64 j ∧ vb = .slice ab m cb ∧ ve = .slice ae j ce ∧ j ≤ len ∧ j ≤ 20 ∧ Hid (m = recAt ls j) ∧
      wr.ownsRow w.heap.size 5 1 (.slice ab m cb) m ((recs (ls.take j)).map (.int .u8)) ∧ wr.ownsRow w.heap.size 3 1 (.slice ae j ce) j ((endsL ls j).map (.int .i64)) ∧ Below w.heap.size w wr) (fun _ _ i _ => (20 - intOf i).toNat)
  case atStart => exact ⟨0, none, 0, none, 0, 0, rfl, rfl, rfl, by omega, by omega, (recAt_zero ls).symm, World.ownsRow_nil _ _ _ _, World.ownsRow_nil _ _ _ _, Below.refl _ _⟩
  case round =>
    obtain ⟨j, ab, cb, ae, ce, m, rfl, rfl, rfl, hj, hj2, Hm, hownb, howne, hb⟩ := hrel
    have hsz := hb.size
    by_cases hd : j < len ∧ j < 20
    · obtain ⟨hd1, hd2⟩ := hd
      have hd1' : (j : Int) < len := by omega
      have hd2' : (j : Int) < 20 := by omega
      obtain ⟨b1, o1, rfl, hb1, hat1⟩ := hr.at (by omega)
      obtain ⟨a1, l1, c1, hc1, rd1⟩ := hat1 j hd1
      clear hat1
      have hc1' : wr.cell? ⟨b1, o1 + j, none⟩ = some (.slice a1 l1 c1) := by rw [hb.cell hb1]; exact hc1
      have rd1' := rd1.later hb (Nat.le_refl _)
      have hl1 : (ls.getD j []).length = l1 := by simpa using rd1.length
      have y1 : isBytes (ls.getD j []) := by rw [List.getD, List.getElem?_eq_getElem (by omega)]; exact h8 _ (List.getElem_mem _)
      have hm1 := hmost j hd2 (by omega)
      have hmb : m ≤ 21000 := by
        have := recAt_most ls j (fun i hi => hmost i (by omega)) (by omega)
        rw [Hm.out]; omega
      have hN : Hid (recs (ls.take (j + 1)) = recs (ls.take j) ++ recL (ls.getD j [])) := recs_next ls j (by omega)
      have hR : Hid (recAt ls (j + 1) = recAt ls j + (recL (ls.getD j [])).length) := recAt_next ls j (by omega)
      clear hc1 rd1
      generalize ls.getD j [] = x at rd1' hl1 y1 hm1 hN hR
      go_wp2_with fail
      refine (fput_ok _ _ _ _ _ _ _ _ _ (Reads.own hownb) rd1' y1 (by omega) (by omega)).mono ?_
      rintro e wc ⟨ag2, c2, m2, hm2, rfl, hown2, hb2⟩
      rw [← hN.out] at hown2
      have Hm2 : Hid (m2 = recAt ls (j + 1)) := by show _ = _; rw [hR.out, hm2, Hm.out]
      clear hm2 rd1' hc1' hownb
      have hown2' := own_mono hown2 hsz
      have howne' := own_later howne hb2 (Nat.le_refl _)
      have hB2 : Below w.heap.size w wc := hb.trans (hb2.mono hsz)
      clear hown2 howne hb2 hb hsz
      have hszc := hB2.size
      have mx : j + 20 ≤ maxLen := by unfold maxLen; omega
      have hm2b : m2 ≤ 30000 := by
        have := recAt_most ls (j + 1) (fun i hi => hmost i (by omega)) (by omega)
        rw [Hm2.out]; omega
      go_wp2_with (at_builtin; refine wpList_append_grown rfl (.tmp 29) (.tmp 32) 39 rfl w.heap.size 3 Try.infoInt rfl Try.underlying39 _ _ _ _ rfl (howne'.alloc _) _ _ _ _ rfl (reads_one _ _ _) (ints_oneCell .i64 [(m2 : Int)]) (by omega) (by omega) (by simp; omega) ?_)
      intro ag3 c3 w3 hown3 hg3 hb3
      have hb3' : Below w.heap.size w w3 := (hB2.alloc hszc _).trans hb3
      have hownb3 := own_apart (hown2'.alloc _) (howne'.alloc _) (by decide) hg3
      have hE : Hid (endsL ls (j + 1) = endsL ls j ++ [(m2 : Int)]) := by show _ = _; rw [endsL_next, Hm2.out]
      clear hb3 hg3 hown2' howne' hB2 hszc hN hR
      go_wp2
      go_roundw
      case rel =>
        refine ⟨j + 1, ag2, c2, ag3, c3, m2, by go_num, rfl, rfl, by omega, by omega, Hm2, hownb3, ?_, hb3'⟩
        rw [hE.out]
        simpa using hown3
      case measure => simp [intOf]; omega
    · have hn : Hid (j = min len 20) := by show _ = _; omega
      by_cases hjl : j = len
      · subst hjl
        go_wp2
        go_ret2
        exact ⟨ab, cb, ae, ce, m, j, rfl, hn.out, Hm.out, Reads.own hownb, Reads.own howne, hb⟩
      · have hj20 : j = 20 := by omega
        subst hj20
        have hlt : (20 : Int) < len := by omega
        go_wp2
        go_ret2
        exact ⟨ab, cb, ae, ce, m, 20, rfl, hn.out, Hm.out, Reads.own hownb, Reads.own howne, hb⟩
#print axioms rows_any
end Go.Proofs.Ytgdjlokbllpbpaa
