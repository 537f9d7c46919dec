/- The contract of frame.Scan. -/
import Derived.Test.YtgnhnhachhfafaaFrameGet
namespace Go.Proofs.Ytgnhnhachhfafaa
open Go.RowKit

theorem Try.infoRow : (Try.prog.info? 33).map (fun i => (i.zero, i.size, i.bytes)) = some (some (.slice none 0 0), 1, 24) := by kernel_rfl

theorem slice_oneCell (a : Option Addr) (m c : Nat) : ∀ u ∈ [Value.slice a m c], u.oneCell' = true := fun u hu => by
  simp only [List.mem_singleton] at hu; rw [hu]; rfl

set_option maxRecDepth 100000 in
set_option maxHeartbeats 400000 in
/-- frame.Scan of whatever bytes. -/
theorem fscan_any (ao : Option Addr) (len cap : Nat) (zs : List Int) (w : World) (hr : Reads w ao len cap (zs.map (.int .u8))) (h8 : isBytes zs) (hlen : len ≤ 1000000000000) :
    Calls Try.prog 44 #[.slice ao len cap] w fun e w' => ∃ ag c m, e = .returned (.tuple #[.slice ag m c, .int .i64 ((scanR zs).2 : Nat)]) ∧
      ReadsRows w' ag m c (scanR zs).1 ∧ Below w.heap.size w w' := by
  have hl : zs.length = len := by simpa using hr.length
  go_enter Try.func44, Try.ntmps44
  go_wp2_with fail
  go_loopw [4, 5] (fun v i wr => ∃ (t : Nat) (ag : Option Addr) (c m : Nat) (vs : List Value) (ls : List (List Int)), v = .slice ag m c ∧ i = .int .i64 t ∧ t ≤ len ∧ 4 * m ≤ t ∧
      wr.ownsRow w.heap.size 33 1 (.slice ag m c) m vs ∧ RowOwns wr w.heap.size vs ls ∧ Hid (scanR zs = (ls ++ (scanR (zs.drop t)).1, t + (scanR (zs.drop t)).2)) ∧ Below w.heap.size w wr) (fun _ i _ => (len - intOf i).toNat)
  case atStart => exact ⟨0, none, 0, 0, [], [], rfl, rfl, by omega, by omega, World.ownsRow_nil _ _ _ _, RowOwns.nil _ _, by show _ = _; simp, Below.refl _ _⟩
  case round =>
    obtain ⟨t, ag, c, m, vs, ls, rfl, rfl, ht, hm, hown, hrow, hS, hb⟩ := hrel
    have hsz := hb.size
    obtain ⟨a1, hs1, hd1⟩ := Reads.from (P := Try.prog) Try.underlying33 (size_of Try.info5) (ao := ao) (len := len) (cap := cap) t ht
    have rd1 : Reads wr a1 (len - t) (cap - t) ((zs.drop t).map (.int .u8)) := by have := hd1 wr _ (hr.later hb (Nat.le_refl _)); simpa using this
    have b1 : isBytes (zs.drop t) := fun z hz => h8 z (List.mem_of_mem_drop hz)
    clear hd1
    go_wp2_with fail
    refine (fget_any a1 (len - t) (cap - t) (zs.drop t) wr rd1 b1 (by omega)).mono ?_
    rintro e wb ⟨ag5, c5, rfl, hown5, hb5⟩
    clear rd1 b1
    rcases hg : getR (zs.drop t) with ⟨p, k, f⟩
    have Hg : Hid _ := hg
    rw [hg] at hown5
    clear hg
    unfold getRV
    have hB5 : Below w.heap.size w wb := hb.trans (hb5.mono hsz)
    by_cases hf : f = 0
    · subst hf
      obtain ⟨g4, gl⟩ := get_len Hg.out
      have gl' : t + k ≤ len := by simp at gl; omega
      clear gl
      have hownb := own_later hown hb5 (Nat.le_refl _)
      have hrowb := (hrow.later hb5 (Nat.le_refl _)).snoc rfl (own_mono hown5 hsz)
      have mx : m + 20 ≤ maxLen := by unfold maxLen; omega
      have hkk : (t : Int) + k ≤ 1000000000000 := by omega
      clear hown hrow hb5 hb hown5
      have hszb := hB5.size
      go_wp2_with (at_builtin; refine wpList_append_grown rfl (.tmp 21) (.tmp 23) 32 rfl w.heap.size 33 Try.infoRow rfl Try.underlying32 _ _ _ _ rfl (hownb.alloc _) _ _ _ _ rfl (reads_one _ _ _) (slice_oneCell _ _ _) (by omega) (by omega) (by simp; omega) ?_)
      intro ag3 c3 w3 hown3 hg3 hb3
      have hb3' : Below w.heap.size w w3 := (hB5.alloc hszb _).trans hb3
      have hrow3 := (hrowb.later ((Below.refl _ wb).alloc (Nat.le_refl _) _) (Nat.le_refl _)).apart (hownb.alloc _) (by decide) hg3
      have hS' : Hid (scanR zs = ((ls ++ [p]) ++ (scanR (zs.drop (t + k))).1, (t + k) + (scanR (zs.drop (t + k))).2)) := by
        show _ = _
        rw [hS.out, scan_step Hg.out, List.drop_drop]; simp; omega
      clear hb3 hg3 hrowb hownb hS
      go_wp2
      go_roundw
      case rel => exact ⟨t + k, ag3, c3, m + 1, _, _, rfl, by go_num, by omega, by omega, hown3, hrow3, hS', hb3'⟩
      case measure => simp [intOf]; omega
    · have hfb : ((f : Int) == 0) = false := by simp; omega
      have hE : Hid (scanR zs = (ls, t)) := by show _ = _; rw [hS.out, scan_stop (by rw [Hg.out]; exact hf)]; simp
      clear hf
      have hown4 := own_later hown hb5 (Nat.le_refl _)
      have hrow4 := hrow.later hb5 (Nat.le_refl _)
      go_wp2
      go_ret2
      rw [hE.out]
      exact ⟨ag, c, m, rfl, ReadsRows.of (Reads.own hown4) hrow4.vals, hB5⟩
#print axioms fscan_any
end Go.Proofs.Ytgnhnhachhfafaa
