/- The contract of the document's own answer for runes: Feed. -/
import Derived.Test.YtchafajebkfieaaDoorRef04All
namespace Go.Proofs.YtchafajebkfieaaDoor
open Go.RowKit

set_option maxRecDepth 100000 in
set_option maxHeartbeats 400000 in
theorem rfeed_any (ao : Option Addr) (len cap : Nat) (ps : List Int) (bo : Option Addr) (blen bcap : Nat) (zs : List Int) (w : World) (hr : Reads w ao len cap (ps.map (.int .u8))) (hk : Reads w bo blen bcap (zs.map (.int .u8))) (p8 : isBytes ps) (h8 : isBytes zs) (hlen : len ≤ 400000000000) (hblen : blen ≤ 400000000000) :
    Calls Tryd.prog 11 #[.slice ao len cap, .slice bo blen bcap] w fun e w' => ∃ ag c m bg d k, e = .returned (.tuple #[.slice ag m c, .slice bg k d]) ∧ m = (feedU (ps ++ zs)).1.length ∧ k = (feedU (ps ++ zs)).2.length ∧
      w'.ownsRow w.heap.size 21 1 (.slice ag m c) m ((feedU (ps ++ zs)).1.map (.int .i32)) ∧ Reads w' bg k d ((feedU (ps ++ zs)).2.map (.int .u8)) ∧ TypedAt w' bg k 5 ∧ FreshAt w.heap.size bg k ∧ Below w.heap.size w w' := by
  have hl : ps.length = len := by simpa using hr.length
  have hl2 : zs.length = blen := by simpa using hk.length
  have mx : len + blen + 20 ≤ maxLen := by unfold maxLen; omega
  go_enter Tryd.func11, Tryd.ntmps11
  go_wp2_with (at_builtin; refine wpList_append_reads rfl (.tmp 11) (.tmp 12) 22 rfl w.heap.size 5 Tryd.infoByte rfl Tryd.underlying22 _ _ _ _ rfl (ownsRow_empty w 5) _ _ _ _ rfl (hr.later ((Below.refl w.heap.size w).alloc (Nat.le_refl _) _) (Nat.le_refl _)) (ints_oneCell _ _) (by omega) (by omega) (by simp) ?_)
  intro ag1 c1 w1 hown1 hb1
  have hb1' : Below w.heap.size w w1 := Below.trans ((Below.refl w.heap.size w).alloc (Nat.le_refl _) _) hb1
  have hk1 := hk.later hb1' (Nat.le_refl _)
  have hs1 := hb1'.size
  clear hb1
  try simp only [Nat.zero_add, List.nil_append] at hown1
  go_wp2_with (at_builtin; refine wpList_append_reads rfl (.tmp 13) (.tmp 14) 22 rfl w.heap.size 5 Tryd.infoByte rfl Tryd.underlying22 _ _ _ _ rfl hown1 _ _ _ _ rfl hk1 (ints_oneCell _ _) (by omega) (by omega) hs1 ?_)
  intro bg cb w2 hown2 hb2
  have hB2 : Below w.heap.size w w2 := hb1'.trans hb2
  clear hb2 hb1' hs1 hown1 hk1
  simp only [← List.map_append] at hown2
  have b8 : isBytes (ps ++ zs) := fun z hz => (List.mem_append.1 hz).elim (p8 z) (h8 z)
  have hbl : (ps ++ zs).length = len + blen := by simp; omega
  generalize hbs : ps ++ zs = bs at hown2 b8 hbl
  have Hbs : Hid _ := hbs
  clear hbs
  generalize hLL : len + blen = L at hown2 hbl
  have hL : L ≤ 800000000000 := by omega
  clear hLL hr hk hl hl2 p8 h8 hlen hblen mx
  go_wp2_with fail
  go_loopw [7, 8] (fun v i wr => ∃ (t : Nat) (ag : Option Addr) (c m : Nat) (ls : List Int), v = .slice ag m c ∧ i = .int .i64 t ∧ t ≤ L ∧ m ≤ t ∧ wr.ownsRow w.heap.size 21 1 (.slice ag m c) m (ls.map (.int .i32)) ∧ wr.ownsRow w.heap.size 5 1 (.slice bg L cb) L (bs.map (.int .u8)) ∧
      Hid (feedU bs = (ls ++ (feedU (bs.drop t)).1, (feedU (bs.drop t)).2)) ∧ Below w.heap.size w wr) (fun _ i _ => (L - intOf i).toNat)
  case atStart => exact ⟨0, none, 0, 0, [], rfl, rfl, by omega, by omega, World.ownsRow_nil _ _ _ _, hown2, by show _ = _; simp, hB2⟩
  case round =>
    obtain ⟨t, ag, c, m, ls, rfl, rfl, ht, hm, hown, hownb, hS, hb⟩ := hrel
    have hsz := hb.size
    have hml : ls.length = m := by have := hown.1; simpa using this
    by_cases hd : t = L
    · subst hd
      have hE : Hid (feedU bs = (ls, [])) := by show _ = _; rw [hS.out, List.drop_of_length_le (by omega), feed_nil]; simp
      go_wp2
      go_ret2
      rw [Hbs.out, hE.out]
      exact ⟨ag, c, m, none, 0, 0, rfl, hml.symm, rfl, hown, Reads.nil _, TypedAt.nil _ _, FreshAt.nil _, hb⟩
    have hd' : (t : Int) < L := by omega
    obtain ⟨a1, hs1, hd1, ht1, hf1⟩ := Reads.from_typed (P := Tryd.prog) Tryd.underlying22 (size_of Tryd.infoByte) (ao := bg) (len := L) (cap := cb) t ht
    have rd1 : Reads wr a1 (L - t) (cb - t) ((bs.drop t).map (.int .u8)) := by have := hd1 wr _ (Reads.own hownb); simpa using this
    have b1 : isBytes (bs.drop t) := fun z hz => b8 z (List.mem_of_mem_drop hz)
    have hne : bs.drop t ≠ [] := by intro h; have := congrArg List.length h; simp at this; omega
    have hdl : (bs.drop t).length = L - t := by simp; omega
    clear hd1 hd
    go_wp2_with fail
    refine (rpending_any a1 (L - t) (cb - t) (bs.drop t) wr rd1 b1).mono ?_
    rintro e wb ⟨rfl, q, rfl⟩
    have rd2 := rd1.later (grow_drewN wr q) (Nat.le_refl _)
    have hown2 := own_later hown (grow_drewN wr q) (Nat.le_refl _)
    have hownb2 := own_later hownb (grow_drewN wr q) (Nat.le_refl _)
    have hB := Grow.trans hb (grow_drewN wr q)
    clear rd1 hown hownb hb hsz
    generalize wr.drewN q = wc at rd2 hown2 hownb2 hB
    have hszc := hB.size
    by_cases hp : pendU (bs.drop t)
    · have hE : Hid (feedU bs = (ls, bs.drop t)) := by show _ = _; rw [hS.out, feed_pend hp]; simp
      simp only [hp, decide_true]
      clear hp hS
      go_wp2_with fail
      go_quiet (fail)
      go_wp2
      go_ret2
      rw [Hbs.out, hE.out]
      exact ⟨ag, c, m, a1, cb - t, L - t, rfl, hml.symm, hdl.symm, own_later hown2 (grow_drewN wc nq) (Nat.le_refl _), rd2.later (grow_drewN wc nq) (Nat.le_refl _), (ht1 wc _ (typed_own hownb2)).later (grow_drewN wc nq) (Nat.le_refl _), hf1 _ (fresh_own hownb2), Grow.trans hB (grow_drewN wc nq)⟩
    have ho1 := one_pos (bs.drop t)
    have ho2 := one_le hne
    rw [hdl] at ho2
    have hS' : Hid (feedU bs = ((ls ++ [(oneU (bs.drop t)).1]) ++ (feedU (bs.drop (t + (oneU (bs.drop t)).2))).1, (feedU (bs.drop (t + (oneU (bs.drop t)).2))).2)) := by
      show _ = _
      rw [hS.out, feed_step hne hp, List.drop_drop]; simp
    simp only [hp, decide_false]
    clear hp hS hne
    go_wp2_with fail
    refine (rone_any a1 (L - t) (cb - t) (bs.drop t) wc rd2 b1 (by omega)).mono ?_
    rintro e wd ⟨rfl, q2, rfl⟩
    rcases ho : oneU (bs.drop t) with ⟨r, k⟩
    rw [ho] at ho1 ho2 hS'
    clear ho rd2 b1
    have hown3 := own_later hown2 (grow_drewN wc q2) (Nat.le_refl _)
    have hownb3 := own_later hownb2 (grow_drewN wc q2) (Nat.le_refl _)
    have hB3 := Grow.trans hB (grow_drewN wc q2)
    have mx : m + 20 ≤ maxLen := by unfold maxLen; omega
    have ho1' : 1 ≤ k := ho1
    have ho2' : t + k ≤ L := by simp only at ho2; omega
    have hkk : (t : Int) + k ≤ 1000000000000 := by omega
    clear hown2 hownb2 hB hszc ho1 ho2
    generalize wc.drewN q2 = wd at hown3 hownb3 hB3
    have hszd := hB3.size
    go_wp2_with (at_builtin; refine wpList_append_grown rfl (.tmp 35) (.tmp 37) 24 rfl w.heap.size 21 Tryd.infoRune rfl Tryd.underlying24 _ _ _ _ rfl (hown3.alloc _) _ _ _ _ rfl (reads_one _ _ _) (ints_oneCell .i32 [r]) (by omega) (by omega) (by simp; omega) ?_)
    intro ag3 c3 w3 hown4 hg3 hb3
    have hb3' : Below w.heap.size w w3 := (hB3.alloc hszd _).trans hb3
    have hownb4 := own_apart (hownb3.alloc _) (hown3.alloc _) (by decide) hg3
    clear hb3 hg3 hown3 hownb3
    go_wp2
    go_roundw
    case rel => exact ⟨t + k, ag3, c3, m + 1, ls ++ [r], rfl, by go_num, by omega, by omega, by simpa using hown4, hownb4, hS', hb3'⟩
    case measure => simp [intOf]; omega
#print axioms rfeed_any
end Go.Proofs.YtchafajebkfieaaDoor
