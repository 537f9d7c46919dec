/- For every input TokenParts answers true, and leaves its arguments as they were. Conditions: none. -/
import Derived.Test.YtdhbbknjnbdplaaDoorBase
import Derived.ProofKit
import Derived.OpenShut
import Derived.SizedLaws
import Derived.Test.YtdhbbknjnbdplaaDoorTokenCode
import Derived.Test.YtdhbbknjnbdplaaDoorTokenGetL
import Derived.Test.YtdhbbknjnbdplaaDoorRef07
import Derived.Test.YtdhbbknjnbdplaaDoorRows
import Derived.Test.YtdhbbknjnbdplaaDoorCards
import Derived.Test.YtdhbbknjnbdplaaDoorTie
import Derived.Test.YtdhbbknjnbdplaaDoorTokenPut
import Derived.Test.YtdhbbknjnbdplaaDoorRef07Put
import Derived.Test.YtdhbbknjnbdplaaDoorShown07
import Derived.Test.YtdhbbknjnbdplaaDoorRows2
import Derived.ShutString
import Derived.ChangeOld
import Derived.Deep.RegionHeld
import Derived.Deep.RegionHeld3
import Derived.Deep.QuietTactic
import Derived.BigQuiet
import Derived.Deep.Cut
import Derived.Deep.CutBlock
import Derived.Lay
import Derived.LaidOnce
import Derived.SevenTiedAt
namespace Go.Proofs.YtdhbbknjnbdplaaDoor
open Go.ChangeShapes Go.WideShapes Go.ChangeAt Go.RowKit

theorem slice_in {H : Type} {enc : TypeId × Value → H} {P : Program} {W : World} {k : IntKind} {t e : TypeId} {B : Nat} (hu : P.underlying t = some (.slice e)) (he : P.underlying e = some (.int k)) (hc : P.cellsOf e = 1) (hB : P.bytesOf e = B)
    {ts : List TypeId} {ds : List (DataW H)} (hsz : (DataW.weightsEach P ts ds).all (· ≤ reachBytes) = true) {j : Nat} {a : Option Addr} {len cap : Nat} {d : DataW H} {p : List MemPlace} (ht : ts[j]? = some t) (hd : ds[j]? = some d)
    (h : DataW.Trod enc P W 0 (fun _ => true) true t (.slice a len cap) d p) :
    ∃ zs : List Int, Reads W a len cap (zs.map (.int k)) ∧ (∀ z ∈ zs, (Lit.int k z).wf = true) ∧ len * B ≤ 140737488351232 := by
  obtain ⟨fuel, hf⟩ := h
  rcases open_ints hu he hc hf with ⟨hcs, _⟩ | ⟨x, l, c, zs, hcs, _, hl, hm, hz, hx, hcell, hwz⟩
  · simp [Value.cells] at hcs
    obtain ⟨rfl, rfl, rfl⟩ := hcs
    exact ⟨[], Reads.nil W, fun z hz => by simp at hz, by omega⟩
  · simp [Value.cells] at hcs
    obtain ⟨rfl, rfl, rfl⟩ := hcs
    simp only [if_true] at hz
    simp only [Prod.mk.injEq] at hx
    have hb := sized_slice hsz (e := e) ht (by rw [hd, hx.1]) hu
    rw [hB] at hb
    simp only [lits, List.length_map, List.length_take, List.length_drop, reachBytes] at hb
    refine ⟨zs.take len, ⟨by simp; omega, hl, hm, fun h => (by cases h), fun y hy i u hu => ?_⟩, fun z hz => hwz z (List.mem_of_mem_take hz), ?_⟩
    · cases hy
      have hi : i < len := by
        have := (List.getElem?_eq_some_iff.1 hu).1
        simp at this; omega
      rw [hcell i (by omega)]
      simp [hi, List.getElem?_eq_getElem (show i < zs.length by omega)] at hu
      simp [List.getD, List.getElem?_eq_getElem (show i < zs.length by omega), hu]
    · have e1 : min len zs.length + (zs.length - len) = cap := by omega
      rw [e1] at hb
      exact Nat.le_trans (Nat.mul_le_mul_right B hl) hb
end Go.Proofs.YtdhbbknjnbdplaaDoor

namespace Go.Proofs.YtdhbbknjnbdplaaDoor
open Go.RowKit
set_option linter.unusedVariables false
set_option linter.unusedSimpArgs false

set_option maxRecDepth 100000 in
set_option maxHeartbeats 1000000 in
theorem made_any (po : Option Addr) (plen pcap : Nat) (ao : Option Addr) (len cap : Nat) (mk lg : Bool) (w : World) :
    Calls Tryd.prog 16 #[.agg #[.slice po plen pcap, .slice ao len cap, .bool mk, .bool lg]] w fun e w' => e = .returned (.agg #[.slice po plen pcap, .slice ao len cap, .bool mk, .bool lg]) ∧ Below w.heap.size w w' := by
  have hb : Below w.heap.size w ((w.alloc (.cells #[.slice po plen pcap, .slice ao len cap, .bool mk, .bool lg] 30)).alloc (.cells #[.slice po plen pcap, .slice ao len cap, .bool mk, .bool lg] 34)) := ((Below.refl _ _).alloc (Nat.le_refl _) _).alloc (by simp) _
  go_enter Tryd.func16, Tryd.ntmps16
  go_wp2
  refine bodyPost_ret (v := .agg #[.slice po plen pcap, .slice ao len cap, .bool mk, .bool lg]) ?_ rfl ⟨rfl, hb⟩
  rw [results_cell_one rfl]
  simp only [Array.getD_eq_getD_getElem?, List.getElem?_toArray, asAddr, Sem.run_pure, Result.andThen_ok]
  exact load_tok (heap_alloc2_new _ _ _)
#print axioms made_any

set_option maxRecDepth 100000 in
set_option maxHeartbeats 1000000 in
theorem real_any (po : Option Addr) (plen pcap : Nat) (ao : Option Addr) (len cap : Nat) (mk lg : Bool) (w : World) :
    Calls Tryd.prog 19 #[.agg #[.slice po plen pcap, .slice ao len cap, .bool mk, .bool lg]] w fun e w' => e = .returned (.agg #[.slice po plen pcap, .slice ao len cap, .bool mk, .bool lg]) ∧ Below w.heap.size w w' := by
  have hb : Below w.heap.size w ((w.alloc (.cells #[.slice po plen pcap, .slice ao len cap, .bool mk, .bool lg] 34)).alloc (.cells #[.slice po plen pcap, .slice ao len cap, .bool mk, .bool lg] 30)) := ((Below.refl _ _).alloc (Nat.le_refl _) _).alloc (by simp) _
  go_enter Tryd.func19, Tryd.ntmps19
  go_wp2
  refine bodyPost_ret (v := .agg #[.slice po plen pcap, .slice ao len cap, .bool mk, .bool lg]) ?_ rfl ⟨rfl, hb⟩
  rw [results_cell_one rfl]
  simp only [Array.getD_eq_getD_getElem?, List.getElem?_toArray, asAddr, Sem.run_pure, Result.andThen_ok]
  exact load_ref (heap_alloc2_new _ _ _)
#print axioms real_any

theorem rtsame_eq (po : Option Addr) (plen pcap : Nat) (ps : List Int) (ao : Option Addr) (len cap : Nat) (ws : List Int) (mk lg : Bool) (qo : Option Addr) (qlen qcap : Nat) (bo : Option Addr) (blen bcap : Nat) (w : World)
    (hp : Reads w po plen pcap (ps.map (.int .u8))) (p8 : isBytes ps) (hr : Reads w ao len cap (ws.map (.int .i32))) (hq : Reads w qo qlen qcap (ps.map (.int .u8))) (hr2 : Reads w bo blen bcap (ws.map (.int .i32))) :
    Calls Tryd.prog 18 #[.agg #[.slice po plen pcap, .slice ao len cap, .bool mk, .bool lg], .agg #[.slice qo qlen qcap, .slice bo blen bcap, .bool mk, .bool lg]] w fun e w' => e = .returned (.bool true) ∧ Below w.heap.size w w' :=
  (rtsame_any po plen pcap ps ao len cap ws mk lg qo qlen qcap ps bo blen bcap ws mk lg w hp p8 hr hq p8 hr2).mono fun e w' ⟨h1, h2⟩ => ⟨by rw [h1]; simp, h2⟩
theorem out_bytes {zs : List Int} (h8 : isBytes zs) : isBytes (outT (getT zs)).1.pend := by
  cases h : getT zs with
  | none => intro z hz; simp [outT] at hz
  | some s =>
    intro z hz
    have hz' : z ∈ s.pend := hz
    have hp := (put_get h8 h).1
    refine h8 z ?_
    rw [← hp]
    simp [putT, hz']
end Go.Proofs.YtdhbbknjnbdplaaDoor

namespace Go.Proofs.YtdhbbknjnbdplaaDoor.tokenParts
open Go.ChangeShapes Go.WideShapes Go.ChangeAt Go.RowKit
open Go.ChangeMaps (open_string shut_string)
set_option linter.unusedVariables false

theorem own : ownKnob Tryd.prog.godebug = none := by kernel_rfl
theorem laidOut : laidOutB Tryd.prog = true := by kernel_rfl

theorem cat_next (ls : List (List Int)) (j : Nat) (h : j < ls.length) : (ls.take (j + 1)).flatten = (ls.take j).flatten ++ ls.getD j [] := by
  have e : ls.take (j + 1) = ls.take j ++ [ls.getD j []] := by rw [List.take_add_one, List.getD, List.getElem?_eq_getElem h]; rfl
  rw [e]; simp
theorem told_le (a : List Int) : (toldT a).length ≤ a.length := by
  have h1 := congrArg List.length (end_all a)
  have h2 := words_count a
  rw [List.length_append] at h1
  omega
theorem end_le (a : List Int) : (endT (pendT a) (underT a)).length ≤ a.length := by
  have h1 := congrArg List.length (end_all a)
  have h2 := words_count a
  rw [List.length_append] at h1
  omega
theorem step_small {u : UnderW} (h : smallT u.word) (c : Int) : smallT (stepW u c).2.word := by
  unfold stepW
  split
  · rename_i hl
    dsimp only
    split
    · intro z hz; simp at hz
    · intro z hz
      simp only [moreW, List.mem_append, List.mem_singleton] at hz
      rcases hz with (hz | hz) | hz
      · exact h z hz
      · split at hz
        · simp at hz; omega
        · simp at hz
      · subst hz
        by_cases hc : c < 0 ∨ 1200 ≤ c
        · have := (fold_far c hc).2; rw [hl] at this; cases this
        · obtain ⟨n, rfl⟩ : ∃ n : Nat, c = (n : Int) := ⟨c.toNat, by omega⟩
          have := (fold_near n (by omega)).2.2.2.1
          omega
  · split
    · exact h
    · intro z hz; simp [zeroW] at hz
theorem feed_small : ∀ (l : List Int) {u : UnderW}, smallT u.word → smallT (feedW u l).2.word
  | [], u, h => h
  | c :: l, u, h => feed_small l (step_small h c)
theorem under_small (a : List Int) : smallT (underT a).word := feed_small _ (fun z hz => by simp [zeroW] at hz)
theorem small_range {ws : List Int} (h : smallT ws) : ∀ z ∈ ws, -2147483648 ≤ z ∧ z ≤ 2147483647 := fun z hz => by have := h z hz; omega
theorem state_back (a : List Int) : getT (putT (pendT a) (underT a).word (underT a).mark (underT a).long) = some ⟨pendT a, (underT a).word, (underT a).mark, (underT a).long⟩ := get_put _ _ (pend_ok a) (under_ok a).short (under_small a)
theorem put_bytes {p ws : List Int} (mk lg : Bool) (hp : isBytes p) (hpl : p.length ≤ 3) (hw : ws.length ≤ 32) (hs : smallT ws) : isBytes (putT p ws mk lg) := by
  intro z hz
  simp only [putT, List.mem_append] at hz
  rcases hz with (((h | h) | h) | h) | h
  · exact encode_bytes _ (by omega) z h
  · exact hp z h
  · exact encode_bytes _ (by omega) z h
  · simp only [runesP, List.mem_flatten, List.mem_map] at h
    obtain ⟨l, ⟨c, hc, rfl⟩, hz⟩ := h
    exact encode_bytes _ (by have := hs c hc; unfold runeN; omega) z hz
  · simp at h; subst h; cases mk <;> cases lg <;> decide
theorem put_len {p ws : List Int} (mk lg : Bool) (hpl : p.length ≤ 3) (hw : ws.length ≤ 32) : (putT p ws mk lg).length ≤ 1000 := by
  have h1 := encode_len p.length
  have h2 := encode_len ws.length
  have h3 := runesP_len ws
  simp only [putT, List.length_append, List.length_singleton]
  omega

set_option maxRecDepth 100000 in
set_option maxHeartbeats 4000000 in
theorem walk (w : World) (a0 : Option Addr) (len0 cap0 : Nat) (z0 : List (List Int)) (r0 : ReadsRows w a0 len0 cap0 z0) (f0 : ∀ l ∈ z0, isBytes l) (b0 : len0 * 24 ≤ 140737488351232) (ht : Tabs w) :
    Calls Tryd.prog 5 #[.slice a0 len0 cap0] w fun e w' => e = .returned (.bool true) ∧ Below w.heap.size w w' := by
  have hl0 := r0.length
  have hb0 : len0 ≤ 140737488351232 := by omega
  go_enter Tryd.func5, Tryd.ntmps5
  go_wp2_with fail
  refine (shown_any w ht).mono ?_
  rintro e w1 ⟨rfl, hb1⟩
  have ra := r0.later hb1 (Nat.le_refl _)
  have ht1 := Tabs.grow hb1 ht
  have k1 := heap_alloc_new w1 (.cells #[.slice none 0 0, .slice none 0 0, .bool false, .bool false] 34)
  have hB1 : Below w1.heap.size w1 (w1.alloc (.cells #[.slice none 0 0, .slice none 0 0, .bool false, .bool false] 34)) := (Below.refl _ _).alloc (Nat.le_refl _) _
  clear r0
  go_wp2_with fail
  go_loopw [4, 5, 7] (fun va vg vi wr => ∃ (j : Nat) (ag : Option Addr) (c n : Nat) (gg : Option Addr) (gc m X : Nat) (pg : Option Addr) (pk pd : Nat) (wg : Option Addr) (wk wd : Nat) (mk lg : Bool) (bs : List Int), vi = .int .i64 j ∧ va = .slice ag n c ∧ vg = .slice gg m gc ∧ j ≤ len0 ∧ j ≤ 40 ∧ n ≤ j * 500 ∧ isBytes bs ∧
      wr.ownsRow (w1.heap.size + 1) 5 1 (.slice ag n c) n (bs.map (.int .u8)) ∧ wr.ownsRow (w1.heap.size + 1) 9 1 (.slice gg m gc) m ((toldT bs).map wordV) ∧ wr.heap[w1.heap.size]? = some (Obj.cells #[.slice pg pk pd, .slice wg wk wd, .bool mk, .bool lg] 34 (0, 0)) ∧ Hid (mk = (underT bs).mark) ∧ Hid (lg = (underT bs).long) ∧
      Reads wr pg pk pd ((pendT bs).map (.int .u8)) ∧ TypedAt wr pg pk 5 ∧ FreshAt X pg pk ∧ Hid (∀ q, (Value.slice ag n c).ownBlock = some q → q < X) ∧ Reads wr wg wk wd ((underT bs).word.map (.int .i32)) ∧ TypedAt wr wg wk 21 ∧ Below w1.heap.size w1 wr ∧ w1.heap.size + 1 ≤ wr.heap.size) (fun _ _ i _ => (len0 - intOf i).toNat)
  case atStart => exact ⟨0, none, 0, 0, none, 0, 0, 0, none, 0, 0, none, 0, 0, false, false, [], rfl, rfl, rfl, by omega, by omega, by omega, by simp [isBytes], World.ownsRow_nil _ _ _ _, World.ownsRow_nil _ _ _ _, k1, rfl, rfl, Reads.nil _, TypedAt.nil _ _, FreshAt.nil _, by show ∀ q, _; intro q hq; simp [Value.ownBlock] at hq, Reads.nil _, TypedAt.nil _ _, hB1, by simp⟩
  case round =>
    obtain ⟨j, ag, c, n, gg, gc, m, X, pg, pk, pd, wg, wk, wd, mk, lg, bs, rfl, rfl, rfl, hj, hj2, hn, b8, hown, hgot, k6, Hmk, Hlg, rp, tp, fp, hX, rw6, tw6, hb, hsz⟩ := hrel
    have hbl : bs.length = n := by have := hown.1; simpa using this
    have hml : (toldT bs).length = m := by have := hgot.1; simpa using this
    have hmle := told_le bs
    clear k1 hB1
    by_cases hd : j < len0 ∧ j < 40
    · obtain ⟨hd1, hd2⟩ := hd
      have hd1' : (j : Int) < len0 := by omega
      have hd2' : (j : Int) < 40 := by omega
      obtain ⟨b1, o1, rfl, hbb, hat1⟩ := ra.at (by omega)
      obtain ⟨x1, l1, c1, hc1, rd1⟩ := hat1 j hd1
      have hc1' : wr.cell? ⟨b1, o1 + j, none⟩ = some (.slice x1 l1 c1) := by rw [hb.cell hbb]; exact hc1
      have rd1' := rd1.later hb (Nat.le_refl _)
      have hl1 : (z0.getD j []).length = l1 := by simpa using rd1.length
      have y8 : isBytes (z0.getD j []) := by rw [List.getD, List.getElem?_eq_getElem (by omega)]; exact f0 _ (List.getElem_mem _)
      clear hat1
      generalize z0.getD j [] = x at rd1 rd1' hl1 y8
      by_cases h500 : l1 ≤ 500
      case neg =>
        have h1' : (501 : Int) ≤ l1 := by omega
        have hB := Grow.trans hb1 hb
        clear hl1 h500 hc1
        go_wp2
        go_ret
        exact ⟨rfl, hB⟩
      have h1' : (l1 : Int) ≤ 500 := by omega
      have mx : n + l1 + m + 4000 ≤ maxLen := by unfold maxLen; omega
      go_wp2_with (at_builtin; refine wpList_append_grown rfl (.tmp 31) (.tmp 35) 22 rfl (w1.heap.size + 1) 5 Tryd.infoByte rfl Tryd.underlying22 _ _ _ _ rfl hown _ _ _ _ rfl rd1' (ints_oneCell _ _) (by omega) (by omega) hsz ?_)
      intro ag2 c2 w2 hown2 hg2 hb2
      have hk2 : KeptBut 5 wr w2 := KeptBut.grown hown hg2
      have hgot2 := own_kept hgot hk2 (by decide)
      have k62 := hk2.kept _ _ _ _ k6 (by decide)
      have rp2 := reads_young rp fp hX.out hg2
      have rw2 := reads_kept rw6 tw6 hk2 (by decide)
      have hB2 : Below w1.heap.size w1 w2 := Below.trans hb (hb2.mono (by omega))
      have rd2 := rd1.later hB2 (Nat.le_refl _)
      have hc2 : w2.cell? ⟨b1, o1 + j, none⟩ = some (.slice x1 l1 c1) := by rw [hB2.cell hbb]; exact hc1
      have hbb2 : b1 < w2.heap.size := Nat.lt_of_lt_of_le hbb hB2.size
      have ht2 := Tabs.grow hB2 ht1
      have hs2 : w1.heap.size + 1 ≤ w2.heap.size := Nat.le_trans hsz hk2.size
      have bx8 : isBytes (bs ++ x) := fun z hz => (List.mem_append.1 hz).elim (b8 z) (y8 z)
      rw [← List.map_append] at hown2
      clear hown hg2 hb2 hk2 hgot k6 rp tp fp hX rw6 tw6 hb hsz rd1' hc1' ht
      have hd0 : ∀ W, Below w2.heap.size w2 W → W.cell? ⟨b1, o1 + j, none⟩ = some (.slice x1 l1 c1) := fun W hW => by rw [hW.cell hbb2]; exact hc2
      have hqc0 : ∀ W, Below w2.heap.size w2 W → W.cell? ⟨w1.heap.size, 0, none⟩ = some (.slice pg pk pd) := fun W hW => (blk4 ((hW.block _ (lt_of_block k62)).trans k62)).1
      have hqc1 : ∀ W, Below w2.heap.size w2 W → W.cell? ⟨w1.heap.size, 1, none⟩ = some (.slice wg wk wd) := fun W hW => (blk4 ((hW.block _ (lt_of_block k62)).trans k62)).2.1
      have hqc2 : ∀ W, Below w2.heap.size w2 W → W.cell? ⟨w1.heap.size, 2, none⟩ = some (.bool mk) := fun W hW => (blk4 ((hW.block _ (lt_of_block k62)).trans k62)).2.2.1
      have hqc3 : ∀ W, Below w2.heap.size w2 W → W.cell? ⟨w1.heap.size, 3, none⟩ = some (.bool lg) := fun W hW => (blk4 ((hW.block _ (lt_of_block k62)).trans k62)).2.2.2.1
      go_upto_region 11 with (fail)
      go_cut [8, 9] from 37 to 65 (fun v8 v wc => ∃ (B : Nat) (tg : Option Addr) (tm tc : Nat) (ts : List (List Int)) (pg : Option Addr) (pk pd : Nat) (wg : Option Addr) (wk wd : Nat) (mk lg : Bool), v8 = .slice tg tm tc ∧ v = .pointer (some ⟨B, 0, none⟩) ∧ w2.heap.size ≤ B ∧ wc.heap[B]? = some (Obj.cells #[.slice pg pk pd, .slice wg wk wd, .bool mk, .bool lg] 34 (0, 0)) ∧ Hid (mk = (underT (bs ++ x)).mark) ∧ Hid (lg = (underT (bs ++ x)).long) ∧ Hid (toldT (bs ++ x) = toldT bs ++ ts) ∧ tm ≤ 501 ∧ Reads wc tg tm tc (ts.map wordV) ∧ TypedAt wc tg tm 9 ∧
        Reads wc pg pk pd ((pendT (bs ++ x)).map (.int .u8)) ∧ TypedAt wc pg pk 5 ∧ Reads wc wg wk wd ((underT (bs ++ x)).word.map (.int .i32)) ∧ TypedAt wc wg wk 21 ∧ FreshAt w2.heap.size tg tm ∧ Below w2.heap.size w2 wc)
      case first =>
        go_region_held (fun W => Below w2.heap.size w2 W) (first | exact Below.refl _ _ | exact Below.drew (Below.refl _ _) | assumption | exact Grow.trans (by assumption) (by assumption) | exact Below.alloc (by assumption) (Below.size (by assumption)) _ | exact Below.alloc (Grow.trans (Below.drew (Below.refl _ _)) (by assumption)) (Below.size (Grow.trans (Below.drew (Below.refl _ _)) (by assumption))) _ | exact below_set4 (by assumption) (Nat.le_refl _) _ _ _ _) (first | (go_at_call 20; refine (tfeedT bs b8 _ _ _ _ _ _ _ _ Hmk.out Hlg.out _ _ _ x _ (rp2.later (by first | assumption | exact Below.drew (Below.refl _ _) | exact Grow.trans (by assumption) (by assumption)) (Nat.le_refl _)) (rw2.later (by first | assumption | exact Below.drew (Below.refl _ _) | exact Grow.trans (by assumption) (by assumption)) (Nat.le_refl _)) (rd2.later (by first | assumption | exact Below.drew (Below.refl _ _) | exact Grow.trans (by assumption) (by assumption)) (Nat.le_refl _)) y8 (by omega) (ht2.later (by first | assumption | exact Below.drew (Below.refl _ _) | exact Grow.trans (by assumption) (by assumption)) (Nat.le_refl _))).mono ?_; rintro e wy ⟨tg, tc, tm, pg2, pd2, pk2, bg2, d2, k2, mk2, lg2, ts2, rfl, hmk2, hlg2, hm2, ht3, hcn2, hot2, ⟨hrp2, htp2, hfp2⟩, how2, hb2⟩; have Hmk2 : Hid _ := hmk2; have Hlg2 : Hid _ := hlg2; have Ht3 : Hid _ := ht3; have htm : tm ≤ 501 := Nat.le_trans (Nat.le_add_right _ _) (Nat.le_trans hcn2 (by omega)); clear hmk2 hlg2 hm2 ht3 hcn2; try (have hzb := (hb2.block w2.heap.size (by simp)).trans (heap_alloc_new _ _); have hz := blk4 hzb)))
        · have hxa : Below wy.heap.size wy (wy.alloc (.cells #[.slice pg2 pk2 pd2, .slice bg2 k2 d2, .bool mk2, .bool lg2] 34)) := (Below.refl _ _).alloc (Nat.le_refl _) _
          have hsy : w2.heap.size ≤ wy.heap.size := hb2.size
          have g1 := (Reads.own hot2).later hxa (Nat.le_refl _)
          have g2 := (typed_own hot2).later hxa (Nat.le_refl _)
          have g3 := hrp2.later hxa (Nat.le_refl _)
          have g4 := htp2.later hxa (Nat.le_refl _)
          have g5 := (Reads.own how2).later hxa (Nat.le_refl _)
          have g6 := (typed_own how2).later hxa (Nat.le_refl _)
          have g7 : FreshAt w2.heap.size tg tm := fresh_own hot2
          go_wp2_with fail
          go_meet
          case rel => exact ⟨wy.heap.size, tg, tm, tc, ts2, pg2, pk2, pd2, bg2, k2, d2, mk2, lg2, rfl, rfl, hsy, heap_alloc_new _ _, Hmk2.out, Hlg2.out, Ht3.out, htm, g1, g2, g3, g4, g5, g6, g7, by assumption⟩
        · have hkk := (KeptBut.refl 34 wy).cells4 hzb (.slice pg2 pk2 pd2) (.slice bg2 k2 d2) (.bool mk2) (.bool lg2)
          have hbk := blk4_set hzb (.slice pg2 pk2 pd2) (.slice bg2 k2 d2) (.bool mk2) (.bool lg2)
          have g1 := reads_of_own hot2 hkk (by decide)
          have g2 := typed_kept (typed_own hot2) hkk (by decide)
          have g3 := reads_kept hrp2 htp2 hkk (by decide)
          have g4 := typed_kept htp2 hkk (by decide)
          have g5 := reads_of_own how2 hkk (by decide)
          have g6 := typed_kept (typed_own how2) hkk (by decide)
          have g7 : FreshAt w2.heap.size tg tm := fun h0 a ha => Nat.le_trans (by simp) (fresh_own hot2 h0 a ha)
          go_wp2_with fail
          go_meet
          case rel => exact ⟨w2.heap.size, tg, tm, tc, ts2, pg2, pk2, pd2, bg2, k2, d2, mk2, lg2, rfl, rfl, Nat.le_refl _, hbk, Hmk2.out, Hlg2.out, Ht3.out, htm, g1, g2, g3, g4, g5, g6, g7, by assumption⟩
      clear hqc0 hqc1 hqc2 hqc3 hd0 rp2 rw2 hc2 rd2 Hmk Hlg
      obtain ⟨B, tg, tm, tc, ts, pg3, pk3, pd3, wg3, wk3, wd3, mk3, lg3, rfl, rfl, hBge, kB, Hmk3, Hlg3, Ht3, htm, rt, tt, rp3, tp3, rw3, tw3, ft, hbc⟩ := hcut
      have hownc := own_later hown2 hbc (Nat.le_refl _)
      have hgotc := own_later hgot2 hbc (Nat.le_refl _)
      have k6c := (hbc.block _ (lt_of_block k62)).trans k62
      have hsc : w1.heap.size + 1 ≤ wc.heap.size := Nat.le_trans hs2 hbc.size
      have hBc : Below w1.heap.size w1 wc := Below.trans hB2 (hbc.mono hB2.size)
      have HX : Hid (∀ q, (Value.slice ag2 (n + l1) c2).ownBlock = some q → q < w2.heap.size) := fun q hq => (hown2.lt q hq).2
      have hpk3 : pk3 ≤ 3 := by have h1 := rp3.length; have h2 := pend_len (bs ++ x); simp only [List.length_map] at h1; omega
      have hwk3 : wk3 ≤ 32 := by have h1 := rw3.length; have h2 := (under_ok (bs ++ x)).short; simp only [List.length_map] at h1; omega
      have hs22 : w2.heap.size ≤ wc.heap.size := hbc.size
      clear hown2 hgot2 k62 hbc hB2
      go_wp2_with (at_builtin; refine wpList_append_grown rfl (.tmp 46) (.tmp 47) 25 rfl (w1.heap.size + 1) 9 Tryd.infoStr rfl Tryd.underlying25 _ _ _ _ rfl hgotc _ _ _ _ rfl rt (words_oneCell _) (by omega) (by omega) hsc ?_)
      intro gg4 gc4 w4 hgot4 hg4 hb4
      have hk4 : KeptBut 9 wc w4 := KeptBut.grown hgotc hg4
      have kB4 := hk4.kept _ _ _ _ kB (by decide)
      have k64 := hk4.kept _ _ _ _ k6c (by decide)
      have rp4 := reads_kept rp3 tp3 hk4 (by decide)
      have rw4 := reads_kept rw3 tw3 hk4 (by decide)
      have hown4 := own_kept hownc hk4 (by decide)
      have hB4 : Below w1.heap.size w1 w4 := Below.trans hBc (hb4.mono (by omega))
      have hs4 : w1.heap.size + 1 ≤ w4.heap.size := Nat.le_trans hsc hk4.size
      have hs24 : w2.heap.size ≤ w4.heap.size := Nat.le_trans hs22 hk4.size
      rw [← List.map_append, ← Ht3.out] at hgot4
      have cB4 := blk4 kB4
      have ht4 := Tabs.grow hB4 ht1
      clear hg4 hb4 hk4 kB k6c rp3 tp3 rw3 tw3 hownc hgotc rt tt ft hsc hBc hs22
      go_wp2_with fail
      refine (tput_any _ _ _ (pendT (bs ++ x)) _ _ _ (underT (bs ++ x)).word _ _ w4 rp4 rw4 (small_range (under_small _)) (by omega) (by omega)).mono ?_
      rintro e w5 ⟨ug, uc, um, rfl, hum, hru, hb5⟩
      have hp8 := put_bytes mk3 lg3 (pend_bytes bx8) (pend_len _) (under_ok (bs ++ x)).short (under_small (bs ++ x))
      have hpl := put_len (p := pendT (bs ++ x)) (ws := (underT (bs ++ x)).word) mk3 lg3 (pend_len _) (under_ok (bs ++ x)).short
      have hback : getT (putT (pendT (bs ++ x)) (underT (bs ++ x)).word mk3 lg3) = some ⟨pendT (bs ++ x), (underT (bs ++ x)).word, mk3, lg3⟩ := by rw [Hmk3.out, Hlg3.out]; exact state_back _
      have huml : um ≤ 1000 := by omega
      have ht5 := Tabs.grow hb5 ht4
      have hB5 : Below w1.heap.size w1 w5 := Below.trans hB4 (hb5.mono hB4.size)
      have kB5 := (hb5.block _ (lt_of_block kB4)).trans kB4
      have k65 := (hb5.block _ (lt_of_block k64)).trans k64
      have rp5 := rp4.later hb5 (Nat.le_refl _)
      have rw5 := rw4.later hb5 (Nat.le_refl _)
      have hown5 := own_later hown4 hb5 (Nat.le_refl _)
      have hgot5 := own_later hgot4 hb5 (Nat.le_refl _)
      have hs25 : w2.heap.size ≤ w5.heap.size := Nat.le_trans hs24 hb5.size
      have Hback : Hid _ := hback
      clear hum hb5 kB4 k64 rp4 rw4 hown4 hgot4 hB4 cB4 ht4 hpl hback hs24
      go_wp2_with fail
      refine (tget_any _ _ _ _ w5 hru hp8 (by omega) ht5).mono ?_
      rw [Hback.out]
      rintro e w6 ⟨pg6, pd6, pk6, bg6, d6, k6, mk6, lg6, er, rfl, hmk6, hlg6, her, hpk6, hk6, ⟨rp6, tp6, fp6⟩, ⟨rw6, tw6, fw6⟩, hb6⟩
      have e6 : mk3 = mk6 := hmk6.symm
      have e7 : lg3 = lg6 := hlg6.symm
      have e8 : er = 0 := her
      subst e6; subst e7; subst e8
      have hx6 : Below w6.heap.size w6 (w6.alloc (.cells #[.slice pg6 pk6 pd6, .slice bg6 k6 d6, .bool mk3, .bool lg3] 34)) := (Below.refl _ _).alloc (Nat.le_refl _) _
      have q6 := heap_alloc_new w6 (.cells #[.slice pg6 pk6 pd6, .slice bg6 k6 d6, .bool mk3, .bool lg3] 34)
      have hb6' := Below.trans hb6 (hx6.mono hb6.size)
      have kB7 := (hb6'.block _ (lt_of_block kB5)).trans kB5
      have k67 := (hb6'.block _ (lt_of_block k65)).trans k65
      have rp7 := rp5.later hb6' (Nat.le_refl _)
      have rw7 := rw5.later hb6' (Nat.le_refl _)
      have hown7 := own_later hown5 hb6' (Nat.le_refl _)
      have hgot7 := own_later hgot5 hb6' (Nat.le_refl _)
      have rp8 := rp6.later hx6 (Nat.le_refl _)
      have rw8 := rw6.later hx6 (Nat.le_refl _)
      have tp8 := tp6.later hx6 (Nat.le_refl _)
      have tw8 := tw6.later hx6 (Nat.le_refl _)
      have hB7 := Below.trans hB5 (hb6'.mono hB5.size)
      have hs7 : w1.heap.size + 1 ≤ (w6.alloc (.cells #[.slice pg6 pk6 pd6, .slice bg6 k6 d6, .bool mk3, .bool lg3] 34)).heap.size := Nat.le_trans (lt_of_block k67) (Nat.le_refl _)
      have p8x := pend_bytes bx8
      clear hmk6 hlg6 her hpk6 hk6 rp5 rw5 rp6 rw6 tp6 tw6 hown5 hgot5 kB5 k65 hb6 hx6 hb6' hB5 hru hp8 ht5 huml Hback
      go_upto_region 14 with (fail)
      generalize hwi : (w6.alloc (.cells #[.slice pg6 pk6 pd6, .slice bg6 k6 d6, .bool mk3, .bool lg3] 34)) = wi at q6 kB7 k67 rp7 rw7 hown7 hgot7 rp8 rw8 tp8 tw8 hB7 hs7 ⊢
      have hqa0 : ∀ W, Below wi.heap.size wi W → W.cell? ⟨w6.heap.size, 0, none⟩ = some (.slice pg6 pk6 pd6) := fun W hW => (blk4 ((hW.block _ (lt_of_block q6)).trans q6)).1
      have hqa1 : ∀ W, Below wi.heap.size wi W → W.cell? ⟨w6.heap.size, 1, none⟩ = some (.slice bg6 k6 d6) := fun W hW => (blk4 ((hW.block _ (lt_of_block q6)).trans q6)).2.1
      have hqa2 : ∀ W, Below wi.heap.size wi W → W.cell? ⟨w6.heap.size, 2, none⟩ = some (.bool mk3) := fun W hW => (blk4 ((hW.block _ (lt_of_block q6)).trans q6)).2.2.1
      have hqa3 : ∀ W, Below wi.heap.size wi W → W.cell? ⟨w6.heap.size, 3, none⟩ = some (.bool lg3) := fun W hW => (blk4 ((hW.block _ (lt_of_block q6)).trans q6)).2.2.2.1
      have hqb0 : ∀ W, Below wi.heap.size wi W → W.cell? ⟨B, 0, none⟩ = some (.slice pg3 pk3 pd3) := fun W hW => (blk4 ((hW.block _ (lt_of_block kB7)).trans kB7)).1
      have hqb1 : ∀ W, Below wi.heap.size wi W → W.cell? ⟨B, 1, none⟩ = some (.slice wg3 wk3 wd3) := fun W hW => (blk4 ((hW.block _ (lt_of_block kB7)).trans kB7)).2.1
      have hqb2 : ∀ W, Below wi.heap.size wi W → W.cell? ⟨B, 2, none⟩ = some (.bool mk3) := fun W hW => (blk4 ((hW.block _ (lt_of_block kB7)).trans kB7)).2.2.1
      have hqb3 : ∀ W, Below wi.heap.size wi W → W.cell? ⟨B, 3, none⟩ = some (.bool lg3) := fun W hW => (blk4 ((hW.block _ (lt_of_block kB7)).trans kB7)).2.2.2.1
      have hqd0 : ∀ W, Below wi.heap.size wi W → W.cell? ⟨w1.heap.size, 0, none⟩ = some (.slice pg pk pd) := fun W hW => (blk4 ((hW.block _ (lt_of_block k67)).trans k67)).1
      have hqd1 : ∀ W, Below wi.heap.size wi W → W.cell? ⟨w1.heap.size, 1, none⟩ = some (.slice wg wk wd) := fun W hW => (blk4 ((hW.block _ (lt_of_block k67)).trans k67)).2.1
      have hqd2 : ∀ W, Below wi.heap.size wi W → W.cell? ⟨w1.heap.size, 2, none⟩ = some (.bool mk) := fun W hW => (blk4 ((hW.block _ (lt_of_block k67)).trans k67)).2.2.1
      have hqd3 : ∀ W, Below wi.heap.size wi W → W.cell? ⟨w1.heap.size, 3, none⟩ = some (.bool lg) := fun W hW => (blk4 ((hW.block _ (lt_of_block k67)).trans k67)).2.2.2.1
      have hqf0 : ∀ W, Below wi.heap.size wi W → W.frozen? ⟨w1.heap.size, 0, none⟩ = false := fun W hW => (blk4 ((hW.block _ (lt_of_block k67)).trans k67)).2.2.2.2.1
      have hqf1 : ∀ W, Below wi.heap.size wi W → W.frozen? ⟨w1.heap.size, 1, none⟩ = false := fun W hW => (blk4 ((hW.block _ (lt_of_block k67)).trans k67)).2.2.2.2.2.1
      have hqf2 : ∀ W, Below wi.heap.size wi W → W.frozen? ⟨w1.heap.size, 2, none⟩ = false := fun W hW => (blk4 ((hW.block _ (lt_of_block k67)).trans k67)).2.2.2.2.2.2.1
      have hqf3 : ∀ W, Below wi.heap.size wi W → W.frozen? ⟨w1.heap.size, 3, none⟩ = false := fun W hW => (blk4 ((hW.block _ (lt_of_block k67)).trans k67)).2.2.2.2.2.2.2
      clear hwi
      go_region_held (fun W => Below wi.heap.size wi W) (first | exact Below.refl _ _ | exact Below.drew (Below.refl _ _) | assumption | exact Grow.trans (by assumption) (by assumption)) (first | (go_at_call 19; refine (real_any _ _ _ _ _ _ _ _ _).mono ?_; rintro e wy ⟨rfl, hby⟩) | (go_at_call 18; refine (rtsame_eq _ _ _ (pendT (bs ++ x)) _ _ _ (underT (bs ++ x)).word _ _ _ _ _ _ _ _ _ (rp8.later (by first | assumption | exact Below.drew (Below.refl _ _) | exact Grow.trans (by assumption) (by assumption)) (Nat.le_refl _)) p8x (rw8.later (by first | assumption | exact Below.drew (Below.refl _ _) | exact Grow.trans (by assumption) (by assumption)) (Nat.le_refl _)) (rp7.later (by first | assumption | exact Below.drew (Below.refl _ _) | exact Grow.trans (by assumption) (by assumption)) (Nat.le_refl _)) (rw7.later (by first | assumption | exact Below.drew (Below.refl _ _) | exact Grow.trans (by assumption) (by assumption)) (Nat.le_refl _))).mono ?_; rintro e wz ⟨rfl, hbz⟩))
      all_goals (
        have hwz : Below wi.heap.size wi wz := by assumption
        have k6z := (hwz.block _ (lt_of_block k67)).trans k67
        have hkz := (KeptBut.refl 34 wz).cells4 k6z (.slice pg6 pk6 pd6) (.slice bg6 k6 d6) (.bool mk3) (.bool lg3)
        have e1 := own_kept (own_later hown7 hwz (Nat.le_refl _)) hkz (by decide)
        have e2 := own_kept (own_later hgot7 hwz (Nat.le_refl _)) hkz (by decide)
        have e3 := blk4_set k6z (.slice pg6 pk6 pd6) (.slice bg6 k6 d6) (.bool mk3) (.bool lg3)
        have e4 := reads_kept (rp8.later hwz (Nat.le_refl _)) (tp8.later hwz (Nat.le_refl _)) hkz (by decide)
        have e5 := typed_kept (tp8.later hwz (Nat.le_refl _)) hkz (by decide)
        have e6 := reads_kept (rw8.later hwz (Nat.le_refl _)) (tw8.later hwz (Nat.le_refl _)) hkz (by decide)
        have e7 := typed_kept (tw8.later hwz (Nat.le_refl _)) hkz (by decide)
        have e8 : Below w1.heap.size w1 ((((wz.setCell ⟨w1.heap.size, 0, none⟩ (.slice pg6 pk6 pd6)).setCell ⟨w1.heap.size, 1, none⟩ (.slice bg6 k6 d6)).setCell ⟨w1.heap.size, 2, none⟩ (.bool mk3)).setCell ⟨w1.heap.size, 3, none⟩ (.bool lg3)) := below_set4 (Below.trans hB7 (hwz.mono hB7.size)) (Nat.le_refl _) _ _ _ _
        have e9 : w1.heap.size + 1 ≤ ((((wz.setCell ⟨w1.heap.size, 0, none⟩ (.slice pg6 pk6 pd6)).setCell ⟨w1.heap.size, 1, none⟩ (.slice bg6 k6 d6)).setCell ⟨w1.heap.size, 2, none⟩ (.bool mk3)).setCell ⟨w1.heap.size, 3, none⟩ (.bool lg3)).heap.size := Nat.le_trans hs7 (Nat.le_trans hwz.size hkz.size)
        have HXX : Hid (∀ q, (Value.slice ag2 (n + l1) c2).ownBlock = some q → q < w5.heap.size) := fun q hq => Nat.lt_of_lt_of_le (HX.out q hq) hs25
        clear hown7 hgot7 rp8 rw8 tp8 tw8 rp7 rw7 hB7 hkz k6z
        go_wp2
        go_roundw
        case rel => exact ⟨j + 1, ag2, c2, n + l1, gg4, gc4, m + tm, w5.heap.size, pg6, pk6, pd6, bg6, k6, d6, mk3, lg3, bs ++ x, by go_num, rfl, rfl, by omega, by omega, by omega, bx8, e1, e2, e3, Hmk3.out, Hlg3.out, e4, e5, fp6, HXX.out, e6, e7, e8, e9⟩
        case measure => simp [intOf]; omega)
    · have hn40 : n ≤ 20000 := by omega
      have c6 := blk4 k6
      have htr := Tabs.grow hb ht1
      have hee := end_le bs
      have Hall : Hid _ := end_all bs
      have mx : n + m + 50000 ≤ maxLen := by unfold maxLen; omega
      have hout : ∀ wz, Below w1.heap.size w1 wz → Below w.heap.size w wz := fun wz h => Below.trans hb1 (h.mono hb1.size)
      by_cases hd3 : j < len0
      · have g1 : (j : Int) < len0 := by omega
        have g2 : ¬ (j : Int) < 40 := by omega
        clear hd hd3
        go_wp2_with fail
        refine (tendT bs b8 _ _ _ _ _ _ _ _ Hmk.out Hlg.out _ rp rw6 htr).mono ?_
        rintro e w2 ⟨eg, ec, em, rfl, hem, hoe, hb2⟩
        have hown2 := own_later hown hb2 (Nat.le_refl _)
        have hgot2 := own_later hgot hb2 (Nat.le_refl _)
        have hB2 : Below w1.heap.size w1 w2 := Below.trans hb (hb2.mono hb.size)
        have hs2 : w1.heap.size + 1 ≤ w2.heap.size := Nat.le_trans hsz hb2.size
        have hem2 : em ≤ 20000 := by omega
        clear hem hown hgot hb2 hb hsz k6 c6 rp tp fp hX rw6 tw6 htr hee
        go_wp2_with (at_builtin; refine wpList_append_grown rfl (.tmp 66) (.tmp 68) 25 rfl (w1.heap.size + 1) 9 Tryd.infoStr rfl Tryd.underlying25 _ _ _ _ rfl hgot2 _ _ _ _ rfl (Reads.own hoe) (words_oneCell _) (by omega) (by omega) hs2 ?_)
        intro gg4 gc4 w4 hgot4 hg4 hb4
        have hk4 : KeptBut 9 w2 w4 := KeptBut.grown hgot2 hg4
        have hown4 := own_kept hown2 hk4 (by decide)
        have hB4 : Below w1.heap.size w1 w4 := Below.trans hB2 (hb4.mono (by omega))
        rw [← List.map_append, Hall.out] at hgot4
        have rg4 := Reads.own hgot4
        have ra4 := Reads.own hown4
        have ht4 := Tabs.grow hB4 ht1
        clear hg4 hb4 hk4 hown2 hgot2 hoe hB2 hgot4 hown4 hs2
        go_wp2_with fail
        refine (tall_any _ _ _ bs w4 ra4 b8 (by omega) ht4).mono ?_
        rintro e w5 ⟨ag5, c5, m5, rfl, hm5, ho5, hb5⟩
        have rg5 := rg4.later hb5 (Nat.le_refl _)
        have ra5 := ra4.later hb5 (Nat.le_refl _)
        have hB5 : Below w1.heap.size w1 w5 := Below.trans hB4 (hb5.mono hB4.size)
        have rs5 := Reads.own ho5
        clear hm5 ho5 hb5 rg4 ra4 ht4 hB4
        go_wp2_with fail
        refine (sameV_eq _ _ _ _ _ _ _ _ rg5 rs5).mono ?_
        rintro e w6 ⟨rfl, hb6⟩
        have rg6 := rg5.later hb6 (Nat.le_refl _)
        have ra6 := ra5.later hb6 (Nat.le_refl _)
        have hB6 : Below w1.heap.size w1 w6 := Below.trans hB5 (hb6.mono hB5.size)
        clear rs5 hb6 rg5 ra5 hB5
        go_wp2_with fail
        refine (rtall_any _ _ _ bs w6 ra6 b8 (by omega)).mono ?_
        rintro e w7 ⟨ag7, c7, m7, rfl, hm7, ho7, hb7⟩
        have rg7 := rg6.later hb7 (Nat.le_refl _)
        have hB7 : Below w1.heap.size w1 w7 := Below.trans hB6 (hb7.mono hB6.size)
        have rs7 := Reads.own ho7
        clear hm7 ho7 hb7 rg6 ra6 hB6
        go_wp2_with fail
        refine (sameV_eq _ _ _ _ _ _ _ _ rg7 rs7).mono ?_
        rintro e w8 ⟨rfl, hb8⟩
        have hB8 := hout w8 (Below.trans hB7 (hb8.mono hB7.size))
        clear rs7 hb8 rg7 hB7 hout
        go_wp2
        go_ret
        exact ⟨rfl, hB8⟩
      · have g1 : ¬ (j : Int) < len0 := by omega
        clear hd hd3
        go_wp2_with fail
        refine (tendT bs b8 _ _ _ _ _ _ _ _ Hmk.out Hlg.out _ rp rw6 htr).mono ?_
        rintro e w2 ⟨eg, ec, em, rfl, hem, hoe, hb2⟩
        have hown2 := own_later hown hb2 (Nat.le_refl _)
        have hgot2 := own_later hgot hb2 (Nat.le_refl _)
        have hB2 : Below w1.heap.size w1 w2 := Below.trans hb (hb2.mono hb.size)
        have hs2 : w1.heap.size + 1 ≤ w2.heap.size := Nat.le_trans hsz hb2.size
        have hem2 : em ≤ 20000 := by omega
        clear hem hown hgot hb2 hb hsz k6 c6 rp tp fp hX rw6 tw6 htr hee
        go_wp2_with (at_builtin; refine wpList_append_grown rfl (.tmp 66) (.tmp 68) 25 rfl (w1.heap.size + 1) 9 Tryd.infoStr rfl Tryd.underlying25 _ _ _ _ rfl hgot2 _ _ _ _ rfl (Reads.own hoe) (words_oneCell _) (by omega) (by omega) hs2 ?_)
        intro gg4 gc4 w4 hgot4 hg4 hb4
        have hk4 : KeptBut 9 w2 w4 := KeptBut.grown hgot2 hg4
        have hown4 := own_kept hown2 hk4 (by decide)
        have hB4 : Below w1.heap.size w1 w4 := Below.trans hB2 (hb4.mono (by omega))
        rw [← List.map_append, Hall.out] at hgot4
        have rg4 := Reads.own hgot4
        have ra4 := Reads.own hown4
        have ht4 := Tabs.grow hB4 ht1
        clear hg4 hb4 hk4 hown2 hgot2 hoe hB2 hgot4 hown4 hs2
        go_wp2_with fail
        refine (tall_any _ _ _ bs w4 ra4 b8 (by omega) ht4).mono ?_
        rintro e w5 ⟨ag5, c5, m5, rfl, hm5, ho5, hb5⟩
        have rg5 := rg4.later hb5 (Nat.le_refl _)
        have ra5 := ra4.later hb5 (Nat.le_refl _)
        have hB5 : Below w1.heap.size w1 w5 := Below.trans hB4 (hb5.mono hB4.size)
        have rs5 := Reads.own ho5
        clear hm5 ho5 hb5 rg4 ra4 ht4 hB4
        go_wp2_with fail
        refine (sameV_eq _ _ _ _ _ _ _ _ rg5 rs5).mono ?_
        rintro e w6 ⟨rfl, hb6⟩
        have rg6 := rg5.later hb6 (Nat.le_refl _)
        have ra6 := ra5.later hb6 (Nat.le_refl _)
        have hB6 : Below w1.heap.size w1 w6 := Below.trans hB5 (hb6.mono hB5.size)
        clear rs5 hb6 rg5 ra5 hB5
        go_wp2_with fail
        refine (rtall_any _ _ _ bs w6 ra6 b8 (by omega)).mono ?_
        rintro e w7 ⟨ag7, c7, m7, rfl, hm7, ho7, hb7⟩
        have rg7 := rg6.later hb7 (Nat.le_refl _)
        have hB7 : Below w1.heap.size w1 w7 := Below.trans hB6 (hb7.mono hB6.size)
        have rs7 := Reads.own ho7
        clear hm7 ho7 hb7 rg6 ra6 hB6
        go_wp2_with fail
        refine (sameV_eq _ _ _ _ _ _ _ _ rg7 rs7).mono ?_
        rintro e w8 ⟨rfl, hb8⟩
        have hB8 := hout w8 (Below.trans hB7 (hb8.mono hB7.size))
        clear rs7 hb8 rg7 hB7 hout
        go_wp2
        go_ret
        exact ⟨rfl, hB8⟩

set_option maxRecDepth 100000 in
theorem lifted (os : Os) (started : os.Started) (H : Type) (enc : TypeId × Value → H) :
    ReturnsInHanded {} Tryd.checked os 5 .any (fun w args => (Rows.tokenPartsSpec.pre enc Tryd.prog Tryd.f5 [] false w args ∧ laidMetH Tryd.prog tabLaid w) ∧ sizedMet enc Tryd.prog Tryd.f5 (OpenSpec.ofChange Rows.tokenPartsSpec) false w args) (Rows.tokenPartsSpec.post enc Tryd.prog Tryd.f5 false true false false) := by
  refine returnsInHanded_of_change_and (C := Tryd.checked) (X := fun w _ => laidMetH Tryd.prog tabLaid w) (fun _ _ _ hh h => h.of_heap hh) own started (by kernel_rfl) Tryd.func5
    (ChangeSpec.witness_shaped (enc := enc) (C := Tryd.checked) (os := os) (X := fun w _ => laidMetH Tryd.prog tabLaid w) false (World.laidAll Tryd.prog os tabLaid) #[.slice none 0 0] 8 (World.laidAll_os _ _ _)
      (World.shaped_of_ZipB (by kernel_rfl) (by kernel_rfl)) (by kernel_rfl) (by kernel_rfl) (by kernel_rfl)
      (by rw [MakeChecks.laidMetH_plain _ _ _ (by kernel_rfl)]; exact laidMet_laidAll _ (by kernel_rfl) (by kernel_rfl))) ?_
  intro W base args ds gs before hval0 hW hcnd hsz0 hL _
  rw [MakeChecks.laidMetH_plain _ _ _ (by kernel_rfl)] at hL
  have ht : Tabs W := tabs_of hL
  clear hL
  have hsz : (DataW.weightsEach Tryd.prog (Tryd.f5.params.toList ++ Rows.tokenPartsSpec.plain.varTypes Tryd.prog) (ds ++ gs)).all (· ≤ reachBytes) = true := hsz0
  clear hsz0
  have hval : ∀ (j : Nat) t v, Tryd.f5.params[j]? = some t → args[j]? = some v → Value.okWide Tryd.prog W .any base t v := hval0
  have hW' := hW
  obtain ⟨p, q, hA0, hV, rfl, hfz, hnd⟩ := hW
  have hA : DataW.TrodAll enc Tryd.prog W 0 (fun _ => true) true Tryd.f5.params.toList args.toList ds p := hA0
  rw [Tryd.params5] at hA hval hsz
  obtain ⟨v0, vs0, d0, ds0, p0, q0, hargs, rfl, rfl, h0, rr0⟩ := trodAll_cons hA
  obtain ⟨rfl, rfl, rfl⟩ := trodAll_nil rr0
  obtain rfl : args = #[v0] := by cases args; simp_all
  obtain ⟨rfl, rfl⟩ := trodVars_none hV
  obtain ⟨a0, len0, cap0, rfl⟩ := okWide_slice Tryd.underlying46 (hval 0 46 v0 rfl rfl)
  have k0 := h0
  have lt0 : ∀ x ∈ p0, x.block < W.heap.size := by obtain ⟨m, hm⟩ := k0; exact DataW.trod_lt m _ _ _ hm
  obtain ⟨z0, r0, f0, b0⟩ := rows_in Tryd.underlying46 Tryd.underlying22 Tryd.underlying5 (by kernel_rfl) (by kernel_rfl) (B := 24) (by kernel_rfl) hsz (j := 0) rfl rfl h0
  clear hA0 hval0
  refine (walk W a0 len0 cap0 z0 r0 f0 b0 ht).mono fun e W' ⟨he, bel⟩ => ?_
  subst he
  exact ⟨_, rfl, _, _, _, [], _, [], hW', trodAll_mk1 (shut_bool Tryd.underlying4 _), (trodAll_cons_mk (Below.trod laidOut (by kernel_rfl) (of_decide_eq_true (by kernel_rfl)) k0 bel lt0) trodAll_mk0), rfl, bel.frame _, fun h => by cases h⟩

theorem over : Rows.tokenPartsRow.holds Tryd.pinned (OpenSpec.ofChange Rows.tokenPartsSpec) :=
  OpenClaim.holds_of_wide 5 Tryd.f5 rfl rfl rfl rfl rfl rfl rfl ⟨rfl, rfl, rfl, rfl, rfl⟩ rfl rfl rfl rfl rfl (by kernel_rfl) Tryd.func5 (by kernel_rfl)
    (of_decide_eq_true (by kernel_rfl)) (by unfold Func.isWrapper; first | (rw [if_pos (by decide +kernel)]; kernel_rfl) | (rw [if_neg (by decide +kernel)]; exact ⟨rfl, rfl⟩))
    (fun os started H enc _ => lifted os started H enc)
end Go.Proofs.YtdhbbknjnbdplaaDoor.tokenParts
namespace Go.Proofs.YtdhbbknjnbdplaaDoor
theorem tokenParts_holds : Rows.TokenPartsCardSaid :=
  Claim7.holds_tied_plain_at .later [] [.data, .data, .data, .pinned] true (true, "4104aba0c4a0260579566373d89a73fc2f2ff9297c441085109a77544f10a7ba") false tokenParts.over (fun _ h => by cases h) (by kernel_rfl) (fun _ h => by cases h) tokenParts_row_tie rfl ⟨rfl, rfl⟩ (by kernel_rfl) rfl
    (fun f fn hf hfn => by
      obtain rfl : f = 5 := Option.some.inj ((show Tryd.prog.funcNamed "mantelet/manteletlaw07.TokenParts" = some 5 by kernel_rfl).symm.trans hf) |>.symm
      obtain rfl : fn = Tryd.f5 := (Option.some.inj (Tryd.func5.symm.trans hfn)).symm
      exact ⟨by kernel_rfl, fun j t ht => by
        rw [Tryd.params5] at ht
        have hm : t ∈ [46] := by simpa using Array.mem_of_getElem? ht
        have hall : ([46].all fun u => !Tryd.prog.wantsStandIn u) = true := by kernel_rfl
        exact (show Tryd.prog.wantsStandIn t = false by simpa using List.all_eq_true.1 hall t hm)⟩)
    (by kernel_rfl)
#print axioms tokenParts_holds
end Go.Proofs.YtdhbbknjnbdplaaDoor
