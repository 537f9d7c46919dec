/- For every input TokenStates answers true, and leaves its arguments as they were. Conditions: none. -/
import Derived.Test.YtdhbbknjnbdplaaDoorTokenCode
import Derived.Test.YtdhbbknjnbdplaaDoorTokenGetL
import Derived.Test.YtdhbbknjnbdplaaDoorRef07
import Derived.Test.YtdhbbknjnbdplaaDoorBase
import Derived.ProofKit
import Derived.OpenShut
import Derived.SizedLaws
import Derived.Lib.SmallJoins
import Derived.Test.YtdhbbknjnbdplaaDoorRows
import Derived.Test.YtdhbbknjnbdplaaDoorCards
import Derived.Test.YtdhbbknjnbdplaaDoorTie
import Derived.Test.YtdhbbknjnbdplaaDoorTokenPut
import Derived.Test.YtdhbbknjnbdplaaDoorShown07
import Derived.ShutString
import Derived.ChangeOld
import Derived.Deep.RegionHeld
import Derived.Deep.RegionHeld3
import Derived.Deep.QuietTactic
import Derived.BigQuiet
import Derived.Deep.Cut
import Derived.Deep.CutBlock
import Derived.Lay
import Derived.LaidOnce
import Derived.SevenTiedAt
namespace Go.Proofs.YtdhbbknjnbdplaaDoor
open Go.RowKit
set_option linter.unusedVariables false
set_option linter.unusedSimpArgs false

set_option maxRecDepth 100000 in
set_option maxHeartbeats 1000000 in
theorem made_any (po : Option Addr) (plen pcap : Nat) (ao : Option Addr) (len cap : Nat) (mk lg : Bool) (w : World) :
    Calls Tryd.prog 16 #[.agg #[.slice po plen pcap, .slice ao len cap, .bool mk, .bool lg]] w fun e w' => e = .returned (.agg #[.slice po plen pcap, .slice ao len cap, .bool mk, .bool lg]) ∧ Below w.heap.size w w' := by
  have hb : Below w.heap.size w ((w.alloc (.cells #[.slice po plen pcap, .slice ao len cap, .bool mk, .bool lg] 30)).alloc (.cells #[.slice po plen pcap, .slice ao len cap, .bool mk, .bool lg] 34)) := ((Below.refl _ _).alloc (Nat.le_refl _) _).alloc (by simp) _
  go_enter Tryd.func16, Tryd.ntmps16
  go_wp2
  refine bodyPost_ret (v := .agg #[.slice po plen pcap, .slice ao len cap, .bool mk, .bool lg]) ?_ rfl ⟨rfl, hb⟩
  rw [results_cell_one rfl]
  simp only [Array.getD_eq_getD_getElem?, List.getElem?_toArray, asAddr, Sem.run_pure, Result.andThen_ok]
  exact load_tok (heap_alloc2_new _ _ _)
#print axioms made_any

set_option maxRecDepth 100000 in
set_option maxHeartbeats 1000000 in
theorem real_any (po : Option Addr) (plen pcap : Nat) (ao : Option Addr) (len cap : Nat) (mk lg : Bool) (w : World) :
    Calls Tryd.prog 19 #[.agg #[.slice po plen pcap, .slice ao len cap, .bool mk, .bool lg]] w fun e w' => e = .returned (.agg #[.slice po plen pcap, .slice ao len cap, .bool mk, .bool lg]) ∧ Below w.heap.size w w' := by
  have hb : Below w.heap.size w ((w.alloc (.cells #[.slice po plen pcap, .slice ao len cap, .bool mk, .bool lg] 34)).alloc (.cells #[.slice po plen pcap, .slice ao len cap, .bool mk, .bool lg] 30)) := ((Below.refl _ _).alloc (Nat.le_refl _) _).alloc (by simp) _
  go_enter Tryd.func19, Tryd.ntmps19
  go_wp2
  refine bodyPost_ret (v := .agg #[.slice po plen pcap, .slice ao len cap, .bool mk, .bool lg]) ?_ rfl ⟨rfl, hb⟩
  rw [results_cell_one rfl]
  simp only [Array.getD_eq_getD_getElem?, List.getElem?_toArray, asAddr, Sem.run_pure, Result.andThen_ok]
  exact load_ref (heap_alloc2_new _ _ _)
#print axioms real_any

theorem rtsame_eq (po : Option Addr) (plen pcap : Nat) (ps : List Int) (ao : Option Addr) (len cap : Nat) (ws : List Int) (mk lg : Bool) (qo : Option Addr) (qlen qcap : Nat) (bo : Option Addr) (blen bcap : Nat) (w : World)
    (hp : Reads w po plen pcap (ps.map (.int .u8))) (p8 : isBytes ps) (hr : Reads w ao len cap (ws.map (.int .i32))) (hq : Reads w qo qlen qcap (ps.map (.int .u8))) (hr2 : Reads w bo blen bcap (ws.map (.int .i32))) :
    Calls Tryd.prog 18 #[.agg #[.slice po plen pcap, .slice ao len cap, .bool mk, .bool lg], .agg #[.slice qo qlen qcap, .slice bo blen bcap, .bool mk, .bool lg]] w fun e w' => e = .returned (.bool true) ∧ Below w.heap.size w w' :=
  (rtsame_any po plen pcap ps ao len cap ws mk lg qo qlen qcap ps bo blen bcap ws mk lg w hp p8 hr hq p8 hr2).mono fun e w' ⟨h1, h2⟩ => ⟨by rw [h1]; simp, h2⟩
theorem out_bytes {zs : List Int} (h8 : isBytes zs) : isBytes (outT (getT zs)).1.pend := by
  cases h : getT zs with
  | none => intro z hz; simp [outT] at hz
  | some s =>
    intro z hz
    have hz' : z ∈ s.pend := hz
    have hp := (put_get h8 h).1
    refine h8 z ?_
    rw [← hp]
    simp [putT, hz']
end Go.Proofs.YtdhbbknjnbdplaaDoor

namespace Go.Proofs.YtdhbbknjnbdplaaDoor
open Go.RowKit
set_option linter.unusedVariables false
set_option linter.unusedSimpArgs false

set_option maxRecDepth 100000 in
set_option maxHeartbeats 8000000 in
theorem rtget_zero (bo : Option Addr) (blen bcap : Nat) (zs : List Int) (w : World) (hk : Reads w bo blen bcap (zs.map (.int .u8))) (h8 : isBytes zs) (hblen : blen ≤ 140737488351232) (hA : (getL zs).1 = 0 ∨ (getL zs).2.2 ≠ 0 ∨ blen - (getL zs).2.1 < (getL zs).1) :
    Calls Tryd.prog 14 #[.slice bo blen bcap] w fun e w' => ∃ pg pd pk bg d k mk lg er,
      e = .returned (.tuple #[.agg #[.slice pg pk pd, .slice bg k d, .bool mk, .bool lg], .int .i64 er]) ∧ mk = (outT (getT zs)).1.mark ∧ lg = (outT (getT zs)).1.long ∧ er = (outT (getT zs)).2 ∧ pk = (outT (getT zs)).1.pend.length ∧ k = (outT (getT zs)).1.word.length ∧
      Reads w' pg pk pd ((outT (getT zs)).1.pend.map (.int .u8)) ∧ Reads w' bg k d ((outT (getT zs)).1.word.map (.int .i32)) ∧ Below w.heap.size w w' := by
  have hl : zs.length = blen := by simpa using hk.length
  have hcap := hk.le
  have hB2 : Below w.heap.size w ((w.alloc (.cells #[.slice none 0 0, .slice none 0 0, .bool false, .bool false] 30)).alloc (.cells #[.slice none 0 0, .slice none 0 0, .bool false, .bool false] 30)) := ((Below.refl _ _).alloc (Nat.le_refl _) _).alloc (by simp) _
  have rk := hk.later hB2 (Nat.le_refl _)
  obtain ⟨n, at', f, hg⟩ : ∃ n at' f, getL zs = (n, at', f) := ⟨_, _, _, rfl⟩
  have Hg : Hid _ := hg
  have hk0 : Hid _ := hk
  clear hk
  go_enter Tryd.func14, Tryd.ntmps14
  go_wp2_with fail
  refine (rget_any _ _ _ zs _ rk h8).mono ?_
  rintro e wa ⟨rfl, rfl⟩
  rw [hg]
  unfold getV
  by_cases hf : f = 0
  case neg =>
    have hE : Hid (getT zs = none) := getT_bad hg (.inl hf)
    have hf0 : ¬ (f : Int) = 0 := by omega
    clear hg
    go_wp2
    refine bodyPost_ret (results_cell_tmp rfl _ _ _ (x := ⟨w.heap.size, 0, none⟩) rfl (load_ref (heap_alloc2_old w (.cells #[.slice none 0 0, .slice none 0 0, .bool false, .bool false] 30) (.cells #[.slice none 0 0, .slice none 0 0, .bool false, .bool false] 30)))) rfl ?_
    exact none_out hE.out hB2
  subst hf
  have hok := get_ok zs h8 n at' hg
  have hat : (at' : Int) ≤ blen := by omega
  have hat1 : (1 : Int) ≤ at' := by omega
  clear hg
  by_cases hn : blen - at' < n
  · have hE : Hid (getT zs = none) := getT_bad Hg.out (.inr (.inl (by omega)))
    have hni : (blen : Int) - at' < n := by omega
    clear hn
    go_wp2
    refine bodyPost_ret (results_cell_tmp rfl _ _ _ (x := ⟨w.heap.size, 0, none⟩) rfl (load_ref (heap_alloc2_old w (.cells #[.slice none 0 0, .slice none 0 0, .bool false, .bool false] 30) (.cells #[.slice none 0 0, .slice none 0 0, .bool false, .bool false] 30)))) rfl ?_
    exact none_out hE.out hB2
  have hni : (n : Int) ≤ (blen : Int) - at' := by omega
  have hnl : n ≤ blen := by omega
  obtain ⟨x1, hs1, hd1⟩ := Reads.mid (P := Tryd.prog) Tryd.underlying22 (size_of Tryd.infoByte) (ao := bo) (len := blen) (cap := bcap) hcap at' (at' + n) (by omega) (by omega)
  have hxl : at' + n - at' = n := by omega
  rw [hxl] at hs1 hd1
  rw [Int.natCast_add] at hs1
  have k0 := heap_alloc2_old w (.cells #[.slice none 0 0, .slice none 0 0, .bool false, .bool false] 30) (.cells #[.slice none 0 0, .slice none 0 0, .bool false, .bool false] 30)
  have k1 := heap_alloc2_new w (.cells #[.slice none 0 0, .slice none 0 0, .bool false, .bool false] 30) (.cells #[.slice none 0 0, .slice none 0 0, .bool false, .bool false] 30)
  have hs2 : ((w.alloc (.cells #[.slice none 0 0, .slice none 0 0, .bool false, .bool false] 30)).alloc (.cells #[.slice none 0 0, .slice none 0 0, .bool false, .bool false] 30)).heap.size = w.heap.size + 2 := by simp
  generalize hW2 : ((w.alloc (.cells #[.slice none 0 0, .slice none 0 0, .bool false, .bool false] 30)).alloc (.cells #[.slice none 0 0, .slice none 0 0, .bool false, .bool false] 30)) = W2 at hB2 rk k0 k1 hs2
  have c1 := blk4 k1
  have hdx := hd1 _ _ rk
  have hob := own_mono (ownsRow_empty W2 5) (Nat.le_of_eq hs2.symm)
  have Hs2 : Hid _ := hs2
  have HW2 : Hid _ := hW2
  clear hn hs2 hW2
  go_wp2_with (at_builtin; refine wpList_append_grown rfl (.tmp 34) (.tmp 41) 22 rfl (w.heap.size + 2) 5 Tryd.infoByte rfl Tryd.underlying22 _ _ _ _ rfl hob _ _ _ _ rfl (hdx.later ((Below.refl _ _).alloc (Nat.le_refl _) _) (Nat.le_refl _)) (by rw [← List.map_drop, ← List.map_take]; exact ints_oneCell _ _) (by unfold maxLen; omega) (by omega) (by simp [Hs2.out]) ?_)
  intro ag2 c2 wc hown2 hg2 hb2
  generalize hp : (zs.drop at').take n = p
  have Hp : Hid _ := hp
  have hpn : p.length = n := by rw [← hp, List.length_take, List.length_drop]; omega
  have p8 : isBytes p := fun z hz => h8 z (List.mem_of_mem_drop (List.mem_of_mem_take (by rw [hp]; exact hz)))
  rw [← List.map_drop, ← List.map_take, hp] at hown2
  have hkA : KeptBut 5 _ wc := KeptBut.grown hob hg2
  have hkB : KeptBut 5 W2 wc := KeptBut.trans (KeptBut.below ((Below.refl _ _).alloc (Nat.le_refl _) _)) hkA
  have j0 := hkB.kept _ _ _ _ k0 (by decide)
  have j1 := hkB.kept _ _ _ _ k1 (by decide)
  have cj1 := blk4 j1
  have hbwc : Below w.heap.size w wc := Below.trans hB2 (Below.trans ((Below.refl _ _).alloc (Nat.le_trans (Nat.le_of_eq rfl) hB2.size) _) (hb2.mono (by omega)))
  -- the world in which the State's first part is stored
  have q0 : (wc.setCell ⟨w.heap.size + 1, 0, none⟩ (.slice ag2 n c2)).heap[w.heap.size]? = _ := (Below.heap_setCell _ _ _ _ (by simp)).trans j0
  have q1 := blk4_one j1 0 (.slice ag2 n c2)
  have hoq := ownsRow_setCell_other (a := ⟨w.heap.size + 1, 0, none⟩) hown2 (own_type hown2 j1 (by decide)) (.slice ag2 n c2)
  have hbq : Below w.heap.size w (wc.setCell ⟨w.heap.size + 1, 0, none⟩ (.slice ag2 n c2)) := hbwc.setCell (by simp) _
  have cq1 := blk4 q1
  have hszq := hbq.size
  have rq : Reads (wc.setCell ⟨w.heap.size + 1, 0, none⟩ (.slice ag2 n c2)) bo blen bcap (zs.map (.int .u8)) := by
    have h0 : Reads w bo blen bcap (zs.map (.int .u8)) := hk0.out
    exact h0.later hbq (Nat.le_refl _)
  generalize hwq : wc.setCell ⟨w.heap.size + 1, 0, none⟩ (.slice ag2 n c2) = wq at q0 q1 hoq hbq cq1 hszq rq
  have Hwq : Hid _ := hwq
  obtain ⟨x2, hs3, hd3⟩ := Reads.from (P := Tryd.prog) Tryd.underlying22 (size_of Tryd.infoByte) (ao := bo) (len := blen) (cap := bcap) (at' + n) (by omega)
  rw [Int.natCast_add] at hs3
  have hdr := hd3 _ _ rq
  rw [← List.map_drop] at hdr
  have r8 : isBytes (zs.drop (at' + n)) := fun z hz => h8 z (List.mem_of_mem_drop hz)
  have han : (at' : Int) + n ≤ blen := by omega
  obtain ⟨m, k, f2, hg3⟩ : ∃ m k f2, getL (zs.drop (at' + n)) = (m, k, f2) := ⟨_, _, _, rfl⟩
  have Hg3 : Hid _ := hg3
  have hszq2 : w.heap.size + 2 ≤ wq.heap.size := by have := lt_of_block q1; omega
  clear hkA hkB j0 j1 hbwc hown2 hg2 hb2 hob k0 k1 c1 hdx hd1 hs1 rk hp hB2 hd3 hg3 hxl Hwq
  by_cases hn0 : n = 0
  · have hE0 : Hid (getT zs = getT2 p (zs.drop (at' + n))) := by show _ = _; rw [getT_mid Hg.out (by omega) (.inl hn0), Hp.out]
    have hn0i : ¬ (0 : Int) < n := by omega
    clear hn0 Hg Hp
    go_wp2_with fail
    refine (rget_any _ _ _ _ wq hdr r8).mono ?_
    rintro e wa ⟨rfl, rfl⟩
    rw [Hg3.out]
    unfold getV
    by_cases hf2 : f2 = 0
    case neg =>
      have hE : Hid (getT zs = none) := by show _ = _; rw [hE0.out]; exact getT2_bad Hg3.out (.inl hf2)
      have hf20 : ¬ (f2 : Int) = 0 := by omega
      have hB := below_set4 (b := w.heap.size) hbq (Nat.le_refl _) (.slice none 0 0) (.slice none 0 0) (.bool false) (.bool false)
      have hld := load_ref (blk4_set q0 (.slice none 0 0) (.slice none 0 0) (.bool false) (.bool false))
      have cz0 := blk4 q0
      go_wp2
      refine bodyPost_ret (results_cell_tmp rfl _ _ _ (x := ⟨w.heap.size, 0, none⟩) rfl hld) rfl ?_
      exact none_out hE.out hB
    subst hf2
    by_cases hm32 : 32 < m
    · have hE : Hid (getT zs = none) := by show _ = _; rw [hE0.out]; exact getT2_bad Hg3.out (.inr hm32)
      have hmi : (32 : Int) < m := by omega
      have hB := below_set4 (b := w.heap.size) hbq (Nat.le_refl _) (.slice none 0 0) (.slice none 0 0) (.bool false) (.bool false)
      have hld := load_ref (blk4_set q0 (.slice none 0 0) (.slice none 0 0) (.bool false) (.bool false))
      have cz0 := blk4 q0
      go_wp2
      refine bodyPost_ret (results_cell_tmp rfl _ _ _ (x := ⟨w.heap.size, 0, none⟩) rfl hld) rfl ?_
      exact none_out hE.out hB
    have hok2 := get_ok _ r8 m k Hg3.out
    rw [List.length_drop] at hok2
    have hE1 : Hid (getT zs = (runesT m (zs.drop (at' + n + k))).bind fun x => (flagT x.2).map fun f => ⟨p, x.1, f.1, f.2⟩) := by show _ = _; rw [hE0.out, getT2_ok Hg3.out (by omega), List.drop_drop]
    have hmi : (m : Int) ≤ 32 := by omega
    have hki : (at' : Int) + n + k ≤ blen := by omega
    have hk0i : (0 : Int) ≤ k := by omega
    clear hm32 hdr
    go_wp2_with fail
    go_loopw [6, 11] (fun a i wr => ∃ (at2 j : Nat) (bg : Option Addr) (d : Nat) (acc : List Int), a = .int .i64 at2 ∧ i = .int .i64 j ∧ j ≤ m ∧ at2 ≤ blen ∧ 1 ≤ at2 ∧ wr.heap[w.heap.size]? = some (Obj.cells #[.slice none 0 0, .slice none 0 0, .bool false, .bool false] 30 (0, 0)) ∧ wr.heap[w.heap.size + 1]? = some (Obj.cells #[.slice ag2 n c2, .slice bg j d, .bool false, .bool false] 30 (0, 0)) ∧ wr.ownsRow (w.heap.size + 2) 5 1 (.slice ag2 n c2) n (p.map (.int .u8)) ∧ wr.ownsRow (w.heap.size + 2) 21 1 (.slice bg j d) j (acc.map (.int .i32)) ∧ Below w.heap.size w wr ∧ w.heap.size + 2 ≤ wr.heap.size ∧ Hid (getT zs = ((runesT (m - j) (zs.drop at2)).map fun x => (acc ++ x.1, x.2)).bind fun x => (flagT x.2).map fun f => ⟨p, x.1, f.1, f.2⟩)) (fun _ i _ => (m - intOf i).toNat)
    case atStart => exact ⟨at' + n + k, 0, none, 0, [], by go_num, rfl, by omega, by omega, by omega, q0, q1, hoq, World.ownsRow_nil _ _ _ _, hbq, hszq2, by show _ = _; rw [hE1.out, map_nil]; rfl⟩
    case round =>
      obtain ⟨at2, j, bg, d, acc, rfl, rfl, hj, hat2, hat3, z0, z1, hop, how, hbr, hszr, hI⟩ := hrel
      have cz1 := blk4 z1
      have rr := Hid.out hk0 |>.later hbr (Nat.le_refl _)
      have hat2i : (at2 : Int) ≤ blen := by omega
      have hat3i : (1 : Int) ≤ at2 := by omega
      clear q0 q1 hoq hbq cq1 hE1
      by_cases hjm : j = m
      · subst hjm
        have hE2 : Hid (getT zs = (flagT (zs.drop at2)).map fun f => ⟨p, acc, f.1, f.2⟩) := by show _ = _; rw [hI.out, Nat.sub_self]; simp [runesT]
        have cz0x := blk4 z0
        clear hI hE0
        by_cases hlast : at2 + 1 = blen
        case neg =>
          have hE : Hid (getT zs = none) := by show _ = _; rw [hE2.out, flag_short (by rw [List.length_drop]; omega)]; rfl
          have hli : ¬ (at2 : Int) = (blen : Int) - 1 := by omega
          clear hlast
          have hB := below_set4 (b := w.heap.size) hbr (Nat.le_refl _) (.slice none 0 0) (.slice none 0 0) (.bool false) (.bool false)
          have hld := load_ref (blk4_set z0 (.slice none 0 0) (.slice none 0 0) (.bool false) (.bool false))
          have cz0 := blk4 z0
          go_wp2
          refine bodyPost_ret (results_cell_tmp rfl _ _ _ (x := ⟨w.heap.size, 0, none⟩) rfl hld) rfl ?_
          exact none_out hE.out hB
        subst hlast
        obtain ⟨b1, o1, rfl, hb1, hat1'⟩ := (Hid.out hk0).at (by omega)
        have hcx0 := hat1' at2 (by omega)
        have hcx := (hbr.cell (p := ⟨b1, o1 + at2, none⟩) hb1).trans hcx0
        have hne1 : w.heap.size + 1 ≠ b1 := by omega
        have hne2 : b1 ≠ w.heap.size + 1 := by omega
        clear hcx0
        have hdx : Hid (zs.drop at2 = [zs.getD at2 0]) := by show _ = _; rw [drop_at zs at2 (by omega), List.drop_of_length_le (by omega)]
        obtain ⟨x, hx, hx255⟩ := h8.get at2
        rw [hx] at hcx hdx
        have hli : (at2 : Int) = ((at2 + 1 : Nat) : Int) - 1 := by omega
        have Hli : Hid _ := hli
        clear hat1' hx hli
        by_cases hx3 : 3 < x
        · have hE : Hid (getT zs = none) := by
            show _ = _
            rw [hE2.out, hdx.out]
            simp only [flagT]
            rw [if_neg (by omega)]; rfl
          have hx3i : (3 : Int) < x := by omega
          have hB := below_set4 (b := w.heap.size) hbr (Nat.le_refl _) (.slice none 0 0) (.slice none 0 0) (.bool false) (.bool false)
          have hld := load_ref (blk4_set z0 (.slice none 0 0) (.slice none 0 0) (.bool false) (.bool false))
          have cz0 := blk4 z0
          go_wp2
          refine bodyPost_ret (results_cell_tmp rfl _ _ _ (x := ⟨w.heap.size, 0, none⟩) rfl hld) rfl ?_
          exact none_out hE.out hB
        have : x = 0 ∨ x = 1 ∨ x = 2 ∨ x = 3 := by omega
        rcases this with rfl | rfl | rfl | rfl
        · have hE : Hid (getT zs = some ⟨p, acc, false, false⟩) := by show _ = _; rw [hE2.out, hdx.out]; rfl
          have y0 : ((wr.setCell ⟨w.heap.size + 1, 2, none⟩ (.bool false)).setCell ⟨w.heap.size + 1, 3, none⟩ (.bool false)).heap[w.heap.size]? = _ := (Below.heap_setCell _ _ _ _ (by simp)).trans ((Below.heap_setCell _ _ _ _ (by simp)).trans z0)
          have y1 := blk4_one z1 2 (.bool false)
          have hk1 := ((KeptBut.refl 30 wr).cell z1 2 (.bool false)).cell y1 3 (.bool false)
          have hk2 := hk1.cells4 y0 (.slice ag2 n c2) (.slice bg j d) (.bool false) (.bool false)
          have hrp := reads_of_own hop hk2 (by decide)
          have hrw := reads_of_own how hk2 (by decide)
          have hB := below_set4 (b := w.heap.size) ((hbr.setCell (p := ⟨w.heap.size + 1, 2, none⟩) (by simp) (.bool false)).setCell (p := ⟨w.heap.size + 1, 3, none⟩) (by simp) (.bool false)) (Nat.le_refl _) (.slice ag2 n c2) (.slice bg j d) (.bool false) (.bool false)
          have hld := load_ref (blk4_set y0 (.slice ag2 n c2) (.slice bg j d) (.bool false) (.bool false))
          have hjl : acc.length = j := by have := how.1; simpa using this
          clear hk1 hk2 hop how hbr z0 y0 y1
          go_wp2
          refine bodyPost_ret (results_cell_tmp rfl _ _ _ (x := ⟨w.heap.size, 0, none⟩) rfl hld) rfl ?_
          exact some_out hE.out rfl rfl hpn.symm hjl.symm hrp hrw hB
        · have hE : Hid (getT zs = some ⟨p, acc, true, false⟩) := by show _ = _; rw [hE2.out, hdx.out]; rfl
          have y0 : ((wr.setCell ⟨w.heap.size + 1, 2, none⟩ (.bool true)).setCell ⟨w.heap.size + 1, 3, none⟩ (.bool false)).heap[w.heap.size]? = _ := (Below.heap_setCell _ _ _ _ (by simp)).trans ((Below.heap_setCell _ _ _ _ (by simp)).trans z0)
          have y1 := blk4_one z1 2 (.bool true)
          have hk1 := ((KeptBut.refl 30 wr).cell z1 2 (.bool true)).cell y1 3 (.bool false)
          have hk2 := hk1.cells4 y0 (.slice ag2 n c2) (.slice bg j d) (.bool true) (.bool false)
          have hrp := reads_of_own hop hk2 (by decide)
          have hrw := reads_of_own how hk2 (by decide)
          have hB := below_set4 (b := w.heap.size) ((hbr.setCell (p := ⟨w.heap.size + 1, 2, none⟩) (by simp) (.bool true)).setCell (p := ⟨w.heap.size + 1, 3, none⟩) (by simp) (.bool false)) (Nat.le_refl _) (.slice ag2 n c2) (.slice bg j d) (.bool true) (.bool false)
          have hld := load_ref (blk4_set y0 (.slice ag2 n c2) (.slice bg j d) (.bool true) (.bool false))
          have hjl : acc.length = j := by have := how.1; simpa using this
          clear hk1 hk2 hop how hbr z0 y0 y1
          go_wp2
          refine bodyPost_ret (results_cell_tmp rfl _ _ _ (x := ⟨w.heap.size, 0, none⟩) rfl hld) rfl ?_
          exact some_out hE.out rfl rfl hpn.symm hjl.symm hrp hrw hB
        · have hE : Hid (getT zs = some ⟨p, acc, false, true⟩) := by show _ = _; rw [hE2.out, hdx.out]; rfl
          have y0 : ((wr.setCell ⟨w.heap.size + 1, 2, none⟩ (.bool false)).setCell ⟨w.heap.size + 1, 3, none⟩ (.bool true)).heap[w.heap.size]? = _ := (Below.heap_setCell _ _ _ _ (by simp)).trans ((Below.heap_setCell _ _ _ _ (by simp)).trans z0)
          have y1 := blk4_one z1 2 (.bool false)
          have hk1 := ((KeptBut.refl 30 wr).cell z1 2 (.bool false)).cell y1 3 (.bool true)
          have hk2 := hk1.cells4 y0 (.slice ag2 n c2) (.slice bg j d) (.bool false) (.bool true)
          have hrp := reads_of_own hop hk2 (by decide)
          have hrw := reads_of_own how hk2 (by decide)
          have hB := below_set4 (b := w.heap.size) ((hbr.setCell (p := ⟨w.heap.size + 1, 2, none⟩) (by simp) (.bool false)).setCell (p := ⟨w.heap.size + 1, 3, none⟩) (by simp) (.bool true)) (Nat.le_refl _) (.slice ag2 n c2) (.slice bg j d) (.bool false) (.bool true)
          have hld := load_ref (blk4_set y0 (.slice ag2 n c2) (.slice bg j d) (.bool false) (.bool true))
          have hjl : acc.length = j := by have := how.1; simpa using this
          clear hk1 hk2 hop how hbr z0 y0 y1
          go_wp2
          refine bodyPost_ret (results_cell_tmp rfl _ _ _ (x := ⟨w.heap.size, 0, none⟩) rfl hld) rfl ?_
          exact some_out hE.out rfl rfl hpn.symm hjl.symm hrp hrw hB
        · have hE : Hid (getT zs = some ⟨p, acc, true, true⟩) := by show _ = _; rw [hE2.out, hdx.out]; rfl
          have y0 : ((wr.setCell ⟨w.heap.size + 1, 2, none⟩ (.bool true)).setCell ⟨w.heap.size + 1, 3, none⟩ (.bool true)).heap[w.heap.size]? = _ := (Below.heap_setCell _ _ _ _ (by simp)).trans ((Below.heap_setCell _ _ _ _ (by simp)).trans z0)
          have y1 := blk4_one z1 2 (.bool true)
          have hk1 := ((KeptBut.refl 30 wr).cell z1 2 (.bool true)).cell y1 3 (.bool true)
          have hk2 := hk1.cells4 y0 (.slice ag2 n c2) (.slice bg j d) (.bool true) (.bool true)
          have hrp := reads_of_own hop hk2 (by decide)
          have hrw := reads_of_own how hk2 (by decide)
          have hB := below_set4 (b := w.heap.size) ((hbr.setCell (p := ⟨w.heap.size + 1, 2, none⟩) (by simp) (.bool true)).setCell (p := ⟨w.heap.size + 1, 3, none⟩) (by simp) (.bool true)) (Nat.le_refl _) (.slice ag2 n c2) (.slice bg j d) (.bool true) (.bool true)
          have hld := load_ref (blk4_set y0 (.slice ag2 n c2) (.slice bg j d) (.bool true) (.bool true))
          have hjl : acc.length = j := by have := how.1; simpa using this
          clear hk1 hk2 hop how hbr z0 y0 y1
          go_wp2
          refine bodyPost_ret (results_cell_tmp rfl _ _ _ (x := ⟨w.heap.size, 0, none⟩) rfl hld) rfl ?_
          exact some_out hE.out rfl rfl hpn.symm hjl.symm hrp hrw hB
      · have hjN : j < m := by omega
        have hji : (j : Int) < m := by omega
        obtain ⟨x3, hs4, hd4⟩ := Reads.from (P := Tryd.prog) Tryd.underlying22 (size_of Tryd.infoByte) (ao := bo) (len := blen) (cap := bcap) at2 hat2
        have hdr4 := hd4 _ _ rr
        rw [← List.map_drop] at hdr4
        have r84 : isBytes (zs.drop at2) := fun z hz => h8 z (List.mem_of_mem_drop hz)
        obtain ⟨c, jj, f3, hg4⟩ : ∃ c jj f3, getL (zs.drop at2) = (c, jj, f3) := ⟨_, _, _, rfl⟩
        have Hg4 : Hid _ := hg4
        have Hmj : Hid (m - j = m - (j + 1) + 1) := by show _ = _; omega
        clear hg4 hd4 hjm
        go_wp2_with fail
        refine (rget_any _ _ _ _ wr hdr4 r84).mono ?_
        rintro e wa ⟨rfl, rfl⟩
        rw [Hg4.out]
        unfold getV
        by_cases hf3 : f3 = 0
        case neg =>
          have hE : Hid (getT zs = none) := by show _ = _; rw [hI.out, Hmj.out, runes_bad Hg4.out (.inl hf3)]; rfl
          have hf30 : ¬ (f3 : Int) = 0 := by omega
          have hB := below_set4 (b := w.heap.size) hbr (Nat.le_refl _) (.slice none 0 0) (.slice none 0 0) (.bool false) (.bool false)
          have hld := load_ref (blk4_set z0 (.slice none 0 0) (.slice none 0 0) (.bool false) (.bool false))
          have cz0 := blk4 z0
          go_wp2
          refine bodyPost_ret (results_cell_tmp rfl _ _ _ (x := ⟨w.heap.size, 0, none⟩) rfl hld) rfl ?_
          exact none_out hE.out hB
        subst hf3
        by_cases hc : 1114111 < c
        · have hE : Hid (getT zs = none) := by show _ = _; rw [hI.out, Hmj.out, runes_bad Hg4.out (.inr hc)]; rfl
          have hci : (1114111 : Int) < c := by omega
          have hB := below_set4 (b := w.heap.size) hbr (Nat.le_refl _) (.slice none 0 0) (.slice none 0 0) (.bool false) (.bool false)
          have hld := load_ref (blk4_set z0 (.slice none 0 0) (.slice none 0 0) (.bool false) (.bool false))
          have cz0 := blk4 z0
          go_wp2
          refine bodyPost_ret (results_cell_tmp rfl _ _ _ (x := ⟨w.heap.size, 0, none⟩) rfl hld) rfl ?_
          exact none_out hE.out hB
        have hok4 := get_ok _ r84 c jj Hg4.out
        rw [List.length_drop] at hok4
        have hci : (c : Int) ≤ 1114111 := by omega
        have hjj : (at2 : Int) + jj ≤ blen := by omega
        have mx : j + 20 ≤ maxLen := by unfold maxLen; omega
        have hI' : Hid (getT zs = ((runesT (m - (j + 1)) (zs.drop (at2 + jj))).map fun x => (acc ++ [(c : Int)] ++ x.1, x.2)).bind fun x => (flagT x.2).map fun f => ⟨p, x.1, f.1, f.2⟩) := by
          show _ = _
          rw [hI.out, Hmj.out, runes_step Hg4.out (by omega), List.drop_drop]
          cases runesT (m - (j + 1)) (zs.drop (at2 + jj)) <;> simp
        clear hc hdr4 r84 hs4
        go_wp2_with (at_builtin; refine wpList_append_grown rfl (.tmp 97) (.tmp 100) 28 rfl (w.heap.size + 2) 21 Tryd.infoRune rfl Tryd.underlying28 _ _ _ _ rfl (how.alloc _) _ _ _ _ rfl (reads_one _ _ _) (ints_oneCell .i32 [(c : Int)]) (by omega) (by omega) (by simp; omega) ?_)
        intro bg5 d5 wz how5 hg5 hb5
        have hkz : KeptBut 21 wa wz := KeptBut.trans (KeptBut.below ((Below.refl _ _).alloc (Nat.le_refl _) _)) (KeptBut.grown (how.alloc _) hg5)
        have y0 := hkz.kept _ _ _ _ z0 (by decide)
        have y1 := hkz.kept _ _ _ _ z1 (by decide)
        have hop5 := own_kept hop hkz (by decide)
        have cy1 := blk4 y1
        have hbz : Below w.heap.size w wz := Below.trans hbr (Below.trans ((Below.refl _ _).alloc (by omega) _) (hb5.mono (by omega)))
        have e0 : (wz.setCell ⟨w.heap.size + 1, 1, none⟩ (.slice bg5 (j + 1) d5)).heap[w.heap.size]? = _ := (Below.heap_setCell _ _ _ _ (by simp)).trans y0
        have e1 := blk4_one y1 1 (.slice bg5 (j + 1) d5)
        have e2 := ownsRow_setCell_other (a := ⟨w.heap.size + 1, 1, none⟩) hop5 (own_type hop5 y1 (by decide)) (.slice bg5 (j + 1) d5)
        have e3 := ownsRow_setCell_other (a := ⟨w.heap.size + 1, 1, none⟩) how5 (own_type how5 y1 (by decide)) (.slice bg5 (j + 1) d5)
        have e4 : Below w.heap.size w (wz.setCell ⟨w.heap.size + 1, 1, none⟩ (.slice bg5 (j + 1) d5)) := hbz.setCell (by simp) _
        have e5 : w.heap.size + 2 ≤ (wz.setCell ⟨w.heap.size + 1, 1, none⟩ (.slice bg5 (j + 1) d5)).heap.size := by have := hkz.size; simp; omega
        clear hkz y0 y1 hop5 hbz how5 hg5 hb5 z0 z1 hop how hbr hszr cz1 rr hI
        go_wp2
        go_roundw
        case rel => exact ⟨at2 + jj, j + 1, bg5, d5, acc ++ [(c : Int)], by go_num, by go_num, by omega, by omega, by omega, e0, e1, e2, by simpa using e3, e4, e5, hI'⟩
        case measure => simp [intOf]; omega
  · exfalso
    rw [Hg.out] at hA
    simp only at hA
    omega
#print axioms rtget_zero
end Go.Proofs.YtdhbbknjnbdplaaDoor

namespace Go.Proofs.YtdhbbknjnbdplaaDoor
open Go.RowKit
set_option linter.unusedVariables false
set_option linter.unusedSimpArgs false

set_option maxRecDepth 100000 in
set_option maxHeartbeats 8000000 in
theorem rtget_pos (bo : Option Addr) (blen bcap : Nat) (zs : List Int) (w : World) (hk : Reads w bo blen bcap (zs.map (.int .u8))) (h8 : isBytes zs) (hblen : blen ≤ 140737488351232) (hA : (getL zs).2.2 = 0 ∧ (getL zs).1 ≤ blen - (getL zs).2.1 ∧ (getL zs).1 ≠ 0) :
    Calls Tryd.prog 14 #[.slice bo blen bcap] w fun e w' => ∃ pg pd pk bg d k mk lg er,
      e = .returned (.tuple #[.agg #[.slice pg pk pd, .slice bg k d, .bool mk, .bool lg], .int .i64 er]) ∧ mk = (outT (getT zs)).1.mark ∧ lg = (outT (getT zs)).1.long ∧ er = (outT (getT zs)).2 ∧ pk = (outT (getT zs)).1.pend.length ∧ k = (outT (getT zs)).1.word.length ∧
      Reads w' pg pk pd ((outT (getT zs)).1.pend.map (.int .u8)) ∧ Reads w' bg k d ((outT (getT zs)).1.word.map (.int .i32)) ∧ Below w.heap.size w w' := by
  have hl : zs.length = blen := by simpa using hk.length
  have hcap := hk.le
  have hB2 : Below w.heap.size w ((w.alloc (.cells #[.slice none 0 0, .slice none 0 0, .bool false, .bool false] 30)).alloc (.cells #[.slice none 0 0, .slice none 0 0, .bool false, .bool false] 30)) := ((Below.refl _ _).alloc (Nat.le_refl _) _).alloc (by simp) _
  have rk := hk.later hB2 (Nat.le_refl _)
  obtain ⟨n, at', f, hg⟩ : ∃ n at' f, getL zs = (n, at', f) := ⟨_, _, _, rfl⟩
  have Hg : Hid _ := hg
  have hk0 : Hid _ := hk
  clear hk
  go_enter Tryd.func14, Tryd.ntmps14
  go_wp2_with fail
  refine (rget_any _ _ _ zs _ rk h8).mono ?_
  rintro e wa ⟨rfl, rfl⟩
  rw [hg]
  unfold getV
  by_cases hf : f = 0
  case neg => exact absurd (by rw [hg] at hA; exact hA.1) hf
  subst hf
  have hok := get_ok zs h8 n at' hg
  have hat : (at' : Int) ≤ blen := by omega
  have hat1 : (1 : Int) ≤ at' := by omega
  clear hg
  by_cases hn : blen - at' < n
  · exfalso
    rw [Hg.out] at hA
    simp only at hA
    omega
  have hni : (n : Int) ≤ (blen : Int) - at' := by omega
  have hnl : n ≤ blen := by omega
  obtain ⟨x1, hs1, hd1⟩ := Reads.mid (P := Tryd.prog) Tryd.underlying22 (size_of Tryd.infoByte) (ao := bo) (len := blen) (cap := bcap) hcap at' (at' + n) (by omega) (by omega)
  have hxl : at' + n - at' = n := by omega
  rw [hxl] at hs1 hd1
  rw [Int.natCast_add] at hs1
  have k0 := heap_alloc2_old w (.cells #[.slice none 0 0, .slice none 0 0, .bool false, .bool false] 30) (.cells #[.slice none 0 0, .slice none 0 0, .bool false, .bool false] 30)
  have k1 := heap_alloc2_new w (.cells #[.slice none 0 0, .slice none 0 0, .bool false, .bool false] 30) (.cells #[.slice none 0 0, .slice none 0 0, .bool false, .bool false] 30)
  have hs2 : ((w.alloc (.cells #[.slice none 0 0, .slice none 0 0, .bool false, .bool false] 30)).alloc (.cells #[.slice none 0 0, .slice none 0 0, .bool false, .bool false] 30)).heap.size = w.heap.size + 2 := by simp
  generalize hW2 : ((w.alloc (.cells #[.slice none 0 0, .slice none 0 0, .bool false, .bool false] 30)).alloc (.cells #[.slice none 0 0, .slice none 0 0, .bool false, .bool false] 30)) = W2 at hB2 rk k0 k1 hs2
  have c1 := blk4 k1
  have hdx := hd1 _ _ rk
  have hob := own_mono (ownsRow_empty W2 5) (Nat.le_of_eq hs2.symm)
  have Hs2 : Hid _ := hs2
  have HW2 : Hid _ := hW2
  clear hn hs2 hW2
  go_wp2_with (at_builtin; refine wpList_append_grown rfl (.tmp 34) (.tmp 41) 22 rfl (w.heap.size + 2) 5 Tryd.infoByte rfl Tryd.underlying22 _ _ _ _ rfl hob _ _ _ _ rfl (hdx.later ((Below.refl _ _).alloc (Nat.le_refl _) _) (Nat.le_refl _)) (by rw [← List.map_drop, ← List.map_take]; exact ints_oneCell _ _) (by unfold maxLen; omega) (by omega) (by simp [Hs2.out]) ?_)
  intro ag2 c2 wc hown2 hg2 hb2
  generalize hp : (zs.drop at').take n = p
  have Hp : Hid _ := hp
  have hpn : p.length = n := by rw [← hp, List.length_take, List.length_drop]; omega
  have p8 : isBytes p := fun z hz => h8 z (List.mem_of_mem_drop (List.mem_of_mem_take (by rw [hp]; exact hz)))
  rw [← List.map_drop, ← List.map_take, hp] at hown2
  have hkA : KeptBut 5 _ wc := KeptBut.grown hob hg2
  have hkB : KeptBut 5 W2 wc := KeptBut.trans (KeptBut.below ((Below.refl _ _).alloc (Nat.le_refl _) _)) hkA
  have j0 := hkB.kept _ _ _ _ k0 (by decide)
  have j1 := hkB.kept _ _ _ _ k1 (by decide)
  have cj1 := blk4 j1
  have hbwc : Below w.heap.size w wc := Below.trans hB2 (Below.trans ((Below.refl _ _).alloc (Nat.le_trans (Nat.le_of_eq rfl) hB2.size) _) (hb2.mono (by omega)))
  -- the world in which the State's first part is stored
  have q0 : (wc.setCell ⟨w.heap.size + 1, 0, none⟩ (.slice ag2 n c2)).heap[w.heap.size]? = _ := (Below.heap_setCell _ _ _ _ (by simp)).trans j0
  have q1 := blk4_one j1 0 (.slice ag2 n c2)
  have hoq := ownsRow_setCell_other (a := ⟨w.heap.size + 1, 0, none⟩) hown2 (own_type hown2 j1 (by decide)) (.slice ag2 n c2)
  have hbq : Below w.heap.size w (wc.setCell ⟨w.heap.size + 1, 0, none⟩ (.slice ag2 n c2)) := hbwc.setCell (by simp) _
  have cq1 := blk4 q1
  have hszq := hbq.size
  have rq : Reads (wc.setCell ⟨w.heap.size + 1, 0, none⟩ (.slice ag2 n c2)) bo blen bcap (zs.map (.int .u8)) := by
    have h0 : Reads w bo blen bcap (zs.map (.int .u8)) := hk0.out
    exact h0.later hbq (Nat.le_refl _)
  generalize hwq : wc.setCell ⟨w.heap.size + 1, 0, none⟩ (.slice ag2 n c2) = wq at q0 q1 hoq hbq cq1 hszq rq
  have Hwq : Hid _ := hwq
  obtain ⟨x2, hs3, hd3⟩ := Reads.from (P := Tryd.prog) Tryd.underlying22 (size_of Tryd.infoByte) (ao := bo) (len := blen) (cap := bcap) (at' + n) (by omega)
  rw [Int.natCast_add] at hs3
  have hdr := hd3 _ _ rq
  rw [← List.map_drop] at hdr
  have r8 : isBytes (zs.drop (at' + n)) := fun z hz => h8 z (List.mem_of_mem_drop hz)
  have han : (at' : Int) + n ≤ blen := by omega
  obtain ⟨m, k, f2, hg3⟩ : ∃ m k f2, getL (zs.drop (at' + n)) = (m, k, f2) := ⟨_, _, _, rfl⟩
  have Hg3 : Hid _ := hg3
  have hszq2 : w.heap.size + 2 ≤ wq.heap.size := by have := lt_of_block q1; omega
  clear hkA hkB j0 j1 hbwc hown2 hg2 hb2 hob k0 k1 c1 hdx hd1 hs1 rk hp hB2 hd3 hg3 hxl Hwq
  by_cases hn0 : n = 0
  · exfalso
    rw [Hg.out] at hA
    exact hA.2.2 hn0
  · have hn0i : (0 : Int) < n := by omega
    go_wp2_with fail
    refine (rpending_any _ _ _ p wq (Reads.own hoq) p8).mono ?_
    rintro e wa ⟨rfl, nn, rfl⟩
    by_cases hpd : pendU p
    case neg =>
      have hE : Hid (getT zs = none) := getT_bad Hg.out (.inr (.inr ⟨hn0, by rw [Hp.out]; exact hpd⟩))
      have dp : decide (pendU p) = false := by simpa using hpd
      rw [dp]
      have q0d : (wq.drewN nn).heap[w.heap.size]? = _ := q0
      have hbd : Below w.heap.size w (wq.drewN nn) := hbq.trans ⟨rfl, rfl, rfl, Nat.le_refl _, fun _ _ => rfl⟩
      clear hpd dp hwq
      have hB := below_set4 (b := w.heap.size) hbd (Nat.le_refl _) (.slice none 0 0) (.slice none 0 0) (.bool false) (.bool false)
      have hld := load_ref (blk4_set q0d (.slice none 0 0) (.slice none 0 0) (.bool false) (.bool false))
      have cz0 := blk4 q0d
      go_wp2
      refine bodyPost_ret (results_cell_tmp rfl _ _ _ (x := ⟨w.heap.size, 0, none⟩) rfl hld) rfl ?_
      exact none_out hE.out hB
    have dp : decide (pendU p) = true := by simpa using hpd
    rw [dp]
    have hE0 : Hid (getT zs = getT2 p (zs.drop (at' + n))) := by show _ = _; rw [getT_mid Hg.out (by omega) (.inr (by rw [Hp.out]; exact hpd)), Hp.out]
    obtain ⟨wv, hwv⟩ : ∃ wv, wv = wq.drewN nn := ⟨_, rfl⟩
    have q0v : wv.heap[w.heap.size]? = some (Obj.cells #[.slice none 0 0, .slice none 0 0, .bool false, .bool false] 30 (0, 0)) := by rw [hwv]; exact q0
    have q1v : wv.heap[w.heap.size + 1]? = some (Obj.cells #[.slice ag2 n c2, .slice none 0 0, .bool false, .bool false] 30 (0, 0)) := by rw [hwv]; exact q1
    have hoqv : wv.ownsRow (w.heap.size + 2) 5 1 (.slice ag2 n c2) n (p.map (.int .u8)) := by rw [hwv]; exact hoq
    have hbqv : Below w.heap.size w wv := by rw [hwv]; exact hbq.trans ⟨rfl, rfl, rfl, Nat.le_refl _, fun _ _ => rfl⟩
    have hdrv := hdr.later (show Below wq.heap.size wq (wq.drewN nn) from ⟨rfl, rfl, rfl, Nat.le_refl _, fun _ _ => rfl⟩) (Nat.le_refl _)
    rw [← hwv] at hdrv ⊢
    have hszv2 : w.heap.size + 2 ≤ wv.heap.size := by have := lt_of_block q1v; omega
    clear dp hpd hwq hn0 Hg Hp q0 q1 hoq hbq cq1 hszq rq hdr hszq2 hwv cj1
    go_wp2_with fail
    refine (rget_any _ _ _ _ wv hdrv r8).mono ?_
    rintro e wa ⟨rfl, rfl⟩
    rw [Hg3.out]
    unfold getV
    by_cases hf2 : f2 = 0
    case neg =>
      have hE : Hid (getT zs = none) := by show _ = _; rw [hE0.out]; exact getT2_bad Hg3.out (.inl hf2)
      have hf20 : ¬ (f2 : Int) = 0 := by omega
      have hB := below_set4 (b := w.heap.size) hbqv (Nat.le_refl _) (.slice none 0 0) (.slice none 0 0) (.bool false) (.bool false)
      have hld := load_ref (blk4_set q0v (.slice none 0 0) (.slice none 0 0) (.bool false) (.bool false))
      have cz0 := blk4 q0v
      go_wp2
      refine bodyPost_ret (results_cell_tmp rfl _ _ _ (x := ⟨w.heap.size, 0, none⟩) rfl hld) rfl ?_
      exact none_out hE.out hB
    subst hf2
    by_cases hm32 : 32 < m
    · have hE : Hid (getT zs = none) := by show _ = _; rw [hE0.out]; exact getT2_bad Hg3.out (.inr hm32)
      have hmi : (32 : Int) < m := by omega
      have hB := below_set4 (b := w.heap.size) hbqv (Nat.le_refl _) (.slice none 0 0) (.slice none 0 0) (.bool false) (.bool false)
      have hld := load_ref (blk4_set q0v (.slice none 0 0) (.slice none 0 0) (.bool false) (.bool false))
      have cz0 := blk4 q0v
      go_wp2
      refine bodyPost_ret (results_cell_tmp rfl _ _ _ (x := ⟨w.heap.size, 0, none⟩) rfl hld) rfl ?_
      exact none_out hE.out hB
    have hok2 := get_ok _ r8 m k Hg3.out
    rw [List.length_drop] at hok2
    have hE1 : Hid (getT zs = (runesT m (zs.drop (at' + n + k))).bind fun x => (flagT x.2).map fun f => ⟨p, x.1, f.1, f.2⟩) := by show _ = _; rw [hE0.out, getT2_ok Hg3.out (by omega), List.drop_drop]
    have hmi : (m : Int) ≤ 32 := by omega
    have hki : (at' : Int) + n + k ≤ blen := by omega
    have hk0i : (0 : Int) ≤ k := by omega
    clear hm32 hdrv
    go_wp2_with fail
    go_loopw [6, 11] (fun a i wr => ∃ (at2 j : Nat) (bg : Option Addr) (d : Nat) (acc : List Int), a = .int .i64 at2 ∧ i = .int .i64 j ∧ j ≤ m ∧ at2 ≤ blen ∧ 1 ≤ at2 ∧ wr.heap[w.heap.size]? = some (Obj.cells #[.slice none 0 0, .slice none 0 0, .bool false, .bool false] 30 (0, 0)) ∧ wr.heap[w.heap.size + 1]? = some (Obj.cells #[.slice ag2 n c2, .slice bg j d, .bool false, .bool false] 30 (0, 0)) ∧ wr.ownsRow (w.heap.size + 2) 5 1 (.slice ag2 n c2) n (p.map (.int .u8)) ∧ wr.ownsRow (w.heap.size + 2) 21 1 (.slice bg j d) j (acc.map (.int .i32)) ∧ Below w.heap.size w wr ∧ w.heap.size + 2 ≤ wr.heap.size ∧ Hid (getT zs = ((runesT (m - j) (zs.drop at2)).map fun x => (acc ++ x.1, x.2)).bind fun x => (flagT x.2).map fun f => ⟨p, x.1, f.1, f.2⟩)) (fun _ i _ => (m - intOf i).toNat)
    case atStart => exact ⟨at' + n + k, 0, none, 0, [], by go_num, rfl, by omega, by omega, by omega, q0v, q1v, hoqv, World.ownsRow_nil _ _ _ _, hbqv, hszv2, by show _ = _; rw [hE1.out, map_nil]; rfl⟩
    case round =>
      obtain ⟨at2, j, bg, d, acc, rfl, rfl, hj, hat2, hat3, z0, z1, hop, how, hbr, hszr, hI⟩ := hrel
      have cz1 := blk4 z1
      have rr := Hid.out hk0 |>.later hbr (Nat.le_refl _)
      have hat2i : (at2 : Int) ≤ blen := by omega
      have hat3i : (1 : Int) ≤ at2 := by omega
      clear q0v q1v hoqv hbqv hE1
      by_cases hjm : j = m
      · subst hjm
        have hE2 : Hid (getT zs = (flagT (zs.drop at2)).map fun f => ⟨p, acc, f.1, f.2⟩) := by show _ = _; rw [hI.out, Nat.sub_self]; simp [runesT]
        have cz0x := blk4 z0
        clear hI hE0
        by_cases hlast : at2 + 1 = blen
        case neg =>
          have hE : Hid (getT zs = none) := by show _ = _; rw [hE2.out, flag_short (by rw [List.length_drop]; omega)]; rfl
          have hli : ¬ (at2 : Int) = (blen : Int) - 1 := by omega
          clear hlast
          have hB := below_set4 (b := w.heap.size) hbr (Nat.le_refl _) (.slice none 0 0) (.slice none 0 0) (.bool false) (.bool false)
          have hld := load_ref (blk4_set z0 (.slice none 0 0) (.slice none 0 0) (.bool false) (.bool false))
          have cz0 := blk4 z0
          go_wp2
          refine bodyPost_ret (results_cell_tmp rfl _ _ _ (x := ⟨w.heap.size, 0, none⟩) rfl hld) rfl ?_
          exact none_out hE.out hB
        subst hlast
        obtain ⟨b1, o1, rfl, hb1, hat1'⟩ := (Hid.out hk0).at (by omega)
        have hcx0 := hat1' at2 (by omega)
        have hcx := (hbr.cell (p := ⟨b1, o1 + at2, none⟩) hb1).trans hcx0
        have hne1 : w.heap.size + 1 ≠ b1 := by omega
        have hne2 : b1 ≠ w.heap.size + 1 := by omega
        clear hcx0
        have hdx : Hid (zs.drop at2 = [zs.getD at2 0]) := by show _ = _; rw [drop_at zs at2 (by omega), List.drop_of_length_le (by omega)]
        obtain ⟨x, hx, hx255⟩ := h8.get at2
        rw [hx] at hcx hdx
        have hli : (at2 : Int) = ((at2 + 1 : Nat) : Int) - 1 := by omega
        have Hli : Hid _ := hli
        clear hat1' hx hli
        by_cases hx3 : 3 < x
        · have hE : Hid (getT zs = none) := by
            show _ = _
            rw [hE2.out, hdx.out]
            simp only [flagT]
            rw [if_neg (by omega)]; rfl
          have hx3i : (3 : Int) < x := by omega
          have hB := below_set4 (b := w.heap.size) hbr (Nat.le_refl _) (.slice none 0 0) (.slice none 0 0) (.bool false) (.bool false)
          have hld := load_ref (blk4_set z0 (.slice none 0 0) (.slice none 0 0) (.bool false) (.bool false))
          have cz0 := blk4 z0
          go_wp2
          refine bodyPost_ret (results_cell_tmp rfl _ _ _ (x := ⟨w.heap.size, 0, none⟩) rfl hld) rfl ?_
          exact none_out hE.out hB
        have : x = 0 ∨ x = 1 ∨ x = 2 ∨ x = 3 := by omega
        rcases this with rfl | rfl | rfl | rfl
        · have hE : Hid (getT zs = some ⟨p, acc, false, false⟩) := by show _ = _; rw [hE2.out, hdx.out]; rfl
          have y0 : ((wr.setCell ⟨w.heap.size + 1, 2, none⟩ (.bool false)).setCell ⟨w.heap.size + 1, 3, none⟩ (.bool false)).heap[w.heap.size]? = _ := (Below.heap_setCell _ _ _ _ (by simp)).trans ((Below.heap_setCell _ _ _ _ (by simp)).trans z0)
          have y1 := blk4_one z1 2 (.bool false)
          have hk1 := ((KeptBut.refl 30 wr).cell z1 2 (.bool false)).cell y1 3 (.bool false)
          have hk2 := hk1.cells4 y0 (.slice ag2 n c2) (.slice bg j d) (.bool false) (.bool false)
          have hrp := reads_of_own hop hk2 (by decide)
          have hrw := reads_of_own how hk2 (by decide)
          have hB := below_set4 (b := w.heap.size) ((hbr.setCell (p := ⟨w.heap.size + 1, 2, none⟩) (by simp) (.bool false)).setCell (p := ⟨w.heap.size + 1, 3, none⟩) (by simp) (.bool false)) (Nat.le_refl _) (.slice ag2 n c2) (.slice bg j d) (.bool false) (.bool false)
          have hld := load_ref (blk4_set y0 (.slice ag2 n c2) (.slice bg j d) (.bool false) (.bool false))
          have hjl : acc.length = j := by have := how.1; simpa using this
          clear hk1 hk2 hop how hbr z0 y0 y1
          go_wp2
          refine bodyPost_ret (results_cell_tmp rfl _ _ _ (x := ⟨w.heap.size, 0, none⟩) rfl hld) rfl ?_
          exact some_out hE.out rfl rfl hpn.symm hjl.symm hrp hrw hB
        · have hE : Hid (getT zs = some ⟨p, acc, true, false⟩) := by show _ = _; rw [hE2.out, hdx.out]; rfl
          have y0 : ((wr.setCell ⟨w.heap.size + 1, 2, none⟩ (.bool true)).setCell ⟨w.heap.size + 1, 3, none⟩ (.bool false)).heap[w.heap.size]? = _ := (Below.heap_setCell _ _ _ _ (by simp)).trans ((Below.heap_setCell _ _ _ _ (by simp)).trans z0)
          have y1 := blk4_one z1 2 (.bool true)
          have hk1 := ((KeptBut.refl 30 wr).cell z1 2 (.bool true)).cell y1 3 (.bool false)
          have hk2 := hk1.cells4 y0 (.slice ag2 n c2) (.slice bg j d) (.bool true) (.bool false)
          have hrp := reads_of_own hop hk2 (by decide)
          have hrw := reads_of_own how hk2 (by decide)
          have hB := below_set4 (b := w.heap.size) ((hbr.setCell (p := ⟨w.heap.size + 1, 2, none⟩) (by simp) (.bool true)).setCell (p := ⟨w.heap.size + 1, 3, none⟩) (by simp) (.bool false)) (Nat.le_refl _) (.slice ag2 n c2) (.slice bg j d) (.bool true) (.bool false)
          have hld := load_ref (blk4_set y0 (.slice ag2 n c2) (.slice bg j d) (.bool true) (.bool false))
          have hjl : acc.length = j := by have := how.1; simpa using this
          clear hk1 hk2 hop how hbr z0 y0 y1
          go_wp2
          refine bodyPost_ret (results_cell_tmp rfl _ _ _ (x := ⟨w.heap.size, 0, none⟩) rfl hld) rfl ?_
          exact some_out hE.out rfl rfl hpn.symm hjl.symm hrp hrw hB
        · have hE : Hid (getT zs = some ⟨p, acc, false, true⟩) := by show _ = _; rw [hE2.out, hdx.out]; rfl
          have y0 : ((wr.setCell ⟨w.heap.size + 1, 2, none⟩ (.bool false)).setCell ⟨w.heap.size + 1, 3, none⟩ (.bool true)).heap[w.heap.size]? = _ := (Below.heap_setCell _ _ _ _ (by simp)).trans ((Below.heap_setCell _ _ _ _ (by simp)).trans z0)
          have y1 := blk4_one z1 2 (.bool false)
          have hk1 := ((KeptBut.refl 30 wr).cell z1 2 (.bool false)).cell y1 3 (.bool true)
          have hk2 := hk1.cells4 y0 (.slice ag2 n c2) (.slice bg j d) (.bool false) (.bool true)
          have hrp := reads_of_own hop hk2 (by decide)
          have hrw := reads_of_own how hk2 (by decide)
          have hB := below_set4 (b := w.heap.size) ((hbr.setCell (p := ⟨w.heap.size + 1, 2, none⟩) (by simp) (.bool false)).setCell (p := ⟨w.heap.size + 1, 3, none⟩) (by simp) (.bool true)) (Nat.le_refl _) (.slice ag2 n c2) (.slice bg j d) (.bool false) (.bool true)
          have hld := load_ref (blk4_set y0 (.slice ag2 n c2) (.slice bg j d) (.bool false) (.bool true))
          have hjl : acc.length = j := by have := how.1; simpa using this
          clear hk1 hk2 hop how hbr z0 y0 y1
          go_wp2
          refine bodyPost_ret (results_cell_tmp rfl _ _ _ (x := ⟨w.heap.size, 0, none⟩) rfl hld) rfl ?_
          exact some_out hE.out rfl rfl hpn.symm hjl.symm hrp hrw hB
        · have hE : Hid (getT zs = some ⟨p, acc, true, true⟩) := by show _ = _; rw [hE2.out, hdx.out]; rfl
          have y0 : ((wr.setCell ⟨w.heap.size + 1, 2, none⟩ (.bool true)).setCell ⟨w.heap.size + 1, 3, none⟩ (.bool true)).heap[w.heap.size]? = _ := (Below.heap_setCell _ _ _ _ (by simp)).trans ((Below.heap_setCell _ _ _ _ (by simp)).trans z0)
          have y1 := blk4_one z1 2 (.bool true)
          have hk1 := ((KeptBut.refl 30 wr).cell z1 2 (.bool true)).cell y1 3 (.bool true)
          have hk2 := hk1.cells4 y0 (.slice ag2 n c2) (.slice bg j d) (.bool true) (.bool true)
          have hrp := reads_of_own hop hk2 (by decide)
          have hrw := reads_of_own how hk2 (by decide)
          have hB := below_set4 (b := w.heap.size) ((hbr.setCell (p := ⟨w.heap.size + 1, 2, none⟩) (by simp) (.bool true)).setCell (p := ⟨w.heap.size + 1, 3, none⟩) (by simp) (.bool true)) (Nat.le_refl _) (.slice ag2 n c2) (.slice bg j d) (.bool true) (.bool true)
          have hld := load_ref (blk4_set y0 (.slice ag2 n c2) (.slice bg j d) (.bool true) (.bool true))
          have hjl : acc.length = j := by have := how.1; simpa using this
          clear hk1 hk2 hop how hbr z0 y0 y1
          go_wp2
          refine bodyPost_ret (results_cell_tmp rfl _ _ _ (x := ⟨w.heap.size, 0, none⟩) rfl hld) rfl ?_
          exact some_out hE.out rfl rfl hpn.symm hjl.symm hrp hrw hB
      · have hjN : j < m := by omega
        have hji : (j : Int) < m := by omega
        obtain ⟨x3, hs4, hd4⟩ := Reads.from (P := Tryd.prog) Tryd.underlying22 (size_of Tryd.infoByte) (ao := bo) (len := blen) (cap := bcap) at2 hat2
        have hdr4 := hd4 _ _ rr
        rw [← List.map_drop] at hdr4
        have r84 : isBytes (zs.drop at2) := fun z hz => h8 z (List.mem_of_mem_drop hz)
        obtain ⟨c, jj, f3, hg4⟩ : ∃ c jj f3, getL (zs.drop at2) = (c, jj, f3) := ⟨_, _, _, rfl⟩
        have Hg4 : Hid _ := hg4
        have Hmj : Hid (m - j = m - (j + 1) + 1) := by show _ = _; omega
        clear hg4 hd4 hjm
        go_wp2_with fail
        refine (rget_any _ _ _ _ wr hdr4 r84).mono ?_
        rintro e wa ⟨rfl, rfl⟩
        rw [Hg4.out]
        unfold getV
        by_cases hf3 : f3 = 0
        case neg =>
          have hE : Hid (getT zs = none) := by show _ = _; rw [hI.out, Hmj.out, runes_bad Hg4.out (.inl hf3)]; rfl
          have hf30 : ¬ (f3 : Int) = 0 := by omega
          have hB := below_set4 (b := w.heap.size) hbr (Nat.le_refl _) (.slice none 0 0) (.slice none 0 0) (.bool false) (.bool false)
          have hld := load_ref (blk4_set z0 (.slice none 0 0) (.slice none 0 0) (.bool false) (.bool false))
          have cz0 := blk4 z0
          go_wp2
          refine bodyPost_ret (results_cell_tmp rfl _ _ _ (x := ⟨w.heap.size, 0, none⟩) rfl hld) rfl ?_
          exact none_out hE.out hB
        subst hf3
        by_cases hc : 1114111 < c
        · have hE : Hid (getT zs = none) := by show _ = _; rw [hI.out, Hmj.out, runes_bad Hg4.out (.inr hc)]; rfl
          have hci : (1114111 : Int) < c := by omega
          have hB := below_set4 (b := w.heap.size) hbr (Nat.le_refl _) (.slice none 0 0) (.slice none 0 0) (.bool false) (.bool false)
          have hld := load_ref (blk4_set z0 (.slice none 0 0) (.slice none 0 0) (.bool false) (.bool false))
          have cz0 := blk4 z0
          go_wp2
          refine bodyPost_ret (results_cell_tmp rfl _ _ _ (x := ⟨w.heap.size, 0, none⟩) rfl hld) rfl ?_
          exact none_out hE.out hB
        have hok4 := get_ok _ r84 c jj Hg4.out
        rw [List.length_drop] at hok4
        have hci : (c : Int) ≤ 1114111 := by omega
        have hjj : (at2 : Int) + jj ≤ blen := by omega
        have mx : j + 20 ≤ maxLen := by unfold maxLen; omega
        have hI' : Hid (getT zs = ((runesT (m - (j + 1)) (zs.drop (at2 + jj))).map fun x => (acc ++ [(c : Int)] ++ x.1, x.2)).bind fun x => (flagT x.2).map fun f => ⟨p, x.1, f.1, f.2⟩) := by
          show _ = _
          rw [hI.out, Hmj.out, runes_step Hg4.out (by omega), List.drop_drop]
          cases runesT (m - (j + 1)) (zs.drop (at2 + jj)) <;> simp
        clear hc hdr4 r84 hs4
        go_wp2_with (at_builtin; refine wpList_append_grown rfl (.tmp 97) (.tmp 100) 28 rfl (w.heap.size + 2) 21 Tryd.infoRune rfl Tryd.underlying28 _ _ _ _ rfl (how.alloc _) _ _ _ _ rfl (reads_one _ _ _) (ints_oneCell .i32 [(c : Int)]) (by omega) (by omega) (by simp; omega) ?_)
        intro bg5 d5 wz how5 hg5 hb5
        have hkz : KeptBut 21 wa wz := KeptBut.trans (KeptBut.below ((Below.refl _ _).alloc (Nat.le_refl _) _)) (KeptBut.grown (how.alloc _) hg5)
        have y0 := hkz.kept _ _ _ _ z0 (by decide)
        have y1 := hkz.kept _ _ _ _ z1 (by decide)
        have hop5 := own_kept hop hkz (by decide)
        have cy1 := blk4 y1
        have hbz : Below w.heap.size w wz := Below.trans hbr (Below.trans ((Below.refl _ _).alloc (by omega) _) (hb5.mono (by omega)))
        have e0 : (wz.setCell ⟨w.heap.size + 1, 1, none⟩ (.slice bg5 (j + 1) d5)).heap[w.heap.size]? = _ := (Below.heap_setCell _ _ _ _ (by simp)).trans y0
        have e1 := blk4_one y1 1 (.slice bg5 (j + 1) d5)
        have e2 := ownsRow_setCell_other (a := ⟨w.heap.size + 1, 1, none⟩) hop5 (own_type hop5 y1 (by decide)) (.slice bg5 (j + 1) d5)
        have e3 := ownsRow_setCell_other (a := ⟨w.heap.size + 1, 1, none⟩) how5 (own_type how5 y1 (by decide)) (.slice bg5 (j + 1) d5)
        have e4 : Below w.heap.size w (wz.setCell ⟨w.heap.size + 1, 1, none⟩ (.slice bg5 (j + 1) d5)) := hbz.setCell (by simp) _
        have e5 : w.heap.size + 2 ≤ (wz.setCell ⟨w.heap.size + 1, 1, none⟩ (.slice bg5 (j + 1) d5)).heap.size := by have := hkz.size; simp; omega
        clear hkz y0 y1 hop5 hbz how5 hg5 hb5 z0 z1 hop how hbr hszr cz1 rr hI
        go_wp2
        go_roundw
        case rel => exact ⟨at2 + jj, j + 1, bg5, d5, acc ++ [(c : Int)], by go_num, by go_num, by omega, by omega, by omega, e0, e1, e2, by simpa using e3, e4, e5, hI'⟩
        case measure => simp [intOf]; omega
#print axioms rtget_pos
end Go.Proofs.YtdhbbknjnbdplaaDoor

namespace Go.Proofs.YtdhbbknjnbdplaaDoor
open Go.RowKit
set_option linter.unusedVariables false
set_option linter.unusedSimpArgs false


theorem rtget_any (bo : Option Addr) (blen bcap : Nat) (zs : List Int) (w : World) (hk : Reads w bo blen bcap (zs.map (.int .u8))) (h8 : isBytes zs) (hblen : blen ≤ 140737488351232) :
    Calls Tryd.prog 14 #[.slice bo blen bcap] w fun e w' => ∃ pg pd pk bg d k mk lg er,
      e = .returned (.tuple #[.agg #[.slice pg pk pd, .slice bg k d, .bool mk, .bool lg], .int .i64 er]) ∧ mk = (outT (getT zs)).1.mark ∧ lg = (outT (getT zs)).1.long ∧ er = (outT (getT zs)).2 ∧ pk = (outT (getT zs)).1.pend.length ∧ k = (outT (getT zs)).1.word.length ∧
      Reads w' pg pk pd ((outT (getT zs)).1.pend.map (.int .u8)) ∧ Reads w' bg k d ((outT (getT zs)).1.word.map (.int .i32)) ∧ Below w.heap.size w w' := by
  by_cases h : (getL zs).2.2 = 0 ∧ (getL zs).1 ≤ blen - (getL zs).2.1 ∧ (getL zs).1 ≠ 0
  · exact rtget_pos bo blen bcap zs w hk h8 hblen h
  · exact rtget_zero bo blen bcap zs w hk h8 hblen (by omega)
#print axioms rtget_any
end Go.Proofs.YtdhbbknjnbdplaaDoor

namespace Go.Proofs.YtdhbbknjnbdplaaDoor
open Go.ChangeShapes Go.WideShapes Go.ChangeAt Go.RowKit

theorem slice_in {H : Type} {enc : TypeId × Value → H} {P : Program} {W : World} {k : IntKind} {t e : TypeId} {B : Nat} (hu : P.underlying t = some (.slice e)) (he : P.underlying e = some (.int k)) (hc : P.cellsOf e = 1) (hB : P.bytesOf e = B)
    {ts : List TypeId} {ds : List (DataW H)} (hsz : (DataW.weightsEach P ts ds).all (· ≤ reachBytes) = true) {j : Nat} {a : Option Addr} {len cap : Nat} {d : DataW H} {p : List MemPlace} (ht : ts[j]? = some t) (hd : ds[j]? = some d)
    (h : DataW.Trod enc P W 0 (fun _ => true) true t (.slice a len cap) d p) :
    ∃ zs : List Int, Reads W a len cap (zs.map (.int k)) ∧ (∀ z ∈ zs, (Lit.int k z).wf = true) ∧ len * B ≤ 140737488351232 := by
  obtain ⟨fuel, hf⟩ := h
  rcases open_ints hu he hc hf with ⟨hcs, _⟩ | ⟨x, l, c, zs, hcs, _, hl, hm, hz, hx, hcell, hwz⟩
  · simp [Value.cells] at hcs
    obtain ⟨rfl, rfl, rfl⟩ := hcs
    exact ⟨[], Reads.nil W, fun z hz => by simp at hz, by omega⟩
  · simp [Value.cells] at hcs
    obtain ⟨rfl, rfl, rfl⟩ := hcs
    simp only [if_true] at hz
    simp only [Prod.mk.injEq] at hx
    have hb := sized_slice hsz (e := e) ht (by rw [hd, hx.1]) hu
    rw [hB] at hb
    simp only [lits, List.length_map, List.length_take, List.length_drop, reachBytes] at hb
    refine ⟨zs.take len, ⟨by simp; omega, hl, hm, fun h => (by cases h), fun y hy i u hu => ?_⟩, fun z hz => hwz z (List.mem_of_mem_take hz), ?_⟩
    · cases hy
      have hi : i < len := by
        have := (List.getElem?_eq_some_iff.1 hu).1
        simp at this; omega
      rw [hcell i (by omega)]
      simp [hi, List.getElem?_eq_getElem (show i < zs.length by omega)] at hu
      simp [List.getD, List.getElem?_eq_getElem (show i < zs.length by omega), hu]
    · have e1 : min len zs.length + (zs.length - len) = cap := by omega
      rw [e1] at hb
      exact Nat.le_trans (Nat.mul_le_mul_right B hl) hb
end Go.Proofs.YtdhbbknjnbdplaaDoor

namespace Go.Proofs.YtdhbbknjnbdplaaDoor
open Go.RowKit Go.ChangeShapes Go.WideShapes Go.ChangeAt Go.Joins

theorem field_in {H : Type} {enc : TypeId × Value → H} {P : Program} {W : World} {k : IntKind} {t e : TypeId} {fuel : Nat} {v : Value} {x : DataW H × List MemPlace} (hu : P.underlying t = some (.slice e)) (he : P.underlying e = some (.int k)) (hc : P.cellsOf e = 1)
    (hf : DataW.trod enc P W 0 (fun _ => true) true fuel t [v] = some x) : ∃ (a : Option Addr) (len cap : Nat) (zs : List Int), v = .slice a len cap ∧ Reads W a len cap (zs.map (.int k)) ∧ (∀ z ∈ zs, (Lit.int k z).wf = true) := by
  rcases open_ints hu he hc hf with ⟨hcs, _⟩ | ⟨x, l, c, zs, hcs, _, hl, hm, hz, hx, hcell, hwz⟩
  · simp at hcs
    exact ⟨none, 0, 0, [], hcs, Reads.nil W, fun z hz => by simp at hz⟩
  · simp at hcs
    simp only [if_true] at hz
    refine ⟨some x, l, c, zs.take l, hcs, ⟨by simp; omega, hl, hm, fun h => (by cases h), fun y hy i u hu => ?_⟩, fun z hz => hwz z (List.mem_of_mem_take hz)⟩
    cases hy
    have hi : i < l := by
      have := (List.getElem?_eq_some_iff.1 hu).1
      simp at this; omega
    rw [hcell i (by omega)]
    simp [hi, List.getElem?_eq_getElem (show i < zs.length by omega)] at hu
    simp [List.getD, List.getElem?_eq_getElem (show i < zs.length by omega), hu]

theorem state_in {H : Type} {enc : TypeId × Value → H} {P : Program} {W : World} {t t0 t1 t2 t3 e0 e1 : TypeId} {k0 k1 : IntKind} {f0 f1 f2 f3 : Field} {r : Reach} {b0 : Nat} {v : Value} {d : DataW H} {p : List MemPlace}
    (hs : P.underlying t = some (.struct #[f0, f1, f2, f3])) (hone : Deep.oneCellFields P #[f0, f1, f2, f3] = true) (hC : P.cellsOf t = 4) (h0 : f0.type = t0) (h1 : f1.type = t1) (h2 : f2.type = t2) (h3 : f3.type = t3)
    (u0 : P.underlying t0 = some (.slice e0)) (v0 : P.underlying e0 = some (.int k0)) (c0 : P.cellsOf e0 = 1) (u1 : P.underlying t1 = some (.slice e1)) (v1 : P.underlying e1 = some (.int k1)) (c1 : P.cellsOf e1 = 1)
    (u2 : P.underlying t2 = some .bool) (u3 : P.underlying t3 = some .bool)
    (hv : Value.okWide P W r b0 t v) (h : DataW.Trod enc P W 0 (fun _ => true) true t v d p) :
    ∃ (a0 : Option Addr) (len0 cap0 : Nat) (z0 : List Int) (a1 : Option Addr) (len1 cap1 : Nat) (z1 : List Int) (mk lg : Bool), v = .agg #[.slice a0 len0 cap0, .slice a1 len1 cap1, .bool mk, .bool lg] ∧
      Reads W a0 len0 cap0 (z0.map (.int k0)) ∧ (∀ z ∈ z0, (Lit.int k0 z).wf = true) ∧ Reads W a1 len1 cap1 (z1.map (.int k1)) ∧ (∀ z ∈ z1, (Lit.int k1 z).wf = true) := by
  subst h0; subst h1; subst h2; subst h3
  obtain ⟨x0, x1, x2, x3, y0, y1, y2, y3, n, rfl, _, _, g0, g1, g2, g3⟩ := Joins.open_agg4 hs hone hC hv h
  obtain ⟨a0, l0, cp0, z0, rfl, r0, w0⟩ := field_in u0 v0 c0 g0
  obtain ⟨a1, l1, cp1, z1, rfl, r1, w1⟩ := field_in u1 v1 c1 g1
  obtain ⟨m, hm, _⟩ := DataW.trod_bool u2 g2
  obtain ⟨l, hl, _⟩ := DataW.trod_bool u3 g3
  simp at hm hl
  subst hm; subst hl
  exact ⟨a0, l0, cp0, z0, a1, l1, cp1, z1, m, l, rfl, r0, w0, r1, w1⟩
end Go.Proofs.YtdhbbknjnbdplaaDoor

namespace Go.Proofs.YtdhbbknjnbdplaaDoor.tokenStates
open Go.ChangeShapes Go.WideShapes Go.ChangeAt Go.RowKit
open Go.ChangeMaps (open_string shut_string)
set_option linter.unusedVariables false

theorem own : ownKnob Tryd.prog.godebug = none := by kernel_rfl
theorem laidOut : laidOutB Tryd.prog = true := by kernel_rfl

theorem bytes_of {z : List Int} (f : ∀ x ∈ z, (Lit.int .u8 x).wf = true) : isBytes z := fun x hx => bounds_u8 (f x hx)

set_option maxRecDepth 100000 in
set_option maxHeartbeats 4000000 in
theorem walk (w : World) (a0 : Option Addr) (len0 cap0 : Nat) (z0 : List Int) (a0b : Option Addr) (len0b cap0b : Nat) (z0b : List Int) (mk0 lg0 : Bool) (r0 : Reads w a0 len0 cap0 (z0.map (.int .u8))) (f0 : ∀ z ∈ z0, (Lit.int .u8 z).wf = true) (r0b : Reads w a0b len0b cap0b (z0b.map (.int .i32))) (f0b : ∀ z ∈ z0b, (Lit.int .i32 z).wf = true) (a1 : Option Addr) (len1 cap1 : Nat) (z1 : List Int) (r1 : Reads w a1 len1 cap1 (z1.map (.int .u8))) (f1 : ∀ z ∈ z1, (Lit.int .u8 z).wf = true) (b1 : len1 * 1 ≤ 140737488351232) (ht : Tabs w) :
    Calls Tryd.prog 4 #[.agg #[.slice a0 len0 cap0, .slice a0b len0b cap0b, .bool mk0, .bool lg0], .slice a1 len1 cap1] w fun e w' => e = .returned (.bool true) ∧ Below w.heap.size w w' := by
  have h80 : isBytes z0 := bytes_of f0
  have h81 : isBytes z1 := bytes_of f1
  have hw0 : ∀ z ∈ z0b, -2147483648 ≤ z ∧ z ≤ 2147483647 := fun z hz => bounds_i32 (f0b z hz)
  have hl0 : z0.length = len0 := by simpa using r0.length
  have hl0b : z0b.length = len0b := by simpa using r0b.length
  have hBw : Below w.heap.size w (w.alloc (.cells #[.slice a0 len0 cap0, .slice a0b len0b cap0b, .bool mk0, .bool lg0] 30)) := (Below.refl _ _).alloc (Nat.le_refl _) _
  have kw := heap_alloc_new w (.cells #[.slice a0 len0 cap0, .slice a0b len0b cap0b, .bool mk0, .bool lg0] 30)
  have htw := Tabs.grow hBw ht
  go_enter Tryd.func4, Tryd.ntmps4
  go_wp2_with fail
  refine (shown_any _ htw).mono ?_
  rintro e w1 ⟨rfl, hb1⟩
  have k1 := (hb1.block _ (lt_of_block kw)).trans kw
  have c1 := blk4 k1
  have hB1 : Below w.heap.size w w1 := Below.trans hBw (hb1.mono hBw.size)
  clear kw htw hb1 hBw
  by_cases hg : 1000 < len0 ∨ 1000 < len0b
  · by_cases hg1 : 1000 < len0
    · have hi : (1000 : Int) < len0 := by omega
      go_wp2
      go_ret
      exact ⟨rfl, hB1⟩
    · have hi : (len0 : Int) ≤ 1000 := by omega
      have hi2 : (1000 : Int) < len0b := by omega
      go_wp2
      go_ret
      exact ⟨rfl, hB1⟩
  have hi : (len0 : Int) ≤ 1000 := by omega
  have hi2 : (len0b : Int) ≤ 1000 := by omega
  have rd1 := r1.later hB1 (Nat.le_refl _)
  have ht1 := Tabs.grow hB1 ht
  clear hg
  go_wp2_with fail
  refine (tget_any _ _ _ z1 w1 rd1 h81 (by omega) ht1).mono ?_
  generalize hT : outT (getT z1) = T
  have HT : Hid _ := hT
  rintro e w2 ⟨pg, pd, pk, bg, d, k, mk, lg, er, rfl, rfl, rfl, rfl, hpk, hk, ⟨hrp, _, _⟩, ⟨hrw, _, _⟩, hb2⟩
  have hx2 : Below w2.heap.size w2 (w2.alloc (.cells #[.slice pg pk pd, .slice bg k d, .bool T.1.mark, .bool T.1.long] 34)) := (Below.refl _ _).alloc (Nat.le_refl _) _
  have q2 := heap_alloc_new w2 (.cells #[.slice pg pk pd, .slice bg k d, .bool T.1.mark, .bool T.1.long] 34)
  have hB2 : Below w.heap.size w w2 := Below.trans hB1 (hb2.mono hB1.size)
  have hB2' := Below.trans hB2 (hx2.mono hB2.size)
  have k2 := (hx2.block _ (lt_of_block ((hb2.block _ (lt_of_block k1)).trans k1))).trans ((hb2.block _ (lt_of_block k1)).trans k1)
  have rp2 := hrp.later hx2 (Nat.le_refl _)
  have rw2 := hrw.later hx2 (Nat.le_refl _)
  have rd2 := r1.later hB2' (Nat.le_refl _)
  clear hT hpk hk hrp hrw hb2 hB1 hB2 rd1 ht1 c1 k1
  go_wp2_with fail
  refine (rtget_any _ _ _ z1 _ rd2 h81 (by omega)).mono ?_
  rw [HT.out]
  rintro e w3 ⟨pg3, pd3, pk3, bg3, d3, k3, mk3, lg3, er3, rfl, rfl, rfl, rfl, hpk3, hk3, hrp3, hrw3, hb3⟩
  have hx3 : Below w3.heap.size w3 (w3.alloc (.cells #[.slice pg3 pk3 pd3, .slice bg3 k3 d3, .bool T.1.mark, .bool T.1.long] 30)) := (Below.refl _ _).alloc (Nat.le_refl _) _
  have q3 := heap_alloc_new w3 (.cells #[.slice pg3 pk3 pd3, .slice bg3 k3 d3, .bool T.1.mark, .bool T.1.long] 30)
  have hB3 : Below w.heap.size w w3 := Below.trans hB2' (hb3.mono hB2'.size)
  have hB3' := Below.trans hB3 (hx3.mono hB3.size)
  have hb3' := Below.trans hb3 (hx3.mono hb3.size)
  have k4 := (hb3'.block _ (lt_of_block k2)).trans k2
  have q4 := (hb3'.block _ (lt_of_block q2)).trans q2
  have rp4 := rp2.later hb3' (Nat.le_refl _)
  have rw4 := rw2.later hb3' (Nat.le_refl _)
  have rp5 := hrp3.later hx3 (Nat.le_refl _)
  have rw5 := hrw3.later hx3 (Nat.le_refl _)
  have s4 := r0.later hB3' (Nat.le_refl _)
  have s5 := r0b.later hB3' (Nat.le_refl _)
  clear hpk3 hk3 hrp3 hrw3 hb3 hb3' hB3 hB2' rp2 rw2 rd2 hx2 k2 q2
  go_upto_region 6 with (fail)
  generalize hwi : w3.alloc (.cells #[.slice pg3 pk3 pd3, .slice bg3 k3 d3, .bool T.1.mark, .bool T.1.long] 30) = wi at hx3 q3 hB3' k4 q4 rp4 rw4 rp5 rw5 s4 s5 ⊢
  have ha0 : ∀ W, Below wi.heap.size wi W → W.cell? ⟨w.heap.size, 0, none⟩ = some (.slice a0 len0 cap0) := fun W hW => (blk4 ((hW.block _ (lt_of_block k4)).trans k4)).1
  have ha1 : ∀ W, Below wi.heap.size wi W → W.cell? ⟨w.heap.size, 1, none⟩ = some (.slice a0b len0b cap0b) := fun W hW => (blk4 ((hW.block _ (lt_of_block k4)).trans k4)).2.1
  have ha2 : ∀ W, Below wi.heap.size wi W → W.cell? ⟨w.heap.size, 2, none⟩ = some (.bool mk0) := fun W hW => (blk4 ((hW.block _ (lt_of_block k4)).trans k4)).2.2.1
  have ha3 : ∀ W, Below wi.heap.size wi W → W.cell? ⟨w.heap.size, 3, none⟩ = some (.bool lg0) := fun W hW => (blk4 ((hW.block _ (lt_of_block k4)).trans k4)).2.2.2.1
  have hb0 : ∀ W, Below wi.heap.size wi W → W.cell? ⟨w2.heap.size, 0, none⟩ = some (.slice pg pk pd) := fun W hW => (blk4 ((hW.block _ (lt_of_block q4)).trans q4)).1
  have hb1 : ∀ W, Below wi.heap.size wi W → W.cell? ⟨w2.heap.size, 1, none⟩ = some (.slice bg k d) := fun W hW => (blk4 ((hW.block _ (lt_of_block q4)).trans q4)).2.1
  have hb2 : ∀ W, Below wi.heap.size wi W → W.cell? ⟨w2.heap.size, 2, none⟩ = some (.bool T.1.mark) := fun W hW => (blk4 ((hW.block _ (lt_of_block q4)).trans q4)).2.2.1
  have hb3 : ∀ W, Below wi.heap.size wi W → W.cell? ⟨w2.heap.size, 3, none⟩ = some (.bool T.1.long) := fun W hW => (blk4 ((hW.block _ (lt_of_block q4)).trans q4)).2.2.2.1
  have hc0 : ∀ W, Below wi.heap.size wi W → W.cell? ⟨w3.heap.size, 0, none⟩ = some (.slice pg3 pk3 pd3) := fun W hW => (blk4 ((hW.block _ (lt_of_block q3)).trans q3)).1
  have hc1 : ∀ W, Below wi.heap.size wi W → W.cell? ⟨w3.heap.size, 1, none⟩ = some (.slice bg3 k3 d3) := fun W hW => (blk4 ((hW.block _ (lt_of_block q3)).trans q3)).2.1
  have hc2 : ∀ W, Below wi.heap.size wi W → W.cell? ⟨w3.heap.size, 2, none⟩ = some (.bool T.1.mark) := fun W hW => (blk4 ((hW.block _ (lt_of_block q3)).trans q3)).2.2.1
  have hc3 : ∀ W, Below wi.heap.size wi W → W.cell? ⟨w3.heap.size, 3, none⟩ = some (.bool T.1.long) := fun W hW => (blk4 ((hW.block _ (lt_of_block q3)).trans q3)).2.2.2.1
  have p8 : isBytes T.1.pend := by rw [← HT.out]; exact out_bytes h81
  clear hwi hx3 q3 k4 q4 r0 r0b r1 ht f0 f0b f1
  go_region_held (fun W => Below wi.heap.size wi W) (first | exact Below.refl _ _ | exact Below.drew (Below.refl _ _) | assumption | exact Grow.trans (by assumption) (by assumption)) (first | (go_at_call 16; refine (made_any _ _ _ _ _ _ _ _ _).mono ?_; rintro e wx ⟨rfl, hbx⟩) | (go_at_call 15; refine (tput_any _ _ _ z0 _ _ _ z0b _ _ _ (s4.later (by first | assumption | exact Below.drew (Below.refl _ _) | exact Grow.trans (by assumption) (by assumption)) (Nat.le_refl _)) (s5.later (by first | assumption | exact Below.drew (Below.refl _ _) | exact Grow.trans (by assumption) (by assumption)) (Nat.le_refl _)) hw0 (by omega) (by omega)).mono ?_; rintro e wp ⟨ag, c, m, rfl, hm, hro, hbp⟩; clear hm; have hcv := conv_of Tryd.underlying22 Tryd.underlying5 Tryd.underlying9 hro) | (go_at_call 17; refine (rtput_any _ _ _ z0 _ _ _ z0b _ _ _ (s4.later (by first | assumption | exact Below.drew (Below.refl _ _) | exact Grow.trans (by assumption) (by assumption)) (Nat.le_refl _)) (s5.later (by first | assumption | exact Below.drew (Below.refl _ _) | exact Grow.trans (by assumption) (by assumption)) (Nat.le_refl _)) hw0 (by omega) (by omega)).mono ?_; rintro e wq ⟨ag2, c2, m2, rfl, hm2, hoq, hbq⟩; clear hm2; have hcv2 := conv_of Tryd.underlying22 Tryd.underlying5 Tryd.underlying9 (hro.later hbq (Nat.le_refl _)); have hcv3 := conv_of Tryd.underlying22 Tryd.underlying5 Tryd.underlying9 (Reads.own hoq)) | (go_at_call 19; refine (real_any _ _ _ _ _ _ _ _ _).mono ?_; rintro e wy ⟨rfl, hby⟩) | (go_at_call 18; refine (rtsame_eq _ _ _ T.1.pend _ _ _ T.1.word _ _ _ _ _ _ _ _ _ (rp4.later (by first | assumption | exact Below.drew (Below.refl _ _) | exact Grow.trans (by assumption) (by assumption)) (Nat.le_refl _)) p8 (rw4.later (by first | assumption | exact Below.drew (Below.refl _ _) | exact Grow.trans (by assumption) (by assumption)) (Nat.le_refl _)) (rp5.later (by first | assumption | exact Below.drew (Below.refl _ _) | exact Grow.trans (by assumption) (by assumption)) (Nat.le_refl _)) (rw5.later (by first | assumption | exact Below.drew (Below.refl _ _) | exact Grow.trans (by assumption) (by assumption)) (Nat.le_refl _))).mono ?_; rintro e wz ⟨rfl, hbz⟩))
  all_goals go_wp2
  all_goals go_ret
  all_goals exact ⟨by simp, Below.trans hB3' (Below.mono (by assumption) hB3'.size)⟩

set_option maxRecDepth 100000 in
theorem lifted (os : Os) (started : os.Started) (H : Type) (enc : TypeId × Value → H) :
    ReturnsInHanded {} Tryd.checked os 4 .any (fun w args => (Rows.tokenStatesSpec.pre enc Tryd.prog Tryd.f4 [] false w args ∧ laidMetH Tryd.prog tabLaid w) ∧ sizedMet enc Tryd.prog Tryd.f4 (OpenSpec.ofChange Rows.tokenStatesSpec) false w args) (Rows.tokenStatesSpec.post enc Tryd.prog Tryd.f4 false true false false) := by
  refine returnsInHanded_of_change_and (C := Tryd.checked) (X := fun w _ => laidMetH Tryd.prog tabLaid w) (fun _ _ _ hh h => h.of_heap hh) own started (by kernel_rfl) Tryd.func4
    (ChangeSpec.witness_shaped (enc := enc) (C := Tryd.checked) (os := os) (X := fun w _ => laidMetH Tryd.prog tabLaid w) false (World.laidAll Tryd.prog os tabLaid) #[.agg #[.slice none 0 0, .slice none 0 0, .bool false, .bool false], .slice none 0 0] 8 (World.laidAll_os _ _ _)
      (World.shaped_of_ZipB (by kernel_rfl) (by kernel_rfl)) (by kernel_rfl) (by kernel_rfl) (by kernel_rfl)
      (by rw [MakeChecks.laidMetH_plain _ _ _ (by kernel_rfl)]; exact laidMet_laidAll _ (by kernel_rfl) (by kernel_rfl))) ?_
  intro W base args ds gs before hval0 hW hcnd hsz0 hL _
  rw [MakeChecks.laidMetH_plain _ _ _ (by kernel_rfl)] at hL
  have ht : Tabs W := tabs_of hL
  clear hL
  have hsz : (DataW.weightsEach Tryd.prog (Tryd.f4.params.toList ++ Rows.tokenStatesSpec.plain.varTypes Tryd.prog) (ds ++ gs)).all (· ≤ reachBytes) = true := hsz0
  clear hsz0
  have hval : ∀ (j : Nat) t v, Tryd.f4.params[j]? = some t → args[j]? = some v → Value.okWide Tryd.prog W .any base t v := hval0
  have hW' := hW
  obtain ⟨p, q, hA0, hV, rfl, hfz, hnd⟩ := hW
  have hA : DataW.TrodAll enc Tryd.prog W 0 (fun _ => true) true Tryd.f4.params.toList args.toList ds p := hA0
  rw [Tryd.params4] at hA hval hsz
  obtain ⟨v0, vs0, d0, ds0, p0, q0, hargs, rfl, rfl, h0, rr0⟩ := trodAll_cons hA
  obtain ⟨v1, vs1, d1, ds1, p1, q1, rfl, rfl, rfl, h1, rr1⟩ := trodAll_cons rr0
  obtain ⟨rfl, rfl, rfl⟩ := trodAll_nil rr1
  obtain rfl : args = #[v0, v1] := by cases args; simp_all
  obtain ⟨rfl, rfl⟩ := trodVars_none hV
  have k0 := h0
  have lt0 : ∀ x ∈ p0, x.block < W.heap.size := by obtain ⟨m, hm⟩ := k0; exact DataW.trod_lt m _ _ _ hm
  obtain ⟨a0, len0, cap0, z0, a0b, len0b, cap0b, z0b, mk0, lg0, rfl, r0, f0, r0b, f0b⟩ := state_in Tryd.underlying30 (by kernel_rfl) (by kernel_rfl) rfl rfl rfl rfl Tryd.underlying22 Tryd.underlying5 (by kernel_rfl) Tryd.underlying28 Tryd.underlying21 (by kernel_rfl) Tryd.underlying4 Tryd.underlying4 (hval 0 30 v0 rfl rfl) h0
  obtain ⟨a1, len1, cap1, rfl⟩ := okWide_slice Tryd.underlying22 (hval 1 22 v1 rfl rfl)
  have k1 := h1
  have lt1 : ∀ x ∈ p1, x.block < W.heap.size := by obtain ⟨m, hm⟩ := k1; exact DataW.trod_lt m _ _ _ hm
  obtain ⟨z1, r1, f1, b1⟩ := slice_in Tryd.underlying22 Tryd.underlying5 (by kernel_rfl) (B := 1) (by kernel_rfl) hsz (j := 1) rfl rfl h1
  clear hA0 hval0
  refine (walk W a0 len0 cap0 z0 a0b len0b cap0b z0b mk0 lg0 r0 f0 r0b f0b a1 len1 cap1 z1 r1 f1 b1 ht).mono fun e W' ⟨he, bel⟩ => ?_
  subst he
  exact ⟨_, rfl, _, _, _, [], _, [], hW', trodAll_mk1 (shut_bool Tryd.underlying4 _), (trodAll_cons_mk (Below.trod laidOut (by kernel_rfl) (of_decide_eq_true (by kernel_rfl)) k0 bel lt0) (trodAll_cons_mk (Below.trod laidOut (by kernel_rfl) (of_decide_eq_true (by kernel_rfl)) k1 bel lt1) trodAll_mk0)), rfl, bel.frame _, fun h => by cases h⟩

theorem over : Rows.tokenStatesRow.holds Tryd.pinned (OpenSpec.ofChange Rows.tokenStatesSpec) :=
  OpenClaim.holds_of_wide 4 Tryd.f4 rfl rfl rfl rfl rfl rfl rfl ⟨rfl, rfl, rfl, rfl, rfl⟩ rfl rfl rfl rfl rfl (by kernel_rfl) Tryd.func4 (by kernel_rfl)
    (of_decide_eq_true (by kernel_rfl)) (by unfold Func.isWrapper; first | (rw [if_pos (by decide +kernel)]; kernel_rfl) | (rw [if_neg (by decide +kernel)]; exact ⟨rfl, rfl⟩))
    (fun os started H enc _ => lifted os started H enc)
end Go.Proofs.YtdhbbknjnbdplaaDoor.tokenStates
namespace Go.Proofs.YtdhbbknjnbdplaaDoor
theorem tokenStates_holds : Rows.TokenStatesCardSaid :=
  Claim7.holds_tied_plain_at .later [] [.data, .data, .data, .pinned] true (true, "4104aba0c4a0260579566373d89a73fc2f2ff9297c441085109a77544f10a7ba") false tokenStates.over (fun _ h => by cases h) (by kernel_rfl) (fun _ h => by cases h) tokenStates_row_tie rfl ⟨rfl, rfl⟩ (by kernel_rfl) rfl
    (fun f fn hf hfn => by
      obtain rfl : f = 4 := Option.some.inj ((show Tryd.prog.funcNamed "mantelet/manteletlaw07.TokenStates" = some 4 by kernel_rfl).symm.trans hf) |>.symm
      obtain rfl : fn = Tryd.f4 := (Option.some.inj (Tryd.func4.symm.trans hfn)).symm
      exact ⟨by kernel_rfl, fun j t ht => by
        rw [Tryd.params4] at ht
        have hm : t ∈ [30, 22] := by simpa using Array.mem_of_getElem? ht
        have hall : ([30, 22].all fun u => !Tryd.prog.wantsStandIn u) = true := by kernel_rfl
        exact (show Tryd.prog.wantsStandIn t = false by simpa using List.all_eq_true.1 hall t hm)⟩)
    (by kernel_rfl)
#print axioms tokenStates_holds
end Go.Proofs.YtdhbbknjnbdplaaDoor
