/- token.Get. -/
import Derived.Test.YtdhbbknjnbdplaaDoorTokenNext
import Derived.Deep.RegionHeld
namespace Go.Proofs.YtdhbbknjnbdplaaDoor
open Go.RowKit
set_option linter.unusedVariables false
set_option linter.unusedSimpArgs false

/-- What Get tells, of whatever bytes. -/
def GetOut (w : World) (zs : List Int) (e : Ending) (w' : World) : Prop := ∃ pg pd pk bg d k mk lg er,
      e = .returned (.tuple #[.agg #[.slice pg pk pd, .slice bg k d, .bool mk, .bool lg], .int .i64 er]) ∧ mk = (outT (getT zs)).1.mark ∧ lg = (outT (getT zs)).1.long ∧ er = (outT (getT zs)).2 ∧ pk = (outT (getT zs)).1.pend.length ∧ k = (outT (getT zs)).1.word.length ∧
      (Reads w' pg pk pd ((outT (getT zs)).1.pend.map (.int .u8)) ∧ TypedAt w' pg pk 5 ∧ FreshAt w.heap.size pg pk) ∧ (Reads w' bg k d ((outT (getT zs)).1.word.map (.int .i32)) ∧ TypedAt w' bg k 21 ∧ FreshAt w.heap.size bg k) ∧ Below w.heap.size w w'
theorem tget_none {w w' : World} {zs : List Int} (h : getT zs = none) (hb : Below w.heap.size w w') : GetOut w zs (.returned (.tuple #[.agg #[.slice none 0 0, .slice none 0 0, .bool false, .bool false], .int .i64 2])) w' := by
  unfold GetOut
  rw [h]
  exact ⟨none, 0, 0, none, 0, 0, false, false, 2, rfl, rfl, rfl, rfl, rfl, rfl, ⟨Reads.nil _, fun h => absurd h (by decide), FreshAt.nil _⟩, ⟨Reads.nil _, fun h => absurd h (by decide), FreshAt.nil _⟩, hb⟩
theorem tget_some {w w' : World} {zs : List Int} {p a : List Int} {mk lg : Bool} {pg bg : Option Addr} {pd pk d k : Nat} (h : getT zs = some ⟨p, a, mk, lg⟩) (hpk : pk = p.length) (hk : k = a.length)
    (hp : w'.ownsRow w.heap.size 5 1 (.slice pg pk pd) pk (p.map (.int .u8))) (ha : w'.ownsRow w.heap.size 21 1 (.slice bg k d) k (a.map (.int .i32))) (hb : Below w.heap.size w w') :
    GetOut w zs (.returned (.tuple #[.agg #[.slice pg pk pd, .slice bg k d, .bool mk, .bool lg], .int .i64 0])) w' := by
  unfold GetOut
  rw [h]
  exact ⟨pg, pd, pk, bg, d, k, mk, lg, 0, rfl, rfl, rfl, rfl, hpk, hk, ⟨Reads.own hp, typed_own hp, fresh_own hp⟩, ⟨Reads.own ha, typed_own ha, fresh_own ha⟩, hb⟩

theorem rest_cut {w wc : World} {Br l c : Nat} {v : Value} {x2 : Option Addr} {rs : List Int} (hcc : wc.heap[Br]? = some (Obj.cells #[v] 22 (0, 0))) (rd : Reads w x2 l c (rs.map (.int .u8))) (hB : Below w.heap.size w wc) (hBr : w.heap.size ≤ Br) :
    RestAt w (wc.setCell ⟨Br, 0, none⟩ (.slice x2 l c)) Br rs := ⟨x2, l, c, one_setCell hcc, rd, hB.setCell hBr _, hBr⟩
theorem set_old {w : World} {b k : Nat} {o : Obj} (h : w.heap[k]? = some o) (hne : k ≠ b) (i : Nat) (u : Value) : (w.setCell ⟨b, i, none⟩ u).heap[k]? = some o := (Below.heap_setCell _ _ _ _ hne).trans h
theorem and01 : bits BinOp.and IntKind.u8 0 1 = 0 := by decide
theorem and02 : bits BinOp.and IntKind.u8 0 2 = 0 := by decide
theorem and11 : bits BinOp.and IntKind.u8 1 1 = 1 := by decide
theorem and12 : bits BinOp.and IntKind.u8 1 2 = 0 := by decide
theorem and21 : bits BinOp.and IntKind.u8 2 1 = 0 := by decide
theorem and22 : bits BinOp.and IntKind.u8 2 2 = 2 := by decide
theorem and31 : bits BinOp.and IntKind.u8 3 1 = 1 := by decide
theorem and32 : bits BinOp.and IntKind.u8 3 2 = 2 := by decide

set_option maxRecDepth 100000 in
set_option maxHeartbeats 8000000 in
theorem tget_out (bo : Option Addr) (blen bcap : Nat) (zs : List Int) (w : World) (hk : Reads w bo blen bcap (zs.map (.int .u8))) (h8 : isBytes zs) (hblen : blen ≤ 140737488351232)
    (htb : Tabs w := by first | assumption | exact Tabs.grow (by assumption) (by assumption)) :
    Calls Tryd.prog 13 #[.slice bo blen bcap] w fun e w' => GetOut w zs e w' := by
  have hl : zs.length = blen := by simpa using hk.length
  have hmf : ∀ (fn : Fn) (first cap : Array Value) (w : World), (Instr.makeFunc fn first cap).run Tryd.prog w = .ok (.func fn first cap) w := fun _ _ _ _ => rfl
  have hB2 : Below w.heap.size w ((w.alloc (.cells #[.slice none 0 0, .slice none 0 0, .bool false, .bool false] 34)).alloc (.cells #[.slice bo blen bcap] 22)) := ((Below.refl _ _).alloc (Nat.le_refl _) _).alloc (by simp) _
  have k0 := heap_alloc2_old w (.cells #[.slice none 0 0, .slice none 0 0, .bool false, .bool false] 34) (.cells #[.slice bo blen bcap] 22)
  have k1 := heap_alloc2_new w (.cells #[.slice none 0 0, .slice none 0 0, .bool false, .bool false] 34) (.cells #[.slice bo blen bcap] 22)
  have hR0 : RestAt w ((w.alloc (.cells #[.slice none 0 0, .slice none 0 0, .bool false, .bool false] 34)).alloc (.cells #[.slice bo blen bcap] 22)) (w.heap.size + 1) zs := ⟨bo, blen, bcap, k1, hk, hB2, by omega⟩
  clear hk
  go_enter Tryd.func13, Tryd.ntmps13
  go_wp2_with fail
  generalize hW2 : ((w.alloc (.cells #[.slice none 0 0, .slice none 0 0, .bool false, .bool false] 34)).alloc (.cells #[.slice bo blen bcap] 22)) = W2 at hB2 k0 k1 hR0 ⊢
  refine (tnext_any w (w.heap.size + 1) zs blen W2 hR0 h8 hblen).mono ?_
  intro e wa hN
  unfold NextOut at hN
  obtain ⟨n, at', f, hg⟩ : ∃ n at' f, getL zs = (n, at', f) := ⟨_, _, _, rfl⟩
  rw [hg] at hN
  have Hg : Hid _ := hg
  clear hg hW2 hR0
  rcases hN with ⟨h1, h2, rfl, hR, hK, v, rfl⟩ | ⟨h1, rfl, rfl⟩
  case inr =>
    have hE : Hid (getT zs = none) := getT_bad Hg.out (by simp only at h1; omega)
    clear h1
    have hB := below_set4 (b := w.heap.size) hB2 (Nat.le_refl _) (.slice none 0 0) (.slice none 0 0) (.bool false) (.bool false)
    have hld := load_tok (blk4_set k0 (.slice none 0 0) (.slice none 0 0) (.bool false) (.bool false))
    have cz0 := blk4 k0
    go_wp2
    refine bodyPost_ret (results_cell_tmp rfl _ _ _ (x := ⟨w.heap.size, 0, none⟩) rfl hld) rfl ?_
    exact tget_none hE.out hB
  simp only at h1 h2
  subst h1
  obtain ⟨rg, rl, rc, hc3, hr3, hB3, _⟩ := hR
  have k03 := hK.kept _ _ _ _ k0 (by decide)
  generalize hW3 : W2.setCell ⟨w.heap.size + 1, 0, none⟩ v = W3 at hc3 hB3 hK k03 ⊢
  clear hW3 hK hB2 k0 k1
  have c3 := cell_of_one hc3
  have cf3 := free_of_one hc3
  have hok := get_ok zs h8 n at' Hg.out
  have hrl : rl = blen - at' := by have := hr3.length; simp at this; omega
  have hrl1 : rl ≤ blen := by omega
  have Hrl : Hid _ := hrl
  have hcr := hr3.le
  clear hrl
  by_cases hn : rl < n
  · have hE : Hid (getT zs = none) := getT_bad Hg.out (.inr (.inl (by have := Hrl.out; omega)))
    have hni : (rl : Int) < n := by omega
    clear hn
    have hB := below_set4 (b := w.heap.size) hB3 (Nat.le_refl _) (.slice none 0 0) (.slice none 0 0) (.bool false) (.bool false)
    have hld := load_tok (blk4_set k03 (.slice none 0 0) (.slice none 0 0) (.bool false) (.bool false))
    have cz0 := blk4 k03
    go_wp2
    refine bodyPost_ret (results_cell_tmp rfl _ _ _ (x := ⟨w.heap.size, 0, none⟩) rfl hld) rfl ?_
    exact tget_none hE.out hB
  have hni : (n : Int) ≤ rl := by omega
  have hn' : n ≤ rl := by omega
  have hnn : (0 : Int) ≤ n := by omega
  obtain ⟨x1, hs1, hd1⟩ := Reads.to (P := Tryd.prog) Tryd.underlying22 (size_of Tryd.infoByte) (ao := rg) (len := rl) (cap := rc) hcr n hn'
  obtain ⟨x2, hs2, hd2⟩ := Reads.from (P := Tryd.prog) Tryd.underlying22 (size_of Tryd.infoByte) (ao := rg) (len := rl) (cap := rc) n hn'
  have rd1 := hd1 _ _ (hr3.later hB3 (Nat.le_refl _))
  have rd2 := hd2 _ _ hr3
  rw [← List.map_take] at rd1
  rw [← List.map_drop, List.drop_drop] at rd2
  generalize hp : (zs.drop at').take n = p at rd1
  have Hp : Hid _ := hp
  have p8 : isBytes p := fun z hz => h8 z (List.mem_of_mem_drop (List.mem_of_mem_take (by rw [hp]; exact hz)))
  have hpn : Hid (n = p.length) := by show _ = _; have := rd1.length; simp at this; omega
  have r8 := runes_drop h8 (at' + n)
  have hsz3 := hB3.size
  clear hn hp hd1 hd2 hr3
  go_wp2_with fail
  refine (clone_any x1 n rc p W3 rd1 (by omega)).mono ?_
  rintro e wc ⟨pg, pd, rfl, hop, hbc⟩
  have hop1 := own_mono hop hsz3
  have hcc := (hbc.block _ (lt_of_block hc3)).trans hc3
  have k0c := (hbc.block _ (lt_of_block k03)).trans k03
  have hBc : Below w.heap.size w wc := Below.trans hB3 (hbc.mono hsz3)
  clear hop hbc rd1 hc3 c3 cf3 k03 hB3 hsz3
  rcases Nat.eq_zero_or_pos n with hn0 | hn0
  case' inl =>
    have hE0 : Hid (getT zs = getT2 p (zs.drop (at' + n))) := by show _ = _; rw [getT_mid Hg.out (by have := Hrl.out; omega) (.inl hn0), Hp.out]
    have hn0i : ¬ (0 : Int) < n := by omega
    have c4 := cell_of_one hcc
    have cf4 := free_of_one hcc
    clear hn0 Hg Hp
    go_wp2_with fail
  case' inr =>
    have hn0i : (0 : Int) < n := by omega
    have htc := Tabs.grow hBc htb
    have c4 := cell_of_one hcc
    have cf4 := free_of_one hcc
    go_wp2_with fail
    refine (upending_any pg n pd p wc (Reads.own hop1) p8 (by omega) htc).mono ?_
    rintro e wc ⟨rfl, hbd⟩
    have hop2 := own_later hop1 hbd (Nat.le_refl _)
    have hcd := (hbd.block _ (lt_of_block hcc)).trans hcc
    have k0d := (hbd.block _ (lt_of_block k0c)).trans k0c
    have hBd : Below w.heap.size w wc := Below.trans hBc (hbd.mono hBc.size)
    clear hop1 hcc k0c hBc hbd c4 cf4 htc
    have hop1 := hop2
    have hcc := hcd
    have k0c := k0d
    have hBc := hBd
    clear hop2 hcd k0d hBd
    by_cases hpd : pendU p
    case neg =>
      have hE : Hid (getT zs = none) := getT_bad Hg.out (.inr (.inr ⟨by omega, by rw [Hp.out]; exact hpd⟩))
      simp only [hpd, decide_false]
      have hB := below_set4 (b := w.heap.size) hBc (Nat.le_refl _) (.slice none 0 0) (.slice none 0 0) (.bool false) (.bool false)
      have hld := load_tok (blk4_set k0c (.slice none 0 0) (.slice none 0 0) (.bool false) (.bool false))
      have cz0 := blk4 k0c
      go_wp2
      refine bodyPost_ret (results_cell_tmp rfl _ _ _ (x := ⟨w.heap.size, 0, none⟩) rfl hld) rfl ?_
      exact tget_none hE.out hB
    have hE0 : Hid (getT zs = getT2 p (zs.drop (at' + n))) := by show _ = _; rw [getT_mid Hg.out (by have := Hrl.out; omega) (.inr (by rw [Hp.out]; exact hpd)), Hp.out]
    simp only [hpd, decide_true]
    have c4 := cell_of_one hcc
    have cf4 := free_of_one hcc
    clear hn0 Hg Hp hpd
    go_wp2_with fail
  all_goals
    have hRz := rest_cut hcc rd2 hBc (by omega : w.heap.size ≤ w.heap.size + 1)
    have k0z := set_old k0c (by omega : w.heap.size ≠ w.heap.size + 1) 0 (.slice x2 (rl - n) (rc - n))
    have hopz := ownsRow_setCell_other (a := ⟨w.heap.size + 1, 0, none⟩) hop1 (own_type hop1 hcc (by decide)) (.slice x2 (rl - n) (rc - n))
    have hszz := hRz.grow.size
    generalize hwz : wc.setCell ⟨w.heap.size + 1, 0, none⟩ (.slice x2 (rl - n) (rc - n)) = wz at hRz k0z hopz hszz ⊢
    clear hwz hcc k0c hop1 hBc c4 cf4 hs1 hs2 rd2
    refine (tword_any w (w.heap.size + 1) (zs.drop (at' + n)) wz hRz r8).mono ?_
    intro e we hW
    unfold WordOut at hW
    obtain ⟨hKe, hW⟩ := hW
    have k0e := hKe.kept _ _ _ _ k0z (by decide)
    rcases hW with ⟨acc, rest, bg, d, k, hwt, rfl, hkl0, hoa, hRe, e8⟩ | ⟨hwt, rfl, rest, hRe⟩
    rotate_left
    · have hE : Hid (getT zs = none) := by show _ = _; rw [hE0.out, getT2_word, hwt]; rfl
      have hBe := hRe.grow
      clear hRz hwt hKe
      have hB := below_set4 (b := w.heap.size) hBe (Nat.le_refl _) (.slice none 0 0) (.slice none 0 0) (.bool false) (.bool false)
      have hld := load_tok (blk4_set k0e (.slice none 0 0) (.slice none 0 0) (.bool false) (.bool false))
      have cz0 := blk4 k0e
      go_wp2
      refine bodyPost_ret (results_cell_tmp rfl _ _ _ (x := ⟨w.heap.size, 0, none⟩) rfl hld) rfl ?_
      exact tget_none hE.out hB
    have hE1 : Hid (getT zs = (flagT rest).map fun f => ⟨p, acc, f.1, f.2⟩) := by show _ = _; rw [hE0.out, getT2_word, hwt]; rfl
    have hope := own_kept hopz hKe (by decide)
    have hoae := own_mono hoa hszz
    have hkl : Hid _ := hkl0
    obtain ⟨qg, ql, qc, hce, hqe, hBe, _⟩ := hRe
    have hql : rest.length = ql := by simpa using hqe.length
    have c5 := cell_of_one hce
    clear hRz hwt hKe hopz hoa hkl0 k0z
    by_cases hq1 : ql = 1
    rotate_left
    · have hE : Hid (getT zs = none) := by show _ = _; rw [hE1.out, flag_short (by omega)]; rfl
      have hqi : ¬ (ql : Int) = 1 := by omega
      clear hq1 hql
      have hB := below_set4 (b := w.heap.size) hBe (Nat.le_refl _) (.slice none 0 0) (.slice none 0 0) (.bool false) (.bool false)
      have hld := load_tok (blk4_set k0e (.slice none 0 0) (.slice none 0 0) (.bool false) (.bool false))
      have cz0 := blk4 k0e
      go_wp2
      refine bodyPost_ret (results_cell_tmp rfl _ _ _ (x := ⟨w.heap.size, 0, none⟩) rfl hld) rfl ?_
      exact tget_none hE.out hB
    subst hq1
    obtain ⟨x0, hx0⟩ : ∃ x0, rest = [x0] := List.length_eq_one_iff.1 hql
    subst hx0
    have hx8 := e8 x0 (by simp)
    obtain ⟨b1, o1, rfl, hb1, hat1⟩ := hqe.at (by decide)
    obtain ⟨x, rfl⟩ := Int.eq_ofNat_of_zero_le hx8.1
    have hcx : we.cell? ⟨b1, o1, none⟩ = some (.int .u8 (x : Int)) := (hBe.cell (p := ⟨b1, o1, none⟩) hb1).trans (hat1 0 (by decide))
    have n1 : b1 ≠ w.heap.size := by omega
    have n2 : w.heap.size ≠ b1 := by omega
    have n3 : b1 < we.heap.size := Nat.lt_of_lt_of_le hb1 hBe.size
    have n4 : w.heap.size + 1 < we.heap.size := lt_of_block hce
    have n5 : w.heap.size < we.heap.size := by omega
    have kA : ∀ o, (we.alloc o).heap[w.heap.size]? = some (Obj.cells #[.slice none 0 0, .slice none 0 0, .bool false, .bool false] 34 (0, 0)) := fun o => (Below.heap_alloc we o _ (lt_of_block k0e)).trans k0e
    have cA := fun o => blk4 (kA o)
    have cB := blk4 k0e
    have cC : ∀ o, (we.alloc o).cell? ⟨w.heap.size + 1, 0, none⟩ = some (.slice (some ⟨b1, o1, none⟩) 1 qc) := fun o => cell_of_one ((Below.heap_alloc we o _ (lt_of_block hce)).trans hce)
    have cD : ∀ o, (we.alloc o).cell? ⟨b1, o1, none⟩ = some (.int .u8 (x : Int)) := fun o => (((Below.refl we.heap.size we).alloc (Nat.le_refl _) o).cell (p := ⟨b1, o1, none⟩) n3).trans hcx
    have n6 : w.heap.size ≠ we.heap.size := by omega
    have n7 : we.heap.size ≠ w.heap.size := by omega
    clear hat1 hql hqe e8 hx8 kA hce
    by_cases hx3 : 3 < x
    · have hE : Hid (getT zs = none) := by
        show _ = _
        rw [hE1.out]
        simp only [flagT]
        rw [if_neg (by omega)]; rfl
      have hx3i : (3 : Int) < x := by omega
      clear hx3
      have hB := below_set4 (b := w.heap.size) hBe (Nat.le_refl _) (.slice none 0 0) (.slice none 0 0) (.bool false) (.bool false)
      have hld := load_tok (blk4_set k0e (.slice none 0 0) (.slice none 0 0) (.bool false) (.bool false))
      have cz0 := blk4 k0e
      go_wp2
      refine bodyPost_ret (results_cell_tmp rfl _ _ _ (x := ⟨w.heap.size, 0, none⟩) rfl hld) rfl ?_
      exact tget_none hE.out hB
    have hx4 : x = 0 ∨ x = 1 ∨ x = 2 ∨ x = 3 := by omega
    clear hx3
    rcases hx4 with rfl | rfl | rfl | rfl
    · skip
      have hE : Hid (getT zs = some ⟨p, acc, false, false⟩) := by show _ = _; rw [hE1.out]; rfl
      have q1 := blk4_set k0e (.slice pg n pd) (.slice bg k d) (.bool false) (.bool false)
      have hkx : KeptBut 34 we _ := (KeptBut.refl 34 we).cells4 k0e (.slice pg n pd) (.slice bg k d) (.bool false) (.bool false)
      have hB2 := below_set4 (b := w.heap.size) hBe (Nat.le_refl _) (.slice pg n pd) (.slice bg k d) (.bool false) (.bool false)
      generalize hWE : ((((we.setCell ⟨w.heap.size, 0, none⟩ (.slice pg n pd)).setCell ⟨w.heap.size, 1, none⟩ (.slice bg k d)).setCell ⟨w.heap.size, 2, none⟩ (.bool false)).setCell ⟨w.heap.size, 3, none⟩ (.bool false)) = WE at q1 hkx hB2
      have hbx : Below WE.heap.size WE (WE.alloc (.cells #[.slice bg k d, .bool false, .bool false] 32)).drew := ((Below.refl _ _).alloc (Nat.le_refl _) _).drew
      have hld : (loadVar 34 ⟨w.heap.size, 0, none⟩).run Tryd.prog (WE.alloc (.cells #[.slice bg k d, .bool false, .bool false] 32)).drew = _ := load_tok ((hbx.block _ (lt_of_block q1)).trans q1)
      have hp3 := own_later (own_kept hope hkx (by decide)) hbx (Nat.le_refl _)
      have ha3 := own_later (own_kept hoae hkx (by decide)) hbx (Nat.le_refl _)
      have hB3 : Below w.heap.size w (WE.alloc (.cells #[.slice bg k d, .bool false, .bool false] 32)).drew := Below.trans hB2 (hbx.mono hB2.size)
      have HWE : Hid _ := hWE
      have hA1 := and01
      have hA2 := and02
      clear hkx hbx hB2 hope hoae q1 hWE hE1 hBe
      go_wp2_with fail
      go_region
      all_goals go_wp2
      all_goals rw [HWE.out]
      all_goals refine bodyPost_ret (results_cell_tmp rfl _ _ _ (x := ⟨w.heap.size, 0, none⟩) rfl hld) rfl ?_
      all_goals exact tget_some hE.out hpn.out hkl.out hp3 ha3 hB3
    · skip
      have hE : Hid (getT zs = some ⟨p, acc, true, false⟩) := by show _ = _; rw [hE1.out]; rfl
      have q1 := blk4_set k0e (.slice pg n pd) (.slice bg k d) (.bool true) (.bool false)
      have hkx : KeptBut 34 we _ := (KeptBut.refl 34 we).cells4 k0e (.slice pg n pd) (.slice bg k d) (.bool true) (.bool false)
      have hB2 := below_set4 (b := w.heap.size) hBe (Nat.le_refl _) (.slice pg n pd) (.slice bg k d) (.bool true) (.bool false)
      generalize hWE : ((((we.setCell ⟨w.heap.size, 0, none⟩ (.slice pg n pd)).setCell ⟨w.heap.size, 1, none⟩ (.slice bg k d)).setCell ⟨w.heap.size, 2, none⟩ (.bool true)).setCell ⟨w.heap.size, 3, none⟩ (.bool false)) = WE at q1 hkx hB2
      have hbx : Below WE.heap.size WE (WE.alloc (.cells #[.slice bg k d, .bool true, .bool false] 32)).drew := ((Below.refl _ _).alloc (Nat.le_refl _) _).drew
      have hld : (loadVar 34 ⟨w.heap.size, 0, none⟩).run Tryd.prog (WE.alloc (.cells #[.slice bg k d, .bool true, .bool false] 32)).drew = _ := load_tok ((hbx.block _ (lt_of_block q1)).trans q1)
      have hp3 := own_later (own_kept hope hkx (by decide)) hbx (Nat.le_refl _)
      have ha3 := own_later (own_kept hoae hkx (by decide)) hbx (Nat.le_refl _)
      have hB3 : Below w.heap.size w (WE.alloc (.cells #[.slice bg k d, .bool true, .bool false] 32)).drew := Below.trans hB2 (hbx.mono hB2.size)
      have HWE : Hid _ := hWE
      have hA1 := and11
      have hA2 := and12
      clear hkx hbx hB2 hope hoae q1 hWE hE1 hBe
      go_wp2_with fail
      go_region
      all_goals go_wp2
      all_goals rw [HWE.out]
      all_goals refine bodyPost_ret (results_cell_tmp rfl _ _ _ (x := ⟨w.heap.size, 0, none⟩) rfl hld) rfl ?_
      all_goals exact tget_some hE.out hpn.out hkl.out hp3 ha3 hB3
    · skip
      have hE : Hid (getT zs = some ⟨p, acc, false, true⟩) := by show _ = _; rw [hE1.out]; rfl
      have q1 := blk4_set k0e (.slice pg n pd) (.slice bg k d) (.bool false) (.bool true)
      have hkx : KeptBut 34 we _ := (KeptBut.refl 34 we).cells4 k0e (.slice pg n pd) (.slice bg k d) (.bool false) (.bool true)
      have hB2 := below_set4 (b := w.heap.size) hBe (Nat.le_refl _) (.slice pg n pd) (.slice bg k d) (.bool false) (.bool true)
      generalize hWE : ((((we.setCell ⟨w.heap.size, 0, none⟩ (.slice pg n pd)).setCell ⟨w.heap.size, 1, none⟩ (.slice bg k d)).setCell ⟨w.heap.size, 2, none⟩ (.bool false)).setCell ⟨w.heap.size, 3, none⟩ (.bool true)) = WE at q1 hkx hB2
      have hbx : Below WE.heap.size WE (WE.alloc (.cells #[.slice bg k d, .bool false, .bool true] 32)).drew := ((Below.refl _ _).alloc (Nat.le_refl _) _).drew
      have hld : (loadVar 34 ⟨w.heap.size, 0, none⟩).run Tryd.prog (WE.alloc (.cells #[.slice bg k d, .bool false, .bool true] 32)).drew = _ := load_tok ((hbx.block _ (lt_of_block q1)).trans q1)
      have hp3 := own_later (own_kept hope hkx (by decide)) hbx (Nat.le_refl _)
      have ha3 := own_later (own_kept hoae hkx (by decide)) hbx (Nat.le_refl _)
      have hB3 : Below w.heap.size w (WE.alloc (.cells #[.slice bg k d, .bool false, .bool true] 32)).drew := Below.trans hB2 (hbx.mono hB2.size)
      have HWE : Hid _ := hWE
      have hA1 := and21
      have hA2 := and22
      clear hkx hbx hB2 hope hoae q1 hWE hE1 hBe
      go_wp2_with fail
      go_region
      all_goals go_wp2
      all_goals rw [HWE.out]
      all_goals refine bodyPost_ret (results_cell_tmp rfl _ _ _ (x := ⟨w.heap.size, 0, none⟩) rfl hld) rfl ?_
      all_goals exact tget_some hE.out hpn.out hkl.out hp3 ha3 hB3
    · skip
      have hE : Hid (getT zs = some ⟨p, acc, true, true⟩) := by show _ = _; rw [hE1.out]; rfl
      have q1 := blk4_set k0e (.slice pg n pd) (.slice bg k d) (.bool true) (.bool true)
      have hkx : KeptBut 34 we _ := (KeptBut.refl 34 we).cells4 k0e (.slice pg n pd) (.slice bg k d) (.bool true) (.bool true)
      have hB2 := below_set4 (b := w.heap.size) hBe (Nat.le_refl _) (.slice pg n pd) (.slice bg k d) (.bool true) (.bool true)
      generalize hWE : ((((we.setCell ⟨w.heap.size, 0, none⟩ (.slice pg n pd)).setCell ⟨w.heap.size, 1, none⟩ (.slice bg k d)).setCell ⟨w.heap.size, 2, none⟩ (.bool true)).setCell ⟨w.heap.size, 3, none⟩ (.bool true)) = WE at q1 hkx hB2
      have hbx : Below WE.heap.size WE (WE.alloc (.cells #[.slice bg k d, .bool true, .bool true] 32)).drew := ((Below.refl _ _).alloc (Nat.le_refl _) _).drew
      have hld : (loadVar 34 ⟨w.heap.size, 0, none⟩).run Tryd.prog (WE.alloc (.cells #[.slice bg k d, .bool true, .bool true] 32)).drew = _ := load_tok ((hbx.block _ (lt_of_block q1)).trans q1)
      have hp3 := own_later (own_kept hope hkx (by decide)) hbx (Nat.le_refl _)
      have ha3 := own_later (own_kept hoae hkx (by decide)) hbx (Nat.le_refl _)
      have hB3 : Below w.heap.size w (WE.alloc (.cells #[.slice bg k d, .bool true, .bool true] 32)).drew := Below.trans hB2 (hbx.mono hB2.size)
      have HWE : Hid _ := hWE
      have hA1 := and31
      have hA2 := and32
      clear hkx hbx hB2 hope hoae q1 hWE hE1 hBe
      go_wp2_with fail
      go_region
      all_goals go_wp2
      all_goals rw [HWE.out]
      all_goals refine bodyPost_ret (results_cell_tmp rfl _ _ _ (x := ⟨w.heap.size, 0, none⟩) rfl hld) rfl ?_
      all_goals exact tget_some hE.out hpn.out hkl.out hp3 ha3 hB3
#print axioms tget_out
theorem tget_any (bo : Option Addr) (blen bcap : Nat) (zs : List Int) (w : World) (hk : Reads w bo blen bcap (zs.map (.int .u8))) (h8 : isBytes zs) (hblen : blen ≤ 140737488351232)
    (htb : Tabs w := by first | assumption | exact Tabs.grow (by assumption) (by assumption)) :
    Calls Tryd.prog 13 #[.slice bo blen bcap] w fun e w' => ∃ pg pd pk bg d k mk lg er,
      e = .returned (.tuple #[.agg #[.slice pg pk pd, .slice bg k d, .bool mk, .bool lg], .int .i64 er]) ∧ mk = (outT (getT zs)).1.mark ∧ lg = (outT (getT zs)).1.long ∧ er = (outT (getT zs)).2 ∧ pk = (outT (getT zs)).1.pend.length ∧ k = (outT (getT zs)).1.word.length ∧
      (Reads w' pg pk pd ((outT (getT zs)).1.pend.map (.int .u8)) ∧ TypedAt w' pg pk 5 ∧ FreshAt w.heap.size pg pk) ∧ (Reads w' bg k d ((outT (getT zs)).1.word.map (.int .i32)) ∧ TypedAt w' bg k 21 ∧ FreshAt w.heap.size bg k) ∧ Below w.heap.size w w' :=
  tget_out bo blen bcap zs w hk h8 hblen htb
#print axioms tget_any
end Go.Proofs.YtdhbbknjnbdplaaDoor
