/- The landed words.Feed, words.End, words.All. -/
import Derived.Test.YtdhbbknjnbdplaaDoorWordsStep
namespace Go.Proofs.YtdhbbknjnbdplaaDoor
open Go.RowKit
set_option linter.unusedVariables false
set_option linter.unusedSimpArgs false

theorem step_len (u : UnderW) (c : Int) : (stepW u c).1.length ≤ 1 := by
  unfold stepW
  split
  · simp
  · split
    · simp
    · exact tell_le u
theorem feed_len : ∀ (l : List Int) (u : UnderW), (feedW u l).1.length ≤ l.length
  | [], u => by simp [feedW]
  | c :: r, u => by
    have h1 := step_len u c
    have h2 := feed_len r (stepW u c).2
    simp only [feedW, List.length_append, List.length_cons]
    omega
theorem feed_snoc (u : UnderW) (zs : List Int) (j : Nat) (h : j < zs.length) :
    feedW u (zs.take (j + 1)) = ((feedW u (zs.take j)).1 ++ (stepW (feedW u (zs.take j)).2 (zs.getD j 0)).1, (stepW (feedW u (zs.take j)).2 (zs.getD j 0)).2) := by
  have : zs.take (j + 1) = zs.take j ++ [zs.getD j 0] := by rw [List.take_add_one, List.getD, List.getElem?_eq_getElem h]; rfl
  rw [this, feedW_app]
  simp [feedW]
theorem results_tmp_cell {fn : Func} {p q : Tmp} {ty : TypeId} (h : fn.results = #[.tmp p, .cell q ty]) (tmps : Array Value) (P : Program) (w : World) {x : Addr} {v : Value} (hx : tmps.getD q undef = .pointer (some x)) (hv : (loadVar ty x).run P w = .ok v w) :
    (results fn tmps).run P w = .ok (.tuple #[tmps.getD p undef, v]) w := by
  have hx' : tmps[q]?.getD undef = .pointer (some x) := by simpa using hx
  simp only [results, h]
  simp [Sem.run_bind, Result.andThen, hx', asAddr, hv]
theorem wsettled_v (ao : Option Addr) (len cap : Nat) (u : UnderW) (w : World) (mk lg : Bool) (hmk : u.mark = mk) (hlg : u.long = lg) (hr : Reads w ao len cap (u.word.map (.int .i32))) (hok : OkW u) :
    Calls Tryd.prog 50 #[.agg #[.slice ao len cap, .bool mk, .bool lg]] w fun e w' => ∃ bg d k, e = .returned (.agg #[.slice bg k d, .bool mk, .bool lg]) ∧ k = u.word.length ∧
      w'.ownsRow w.heap.size 21 1 (.slice bg k d) k (u.word.map (.int .i32)) ∧ Below w.heap.size w w' := by
  subst hmk; subst hlg
  exact wsettled_any ao len cap u w hr hok

def runesOk (zs : List Int) : Prop := ∀ z ∈ zs, -2147483648 ≤ z ∧ z ≤ 2147483647

set_option maxRecDepth 100000 in
set_option maxHeartbeats 4000000 in
theorem wfeed_any (ao : Option Addr) (len cap : Nat) (u : UnderW) (bo : Option Addr) (blen bcap : Nat) (zs : List Int) (w : World) (hr : Reads w ao len cap (u.word.map (.int .i32))) (hok : OkW u) (hk : Reads w bo blen bcap (zs.map (.int .i32))) (hz : runesOk zs) (hblen : blen ≤ 1000000000)
    (htb : Tabs w := by first | assumption | exact Tabs.grow (by assumption) (by assumption)) :
    Calls Tryd.prog 38 #[.agg #[.slice ao len cap, .bool u.mark, .bool u.long], .slice bo blen bcap] w fun e w' => ∃ ag c m bg d k,
      e = .returned (.tuple #[.slice ag m c, .agg #[.slice bg k d, .bool (feedW u zs).2.mark, .bool (feedW u zs).2.long]]) ∧ m = (feedW u zs).1.length ∧ k = (feedW u zs).2.word.length ∧
      w'.ownsRow w.heap.size 9 1 (.slice ag m c) m ((feedW u zs).1.map wordV) ∧ w'.ownsRow w.heap.size 21 1 (.slice bg k d) k ((feedW u zs).2.word.map (.int .i32)) ∧ Below w.heap.size w w' := by
  have hl : zs.length = blen := by simpa using hk.length
  generalize hmk : u.mark = mk
  generalize hlg : u.long = lg
  have Hmk : Hid _ := hmk
  have Hlg : Hid _ := hlg
  have hB2 : Below w.heap.size w ((w.alloc (.cells #[.slice ao len cap, .bool mk, .bool lg] 32)).alloc (.cells #[.slice none 0 0, .bool false, .bool false] 32)) := ((Below.refl _ _).alloc (Nat.le_refl _) _).alloc (by simp) _
  have hs2 : ((w.alloc (.cells #[.slice ao len cap, .bool mk, .bool lg] 32)).alloc (.cells #[.slice none 0 0, .bool false, .bool false] 32)).heap.size = w.heap.size + 2 := by simp
  have kr := heap_alloc2_new w (.cells #[.slice ao len cap, .bool mk, .bool lg] 32) (.cells #[.slice none 0 0, .bool false, .bool false] 32)
  clear hmk hlg
  go_enter Tryd.func38, Tryd.ntmps38
  go_wp2_with fail
  have hB3 : Below w.heap.size w (((w.alloc (.cells #[.slice ao len cap, .bool mk, .bool lg] 32)).alloc (.cells #[.slice none 0 0, .bool false, .bool false] 32)).alloc (.cells #[.slice none 0 0] 25)) := hB2.alloc hB2.size _
  refine (wsettled_v _ _ _ u _ _ _ Hmk.out Hlg.out (hr.later hB3 (Nat.le_refl _)) hok).mono ?_
  rintro e ws ⟨bs, ds, ks, rfl, hks, hos, hbs⟩
  have kt : ws.heap[w.heap.size + 2]? = some (Obj.cells #[.slice none 0 0] 25 (0, 0)) := by
    rw [hbs.block _ (by simp)]
    have := heap_alloc_new ((w.alloc (.cells #[.slice ao len cap, .bool mk, .bool lg] 32)).alloc (.cells #[.slice none 0 0, .bool false, .bool false] 32)) (.cells #[.slice none 0 0] 25)
    rwa [hs2] at this
  have kr' : ws.heap[w.heap.size + 1]? = some (Obj.cells #[.slice none 0 0, .bool false, .bool false] 32 (0, 0)) := by
    rw [hbs.block _ (by simp), Below.heap_alloc _ _ _ (by simp)]
    exact kr
  have hbw : Below w.heap.size w ws := Below.trans hB3 (hbs.mono (by simp; omega))
  have hss : w.heap.size + 3 ≤ ws.heap.size := by have := hbs.size; simpa using this
  have hos' : ws.ownsRow (w.heap.size + 2) 21 1 (.slice bs ks ds) ks (u.word.map (.int .i32)) := own_mono hos (by simp)
  have hI0 : InvW (w.heap.size + 2) (ws.alloc (.cells #[.slice bs ks ds, .bool mk, .bool lg] 32)) ws.heap.size (w.heap.size + 2) u [] :=
    ⟨by omega, Nat.le_refl _, ⟨bs, ds, ks, by rw [heap_alloc_new, Hmk.out, Hlg.out], hks, hos'.alloc _⟩, ⟨none, 0, 0, by rw [Below.heap_alloc _ _ _ (lt_of_block kt)]; exact kt, rfl, World.ownsRow_nil _ _ _ _⟩⟩
  have hR0 : (ws.alloc (.cells #[.slice bs ks ds, .bool mk, .bool lg] 32)).heap[w.heap.size + 1]? = some (Obj.cells #[.slice none 0 0, .bool false, .bool false] 32 (0, 0)) := by rw [Below.heap_alloc _ _ _ (lt_of_block kr')]; exact kr'
  have hW0 : Below w.heap.size w (ws.alloc (.cells #[.slice bs ks ds, .bool mk, .bool lg] 32)) := hbw.alloc hbw.size _
  have hsz0 : w.heap.size + 4 ≤ (ws.alloc (.cells #[.slice bs ks ds, .bool mk, .bool lg] 32)).heap.size := by simp; omega
  have hbi : (blen : Int) ≤ 1000000000 := by omega
  clear hB2 hB3 hs2 kr hr kt kr' hbw hos hos' hbs hks hss
  go_wp2_with fail
  go_loopw [16] (fun i wr => ∃ j : Nat, i = .int .i64 j ∧ j ≤ blen ∧ InvW (w.heap.size + 2) wr ws.heap.size (w.heap.size + 2) (feedW u (zs.take j)).2 (feedW u (zs.take j)).1 ∧ wr.heap[w.heap.size + 1]? = some (Obj.cells #[.slice none 0 0, .bool false, .bool false] 32 (0, 0)) ∧ Below w.heap.size w wr ∧ w.heap.size + 4 ≤ wr.heap.size) (fun i _ => (blen - intOf i).toNat)
  case atStart => exact ⟨0, rfl, by omega, by simpa [feedW] using hI0, hR0, hW0, hsz0⟩
  case round =>
    obtain ⟨j, rfl, hj, hI, hR, hW, hsz⟩ := hrel
    clear hI0 hR0 hW0 hsz0
    by_cases hjl : j = blen
    · subst hjl
      rw [List.take_of_length_le (by omega)] at hI
      obtain ⟨_, _, ⟨bg, d, k, hu, hku, hou⟩, ⟨ag, c, m, hv, hm, hot⟩⟩ := hI
      have cu := blk3 hu
      have ct := cell_of_one hv
      have cr := blk3 hR
      generalize hmk : (feedW u zs).2.mark = mk' at hu cu
      generalize hlg : (feedW u zs).2.long = lg' at hu cu
      have Hm2 : Hid _ := hm
      have Hk2 : Hid _ := hku
      have Hmk2 : Hid _ := hmk
      have Hlg2 : Hid _ := hlg
      clear hm hku hmk hlg
      go_wp2_with fail
      have hRd : wr.drew.heap[w.heap.size + 1]? = _ := hR
      have hld := load_state (blk3_set hRd (.slice bg k d) (.bool mk') (.bool lg'))
      have hB := below_set3 (Bu := w.heap.size + 1) hW.drew (by omega) (.slice bg k d) (.bool mk') (.bool lg')
      have hot2 := own_set3 (b := w.heap.size + 1) (World.ownsRow.drew (own_mono hot (Nat.le_add_right _ 2))) (own_not hot (by omega)) (.slice bg k d) (.bool mk') (.bool lg')
      have hou2 := own_set3 (b := w.heap.size + 1) (World.ownsRow.drew (own_mono hou (Nat.le_add_right _ 2))) (own_not hou (by omega)) (.slice bg k d) (.bool mk') (.bool lg')
      go_region
      all_goals go_wp2
      all_goals (rw [Hmk2.out, Hlg2.out]; exact bodyPost_ret (results_tmp_cell rfl _ _ _ rfl hld) rfl ⟨ag, c, m, bg, d, k, rfl, Hm2.out, Hk2.out, hot2, hou2, hB⟩)
    · have hjN : j < blen := by omega
      have hji : (j : Int) < blen := by omega
      have rq := hk.later hW (Nat.le_refl _)
      obtain ⟨b1, o1, rfl, hb1, hat1⟩ := rq.at (by omega)
      have hcj := hat1 j hjN
      have hzr := hz (zs.getD j 0) (by rw [List.getD, List.getElem?_eq_getElem (by omega)]; exact List.getElem_mem _)
      have hS : Hid _ := feed_snoc u zs j (by omega)
      have hts : (feedW u (zs.take j)).1.length ≤ 1000000000 := by have := feed_len (zs.take j) u; rw [List.length_take] at this; omega
      have hokj := feed_ok (zs.take j) hok
      have htj : Tabs wr := Tabs.grow hW htb
      clear hjl hat1
      generalize zs.getD j 0 = x at hcj hzr hS
      generalize feedW u (zs.take j) = F at hI hts hokj hS
      go_wp2_with fail
      refine (wstep_any (w.heap.size + 2) ws.heap.size (w.heap.size + 2) F.2 F.1 x wr hI hokj hzr (by omega) hts htj).mono ?_
      rintro e wb ⟨rfl, hIb, hbb⟩
      have hRb := (hbb.block _ (by omega)).trans hR
      have hWb : Below w.heap.size w wb := Below.trans hW (hbb.mono (by omega))
      have hszb : w.heap.size + 4 ≤ wb.heap.size := Nat.le_trans hsz hbb.size
      clear hI hR hW hsz hbb hokj hts hzr htj rq
      go_wp2
      go_roundw
      case rel => exact ⟨j + 1, by go_num, by omega, by rw [hS.out]; exact hIb, hRb, hWb, hszb⟩
      case measure => simp [intOf]; omega
#print axioms wfeed_any

theorem wfeed_v (ao : Option Addr) (len cap : Nat) (u : UnderW) (mk lg : Bool) (hmk : u.mark = mk) (hlg : u.long = lg) (bo : Option Addr) (blen bcap : Nat) (zs : List Int) (w : World) (hr : Reads w ao len cap (u.word.map (.int .i32))) (hok : OkW u) (hk : Reads w bo blen bcap (zs.map (.int .i32))) (hz : runesOk zs) (hblen : blen ≤ 1000000000)
    (htb : Tabs w := by first | assumption | exact Tabs.grow (by assumption) (by assumption)) :
    Calls Tryd.prog 38 #[.agg #[.slice ao len cap, .bool mk, .bool lg], .slice bo blen bcap] w fun e w' => ∃ ag c m bg d k mk' lg',
      e = .returned (.tuple #[.slice ag m c, .agg #[.slice bg k d, .bool mk', .bool lg']]) ∧ mk' = (feedW u zs).2.mark ∧ lg' = (feedW u zs).2.long ∧ m = (feedW u zs).1.length ∧ k = (feedW u zs).2.word.length ∧
      w'.ownsRow w.heap.size 9 1 (.slice ag m c) m ((feedW u zs).1.map wordV) ∧ w'.ownsRow w.heap.size 21 1 (.slice bg k d) k ((feedW u zs).2.word.map (.int .i32)) ∧ Below w.heap.size w w' := by
  subst hmk; subst hlg
  exact (wfeed_any ao len cap u bo blen bcap zs w hr hok hk hz hblen htb).mono fun e w' ⟨a, b, c, d, e, f, h1, h2⟩ => ⟨a, b, c, d, e, f, _, _, h1, rfl, rfl, h2⟩

set_option maxRecDepth 100000 in
theorem wend_any (ao : Option Addr) (len cap : Nat) (u : UnderW) (mk lg : Bool) (hmk : u.mark = mk) (hlg : u.long = lg) (w : World) (hr : Reads w ao len cap (u.word.map (.int .i32))) (hok : OkW u) :
    Calls Tryd.prog 40 #[.agg #[.slice ao len cap, .bool mk, .bool lg]] w fun e w' => ∃ ag c m, e = .returned (.slice ag m c) ∧ m = (tellW u).length ∧
      w'.ownsRow w.heap.size 9 1 (.slice ag m c) m ((tellW u).map wordV) ∧ Below w.heap.size w w' := by
  have Hmk : Hid _ := hmk
  have Hlg : Hid _ := hlg
  have hB1 : Below w.heap.size w (w.alloc (.cells #[.slice ao len cap, .bool mk, .bool lg] 32)) := (Below.refl _ _).alloc (Nat.le_refl _) _
  clear hmk hlg
  go_enter Tryd.func40, Tryd.ntmps40
  go_wp2_with fail
  refine (wsettled_v _ _ _ u _ _ _ Hmk.out Hlg.out (hr.later hB1 (Nat.le_refl _)) hok).mono ?_
  rintro e ws ⟨bs, ds, ks, rfl, hks, hos, hbs⟩
  have hbw : Below w.heap.size w ws := Below.trans hB1 (hbs.mono (by simp))
  clear hks hbs hB1
  go_wp2_with fail
  refine (wended_any _ _ _ u.word _ _ ws (Reads.own hos)).mono ?_
  rintro e we ⟨ae, ce, ke, rfl, hke, hoe, hbe⟩
  have hB : Below w.heap.size w we := Below.trans hbw (hbe.mono hbw.size)
  have ho := own_mono hoe hbw.size
  have Hke : Hid _ := hke
  clear hke hbe hbw hoe hos
  go_wp2
  go_ret
  exact ⟨ae, ce, ke, rfl, Hke.out, ho, hB⟩
#print axioms wend_any

set_option maxRecDepth 100000 in
set_option maxHeartbeats 1000000 in
theorem wall_any (bo : Option Addr) (blen bcap : Nat) (zs : List Int) (w : World) (hk : Reads w bo blen bcap (zs.map (.int .i32))) (hz : runesOk zs) (hblen : blen ≤ 1000000000)
    (htb : Tabs w := by first | assumption | exact Tabs.grow (by assumption) (by assumption)) :
    Calls Tryd.prog 22 #[.slice bo blen bcap] w fun e w' => ∃ ag c m, e = .returned (.slice ag m c) ∧ m = (wordsW zs).length ∧
      w'.ownsRow w.heap.size 9 1 (.slice ag m c) m ((wordsW zs).map wordV) ∧ Below w.heap.size w w' := by
  have hl : zs.length = blen := by simpa using hk.length
  have hfl := feed_len zs zeroW
  have hW := feed_words zs
  have hok := feed_ok zs zero_ok
  go_enter Tryd.func22, Tryd.ntmps22
  go_wp2_with fail
  refine (wfeed_v none 0 0 zeroW false false rfl rfl _ _ _ zs w (Reads.nil w) zero_ok hk hz hblen htb).mono ?_
  generalize feedW zeroW zs = F at hfl hW hok
  rintro e wa ⟨ag, c, m, bg, d, k, mk, lg, rfl, hmk, hlg, hm, hk2, hot, hou, hba⟩
  have hml : m ≤ 1000000000 := by omega
  have Hmk : Hid _ := hmk.symm
  have Hlg : Hid _ := hlg.symm
  have Hm : Hid _ := hm
  have HW : Hid _ := hW
  have hB1 : Below wa.heap.size wa (wa.alloc (.cells #[.slice bg k d, .bool mk, .bool lg] 32)) := (Below.refl _ _).alloc (Nat.le_refl _) _
  clear hmk hlg hm hk2 hfl hW
  go_wp2_with fail
  refine (wend_any _ _ _ F.2 _ _ Hmk.out Hlg.out _ ((Reads.own hou).later hB1 (Nat.le_refl _)) hok).mono ?_
  rintro e wb ⟨ae, ce, ke, rfl, hke, hoe, hbe⟩
  have hke1 : ke ≤ 1 := Nat.le_trans (Nat.le_of_eq hke) (tell_le _)
  have Hke : Hid _ := hke
  have hotb : wb.ownsRow w.heap.size 9 1 (.slice ag m c) m (F.1.map wordV) := own_later (own_later hot hB1 (Nat.le_refl _)) hbe (Nat.le_refl _)
  have hBb : Below w.heap.size w wb := Below.trans hba (Below.trans (hB1.mono hba.size) (hbe.mono (Nat.le_trans hba.size hB1.size)))
  have hsb := hBb.size
  clear hke hot hou hba hB1 hbe
  go_wp2_with (at_builtin; refine wpList_append_grown rfl (.tmp 11) (.tmp 13) 25 rfl w.heap.size 9 Tryd.infoStr rfl Tryd.underlying25 _ _ _ _ rfl hotb _ _ _ _ rfl (Reads.own hoe) (words_oneCell _) (by unfold maxLen; omega) (by omega) hsb ?_)
  intro ag3 c3 w3 hown3 hg3 hb3
  have hB3 : Below w.heap.size w w3 := Below.trans hBb hb3
  clear hotb hBb hb3 hg3 hoe
  go_wp2
  go_ret
  rw [← HW.out]
  exact ⟨ag3, c3, m + ke, rfl, by rw [List.length_append, ← Hm.out, ← Hke.out], by rw [List.map_append]; exact hown3, hB3⟩
#print axioms wall_any
end Go.Proofs.YtdhbbknjnbdplaaDoor
