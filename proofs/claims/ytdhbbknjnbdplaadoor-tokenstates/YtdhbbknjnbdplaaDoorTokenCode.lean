/- token.Feed, token.End, token.All. -/
import Derived.Test.YtdhbbknjnbdplaaDoorWordsFed
import Derived.Test.YtdhbbknjnbdplaaDoorUtfCode
import Derived.Test.YtdhbbknjnbdplaaDoorTokenMath
namespace Go.Proofs.YtdhbbknjnbdplaaDoor
open Go.RowKit
set_option linter.unusedVariables false
set_option linter.unusedSimpArgs false

theorem blk4 {w : World} {b : Nat} {x y z v : Value} {t : TypeId} (h : w.heap[b]? = some (.cells #[x, y, z, v] t (0, 0))) :
    w.cell? ⟨b, 0, none⟩ = some x ∧ w.cell? ⟨b, 1, none⟩ = some y ∧ w.cell? ⟨b, 2, none⟩ = some z ∧ w.cell? ⟨b, 3, none⟩ = some v ∧ w.frozen? ⟨b, 0, none⟩ = false ∧ w.frozen? ⟨b, 1, none⟩ = false ∧ w.frozen? ⟨b, 2, none⟩ = false ∧ w.frozen? ⟨b, 3, none⟩ = false := by
  refine ⟨?_, ?_, ?_, ?_, ?_, ?_, ?_, ?_⟩ <;> simp [World.cell?, World.frozen?, h]
theorem blk4_one {w : World} {b : Nat} {x y z v : Value} {t : TypeId} (h : w.heap[b]? = some (.cells #[x, y, z, v] t (0, 0))) (i : Nat) (u : Value) :
    (w.setCell ⟨b, i, none⟩ u).heap[b]? = some (.cells (#[x, y, z, v].setIfInBounds i u) t (0, 0)) := by
  have hlt := lt_of_block h
  have h' : w.heap[b] = .cells #[x, y, z, v] t (0, 0) := by simpa [Array.getElem?_eq_getElem hlt] using h
  show (w.heap.modify b _)[b]? = _
  rw [Array.getElem?_eq_getElem (by simpa using hlt), Array.getElem_modify_self, h']
  rfl
theorem blk4_set {w : World} {b : Nat} {x y z v : Value} {t : TypeId} (h : w.heap[b]? = some (.cells #[x, y, z, v] t (0, 0))) (x' y' z' v' : Value) :
    ((((w.setCell ⟨b, 0, none⟩ x').setCell ⟨b, 1, none⟩ y').setCell ⟨b, 2, none⟩ z').setCell ⟨b, 3, none⟩ v').heap[b]? = some (.cells #[x', y', z', v'] t (0, 0)) :=
  blk4_one (blk4_one (blk4_one (blk4_one h 0 x') 1 y') 2 z') 3 v'
theorem load_tok {w : World} {b : Nat} {x y z v : Value} {t : TypeId} (h : w.heap[b]? = some (.cells #[x, y, z, v] t (0, 0))) : (loadVar 34 ⟨b, 0, none⟩).run Tryd.prog w = .ok (.agg #[x, y, z, v]) w := by
  obtain ⟨h0, h1, h2, h3, _⟩ := blk4 h
  simp [loadVar, Tryd.isAgg34, Tryd.sizeOf34, loadCells, loadCellsFrom, go_sem, h0, h1, h2, h3]

theorem KeptBut.cell {e b : Nat} {w w' : World} {cs : Array Value} {fr : Nat × Nat} (h : KeptBut e w w') (hb : w'.heap[b]? = some (Obj.cells cs e fr)) (i : Nat) (u : Value) : KeptBut e w (w'.setCell ⟨b, i, none⟩ u) :=
  ⟨by simpa using h.size, fun k cs' t fr' hk ht => by
    have h1 := h.kept k cs' t fr' hk ht
    have hne : k ≠ b := fun he => by subst he; rw [hb] at h1; simp at h1; exact ht h1.2.1.symm
    rw [Below.heap_setCell _ _ _ _ hne]; exact h1⟩
theorem KeptBut.cells4 {e b : Nat} {w w' : World} {x y z v : Value} (h : KeptBut e w w') (hb : w'.heap[b]? = some (Obj.cells #[x, y, z, v] e (0, 0))) (x' y' z' v' : Value) :
    KeptBut e w ((((w'.setCell ⟨b, 0, none⟩ x').setCell ⟨b, 1, none⟩ y').setCell ⟨b, 2, none⟩ z').setCell ⟨b, 3, none⟩ v') := by
  have h0 := blk4_one hb 0 x'
  have h1 := blk4_one h0 1 y'
  have h2 := blk4_one h1 2 z'
  exact (((h.cell hb 0 x').cell h0 1 y').cell h1 2 z').cell h2 3 v'
theorem typed_kept {e t n : Nat} {w w' : World} {ao : Option Addr} (h : TypedAt w ao n t) (hk : KeptBut e w w') (hne : t ≠ e) : TypedAt w' ao n t := fun h0 a ha => by
  obtain ⟨cs, fr, hc⟩ := h h0 a ha
  exact ⟨cs, fr, hk.kept _ _ _ _ hc hne⟩
theorem reads_kept {e t n c : Nat} {w w' : World} {ao : Option Addr} {xs : List Value} (hr : Reads w ao n c xs) (h : TypedAt w ao n t) (hk : KeptBut e w w') (hne : t ≠ e) : Reads w' ao n c xs :=
  ⟨hr.length, hr.le, hr.most, hr.bare, fun a ha j u hu => by
    have h0 : 0 < n := by have := (List.getElem?_eq_some_iff.1 hu).1; have := hr.length; omega
    obtain ⟨cs, fr, hc⟩ := h h0 a ha
    have hcell := hr.cell a ha j u hu
    subst ha
    obtain ⟨b, off, rfl⟩ := hr.plain h0
    have e1 : (Addr.add ⟨b, off, none⟩ j).block = b := by simp only [Addr.add]; split <;> rfl
    rw [World.cell?_of_block (w := w) (by rw [e1]; exact (hk.kept _ _ _ _ hc hne).trans hc.symm)]
    exact hcell⟩

set_option maxRecDepth 100000 in
set_option maxHeartbeats 1000000 in
theorem tall_any (bo : Option Addr) (blen bcap : Nat) (zs : List Int) (w : World) (hk : Reads w bo blen bcap (zs.map (.int .u8))) (h8 : isBytes zs) (hblen : blen ≤ 100000)
    (htb : Tabs w := by first | assumption | exact Tabs.grow (by assumption) (by assumption)) :
    Calls Tryd.prog 11 #[.slice bo blen bcap] w fun e w' => ∃ ag c m, e = .returned (.slice ag m c) ∧ m = (wordsW (allU zs)).length ∧
      w'.ownsRow w.heap.size 9 1 (.slice ag m c) m ((wordsW (allU zs)).map wordV) ∧ Below w.heap.size w w' := by
  have hl : zs.length = blen := by simpa using hk.length
  have hle := all_leT zs
  go_enter Tryd.func11, Tryd.ntmps11
  go_wp2_with fail
  refine (uall_any _ _ _ zs w hk h8 hblen).mono ?_
  rintro e wa ⟨ag, c, m, rfl, hm, hra, hba⟩
  have hml : m ≤ 1000000000 := by omega
  have hta := Tabs.grow hba htb
  clear hm
  go_wp2_with fail
  refine (wall_any _ _ _ (allU zs) wa hra (all_range h8) hml hta).mono ?_
  rintro e wb ⟨ag2, c2, m2, rfl, hm2, hob, hbb⟩
  have hB : Below w.heap.size w wb := Below.trans hba (hbb.mono hba.size)
  have ho := own_mono hob hba.size
  have Hm2 : Hid _ := hm2
  clear hm2 hob hbb hba hra hta htb
  go_wp2
  go_ret
  exact ⟨ag2, c2, m2, rfl, Hm2.out, ho, hB⟩
#print axioms tall_any

set_option maxRecDepth 100000 in
set_option maxHeartbeats 2000000 in
theorem tfeed_any (po : Option Addr) (plen pcap : Nat) (ps : List Int) (ao : Option Addr) (len cap : Nat) (u : UnderW) (mk lg : Bool) (hmk : u.mark = mk) (hlg : u.long = lg) (bo : Option Addr) (blen bcap : Nat) (zs : List Int) (w : World)
    (hp : Reads w po plen pcap (ps.map (.int .u8))) (p8 : isBytes ps) (hplen : plen ≤ 100000) (hr : Reads w ao len cap (u.word.map (.int .i32))) (hok : OkW u) (hk : Reads w bo blen bcap (zs.map (.int .u8))) (h8 : isBytes zs) (hblen : blen ≤ 100000)
    (htb : Tabs w := by first | assumption | exact Tabs.grow (by assumption) (by assumption)) :
    Calls Tryd.prog 20 #[.agg #[.slice po plen pcap, .slice ao len cap, .bool mk, .bool lg], .slice bo blen bcap] w fun e w' => ∃ ag c m pg pd pk bg d k mk' lg',
      e = .returned (.tuple #[.slice ag m c, .agg #[.slice pg pk pd, .slice bg k d, .bool mk', .bool lg']]) ∧ mk' = (feedW u (feedU (ps ++ zs)).1).2.mark ∧ lg' = (feedW u (feedU (ps ++ zs)).1).2.long ∧ m = (feedW u (feedU (ps ++ zs)).1).1.length ∧ pk = (feedU (ps ++ zs)).2.length ∧ k = (feedW u (feedU (ps ++ zs)).1).2.word.length ∧
      w'.ownsRow w.heap.size 9 1 (.slice ag m c) m ((feedW u (feedU (ps ++ zs)).1).1.map wordV) ∧ (Reads w' pg pk pd ((feedU (ps ++ zs)).2.map (.int .u8)) ∧ TypedAt w' pg pk 5 ∧ FreshAt w.heap.size pg pk) ∧ w'.ownsRow w.heap.size 21 1 (.slice bg k d) k ((feedW u (feedU (ps ++ zs)).1).2.word.map (.int .i32)) ∧ Below w.heap.size w w' := by
  have b8 : isBytes (ps ++ zs) := fun z hz => (List.mem_append.1 hz).elim (p8 z) (h8 z)
  have hl : ps.length = plen := by simpa using hp.length
  have hl2 : zs.length = blen := by simpa using hk.length
  have hrl := feed_runes_le (ps ++ zs)
  rw [List.length_append] at hrl
  have hrg := feed_range b8
  have Hmk : Hid _ := hmk
  have Hlg : Hid _ := hlg
  have hB0 : Below w.heap.size w ((w.alloc (.cells #[.slice po plen pcap, .slice ao len cap, .bool mk, .bool lg] 34)).alloc (.cells #[.slice none 0 0, .slice none 0 0, .bool false, .bool false] 34)) := ((Below.refl _ _).alloc (Nat.le_refl _) _).alloc (by simp) _
  have k0 := heap_alloc2_old w (.cells #[.slice po plen pcap, .slice ao len cap, .bool mk, .bool lg] 34) (.cells #[.slice none 0 0, .slice none 0 0, .bool false, .bool false] 34)
  have k1 := heap_alloc2_new w (.cells #[.slice po plen pcap, .slice ao len cap, .bool mk, .bool lg] 34) (.cells #[.slice none 0 0, .slice none 0 0, .bool false, .bool false] 34)
  have ht0 := Tabs.grow hB0 htb
  clear hmk hlg htb
  go_enter Tryd.func20, Tryd.ntmps20
  go_wp2_with fail
  refine (ufeed_any _ _ _ ps _ _ _ zs _ (hp.later hB0 (Nat.le_refl _)) (hk.later hB0 (Nat.le_refl _)) p8 h8 hplen hblen ht0).mono ?_
  generalize hF : feedU (ps ++ zs) = F at hrl hrg
  have HF : Hid _ := hF
  clear hF
  rintro e wa ⟨ag, c, m, pg, pd, pk, rfl, hm, hpk, howr, hrp, htp, hfp, hba⟩
  have j0 := blk4 ((hba.block _ (lt_of_block k0)).trans k0)
  have j1 := (hba.block _ (lt_of_block k1)).trans k1
  have hta := Tabs.grow hba ht0
  have hBa : Below w.heap.size w wa := Below.trans hB0 (hba.mono hB0.size)
  have hml : m ≤ 1000000000 := by omega
  have rda := hr.later hBa (Nat.le_refl _)
  have Hpk : Hid _ := hpk
  have hfp' : FreshAt w.heap.size pg pk := fun h0 a ha => Nat.le_trans hB0.size (hfp h0 a ha)
  clear hm hpk k0 k1 hp hk hr ht0 hrl hfp
  go_wp2_with fail
  refine (wfeed_v _ _ _ u _ _ Hmk.out Hlg.out _ _ _ F.1 wa rda hok (Reads.own howr) hrg hml hta).mono ?_
  generalize hG : feedW u F.1 = G
  have HG : Hid _ := hG
  clear hG
  rintro e wb ⟨ag2, c2, m2, bg, d, k, mk2, lg2, rfl, hmk2, hlg2, hm2, hk2, hot, hou, hbb⟩
  have i1 := (hbb.block _ (lt_of_block j1)).trans j1
  have hBb : Below w.heap.size w wb := Below.trans hBa (hbb.mono hBa.size)
  have hm2' : Hid _ := hm2
  have hk2' : Hid _ := hk2
  have hmk2' : Hid _ := hmk2
  have hlg2' : Hid _ := hlg2
  have hrp2 := hrp.later hbb (Nat.le_refl _)
  have htp2 := htp.later hbb (Nat.le_refl _)
  have hot2 := own_mono hot hBa.size
  have hou2 := own_mono hou hBa.size
  clear hm2 hk2 hmk2 hlg2 hot hou hrp htp hba j0 j1 howr rda hbb hta hBa
  have i2 : (wb.alloc (.cells #[.slice bg k d, .bool mk2, .bool lg2] 32)).drew.heap[w.heap.size + 1]? = _ := (Below.heap_alloc _ _ _ (lt_of_block i1)).trans i1
  have i3 := blk4 i2
  have i4 := blk4 ((Below.heap_alloc wb (.cells #[.slice bg k d, .bool mk2, .bool lg2] 32) _ (lt_of_block i1)).trans i1)
  have i5 := blk4 i1
  have i6 : w.heap.size + 1 < wb.heap.size := lt_of_block i1
  have i7 : w.heap.size + 1 ≠ wb.heap.size := by omega
  have i8 : wb.heap.size ≠ w.heap.size + 1 := by omega
  have q1 := blk4_set i1 (.slice pg pk pd) (.slice bg k d) (.bool mk2) (.bool lg2)
  have hkx : KeptBut 34 wb _ := (KeptBut.refl 34 wb).cells4 i1 (.slice pg pk pd) (.slice bg k d) (.bool mk2) (.bool lg2)
  have hB2 : Below w.heap.size w ((((wb.setCell ⟨w.heap.size + 1, 0, none⟩ (.slice pg pk pd)).setCell ⟨w.heap.size + 1, 1, none⟩ (.slice bg k d)).setCell ⟨w.heap.size + 1, 2, none⟩ (.bool mk2)).setCell ⟨w.heap.size + 1, 3, none⟩ (.bool lg2)) :=
    (((hBb.setCell (by simp) _).setCell (by simp) _).setCell (by simp) _).setCell (by simp) _
  generalize hWE : ((((wb.setCell ⟨w.heap.size + 1, 0, none⟩ (.slice pg pk pd)).setCell ⟨w.heap.size + 1, 1, none⟩ (.slice bg k d)).setCell ⟨w.heap.size + 1, 2, none⟩ (.bool mk2)).setCell ⟨w.heap.size + 1, 3, none⟩ (.bool lg2)) = WE at q1 hkx hB2
  have hbx : Below WE.heap.size WE (WE.alloc (.cells #[.slice bg k d, .bool mk2, .bool lg2] 32)).drew := ((Below.refl _ _).alloc (Nat.le_refl _) _).drew
  have hld : (loadVar 34 ⟨w.heap.size + 1, 0, none⟩).run Tryd.prog (WE.alloc (.cells #[.slice bg k d, .bool mk2, .bool lg2] 32)).drew = _ := load_tok ((hbx.block _ (lt_of_block q1)).trans q1)
  have hrp3 := (reads_kept hrp2 htp2 hkx (by decide)).later hbx (Nat.le_refl _)
  have htp3 := (typed_kept htp2 hkx (by decide)).later hbx (Nat.le_refl _)
  have hot3 := own_later (own_kept hot2 hkx (by decide)) hbx (Nat.le_refl _)
  have hou3 := own_later (own_kept hou2 hkx (by decide)) hbx (Nat.le_refl _)
  have hB3 : Below w.heap.size w (WE.alloc (.cells #[.slice bg k d, .bool mk2, .bool lg2] 32)).drew := Below.trans hB2 (hbx.mono hB2.size)
  have HWE : Hid _ := hWE
  clear hrp2 htp2 hot2 hou2 hkx hbx hBb i1 i2 q1 hB2 hWE
  go_wp2_with fail
  go_region
  all_goals go_wp2
  all_goals rw [HWE.out, HF.out, HG.out]
  all_goals exact bodyPost_ret (results_tmp_cell rfl _ _ _ rfl hld) rfl ⟨ag2, c2, m2, pg, pd, pk, bg, d, k, mk2, lg2, rfl, hmk2'.out, hlg2'.out, hm2'.out, Hpk.out, hk2'.out, hot3, ⟨hrp3, htp3, hfp'⟩, hou3, hB3⟩
#print axioms tfeed_any
end Go.Proofs.YtdhbbknjnbdplaaDoor
