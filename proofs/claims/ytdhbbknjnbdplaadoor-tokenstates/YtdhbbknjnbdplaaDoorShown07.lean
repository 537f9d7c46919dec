/- The contract of the head of layer 7's statements: the document's example holds. -/
import Derived.Test.YtdhbbknjnbdplaaDoorTokenIface
import Derived.Deep.RegionHeld3
import Derived.Deep.Cut
import Derived.Lib.SlBytesConst
namespace Go.Proofs.YtdhbbknjnbdplaaDoor
open Go.RowKit
set_option linter.unusedVariables false
set_option linter.unusedSimpArgs false

theorem words_str (ls : List (List Int)) : ls.map wordV = (ls.map fun l => strOfNums (textU l)).map .string := by simp [wordV, Function.comp_def]
/-- Two lists of the same words are the same. -/
theorem sameV_eq (ao : Option Addr) (len cap : Nat) (bo : Option Addr) (blen bcap : Nat) (xs : List (List Int)) (w : World) (hr : Reads w ao len cap (xs.map wordV)) (hk : Reads w bo blen bcap (xs.map wordV)) :
    Calls Tryd.prog 10 #[.slice ao len cap, .slice bo blen bcap] w fun e w' => e = .returned (.bool true) ∧ Below w.heap.size w w' := by
  rw [words_str] at hr hk
  refine (sameW_any ao len cap _ bo blen bcap _ w hr hk).mono ?_
  rintro e w' ⟨rfl, m, rfl⟩
  exact ⟨by simp, ⟨rfl, rfl, rfl, Nat.le_refl _, fun _ _ => rfl⟩⟩

theorem pend_bytes {a : List Int} (h : isBytes a) : isBytes (pendT a) := feed_rest_bytes h
theorem pend_len (a : List Int) : (pendT a).length ≤ 3 := feed_rest_len a
/-- token.Feed, said of the bytes that were fed so far. -/
theorem tfeedT (a : List Int) (a8 : isBytes a) (po : Option Addr) (plen pcap : Nat) (ao : Option Addr) (len cap : Nat) (mk lg : Bool) (hmk : mk = (underT a).mark) (hlg : lg = (underT a).long) (bo : Option Addr) (blen bcap : Nat) (zs : List Int) (w : World)
    (hp : Reads w po plen pcap ((pendT a).map (.int .u8))) (hr : Reads w ao len cap ((underT a).word.map (.int .i32))) (hk : Reads w bo blen bcap (zs.map (.int .u8))) (h8 : isBytes zs) (hblen : blen ≤ 100000)
    (htb : Tabs w := by first | assumption | exact Tabs.grow (by assumption) (by assumption)) :
    Calls Tryd.prog 20 #[.agg #[.slice po plen pcap, .slice ao len cap, .bool mk, .bool lg], .slice bo blen bcap] w fun e w' => ∃ ag c m pg pd pk bg d k mk' lg' ts,
      e = .returned (.tuple #[.slice ag m c, .agg #[.slice pg pk pd, .slice bg k d, .bool mk', .bool lg']]) ∧ mk' = (underT (a ++ zs)).mark ∧ lg' = (underT (a ++ zs)).long ∧ m = ts.length ∧ toldT (a ++ zs) = toldT a ++ ts ∧ m + (endT (pendT (a ++ zs)) (underT (a ++ zs))).length ≤ blen + 1 ∧
      w'.ownsRow w.heap.size 9 1 (.slice ag m c) m (ts.map wordV) ∧ (Reads w' pg pk pd ((pendT (a ++ zs)).map (.int .u8)) ∧ TypedAt w' pg pk 5 ∧ FreshAt w.heap.size pg pk) ∧ w'.ownsRow w.heap.size 21 1 (.slice bg k d) k ((underT (a ++ zs)).word.map (.int .i32)) ∧ Below w.heap.size w w' := by
  have hl : (pendT a).length = plen := by simpa using hp.length
  have hl2 : zs.length = blen := by simpa using hk.length
  have hpl := pend_len a
  have hcnt := end_count (pendT a) (underT a) zs (pend_ok a)
  refine (tfeed_any po plen pcap (pendT a) ao len cap (underT a) mk lg hmk.symm hlg.symm bo blen bcap zs w hp (pend_bytes a8) (by omega) hr (under_ok a) hk h8 hblen htb).mono ?_
  rintro e w' ⟨ag, c, m, pg, pd, pk, bg, d, k, mk', lg', he, h1, h2, h3, h4, h5, h6, h7, h9, h10⟩
  rw [← under_more] at h1 h2 h5 h9 hcnt
  rw [← pend_more] at h4 h7 hcnt
  exact ⟨ag, c, m, pg, pd, pk, bg, d, k, mk', lg', _, he, h1, h2, h3, told_more a zs, by rw [h3]; omega, h6, h7, h9, h10⟩
/-- token.End, said so. -/
theorem tendT (a : List Int) (a8 : isBytes a) (po : Option Addr) (plen pcap : Nat) (ao : Option Addr) (len cap : Nat) (mk lg : Bool) (hmk : mk = (underT a).mark) (hlg : lg = (underT a).long) (w : World)
    (hp : Reads w po plen pcap ((pendT a).map (.int .u8))) (hr : Reads w ao len cap ((underT a).word.map (.int .i32)))
    (htb : Tabs w := by first | assumption | exact Tabs.grow (by assumption) (by assumption)) :
    Calls Tryd.prog 21 #[.agg #[.slice po plen pcap, .slice ao len cap, .bool mk, .bool lg]] w fun e w' => ∃ ag c m, e = .returned (.slice ag m c) ∧ m = (endT (pendT a) (underT a)).length ∧
      w'.ownsRow w.heap.size 9 1 (.slice ag m c) m ((endT (pendT a) (underT a)).map wordV) ∧ Below w.heap.size w w' := by
  have hl : (pendT a).length = plen := by simpa using hp.length
  have hpl := pend_len a
  exact tend_any po plen pcap (pendT a) ao len cap (underT a) mk lg hmk.symm hlg.symm w hp (pend_bytes a8) (by omega) hr (under_ok a) htb

theorem reads_sub {W : World} {b o len cap : Nat} {xs ys : List Value} (h : Reads W (some ⟨b, o, none⟩) len cap xs) (k n c : Nat) (hn : n ≤ c) (hc : c ≤ maxLen) (hk : k + n ≤ len) (hy : (xs.drop k).take n = ys) : Reads W (some ⟨b, o + k, none⟩) n c ys := by
  subst hy
  have hl := h.length
  refine ⟨by rw [List.length_take, List.length_drop]; omega, hn, hc, (fun h => by cases h), fun a ha j u hu => ?_⟩
  cases ha
  have hj : j < n := by have := (List.getElem?_eq_some_iff.1 hu).1; rw [List.length_take] at this; omega
  rw [List.getElem?_take_of_lt hj, List.getElem?_drop] at hu
  have := h.cell _ rfl (k + j) u hu
  rw [Addr.add_lit] at this ⊢
  rw [Nat.add_assoc]; exact this
theorem example07 : endT (pendT [68, 111, 110, 226, 128, 153, 116]) (underT [68, 111, 110, 226, 128, 153, 116]) = [[100, 111, 110, 39, 116]] := by decide +kernel
theorem example07w : wordV [100, 111, 110, 39, 116] = .string ⟨#[100, 111, 110, 39, 116]⟩ := by rfl

set_option maxRecDepth 100000 in
set_option maxHeartbeats 8000000 in
theorem shown_any (w : World) (ht : Tabs w := by first | assumption | exact Tabs.grow (by assumption) (by assumption)) : Calls Tryd.prog 9 #[] w fun e w' => e = .returned (.bool true) ∧ Below w.heap.size w w' := by
  have kc := fun (w : World) (C : Array Value) (n c : Nat) => Lib.run_convert_bytes_const (P := Tryd.prog) w 22 5 C n c Tryd.underlying22 Tryd.underlying5
  have rc := reads_const w (([68, 111, 110, 226, 128, 153, 116] : List Int).map (.int .u8)) 5 (7, 8) (by decide)
  have hB0 : Below w.heap.size w (w.alloc (.cells ((([68, 111, 110, 226, 128, 153, 116] : List Int).map (.int .u8))).toArray 5 (7, 8))) := (Below.refl _ _).alloc (Nat.le_refl _) _
  have ht0 := Tabs.grow hB0 ht
  have r1 : Reads _ (some ⟨w.heap.size, 0, none⟩) 4 7 (([68, 111, 110, 226] : List Int).map (.int .u8)) := reads_sub rc 0 4 7 (by decide) (by decide) (by decide) rfl
  have r2 : Reads _ (some ⟨w.heap.size, 4, none⟩) 1 3 (([128] : List Int).map (.int .u8)) := reads_sub rc 4 1 3 (by decide) (by decide) (by decide) rfl
  have r3 : Reads _ (some ⟨w.heap.size, 5, none⟩) 2 2 (([153, 116] : List Int).map (.int .u8)) := reads_sub rc 5 2 2 (by decide) (by decide) (by decide) rfl
  have hs0 := hB0.size
  have e1 : w.alloc (.cells ((([68, 111, 110, 226, 128, 153, 116] : List Int).map (.int .u8))).toArray 5 (7, 8)) = w.alloc (.cells #[.int .u8 68, .int .u8 111, .int .u8 110, .int .u8 226, .int .u8 128, .int .u8 153, .int .u8 116] 5 (7, 8)) := rfl
  rw [e1] at r1 r2 r3 hB0 ht0 hs0
  have H1 : Hid _ := r1
  have H2 : Hid _ := r2
  have H3 : Hid _ := r3
  clear r1 r2 r3 rc e1
  go_enter Tryd.func9, Tryd.ntmps9
  go_wp2_with fail
  refine (tfeedT [] (by simp [isBytes]) none 0 0 none 0 0 false false rfl rfl (some ⟨w.heap.size, 0, none⟩) 4 7 [68, 111, 110, 226] _ (Reads.nil _) (Reads.nil _) H1.out (by simp [isBytes]) (by decide) ht0).mono ?_
  rintro e w1 ⟨ag, c, m, pg, pd, pk, bg, d, k, mk, lg, ts, rfl, hmk, hlg, hm, htold, hcnt, hot, ⟨hrp, _, _⟩, how, hb1⟩
  simp only [List.nil_append] at hmk hlg hrp how
  have hB1 : Below w.heap.size w w1 := Below.trans hB0 (hb1.mono (by simp))
  have h2 := H2.out.later hb1 (Nat.le_refl _)
  have h3 := H3.out.later hb1 (Nat.le_refl _)
  have hrw := Reads.own how
  have ht1 := Tabs.grow hb1 ht0
  have Hmk : Hid _ := hmk
  have Hlg : Hid _ := hlg
  clear hm htold hcnt hot how hb1 H2 H3 H1 hB0 ht0 hs0 hmk hlg
  have hbi : Below w1.heap.size w1 (w1.alloc (.cells #[.slice pg pk pd, .slice bg k d, .bool mk, .bool lg] 34)) := (Below.refl _ _).alloc (Nat.le_refl _) _
  have ki := heap_alloc_new w1 (.cells #[.slice pg pk pd, .slice bg k d, .bool mk, .bool lg] 34)
  go_upto_region 3 with (fail)
  generalize hwi : w1.alloc (.cells #[.slice pg pk pd, .slice bg k d, .bool mk, .bool lg] 34) = wi at hbi ki ⊢
  have p2 := hrp.later hbi (Nat.le_refl _)
  have q2 := hrw.later hbi (Nat.le_refl _)
  have s2 := h2.later hbi (Nat.le_refl _)
  have s3 := h3.later hbi (Nat.le_refl _)
  have t2 := Tabs.grow hbi ht1
  have hBi : Below w.heap.size w wi := Below.trans hB1 (hbi.mono hB1.size)
  clear hrp hrw h2 h3 ht1 hbi hB1 hwi
  have hc0 : ∀ W, Below wi.heap.size wi W → W.cell? ⟨w1.heap.size, 0, none⟩ = some (.slice pg pk pd) := fun W hW => (blk4 ((hW.block _ (lt_of_block ki)).trans ki)).1
  have hc1 : ∀ W, Below wi.heap.size wi W → W.cell? ⟨w1.heap.size, 1, none⟩ = some (.slice bg k d) := fun W hW => (blk4 ((hW.block _ (lt_of_block ki)).trans ki)).2.1
  have hc2 : ∀ W, Below wi.heap.size wi W → W.cell? ⟨w1.heap.size, 2, none⟩ = some (.bool mk) := fun W hW => (blk4 ((hW.block _ (lt_of_block ki)).trans ki)).2.2.1
  have hc3 : ∀ W, Below wi.heap.size wi W → W.cell? ⟨w1.heap.size, 3, none⟩ = some (.bool lg) := fun W hW => (blk4 ((hW.block _ (lt_of_block ki)).trans ki)).2.2.2.1
  go_cut [4, 5] from 17 (fun v4 v wr => ∃ B pg pk pd bg k d mk lg, v = .pointer (some ⟨B, 0, none⟩) ∧ wr.heap[B]? = some (Obj.cells #[.slice pg pk pd, .slice bg k d, .bool mk, .bool lg] 34 (0, 0)) ∧ Hid (mk = (underT [68, 111, 110, 226, 128]).mark) ∧ Hid (lg = (underT [68, 111, 110, 226, 128]).long) ∧ Reads wr pg pk pd ((pendT [68, 111, 110, 226, 128]).map (.int .u8)) ∧ Reads wr bg k d ((underT [68, 111, 110, 226, 128]).word.map (.int .i32)) ∧ Below wi.heap.size wi wr)
  case first =>
    go_region_held3 (fun W => Below wi.heap.size wi W) (first | exact Below.refl _ _ | exact Below.drew (Below.refl _ _) | assumption | exact Grow.trans (by assumption) (by assumption) | exact Below.alloc (by assumption) (Below.size (by assumption)) _ | exact Below.alloc (Grow.trans (Below.drew (Below.refl _ _)) (by assumption)) (Below.size (Grow.trans (Below.drew (Below.refl _ _)) (by assumption))) _ | exact below_set4 (by assumption) (Nat.le_refl _) _ _ _ _) (first | (go_at_call 20; refine (tfeedT [68, 111, 110, 226] (by simp [isBytes]) _ _ _ _ _ _ _ _ Hmk.out Hlg.out _ _ _ [128] _ (p2.later (by first | assumption | exact Below.drew (Below.refl _ _)) (Nat.le_refl _)) (q2.later (by first | assumption | exact Below.drew (Below.refl _ _)) (Nat.le_refl _)) (s2.later (by first | assumption | exact Below.drew (Below.refl _ _)) (Nat.le_refl _)) (by simp [isBytes]) (by decide) (t2.later (by first | assumption | exact Below.drew (Below.refl _ _)) (Nat.le_refl _))).mono ?_; rintro e wy ⟨ag2, c2, m2, pg2, pd2, pk2, bg2, d2, k2, mk2, lg2, ts2, rfl, hmk2, hlg2, hm2, ht2, hcn2, _, ⟨hrp2, htp2, hfp2⟩, how2, hb2⟩; simp only [List.cons_append, List.nil_append] at hmk2 hlg2 hrp2 how2; have Hmk2 : Hid _ := hmk2; have Hlg2 : Hid _ := hlg2; clear hmk2 hlg2 hm2 ht2 hcn2; try (have hzb := (hb2.block wi.heap.size (by simp)).trans (heap_alloc_new _ _); have hz := blk4 hzb)))
    · go_wp2_with fail
      go_meet
      case rel => exact ⟨wy.heap.size, pg2, pk2, pd2, bg2, k2, d2, mk2, lg2, rfl, heap_alloc_new _ _, Hmk2.out, Hlg2.out, hrp2.later ((Below.refl _ _).alloc (Nat.le_refl _) _) (Nat.le_refl _), (Reads.own how2).later ((Below.refl _ _).alloc (Nat.le_refl _) _) (Nat.le_refl _), by assumption⟩
    · have hkk := (KeptBut.refl 34 wy).cells4 hzb (.slice pg2 pk2 pd2) (.slice bg2 k2 d2) (.bool mk2) (.bool lg2)
      have hbb := blk4_set hzb (.slice pg2 pk2 pd2) (.slice bg2 k2 d2) (.bool mk2) (.bool lg2)
      have ha := reads_kept hrp2 htp2 hkk (by decide)
      have hb := reads_of_own how2 hkk (by decide)
      go_wp2_with fail
      go_meet
      case rel => exact ⟨wi.heap.size, pg2, pk2, pd2, bg2, k2, d2, mk2, lg2, rfl, hbb, Hmk2.out, Hlg2.out, ha, hb, by assumption⟩
  clear hc0 hc1 hc2 hc3 ki p2 q2 Hmk Hlg
  obtain ⟨B, pg, pk, pd, bg, k, d, mk, lg, rfl, ki, Hmk, Hlg, p2, q2, hbc⟩ := hcut
  have s2' := s3.later hbc (Nat.le_refl _)
  have t2' := Tabs.grow hbc t2
  have hBc : Below w.heap.size w wc := Below.trans hBi (hbc.mono hBi.size)
  clear s2 s3 t2 hBi hbc
  have s2 := s2'
  have t2 := t2'
  clear s2' t2'
  go_upto_region 4 with (fail)
  have hc0 : ∀ W, Below wc.heap.size wc W → W.cell? ⟨B, 0, none⟩ = some (.slice pg pk pd) := fun W hW => (blk4 ((hW.block _ (lt_of_block ki)).trans ki)).1
  have hc1 : ∀ W, Below wc.heap.size wc W → W.cell? ⟨B, 1, none⟩ = some (.slice bg k d) := fun W hW => (blk4 ((hW.block _ (lt_of_block ki)).trans ki)).2.1
  have hc2 : ∀ W, Below wc.heap.size wc W → W.cell? ⟨B, 2, none⟩ = some (.bool mk) := fun W hW => (blk4 ((hW.block _ (lt_of_block ki)).trans ki)).2.2.1
  have hc3 : ∀ W, Below wc.heap.size wc W → W.cell? ⟨B, 3, none⟩ = some (.bool lg) := fun W hW => (blk4 ((hW.block _ (lt_of_block ki)).trans ki)).2.2.2.1
  go_cut [6, 7] from 24 (fun v4 v wr => ∃ B pg pk pd bg k d mk lg, v = .pointer (some ⟨B, 0, none⟩) ∧ wr.heap[B]? = some (Obj.cells #[.slice pg pk pd, .slice bg k d, .bool mk, .bool lg] 34 (0, 0)) ∧ Hid (mk = (underT [68, 111, 110, 226, 128, 153, 116]).mark) ∧ Hid (lg = (underT [68, 111, 110, 226, 128, 153, 116]).long) ∧ Reads wr pg pk pd ((pendT [68, 111, 110, 226, 128, 153, 116]).map (.int .u8)) ∧ Reads wr bg k d ((underT [68, 111, 110, 226, 128, 153, 116]).word.map (.int .i32)) ∧ Below wc.heap.size wc wr)
  case first =>
    go_region_held3 (fun W => Below wc.heap.size wc W) (first | exact Below.refl _ _ | exact Below.drew (Below.refl _ _) | assumption | exact Grow.trans (by assumption) (by assumption) | exact Below.alloc (by assumption) (Below.size (by assumption)) _ | exact Below.alloc (Grow.trans (Below.drew (Below.refl _ _)) (by assumption)) (Below.size (Grow.trans (Below.drew (Below.refl _ _)) (by assumption))) _ | exact below_set4 (by assumption) (Nat.le_refl _) _ _ _ _) (first | (go_at_call 20; refine (tfeedT [68, 111, 110, 226, 128] (by simp [isBytes]) _ _ _ _ _ _ _ _ Hmk.out Hlg.out _ _ _ [153, 116] _ (p2.later (by first | assumption | exact Below.drew (Below.refl _ _)) (Nat.le_refl _)) (q2.later (by first | assumption | exact Below.drew (Below.refl _ _)) (Nat.le_refl _)) (s2.later (by first | assumption | exact Below.drew (Below.refl _ _)) (Nat.le_refl _)) (by simp [isBytes]) (by decide) (t2.later (by first | assumption | exact Below.drew (Below.refl _ _)) (Nat.le_refl _))).mono ?_; rintro e wy ⟨ag2, c2, m2, pg2, pd2, pk2, bg2, d2, k2, mk2, lg2, ts2, rfl, hmk2, hlg2, hm2, ht2, hcn2, _, ⟨hrp2, htp2, hfp2⟩, how2, hb2⟩; simp only [List.cons_append, List.nil_append] at hmk2 hlg2 hrp2 how2; have Hmk2 : Hid _ := hmk2; have Hlg2 : Hid _ := hlg2; clear hmk2 hlg2 hm2 ht2 hcn2; try (have hzb := (hb2.block wc.heap.size (by simp)).trans (heap_alloc_new _ _); have hz := blk4 hzb)))
    · go_wp2_with fail
      go_meet
      case rel => exact ⟨wy.heap.size, pg2, pk2, pd2, bg2, k2, d2, mk2, lg2, rfl, heap_alloc_new _ _, Hmk2.out, Hlg2.out, hrp2.later ((Below.refl _ _).alloc (Nat.le_refl _) _) (Nat.le_refl _), (Reads.own how2).later ((Below.refl _ _).alloc (Nat.le_refl _) _) (Nat.le_refl _), by assumption⟩
    · have hkk := (KeptBut.refl 34 wy).cells4 hzb (.slice pg2 pk2 pd2) (.slice bg2 k2 d2) (.bool mk2) (.bool lg2)
      have hbb := blk4_set hzb (.slice pg2 pk2 pd2) (.slice bg2 k2 d2) (.bool mk2) (.bool lg2)
      have ha := reads_kept hrp2 htp2 hkk (by decide)
      have hb := reads_of_own how2 hkk (by decide)
      go_wp2_with fail
      go_meet
      case rel => exact ⟨wc.heap.size, pg2, pk2, pd2, bg2, k2, d2, mk2, lg2, rfl, hbb, Hmk2.out, Hlg2.out, ha, hb, by assumption⟩
  clear hc0 hc1 hc2 hc3 ki p2 q2 Hmk Hlg s2
  obtain ⟨B2, pg, pk, pd, bg, k, d, mk, lg, rfl, ki, Hmk, Hlg, p2, q2, hbd⟩ := hcut
  have t3 := Tabs.grow hbd t2
  have cz := blk4 ki
  have hBd : Below w.heap.size w wc := Below.trans hBc (hbd.mono hBc.size)
  clear hBc hbd t2
  go_wp2_with fail
  refine (tendT [68, 111, 110, 226, 128, 153, 116] (by simp [isBytes]) _ _ _ _ _ _ _ _ Hmk.out Hlg.out _ p2 q2 t3).mono ?_
  rintro e we ⟨ae, ce, ke, rfl, hke, hoe, hbe⟩
  rw [example07] at hke hoe
  have hke1 : ke = 1 := hke
  subst hke1
  have hBe : Below w.heap.size w we := Below.trans hBd (hbe.mono hBd.size)
  have hx : Below we.heap.size we (we.alloc (.cells #[.string ⟨#[100, 111, 110, 39, 116]⟩] 9)) := (Below.refl _ _).alloc (Nat.le_refl _) _
  have hy : Reads (we.alloc (.cells #[.string ⟨#[100, 111, 110, 39, 116]⟩] 9)) (some ⟨we.heap.size, 0, none⟩) 1 1 (([[100, 111, 110, 39, 116]] : List (List Int)).map wordV) := reads_one we (.string ⟨#[100, 111, 110, 39, 116]⟩) 9
  have hz := (Reads.own hoe).later hx (Nat.le_refl _)
  have Hy : Hid _ := hy
  have Hz : Hid _ := hz
  clear hke hoe hbe hBd p2 q2 t3 cz ki Hmk Hlg hy hz
  go_wp2_with fail
  refine (sameV_eq _ _ _ _ _ _ [[100, 111, 110, 39, 116]] _ Hz.out Hy.out).mono ?_
  rintro e wf ⟨rfl, hbf⟩
  have hBf : Below w.heap.size w wf := Below.trans (Below.trans hBe (hx.mono hBe.size)) (hbf.mono (Nat.le_trans hBe.size hx.size))
  clear hbf hx hBe Hy Hz
  go_wp2
  go_ret
  exact ⟨rfl, hBf⟩
#print axioms shown_any
end Go.Proofs.YtdhbbknjnbdplaaDoor
