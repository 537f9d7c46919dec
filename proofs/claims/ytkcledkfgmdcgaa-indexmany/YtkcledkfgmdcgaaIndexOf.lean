/- index.Of. -/
import Derived.Test.YtkcledkfgmdcgaaIndexCnt
import Derived.Deep.RegionHeld
namespace Go.Proofs.Ytkcledkfgmdcgaa
open Go.RowKit
set_option linter.unusedVariables false
set_option linter.unusedSimpArgs false

theorem off_step (S : List Stt) {c : UInt8} {m : Nat} : ∀ {es : List (UInt8 × Nat)}, stepE es c = some m → offE S es c + (langS S m).length ≤ (flatS S es).length
  | [], h => by simp [stepE] at h
  | e :: es, h => by
    rw [stepE] at h
    show _ ≤ ((langS S e.2).map (e.1 :: ·) ++ flatS S es).length
    rw [List.length_append, List.length_map, offE]
    split at h
    · rename_i hc
      rw [if_pos hc]
      simp only [Option.some.injEq] at h
      rw [h]
      omega
    · rename_i hc
      rw [if_neg hc]
      have := off_step S h
      omega
theorem estep_in {es : List (UInt8 × Nat)} {c : UInt8} {m : Nat} (h : stepE es c = some m) : (c, m) ∈ es := by
  induction es with
  | nil => simp [stepE] at h
  | cons e es ih =>
    rw [stepE] at h
    split at h
    · rename_i hc
      simp only [Option.some.injEq] at h
      subst hc h
      exact List.mem_cons_self
    · exact List.mem_cons_of_mem _ (ih h)
/-- A place told of what is left of a word, behind so many. -/
def behind (y : Nat) (q : Nat × Bool) : Nat × Bool := if q.2 = true then (y + q.1, true) else (0, false)
theorem behind_zero (l : List Wd) (k : Wd) : behind 0 (placeR l k) = placeR l k := by
  unfold behind placeR
  by_cases h : k ∈ l
  · simp [h]
  · simp [h]
theorem behind_behind (x y : Nat) (q : Nat × Bool) : behind x (behind y q) = behind (x + y) q := by
  unfold behind
  by_cases h : q.2 = true
  · rw [if_pos h, if_pos h]; simp [Nat.add_assoc]
  · rw [if_neg h, if_neg h]; simp
theorem place_go {S : List Stt} (hS : GoodS S) {n : Nat} {f : Bool} {es : List (UInt8 × Nat)} (hs : S[n]? = some (f, es)) (hr : RiseEd es) {k : Wd} {j : Nat} {c : UInt8} (hc : k[j]? = some c) :
    placeR (langS S n) (k.drop j) = match stepE es c with
      | none => (0, false)
      | some m => behind (oneF f + offE S es c) (placeR (langS S m) (k.drop (j + 1))) := by
  obtain ⟨h1, h2⟩ := List.getElem?_eq_some_iff.1 hc
  rw [List.drop_eq_getElem_cons h1, h2, place_cons hS hs hr]
  rfl
theorem built_rise {zs : List Wd} (hne : [] ∉ zs) {s : Stt} (h : s ∈ buildL zs) : RiseEd s.2 := (build_use (fun w hw he => hne (he ▸ hw)) s h).1

set_option maxRecDepth 100000 in
set_option maxHeartbeats 4000000 in
theorem iof_not {w : World} {ao : Option Addr} {len cap : Nat} {A : List StZ} (h : ReadsA w ao len cap A) (hl : len ≤ 10000000000000) (hz : ∀ s ∈ A, ∀ e ∈ s.2, -9223372036854775808 ≤ e.2 ∧ e.2 ≤ 9223372036854775807) (hM : ¬ MayP A) (k : Wd) (hk : k.length ≤ 140737488351232) :
    Calls Try.prog 14 #[.slice ao len cap, strV k] w fun e w' => e = .returned (.tuple #[.int .i64 0, .bool false]) ∧ Below w.heap.size w w' := by
  have p1 := icounts_not h hl hz hM
  clear h hz hM
  go_enter Try.func14, Try.ntmps14
  go_wp2_with fail
  refine p1.mono ?_
  rintro e w1 ⟨ag, c, rfl, hB1⟩
  have HB1 : Hid _ := hB1
  clear hB1 p1
  go_wp2
  go_ret2
  exact ⟨rfl, HB1.out⟩

set_option maxRecDepth 100000 in
set_option maxHeartbeats 4000000 in
theorem iof_gen {w : World} {ao : Option Addr} {len cap : Nat} {zs : List Wd} (h : ReadsA w ao len cap (zA (buildL zs))) (hne : [] ∉ zs) (hr : RiseW zs) (hs : (buildL zs).length ≤ 10000000000000) (k : Wd) (hk : k.length ≤ 140737488351232) :
    Calls Try.prog 14 #[.slice ao len cap, strV k] w fun e w' => e = .returned (.tuple #[.int .i64 ((if (countsR (buildL zs)).2 = 0 then placeR zs k else (0, false)).1 : Nat), .bool (if (countsR (buildL zs)).2 = 0 then placeR zs k else (0, false)).2]) ∧ Below w.heap.size w w' := by
  have p1 := icounts_gen h hne hr hs
  by_cases h0 : ∀ i, i < (buildL zs).length → (langS (buildL zs) i).length ≤ 4611686018427387904
  case neg =>
    have e0 : countsR (buildL zs) = ([], 5) := by unfold countsR; rw [if_neg h0]
    rw [e0] at p1 ⊢
    simp only at p1
    clear h hne hr hs h0 e0
    go_enter Try.func14, Try.ntmps14
    go_wp2_with fail
    refine p1.mono ?_
    rintro e w1 ⟨ag, m, c, rfl, _, hB1⟩
    have HB1 : Hid _ := hB1
    clear hB1 p1
    go_wp2
    go_ret2
    exact ⟨rfl, HB1.out⟩
  have e0 : countsR (buildL zs) = (countsL (buildL zs), 0) := by unfold countsR; rw [if_pos h0]
  rw [e0] at p1 ⊢
  simp only [if_pos] at p1 ⊢
  have hS := build_good zs
  have hroot : behind 0 (placeR (langS (buildL zs) ((buildL zs).length - 1)) (k.drop 0)) = placeR zs k := by rw [build_lang hr, List.drop_zero, behind_zero]
  have hrise : ∀ s ∈ buildL zs, RiseEd s.2 := fun s hs => built_rise hne hs
  have h1 := (build_len zs).1
  obtain ⟨S, hSe⟩ : ∃ S, S = buildL zs := ⟨_, rfl⟩
  rw [← hSe] at h hs hS p1 h0 hroot hrise h1
  have hlen : len = S.length := by rw [← h.count, zA_len]
  have hks : (⟨k.toArray⟩ : ByteArray).size = k.length := by simp [ByteArray.size]
  obtain ⟨n, hn⟩ : ∃ n, n = k.length := ⟨_, rfl⟩
  rw [← hn] at hk hks
  rw [← hlen] at hroot
  obtain ⟨Q, hQ⟩ : ∃ Q, Q = placeR zs k := ⟨_, rfl⟩
  rw [← hQ] at hroot ⊢
  have HR : Hid _ := h
  have Hlen : Hid (S.length = len) := hlen.symm
  have HS : Hid _ := hS
  have H0 : Hid _ := h0
  have HRise : Hid _ := hrise
  have Hk : Hid (k.length = n) := hn.symm
  have hll : len ≤ 10000000000000 := by omega
  obtain ⟨m0, hm0⟩ : ∃ m0 : Nat, len = m0 + 1 := ⟨len - 1, by omega⟩
  have e1 : (len : Int) - 1 = (m0 : Nat) := by omega
  have hm1 : m0 < len := by omega
  have hm1i : (m0 : Int) < len := by omega
  rw [show len - 1 = m0 by omega] at hroot
  have HRoot : Hid _ := hroot
  obtain ⟨b, off, hao, hb, hcl⟩ := h.at (by omega)
  subst hao
  have Hcl : Hid _ := hcl
  have Hb : Hid (b < w.heap.size) := hb
  obtain ⟨⟨f0, es0⟩, hs0⟩ : ∃ s, S[m0]? = some s := ⟨_, List.getElem?_eq_getElem (by rw [← hlen]; exact hm1)⟩
  have Hs0 : Hid _ := hs0
  obtain ⟨eg0, ec0, c1, c2, er0⟩ := hcl m0 _ (zA_at hs0)
  simp only [zE_len] at c1 c2 er0
  have HE0 : Hid _ := er0
  obtain ⟨k0, hk0⟩ : ∃ k0, k0 = es0.length := ⟨_, rfl⟩
  rw [← hk0] at c2 HE0
  have Hk0 : Hid (es0.length = k0) := hk0.symm
  clear h hne hr hs h0 e0 hS hroot hrise h1 hlen hn hQ hm0 hcl hs0 er0 hSe hk0 HR
  go_enter Try.func14, Try.ntmps14
  go_wp2_with fail
  refine p1.mono ?_
  rintro e w1 ⟨ag, m, c, rfl, hrc, hB1⟩
  have hml : m = len := by
    have := hrc.length
    simp only [zN, List.length_map, counts_len, Hlen.out] at this
    omega
  subst hml
  obtain ⟨gb, go', hag, hgb, hgc⟩ := hrc.at15 (by omega)
  subst hag
  have hcnt : CntAt w1 gb go' m S m := ⟨hgb, Nat.le_refl _, fun t ht => hgc t _ (by simp [zN, counts_at (S := S) (i := t) (by rw [Hlen.out]; exact ht)])⟩
  have HCnt : Hid _ := hcnt
  have HB1 : Hid _ := hB1
  have hws : w.heap.size ≤ w1.heap.size := hB1.size
  have x1 : w1.cell? ⟨b, off + m0 * 2, none⟩ = some (.bool f0) := (hB1.cell (p := ⟨b, off + m0 * 2, none⟩) hb).trans c1
  have x2 : w1.cell? ⟨b, off + m0 * 2 + 1, none⟩ = some (.slice eg0 k0 ec0) := (hB1.cell (p := ⟨b, off + m0 * 2 + 1, none⟩) hb).trans c2
  clear hB1 p1 hrc hgc hcnt c1 c2 hb hgb
  go_wp2_with fail
  go_loopw [9, 29] (fun v i wr => ∃ (j cur y kk : Nat) (f : Bool) (es : List (UInt8 × Nat)) (eg : Option Addr) (ec : Nat), v = .int .u64 (y : Nat) ∧ i = .int .i64 (j : Nat) ∧ j ≤ n ∧ y ≤ 4611686018427387904 ∧ Hid (y + (langS S cur).length ≤ 4611686018427387904) ∧ Hid (S[cur]? = some (f, es)) ∧ Hid (es.length = kk) ∧ Hid (ReadsE w eg kk ec (cellsEd (zE es))) ∧ Hid (wr.heap[w1.heap.size]? = some (.cells #[.bool f, .slice eg kk ec] 45 (0, 0))) ∧ Hid (behind y (placeR (langS S cur) (k.drop j)) = Q) ∧ Hid (Below w.heap.size w wr) ∧ Hid (Below w1.heap.size w1 wr)) (fun _ i _ => (n - intOf i).toNat)
  case atStart => exact ⟨0, m0, 0, k0, f0, es0, eg0, ec0, rfl, rfl, Nat.zero_le _, Nat.zero_le _, (by show 0 + _ ≤ _; have := H0.out m0 (by rw [Hlen.out]; exact hm1); omega), Hs0.out, Hk0.out, HE0.out, heap_alloc_new _ _, HRoot.out, HB1.out.alloc hws _, (Below.refl _ _).alloc (Nat.le_refl _) _⟩
  case round =>
    obtain ⟨j, cur, y, kk, f, es, eg, ec, rfl, rfl, hj, hy, hyl, hs, hkk, her, hblk, hpl, hB, hB'⟩ := hrel
    clear x1 x2
    have hgl : w1.heap.size < wr.heap.size := lt_of_block hblk.out
    by_cases hjl : j < n
    · have q1 : (j : Int) < n := by omega
      obtain ⟨cc, hc⟩ : ∃ c, k[j]? = some c := ⟨_, List.getElem?_eq_getElem (by rw [Hk.out]; exact hjl)⟩
      have hidx := fun W => str_at Try.prog 9 Try.underlying9 hc W
      have hgo := place_go HS.out hs.out (HRise.out _ (List.mem_of_getElem? hs.out)) hc
      have hcur : cur < S.length := (List.getElem?_eq_some_iff.1 hs.out).1
      have hpart := lang_parts HS.out hs.out
      have hcn : CntAt wr gb go' m S m := CntAt.later HCnt.out hB'.out
      have y1 : ∀ W, Below wr.heap.size wr W → W.cell? ⟨w1.heap.size, 0, none⟩ = some (.bool f) := fun W hW => (hW.cell (p := ⟨w1.heap.size, 0, none⟩) hgl).trans (cell_of hblk.out 0)
      have y2 : ∀ W, Below wr.heap.size wr W → W.cell? ⟨w1.heap.size, 1, none⟩ = some (.slice eg kk ec) := fun W hW => (hW.cell (p := ⟨w1.heap.size, 1, none⟩) hgl).trans (cell_of hblk.out 1)
      have hfo : ∀ W, Below wr.heap.size wr W → Calls Try.prog 23 #[.agg #[.bool f, .slice eg kk ec], .int .u8 (cc.toNat : Nat), .slice (some ⟨gb, go', none⟩) m c] W fun e w' => e = .returned (ifollowV S f es cc) ∧ Below wr.heap.size wr w' := fun W hW =>
        (ifollow_any HS.out hs.out (H0.out _ hcur) (her.out.later (hB.out.trans (hW.mono hB.out.size)) (Nat.le_refl _)) hkk.out (CntAt.later hcn hW) (by rw [Hlen.out] at hcur; omega) hll cc).mono fun e w' h => ⟨h.1, hW.trans (h.2.mono hW.size)⟩
      have HB : Hid _ := hB.out
      have HB' : Hid _ := hB'.out
      have HBlk : Hid _ := hblk.out
      have HPl : Hid _ := hpl.out
      have Hj : Hid (j < n) := hjl
      cases hq : stepE es cc with
      | none =>
        have hV : ifollowV S f es cc = .tuple #[.int .i64 0, .int .u64 0, .bool false] := by unfold ifollowV; rw [hq]
        rw [hV] at hfo
        have hE : Hid (Q = (0, false)) := by show _ = _; rw [← HPl.out, hgo, hq]; rfl
        clear hq hV hgo hc hpart hcn hcur hs hkk her hblk hpl hB hB' hyl hjl HBlk HPl
        go_wp2_with fail
        first | go_region_held (fun W => Below wr.heap.size wr W) (first | exact Below.refl _ _ | exact Below.drew (Below.refl _ _) | assumption | exact Below.drew (by assumption)) (first | (go_at_call 23; refine (hfo _ (by first | exact Below.refl _ _ | exact Below.drew (Below.refl _ _) | assumption | exact Below.drew (by assumption))).mono ?_; rintro e wb ⟨rfl, hwb⟩)) | fail
        all_goals
          go_wp2
          go_ret2
          exact ⟨by rw [hE.out]; rfl, HB.out.trans (Below.mono (B := wr.heap.size) (by assumption) HB.out.size)⟩
      | some q =>
        obtain ⟨v, hv⟩ : ∃ v : Nat, v = oneF f + offE S es cc := ⟨_, rfl⟩
        have hV : ifollowV S f es cc = .tuple #[.int .i64 (q : Nat), .int .u64 (v : Nat), .bool true] := by unfold ifollowV; rw [hq]; simp only; rw [hv]
        rw [hV] at hfo
        rw [hq] at hgo
        simp only [← hv] at hgo
        have hof := off_step S hq
        have hql : q < cur := HS.out.low cur _ hs.out _ (estep_in hq)
        have hqm : q < m := by rw [Hlen.out] at hcur; omega
        have hyl2 : y + v + (langS S q).length ≤ 4611686018427387904 := by have := hyl.out; omega
        have hyv : y + v ≤ 4611686018427387904 := by omega
        have Hyl2 : Hid _ := hyl2
        have hpl2 : Hid (behind (y + v) (placeR (langS S q) (k.drop (j + 1))) = Q) := by show _ = _; rw [← behind_behind, ← hgo, HPl.out]
        obtain ⟨⟨f', es'⟩, hs'⟩ : ∃ s, S[q]? = some s := ⟨_, List.getElem?_eq_getElem (by rw [Hlen.out]; exact hqm)⟩
        obtain ⟨eg', ec', c1, c2, er'⟩ := Hcl.out q _ (zA_at hs')
        simp only [zE_len] at c1 c2 er'
        obtain ⟨kk', hkk'⟩ : ∃ kk, kk = es'.length := ⟨_, rfl⟩
        rw [← hkk'] at c2 er'
        have x1 : ∀ W, Below wr.heap.size wr W → W.cell? ⟨b, off + q * 2, none⟩ = some (.bool f') := fun W hW => ((HB.out.trans (hW.mono HB.out.size)).cell (p := ⟨b, off + q * 2, none⟩) Hb.out).trans c1
        have x2 : ∀ W, Below wr.heap.size wr W → W.cell? ⟨b, off + q * 2 + 1, none⟩ = some (.slice eg' kk' ec') := fun W hW => ((HB.out.trans (hW.mono HB.out.size)).cell (p := ⟨b, off + q * 2 + 1, none⟩) Hb.out).trans c2
        have hbk : ∀ W, Below wr.heap.size wr W → W.heap[w1.heap.size]? = some (.cells #[.bool f, .slice eg kk ec] 45 (0, 0)) := fun W hW => by rw [hW.block _ hgl]; exact HBlk.out
        have Hbk : Hid _ := hbk
        have r1 : ∀ W, Below wr.heap.size wr W → W.frozen? ⟨w1.heap.size, 0, none⟩ = false := fun W hW => by simp [World.frozen?, hbk W hW]
        have r2 : ∀ W, Below wr.heap.size wr W → W.frozen? ⟨w1.heap.size, 1, none⟩ = false := fun W hW => by simp [World.frozen?, hbk W hW]
        have Hs' : Hid _ := hs'
        have Hkk' : Hid (es'.length = kk') := hkk'.symm
        have Her' : Hid _ := er'
        have hqi : (q : Int) < m := by omega
        clear hq hV hgo hc hpart hcn hcur hs hkk her hblk hpl hB hB' hyl hjl HBlk HPl hof hql hqm hyl2 hv hs' hkk' er' c1 c2 hbk
        go_upto_region 9 with (fail)
        go_cut [11, 12, 13] from 32 to 41 (fun v1 v2 v3 wq => v1 = .int .i64 (q : Nat) ∧ v2 = .int .u64 (v : Nat) ∧ v3 = .bool true ∧ Hid (Below wr.heap.size wr wq))
        case first =>
          first | go_region_held (fun W => Below wr.heap.size wr W) (first | exact Below.refl _ _ | exact Below.drew (Below.refl _ _) | assumption | exact Below.drew (by assumption)) (first | (go_at_call 23; refine (hfo _ (by first | exact Below.refl _ _ | exact Below.drew (Below.refl _ _) | assumption | exact Below.drew (by assumption))).mono ?_; rintro e wb ⟨rfl, hwb⟩)) | fail
          all_goals
            go_wp2
            go_meet
            case rel => exact ⟨rfl, rfl, rfl, by assumption⟩
        case rest =>
          obtain ⟨rfl, rfl, rfl, hW⟩ := hcut
          have e1 := Hbk.out wc hW.out
          have z1 := x1 wc hW.out
          have z2 := x2 wc hW.out
          have k1 := r1 wc hW.out
          have k2 := r2 wc hW.out
          have o1 := y1 wc hW.out
          have o2 := y2 wc hW.out
          have HW1 : Hid (((wc.setCell ⟨w1.heap.size, 0, none⟩ (.bool f')).setCell ⟨w1.heap.size, 1, none⟩ (.slice eg' kk' ec')).heap[w1.heap.size]? = some (.cells #[.bool f', .slice eg' kk' ec'] 45 (0, 0))) := by
            show _ = _
            rw [blk_set (blk_set e1 _) _]; rfl
          have hBw : Below w.heap.size w wc := HB.out.trans (hW.out.mono HB.out.size)
          have hBw' : Below w1.heap.size w1 wc := HB'.out.trans (hW.out.mono HB'.out.size)
          have HW2 : Hid (Below w.heap.size w ((wc.setCell ⟨w1.heap.size, 0, none⟩ (.bool f')).setCell ⟨w1.heap.size, 1, none⟩ (.slice eg' kk' ec'))) := (hBw.setCell hws _).setCell hws _
          have HW3 : Hid (Below w1.heap.size w1 ((wc.setCell ⟨w1.heap.size, 0, none⟩ (.bool f')).setCell ⟨w1.heap.size, 1, none⟩ (.slice eg' kk' ec'))) := (hBw'.setCell (Nat.le_refl _) _).setCell (Nat.le_refl _) _
          clear e1 hBw hBw' x1 x2 r1 r2 y1 y2 hfo hidx hW HB HB' Hbk
          go_wp2
          go_roundw
          case rel => exact ⟨j + 1, q, y + v, kk', f', es', eg', ec', by go_num, by go_num, by have := Hj.out; omega, hyv, Hyl2.out, Hs'.out, Hkk'.out, Her'.out, HW1.out, hpl2.out, HW2.out, HW3.out⟩
          case measure => have := Hj.out; simp [intOf]; omega
    · have q1 : ¬ (j : Int) < n := by omega
      have hE : Hid (Q = if f then (y, true) else (0, false)) := by
        show _ = _
        rw [← hpl.out, List.drop_eq_nil_of_le (by rw [Hk.out]; omega), place_end HS.out hs.out]
        unfold behind
        cases f <;> simp
      have y1 : wr.cell? ⟨w1.heap.size, 0, none⟩ = some (.bool f) := cell_of hblk.out 0
      have HB : Hid _ := hB.out
      clear hyl hs hkk her hblk hpl hB hB' hjl
      cases f with
      | true =>
        have hE' : Hid (Q = (y, true)) := hE.out
        clear hE
        go_wp2
        go_ret2
        exact ⟨by rw [hE'.out]; rfl, HB.out⟩
      | false =>
        have hE' : Hid (Q = (0, false)) := by show _ = _; rw [hE.out]; simp
        clear hE
        go_wp2
        go_ret2
        exact ⟨by rw [hE'.out]; rfl, HB.out⟩
#print axioms iof_gen
end Go.Proofs.Ytkcledkfgmdcgaa
