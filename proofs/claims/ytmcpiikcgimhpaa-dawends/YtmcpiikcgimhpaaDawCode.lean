/- daw.Build: the automaton of words. (Has: DawHas. May, Words: DawTold.) -/
import Derived.Test.YtmcpiikcgimhpaaDawBuild
import Derived.Test.YtmcpiikcgimhpaaDawTold
namespace Go.Proofs.Ytmcpiikcgimhpaa
open Go.RowKit
set_option linter.unusedVariables false
set_option linter.unusedSimpArgs false

theorem MkAt.states {w0 W : World} {mb bm n xc : Nat} {xg : Option Addr} {yv : Value} {vs us : List (Bool × Value)} {S P : List Stt} {cur : Wd} (h : MkAt w0 W mb bm (.slice xg n xc) vs yv us S P cur) (hn : n = vs.length) : ReadsA W xg n xc (zA S) := by
  subst hn
  refine ⟨vs, by rw [h.lv, zA_len], ReadsE.own h.left, fun i p s hp hs => ?_⟩
  have hi := (List.getElem?_eq_some_iff.1 hs).1
  rw [zA_len] at hi
  obtain ⟨t, ht⟩ : ∃ t, S[i]? = some t := ⟨_, List.getElem?_eq_getElem hi⟩
  have h1 := zA_at ht
  rw [hs] at h1
  cases h1
  obtain ⟨e1, e2⟩ := h.st i p t hp ht
  refine ⟨e1, ?_⟩
  obtain ⟨eg, ec, he⟩ := own2_slice e2
  rw [he] at e2
  exact ⟨eg, ec, by rw [he]; simp only [zE_len], by simp only [zE_len]; exact ReadsE.own e2⟩
theorem made_state (W : World) : (Instr.makeSlice 25 (.int .i64 1) (.int .i64 1)).run Try.prog W = .ok (.slice (some ⟨W.heap.size, 0, none⟩) 1 1) (W.alloc (.cells #[.bool false, .slice none 0 0] 37)) := by
  obtain ⟨i0, hi, hz0, hz1, hz2⟩ := info_parts Try.infoSt
  have hC : madeCells (Value.agg #[.bool false, .slice none 0 0]).cells (1 * i0.size) = #[.bool false, .slice none 0 0] := by
    rw [hz1]
    apply Array.ext
    · simp [madeCells]
    · intro j h1 h2
      have hj : j = 0 ∨ j = 1 := by simp at h2; omega
      rcases hj with rfl | rfl <;> simp [madeCells, Value.cells]
  have := run_make (P := Try.prog) W 25 37 i0 (.agg #[.bool false, .slice none 0 0]) Try.underlying25 hi hz0 .i64 .i64 1 1 (by omega) (Int.le_refl _) (by rw [hz2]; omega) (by omega)
  rw [show (1 : Int).toNat = 1 from rfl, hC] at this
  exact this
theorem mk_start (w W : World) (hw : Below w.heap.size w W) : MkAt w (((W.alloc (.map #[] 0)).alloc (.cells #[.bool false, .slice none 0 0] 37)).alloc (.cells #[.slice none 0 0, .map (some W.heap.size), .slice (some ⟨W.heap.size + 1, 0, none⟩) 1 1] 48)) (W.heap.size + 2) W.heap.size (.slice none 0 0) [] (.slice (some ⟨W.heap.size + 1, 0, none⟩) 1 1) [(false, .slice none 0 0)] [] [(false, [])] [] := by
  obtain ⟨k1, k2, k3⟩ := two_new_old W (.map #[] 0) (.cells #[.bool false, .slice none 0 0] 37) (.cells #[.slice none 0 0, .map (some W.heap.size), .slice (some ⟨W.heap.size + 1, 0, none⟩) 1 1] 48)
  have hs := hw.size
  refine ⟨((hw.alloc hs _).alloc (by simp; omega) _).alloc (by simp; omega) _, ⟨by omega, hs⟩, k3, nums_kept (nums_made W) ?_, World.ownsRow_nil _ _ _ _, ⟨rfl, .inr ⟨_, _, _, rfl, by omega, k2, Nat.le_refl _, by decide, rfl, rfl⟩⟩, (fun k hk => by cases hk), rfl, Nat.le_refl _, (fun i p s h => by simp at h), fun i p s a b => ?_, fun i j p q k hi hj hij => ?_, fun i j p q k hi a => ?_⟩
  · rw [k1, heap_alloc_new]
  · have hi := (List.getElem?_eq_some_iff.1 a).1
    have : i = 0 := by simp at hi; omega
    subst this
    simp at a b
    subst a b
    exact ⟨rfl, World.ownsRow_nil _ _ _ _⟩
  · simp at hi hj; omega
  · have : i = 0 := by simp at hi; omega
    subst this
    simp at a
    subst a
    intro _ h'; cases h'
theorem sum_take_le (zs : List Wd) (j : Nat) : ((zs.take j).map List.length).sum ≤ (zs.map List.length).sum := by
  conv => rhs; rw [← List.take_append_drop j zs, List.map_append, List.sum_append]
  omega
theorem nodes_le (zs : List Wd) : nodesK (trieW zs).2 ≤ (zs.map List.length).sum := by
  have := fold_nodes zs (false, .nil)
  simpa [trieW, nodesK] using this
theorem mem_sum_le {zs : List Wd} {k : Wd} (h : k ∈ zs) : k.length ≤ (zs.map List.length).sum := by
  induction zs with
  | nil => cases h
  | cons a l ih =>
    simp only [List.map_cons, List.sum_cons]
    rcases List.mem_cons.1 h with rfl | h
    · omega
    · have := ih h; omega
theorem wayE_len (s : Stt) (w : Wd) (i : Nat) : (wayE s w i).length ≤ s.2.length + 1 := by
  cases h : w[i]? with
  | none => unfold wayE; rw [h]; simp
  | some c => rw [wayE_open h]; simp
theorem open_bnd {l : List Wd} {w : Wd} {S P : List Stt} (h : OpenN w (trieW l) [] S P) (hs : (l.map List.length).sum ≤ 1000000000) : BndP S P w := by
  obtain ⟨_, g2, g3⟩ := open_good h GoodS.nil
  refine ⟨fun i s hi => ?_, g3, fun s hs' e he => ?_⟩
  · have h1 := open_cnt h s (List.mem_of_getElem? hi)
    have h2 := nodes_le l
    have h3 := wayE_len s w i
    omega
  · obtain ⟨i, hi⟩ := List.getElem?_of_mem hs'
    have h1 := g2.low i s hi e he
    have h2 := (List.getElem?_eq_some_iff.1 hi).1
    omega
theorem back_bnd : ∀ (d n : Nat) (S P : List Stt) (cur : Wd), cur.length = n + d → P.length = cur.length + 1 → BndP S P cur → BndP (backP n S P cur).1 (backP n S P cur).2 (cur.take n)
  | 0, n, S, P, cur, hc, hP, hB => by
    rw [back_done n P cur S hP (by omega), List.take_of_length_le (by omega)]
    exact hB
  | d + 1, n, S, P, cur, hc, hP, hB => by
    obtain ⟨u, c, rfl, hu⟩ := split_one (l := cur) (m := n + d) (by omega)
    obtain ⟨P', p, q, rfl, hP'⟩ := split_two (l := P) (m := n + d) (by rw [hP]; simp [hu])
    rw [back_step n P' u S p q c (by omega) (by omega), List.take_append_of_le_length (by omega)]
    exact back_bnd d n _ _ u hu (by simp; omega) (hB.step (by omega))
theorem riseD_is (zs : List Wd) : (riseD zs = 0 ∧ [] ∉ zs ∧ RiseW zs ∧ buildR zs = (zA (buildL zs), 0)) ∨ (riseD zs ≠ 0 ∧ riseD zs ≤ 9 ∧ buildR zs = ([], riseD zs)) := by
  unfold riseD buildR
  by_cases h1 : [] ∈ zs
  · rw [if_pos h1, if_pos h1]; exact .inr ⟨by omega, by omega, rfl⟩
  · rw [if_neg h1, if_neg h1]
    by_cases h2 : RiseW zs
    · rw [if_pos h2, if_pos h2]; exact .inl ⟨rfl, h1, h2, rfl⟩
    · rw [if_neg h2, if_neg h2]; exact .inr ⟨by omega, by omega, rfl⟩
theorem trie_snoc {zs : List Wd} {j : Nat} {k : Wd} (h : zs[j]? = some k) : trieW (zs.take (j + 1)) = insN (trieW (zs.take j)) k := by
  rw [List.take_add_one, h]
  show (zs.take j ++ [k]).foldl insN _ = _
  rw [List.foldl_append]; rfl
set_option maxRecDepth 100000 in
set_option maxHeartbeats 8000000 in
theorem build_any {w : World} {ao : Option Addr} {len cap : Nat} {zs : List Wd} (h : Reads w ao len cap (zs.map strV)) (hl : len ≤ 1000000000) (hs : (zs.map List.length).sum ≤ 1000000000) :
    Calls Try.prog 9 #[.slice ao len cap] w fun e w' => BuildOut w (buildR zs) e w' := by
  have hll : zs.length = len := by simpa using h.length
  have Hll : Hid _ := hll
  have HR : Hid (Reads w ao len cap (zs.map strV)) := h
  have Hsum : Hid _ := hs
  have pr := rise_any h
  clear hll h hs
  rcases riseD_is zs with ⟨hd, hne, hri, hb⟩ | ⟨hd, hd9, hb⟩
  case inr =>
    have HB : Hid _ := hb
    obtain ⟨d, hdd⟩ : ∃ d, d = riseD zs := ⟨_, rfl⟩
    rw [← hdd] at pr hd hd9 HB
    have hd' : ((d : Int) != 0) = true := by simp; omega
    have hd2 : ¬ (d : Int) = 0 := by omega
    clear hb hdd
    go_enter Try.func9, Try.ntmps9
    go_wp2_with fail
    refine pr.mono ?_
    rintro e w1 ⟨rfl, q, hw⟩
    have hB : Hid (Below w.heap.size w w1) := by rw [hw]; exact below_drewN (Below.refl _ _) q
    clear pr hw
    go_wp2_with fail
    go_ret2
    rw [HB.out]
    exact ⟨none, 0, 0, rfl, ⟨[], rfl, ⟨rfl, Nat.le_refl _, by unfold maxLen; omega, fun _ => ⟨rfl, rfl⟩, fun a ha => by cases ha⟩, fun i p s h => by simp at h⟩, hB.out⟩
  case inl =>
    rw [hd] at pr
    have HBR : Hid _ := hb
    have Hne : Hid _ := hne
    have Hri : Hid _ := hri
    have hmk := made_state
    have hmm : ∀ W : World, (Instr.makeMap 46 none).run Try.prog W = .ok (.map (some W.heap.size)) (W.alloc (.map #[] 0)) := fun W => rfl
    clear hd hne hri hb
    go_enter Try.func9, Try.ntmps9
    go_wp2_with fail
    refine pr.mono ?_
    rintro e w1 ⟨rfl, q, hw⟩
    have hB1 : Below w.heap.size w w1 := by rw [hw]; exact below_drewN (Below.refl _ _) q
    have HB1 : Hid _ := hB1
    have hm0 := mk_start w w1 hB1
    rw [show w1.heap.size + 2 = w1.heap.size + 1 + 1 from rfl] at hm0
    have HM0 : Hid _ := hm0
    clear pr hw hB1 hm0
    go_wp2_with fail
    obtain ⟨W0, hW0⟩ : ∃ W0, W0 = (((w1.alloc (.map #[] 0)).alloc (.cells #[.bool false, .slice none 0 0] 37)).alloc (.cells #[.slice none 0 0, .map (some w1.heap.size), .slice (some ⟨w1.heap.size + 1, 0, none⟩) 1 1] 48)) := ⟨_, rfl⟩
    rw [← hW0]
    obtain ⟨mb, hmb⟩ : ∃ mb, mb = w1.heap.size + 1 + 1 := ⟨_, rfl⟩
    rw [← hmb]
    have hM0 := HM0.out
    rw [← hW0, ← hmb] at hM0
    obtain ⟨bm, hbm⟩ : ∃ bm, bm = w1.heap.size := ⟨_, rfl⟩
    have HM1 : Hid (MkAt w W0 mb bm (.slice none 0 0) [] (.slice (some ⟨w1.heap.size + 1, 0, none⟩) 1 1) [(false, .slice none 0 0)] [] [(false, [])] []) := by rw [hbm]; exact hM0
    clear hW0 hmb hM0 hbm HM0 HB1
    go_loopw [6, 22] (fun lv i wr => ∃ (j : Nat) (last : Wd) (xv : Value) (vs : List (Bool × Value)) (yv : Value) (us : List (Bool × Value)) (S P : List Stt), lv = strV last ∧ i = .int .i64 (j : Nat) ∧ j ≤ len ∧ Hid (last.length ≤ 1000000000) ∧ Hid (us.length = P.length) ∧
      Hid (MkAt w wr mb bm xv vs yv us S P last) ∧ Hid (OpenN last (trieW (zs.take j)) [] S P) ∧ Hid (∀ k, zs[j]? = some k → lessB last k = true)) (fun _ i _ => (len - intOf i).toNat)
    case atStart =>
      refine ⟨0, [], .slice none 0 0, [], _, [(false, .slice none 0 0)], [], [(false, [])], rfl, rfl, Nat.zero_le _, Nat.zero_le _, rfl, HM1.out, ⟨rfl, rfl, rfl⟩, fun k hk => ?_⟩
      have hkn : k ≠ [] := fun e => Hne.out (by rw [← e]; exact List.mem_of_getElem? hk)
      obtain ⟨c, v, rfl⟩ := List.exists_cons_of_ne_nil hkn
      rfl
    case round =>
      obtain ⟨j, last, xv, vs, yv, us, S, P, rfl, rfl, hj, hll, hul, hM, hO, hL⟩ := hrel
      by_cases hjl : j < len
      · have q1 : (j : Int) < len := by omega
        obtain ⟨b1, o1, hao, hb1, hat1⟩ := HR.out.atW (by omega)
        subst hao
        obtain ⟨k, hk⟩ : ∃ k, zs[j]? = some k := ⟨_, List.getElem?_eq_getElem (by rw [Hll.out]; exact hjl)⟩
        have x1 : wr.cell? ⟨b1, o1 + j, none⟩ = some (strV k) := (hM.out.low.cell (p := ⟨b1, o1 + j, none⟩) hb1).trans (hat1 j k hk)
        have hlt := hL.out k hk
        have hsum := Hsum.out
        have hsj := sum_take_le zs j
        have hkl : k.length ≤ 1000000000 := Nat.le_trans (mem_sum_le (List.mem_of_getElem? hk)) hsum
        have hlP := open_len hO.out
        have hcl := close_len hO.out
        have hbd := open_bnd hO.out (by omega)
        have hnext := open_next hO.out hlt
        rw [← trie_snoc hk] at hnext
        obtain ⟨n, hn⟩ : ∃ n, n = commonL last k := ⟨_, rfl⟩
        have hn1 : n ≤ last.length := by rw [hn]; exact (common_le last k).1
        have hn2 : n < k.length := by rw [hn]; exact common_lt hlt
        have htk : last.take n = k.take n := by rw [hn]; exact common_take last k
        have hblen := back_len n P last S hlP
        have hcnt := open_cnt hnext
        have hnod := nodes_le (zs.take (j + 1))
        have hsj1 := sum_take_le zs (j + 1)
        have hll2 : last.length ≤ 1000000000 := hll.out
        have pc := common_any last k wr (by omega) (by omega)
        have pb := fun W2 (hW : MkAt w W2 mb bm xv vs yv us S P last) => back_any hW hlP hul.out n hn1 (by omega) (by omega) hbd
        rw [← hn] at pc hnext hcnt
        obtain ⟨S', hS'⟩ : ∃ S', S' = (backP n S P last).1 := ⟨_, rfl⟩
        obtain ⟨P', hP'⟩ : ∃ P', P' = (backP n S P last).2 := ⟨_, rfl⟩
        simp only [← hS', ← hP', htk] at pb hnext hcnt hblen
        have HPb : Hid _ := pb
        have HNext : Hid (OpenN k (trieW (zs.take (j + 1))) [] S' (P' ++ chainP (k.drop (n + 1)))) := hnext
        have HCnt : Hid (∀ p ∈ P', p.2.length ≤ 1000000000) := fun p hp => by
          have := hcnt p (List.mem_append.2 (.inl hp)); omega
        have HPl : Hid (P'.length = n + 1) := by show _ = _; rw [hblen]; omega
        have HK : Hid (zs[j]? = some k) := hk
        have HM : Hid (MkAt w wr mb bm xv vs yv us S P last) := hM.out
        have hks : (⟨k.toArray⟩ : ByteArray).size = k.length := by simp [ByteArray.size]
        obtain ⟨kl, hkk⟩ : ∃ kl, kl = k.length := ⟨_, rfl⟩
        rw [← hkk] at hkl hn2 hks
        have HKl : Hid (kl = k.length) := hkk
        have hnI : n ≤ 1000000000 := by omega
        clear hat1 hb1 hk hlt hsum hsj hlP hcl hbd hnext hn hn1 htk hblen hcnt hnod hsj1 hll2 pb hS' hP' hkk hll hul hM hO hL hjl
        go_wp2_with fail
        refine pc.mono ?_
        rintro e w2 ⟨rfl, qd, hw2⟩
        have p2 := HPb.out w2 (by rw [hw2]; exact HM.out.later (below_drewN (Below.refl _ _) qd))
        clear pc hw2 x1
        go_wp2_with fail
        refine p2.mono ?_
        rintro e w3 ⟨rfl, xv3, vs3, yv3, us3, hu3, h3⟩
        have HU3 : Hid (us3.length = n + 1) := hu3
        have H3 : Hid (MkAt w w3 mb bm xv3 vs3 yv3 us3 S' P' (k.take n)) := h3
        clear p2 hu3 h3
        go_wp2_with fail
        go_loopw [10] (fun iv w4 => ∃ (t : Nat) (yv : Value) (us : List (Bool × Value)), iv = .int .i64 (t : Nat) ∧ n ≤ t ∧ t ≤ kl ∧ Hid (us.length = t + 1) ∧ Hid (MkAt w w4 mb bm xv3 vs3 yv us S' (P' ++ List.replicate (t - n) (false, [])) (k.take t))) (fun iv _ => (kl - intOf iv).toNat)
        case atStart => exact ⟨n, yv3, us3, rfl, Nat.le_refl _, Nat.le_of_lt hn2, HU3.out, (by show MkAt _ _ _ _ _ _ _ _ _ _ _; rw [Nat.sub_self]; simpa using H3.out)⟩
        case round =>
          obtain ⟨t, yv4, us4, rfl, hnt, htk, hu4, hM4⟩ := hrel
          by_cases htl : t < kl
          · have q2 : (t : Int) < kl := by omega
            obtain ⟨c, hc⟩ : ∃ c, k[t]? = some c := ⟨_, List.getElem?_eq_getElem (by rw [← HKl.out]; exact htl)⟩
            have hidx := fun W => str_at Try.prog 9 Try.underlying9 hc W
            have hlen4 : (P' ++ List.replicate (t - n) ((false, []) : Stt)).length = t + 1 := by rw [List.length_append, List.length_replicate, HPl.out]; omega
            have htl4 : (k.take t).length = t := by rw [List.length_take]; have := HKl.out; omega
            have pe := enter_any hM4.out (by rw [hlen4, htl4]) (by rw [hu4.out, hlen4]) (by rw [hlen4]; omega) (fun s hs => by
              rcases List.mem_append.1 (List.mem_of_getElem? hs) with h | h
              · have := HCnt.out s h; omega
              · rw [(List.mem_replicate.1 h).2]; exact Nat.zero_le _) c
            have hst : k.take t ++ [c] = k.take (t + 1) := by rw [List.take_add_one, hc]; rfl
            have hrp : P' ++ List.replicate (t - n) ((false, []) : Stt) ++ [(false, [])] = P' ++ List.replicate (t + 1 - n) (false, []) := by rw [List.append_assoc, show t + 1 - n = (t - n) + 1 by omega, List.replicate_succ']
            rw [hst, hrp, hu4.out] at pe
            clear hc hlen4 htl4 hst hrp hu4 hM4
            go_wp2_with fail
            refine pe.mono ?_
            rintro e w5 ⟨rfl, yv5, us5, hu5, h5⟩
            have HU5 : Hid (us5.length = t + 1 + 1) := hu5
            have H5 : Hid (MkAt w w5 mb bm xv3 vs3 yv5 us5 S' (P' ++ List.replicate (t + 1 - n) (false, [])) (k.take (t + 1))) := h5
            clear pe hu5 h5
            go_wp2_with fail
            go_roundw
            case rel => exact ⟨t + 1, yv5, us5, by go_num, by omega, by omega, HU5.out, H5.out⟩
            case measure => simp [intOf]; omega
          · have q2 : ¬ (t : Int) < kl := by omega
            obtain rfl : t = kl := by omega
            have hM5 := hM4.out
            rw [show k.take t = k from List.take_of_length_le (by rw [← HKl.out]; exact Nat.le_refl _)] at hM5
            obtain ⟨r, hr⟩ : ∃ r, t - n = r + 1 := ⟨t - n - 1, by omega⟩
            have hrep : P' ++ List.replicate (t - n) ((false, []) : Stt) = (P' ++ List.replicate r (false, [])) ++ [(false, [])] := by rw [hr, List.replicate_succ', List.append_assoc]
            rw [hrep] at hM5
            have hQl : (P' ++ List.replicate r ((false, []) : Stt)).length = t := by rw [List.length_append, List.length_replicate, HPl.out]; omega
            have hch : (P' ++ List.replicate r ((false, []) : Stt)) ++ [(true, [])] = P' ++ chainP (k.drop (n + 1)) := by
              rw [chainP_is, List.length_drop, ← HKl.out, show t - (n + 1) = r by omega, List.append_assoc]
            obtain ⟨yb, yc, rfl⟩ := own2_some hM5.way (by rw [hu4.out]; omega)
            obtain ⟨⟨f, v⟩, hv⟩ : ∃ x, us4[t]? = some x := ⟨_, List.getElem?_eq_getElem (by rw [hu4.out]; omega)⟩
            obtain ⟨c1, _, c3⟩ := hM5.cells hv
            have c3' := c3 (t * 2)
            have c0 : wr.cell? ⟨mb, 2, none⟩ = some (.slice (some ⟨yb, 0, none⟩) (t + 1) yc) := by rw [← hu4.out]; exact cell_of hM5.blk 2
            have hfinal := hM5.final true (by rw [hQl]; exact hv)
            rw [hQl] at hfinal
            simp only at hfinal
            rw [hch] at hfinal
            have HF : Hid (MkAt w (wr.setCell ⟨yb, t * 2, none⟩ (.bool true)) mb bm xv3 vs3 (.slice (some ⟨yb, 0, none⟩) us4.length yc) (us4.set t (true, v)) S' (P' ++ chainP (k.drop (n + 1))) k) := hfinal
            have HU4 : Hid (us4.length = t + 1) := hu4.out
            have htI : (t : Int) < (t : Int) + 1 := by omega
            clear hM5 hM4 hu4 hv hrep hQl hch hfinal c3 hr
            go_wp2
            go_roundw
            case rel =>
              refine ⟨j + 1, k, xv3, vs3, _, _, S', _, rfl, by go_num, by omega, (by show _ ≤ _; rw [← HKl.out]; exact hkl), ?_, HF.out, HNext.out, fun k2 hk2 => rise_adj Hri.out HK.out hk2⟩
              show _ = _
              have h1 := open_len HNext.out
              rw [List.length_set, HU4.out, h1, ← HKl.out]
            case measure => simp [intOf]; omega
      · have q1 : ¬ (j : Int) < len := by omega
        have hfin : zs.take j = zs := List.take_of_length_le (by rw [Hll.out]; omega)
        have hO2 := hO.out
        rw [hfin] at hO2
        have hlP := open_len hO2
        have hcl := close_len hO2
        have hsum := Hsum.out
        have hbd := open_bnd hO2 hsum
        obtain ⟨p, hp1, hp2⟩ := back_root P last S hlP
        have hll2 : last.length ≤ 1000000000 := hll.out
        have pb := back_any hM.out hlP hul.out 0 (Nat.zero_le _) (by omega) (by omega) hbd
        have hbuild : (putS (backP 0 S P last).1 p).1 = buildL zs := by rw [← hp2, open_close hO2]; rfl
        have hS2 : (backP 0 S P last).1.length ≤ 1000000001 := by
          have h1 := (put_pre (backP 0 S P last).1 p).length_le
          rw [hbuild] at h1
          have := (build_len zs).2
          omega
        have hB2 : BndP (backP 0 S P last).1 [p] [] := by
          have h1 := back_bnd last.length 0 S P last (by omega) hlP hbd
          rw [hp1] at h1; exact h1
        obtain ⟨S2, hS2'⟩ : ∃ S2, S2 = (backP 0 S P last).1 := ⟨_, rfl⟩
        rw [hp1, ← hS2', List.take_zero] at pb
        rw [← hS2'] at hbuild hS2 hB2
        have HBd : Hid _ := hB2
        have HBuild : Hid _ := hbuild
        have HS2 : Hid _ := hS2
        clear hfin hO2 hlP hcl hsum hbd hp1 hp2 hbuild hS2 hS2' hB2 hll hul hM hO hL hjl
        go_wp2_with fail
        refine pb.mono ?_
        rintro e w2 ⟨rfl, xv2, vs2, yv2, us2, hu2, h2⟩
        obtain ⟨yb, yc, rfl⟩ := own2_some h2.way (by omega)
        have hu2' : us2.length = 1 := hu2
        obtain ⟨⟨f, v⟩, hv⟩ : ∃ x, us2[0]? = some x := ⟨_, List.getElem?_eq_getElem (by omega)⟩
        obtain ⟨c1, c2, _⟩ := h2.cells hv
        obtain ⟨hf, hrow⟩ := h2.wy 0 _ p hv rfl
        rw [wayE_end (by simp)] at hrow
        simp only at hf hrow
        subst hf
        obtain ⟨eg, ec, rfl⟩ := own2_slice hrow
        rw [Nat.zero_mul, Nat.zero_add] at c2
        rw [Nat.zero_mul] at c1
        have c0 : w2.cell? ⟨mb, 2, none⟩ = some (.slice (some ⟨yb, 0, none⟩) 1 yc) := by rw [← hu2']; exact cell_of h2.blk 2
        have hless : MkAt w w2 mb bm xv2 vs2 (.slice (some ⟨yb, 0, none⟩) us2.length yc) us2 S2 [] [] := MkAt.less (P := []) (R := [p]) h2
        obtain ⟨kp, hkp⟩ : ∃ kp, kp = p.2.length := ⟨_, rfl⟩
        rw [← hkp] at hrow c2
        have hkb : kp ≤ 1000000000000 := by
          have := HBd.out.len 0 p rfl
          rw [wayE_end (by simp)] at this
          omega
        have pn := number_any hless hrow hkp.symm (fun i x k hi => by simp at hi) (by have := HS2.out; omega) hkb (fun s hs e he => by have h1 := HBd.out.left s hs e he; have h2 := HS2.out; omega) (fun e he => by have h1 := HBd.out.way p (by simp) e he; have h2 := HS2.out; omega)
        rw [HBuild.out] at pn
        clear pb h2 hv hrow hless hkp hu2 hu2' hkb
        go_wp2_with fail
        refine pn.mono ?_
        rintro e w3 ⟨xv3, vs3, rfl, h3⟩
        obtain ⟨xg, xc, rfl⟩ := own2_slice h3.left
        have c3 : w3.cell? ⟨mb, 0, none⟩ = some (.slice xg vs3.length xc) := cell_of h3.blk 0
        have HA : Hid (ReadsA w3 xg vs3.length xc (zA (buildL zs))) := h3.states rfl
        have HL : Hid (Below w.heap.size w w3) := h3.low
        clear pn h3 c0 c1 c2
        go_wp2_with fail
        go_ret2
        rw [HBR.out]
        exact ⟨xg, _, xc, rfl, HA.out, HL.out⟩
#print axioms build_any
end Go.Proofs.Ytmcpiikcgimhpaa
