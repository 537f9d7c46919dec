/- daw's (*maker).backTo: the states that are more than some edges away are left. -/
import Derived.Test.YtmcpiikcgimhpaaDawEnter
namespace Go.Proofs.Ytmcpiikcgimhpaa
open Go.RowKit
set_option linter.unusedVariables false
set_option linter.unusedSimpArgs false

theorem MkAt.less {w0 W : World} {mb bm : Nat} {xv yv : Value} {vs us : List (Bool × Value)} {S P R : List Stt} {cur : Wd} (h : MkAt w0 W mb bm xv vs yv us S (P ++ R) cur) : MkAt w0 W mb bm xv vs yv us S P cur := by
  have hl := h.lp
  rw [List.length_append] at hl
  refine ⟨h.low, h.lo, h.blk, h.map, h.left, h.way, h.apart, h.lv, by omega, h.st, fun i p s a b => ?_, fun i j p q k hi hj => h.d1 i j p q k (by rw [List.length_append]; omega) (by rw [List.length_append]; omega), fun i j p q k hi => h.d2 i j p q k (by rw [List.length_append]; omega)⟩
  have hi := (List.getElem?_eq_some_iff.1 b).1
  exact h.wy i p s a (by rw [List.getElem?_append_left hi]; exact b)
theorem split_two {α : Type} {l : List α} {m : Nat} (h : l.length = m + 2) : ∃ l' a b, l = l' ++ [a, b] ∧ l'.length = m := by
  refine ⟨l.take m, l[m]'(by omega), l[m + 1]'(by omega), ?_, by simp; omega⟩
  apply List.ext_getElem (by simp; omega)
  intro i h1 h2
  by_cases hi : i < m
  · rw [List.getElem_append_left (by simp; omega), List.getElem_take]
  · rw [List.getElem_append_right (by simp; omega)]
    by_cases hm : i = m
    · subst hm; simp [Nat.min_eq_left (by omega : i ≤ l.length)]
    · have : i = m + 1 := by omega
      subst this
      simp [Nat.min_eq_left (by omega : m ≤ l.length)]
theorem split_one {α : Type} {l : List α} {m : Nat} (h : l.length = m + 1) : ∃ l' a, l = l' ++ [a] ∧ l'.length = m := by
  refine ⟨l.take m, l[m]'(by omega), ?_, by simp; omega⟩
  apply List.ext_getElem (by simp; omega)
  intro i h1 h2
  by_cases hi : i < m
  · rw [List.getElem_append_left (by simp; omega), List.getElem_take]
  · rw [List.getElem_append_right (by simp; omega)]
    have : i = m := by omega
    subst this; simp [Nat.min_eq_left (by omega : i ≤ l.length)]
/-- What keeps the numbers within bounds. -/
structure BndP (S P : List Stt) (cur : Wd) : Prop where
  len : ∀ (i : Nat) (s : Stt), P[i]? = some s → (wayE s cur i).length ≤ 100000000000
  way : ∀ p ∈ P, ∀ e ∈ p.2, e.2 < S.length
  left : ∀ s ∈ S, ∀ e ∈ s.2, e.2 < S.length
theorem BndP.step {S P : List Stt} {u : Wd} {p q : Stt} {c : UInt8} (h : BndP S (P ++ [p, q]) (u ++ [c])) (hP : P.length = u.length) : BndP (putS S q).1 (P ++ [(p.1, p.2 ++ [(c, (putS S q).2)])]) u := by
  have hpl := (put_pre S q).length_le
  have hlt := put_lt S q
  refine ⟨fun i s hs => ?_, fun s hs e he => ?_, fun s hs e he => ?_⟩
  · rcases at_snoc hs with ⟨hi, hs'⟩ | ⟨hi, rfl⟩
    · have := h.len i s (by rw [List.getElem?_append_left hi]; exact hs')
      rw [wayE_same (b := u) (List.getElem?_append_left (by omega))] at this
      exact this
    · have := h.len i p (by rw [hi, List.getElem?_append_right (Nat.le_refl _)]; simp)
      rw [wayE_open (c := c) (by rw [hi, hP]; simp)] at this
      rw [wayE_end (by omega)]
      simp only [List.length_append, List.length_singleton] at this ⊢
      exact this
  · rcases List.mem_append.1 hs with hs | hs
    · have := h.way s (List.mem_append.2 (.inl hs)) e he; omega
    · simp only [List.mem_singleton] at hs
      subst hs
      rcases List.mem_append.1 he with he | he
      · have := h.way p (by simp) e he; omega
      · simp only [List.mem_singleton] at he
        subst he; exact hlt
  · rcases put_mem hs with hs | hs
    · have := h.left s hs e he; omega
    · subst hs
      have := h.way s (by simp) e he; omega
/-- An edge's cell on the way. -/
theorem MkAt.ecell {w0 W : World} {mb bm eb n cap : Nat} {xv yv : Value} {vs us : List (Bool × Value)} {S P : List Stt} {cur : Wd} (h : MkAt w0 W mb bm xv vs yv us S P cur) {i : Nat} {f : Bool} {s : Stt} {c : UInt8} (hu : us[i]? = some (f, .slice (some ⟨eb, 0, none⟩) n cap)) (hs : P[i]? = some s) (hc : cur[i]? = some c) :
    W.cell? ⟨eb, s.2.length * 2 + 1, none⟩ = some (.int .i64 0) ∧ W.frozen? ⟨eb, s.2.length * 2 + 1, none⟩ = false := by
  have hrow := (h.wy i _ s hu hs).2
  rw [wayE_open hc] at hrow
  obtain ⟨cu, hcu⟩ := own2_type hrow (k := eb) rfl
  have h2 := hrow.cells (g := eb) rfl
  have hat : (zE (s.2 ++ [(c, 0)]))[s.2.length]? = some (c, 0) := by
    rw [zE_app, List.getElem?_append_right (by rw [zE_len]; exact Nat.le_refl _), zE_len, Nat.sub_self]; rfl
  have := h2 _ _ (cellsEd_at hat).2
  exact ⟨by simpa [Addr.add_lit] using this, by simp [World.frozen?, hcu]⟩
set_option maxRecDepth 100000 in
set_option maxHeartbeats 8000000 in
theorem back_any {w0 W : World} {mb bm : Nat} {xv yv : Value} {vs us : List (Bool × Value)} {S P : List Stt} {cur : Wd} (h : MkAt w0 W mb bm xv vs yv us S P cur) (hP : P.length = cur.length + 1) (hu : us.length = P.length) (n : Nat) (hn : n ≤ cur.length)
    (hl : P.length ≤ 10000000000) (hC : (closeP S P cur).1.length ≤ 10000000000) (hB : BndP S P cur) :
    Calls Try.prog 17 #[.pointer (some ⟨mb, 0, none⟩), .int .i64 (n : Nat)] W fun e W' => e = .returned (.tuple #[]) ∧ ∃ xv' vs' yv' us', us'.length = n + 1 ∧ MkAt w0 W' mb bm xv' vs' yv' us' (backP n S P cur).1 (backP n S P cur).2 (cur.take n) := by
  obtain ⟨N, hN⟩ : ∃ N, N = cur.length := ⟨_, rfl⟩
  have hul : us.length = N + 1 := by omega
  obtain ⟨yb, yc, rfl⟩ := own2_some h.way (by omega)
  have H : Hid (MkAt w0 W mb bm xv vs (.slice (some ⟨yb, 0, none⟩) us.length yc) us S P cur) := h
  have HN : Hid (N = cur.length) := hN
  have HUl : Hid (us.length = N + 1) := hul
  have HPl : Hid (P.length = N + 1) := by rw [hN]; exact hP
  have HC : Hid _ := hC
  have HB : Hid _ := hB
  have hNl : N ≤ 10000000000 := by omega
  have hnN : n ≤ N := by omega
  have hmc : W.cell? ⟨mb, 2, none⟩ = some (.slice (some ⟨yb, 0, none⟩) (N + 1) yc) := by rw [← hul]; exact cell_of h.blk 2
  clear h hP hu hN hul hl hC hB hn
  go_enter Try.func17, Try.ntmps17
  go_wp2_with fail
  go_loopw [4] (fun v wr => ∃ (m : Nat) (S1 P1 : List Stt) (xv1 : Value) (vs1 : List (Bool × Value)) (yv1 : Value) (us1 : List (Bool × Value)), v = .int .i64 (m : Nat) ∧ n ≤ m ∧ m ≤ N ∧ Hid (P1.length = m + 1) ∧ Hid (us1.length = m + 1) ∧ Hid (MkAt w0 wr mb bm xv1 vs1 yv1 us1 S1 P1 (cur.take m)) ∧
    Hid (backP n S1 P1 (cur.take m) = backP n S P cur) ∧ Hid (closeP S1 P1 (cur.take m) = closeP S P cur) ∧ Hid (BndP S1 P1 (cur.take m))) (fun v _ => (intOf v).toNat)
  case atStart =>
    have ht : cur.take N = cur := List.take_of_length_le (by have := HN.out; omega)
    exact ⟨N, S, P, xv, vs, _, us, rfl, hnN, Nat.le_refl _, HPl.out, HUl.out, (by show MkAt _ _ _ _ _ _ _ _ _ _ _; rw [ht]; exact H.out), (by show _ = _; rw [ht]), (by show _ = _; rw [ht]), (by show BndP _ _ _; rw [ht]; exact HB.out)⟩
  case round =>
    obtain ⟨m, S1, P1, xv1, vs1, yv1, us1, rfl, hnm, hmN, hPl, hul, hM, hBk, hCl, hBd⟩ := hrel
    by_cases hmn : n < m
    · have q1 : (n : Int) < m := by omega
      obtain ⟨m', hm'⟩ : ∃ m', m = m' + 1 := ⟨m - 1, by omega⟩
      obtain ⟨P', p, q, rfl, hP'⟩ := split_two (l := P1) (m := m') (by rw [hPl.out]; omega)
      obtain ⟨c, hc⟩ : ∃ c, cur[m']? = some c := ⟨_, List.getElem?_eq_getElem (by have := HN.out; omega)⟩
      have htk : cur.take m = cur.take m' ++ [c] := by rw [hm', List.take_add_one, hc]; rfl
      have htl : (cur.take m').length = m' := by rw [List.length_take]; have := HN.out; omega
      have hM0 := hM.out
      obtain ⟨y1, yc1, rfl⟩ := own2_some hM0.way (by rw [hul.out]; omega)
      obtain ⟨⟨fp, vp⟩, hup⟩ : ∃ x, us1[m']? = some x := ⟨_, List.getElem?_eq_getElem (by rw [hul.out]; omega)⟩
      obtain ⟨⟨fq, vq⟩, huq⟩ : ∃ x, us1[m]? = some x := ⟨_, List.getElem?_eq_getElem (by rw [hul.out]; omega)⟩
      have hpat : (P' ++ [p, q])[m']? = some p := by rw [← hP', List.getElem?_append_right (Nat.le_refl _), Nat.sub_self]; rfl
      have hqat : (P' ++ [p, q])[m]? = some q := by rw [hm', ← hP', List.getElem?_append_right (Nat.le_succ _), show P'.length + 1 - P'.length = 1 by omega]; rfl
      obtain ⟨hfp, hrp⟩ := hM0.wy m' _ p hup hpat
      obtain ⟨hfq, hrq⟩ := hM0.wy m _ q huq hqat
      simp only at hfp hrp hfq hrq
      subst hfp hfq
      rw [wayE_open (c := c) (by rw [htk, List.getElem?_append_right (by omega), htl, Nat.sub_self]; rfl)] at hrp
      rw [wayE_end (by rw [List.length_take]; omega)] at hrq
      obtain ⟨kp, hkp⟩ : ∃ kp, kp = p.2.length := ⟨_, rfl⟩
      obtain ⟨kq, hkq⟩ : ∃ kq, kq = q.2.length := ⟨_, rfl⟩
      rw [List.length_append, List.length_singleton, ← hkp] at hrp
      rw [← hkq] at hrq
      obtain ⟨eb, cp, rfl⟩ := own2_some hrp (by omega)
      obtain ⟨qg, qc, rfl⟩ := own2_slice hrq
      obtain ⟨_, c2, _⟩ := hM0.cells hup
      obtain ⟨c3, c4, _⟩ := hM0.cells huq
      have c1 : wr.cell? ⟨mb, 2, none⟩ = some (.slice (some ⟨y1, 0, none⟩) (m + 1) yc1) := by rw [← hul.out]; exact cell_of hM0.blk 2
      have hspl : P' ++ [p, q] = (P' ++ [p]) ++ [q] := by simp
      have hless : MkAt w0 wr mb bm xv1 vs1 (.slice (some ⟨y1, 0, none⟩) us1.length yc1) us1 S1 (P' ++ [p]) (cur.take m) := by
        have h1 := hM0
        rw [hspl] at h1
        exact h1.less
      have hcl1 := close_pre (P' ++ [p, q]) (cur.take m) S1
      rw [hCl.out] at hcl1
      have hS1 : S1.length ≤ 10000000000 := Nat.le_trans hcl1.length_le HC.out
      have hbd := hBd.out
      have hkqb : kq ≤ 100000000000 := by
        have := hbd.len m q hqat
        rw [wayE_end (by rw [List.length_take]; omega)] at this
        omega
      have hkpb : kp ≤ 100000000000 := by
        have := hbd.len m' p hpat
        rw [wayE_open (c := c) (by rw [htk, List.getElem?_append_right (by omega), htl, Nat.sub_self]; rfl), List.length_append, List.length_singleton] at this
        omega
      have pn := number_any hless hrq hkq.symm (fun i x k hi hx hk => by
          refine hM0.d1 i m x _ k (by rw [List.length_append] at hi ⊢; simp at hi ⊢; omega) (by rw [List.length_append]; simp; omega) (by rw [List.length_append] at hi; simp at hi; omega) hx huq hk)
        hS1 (by omega) (fun s hs e he => by have := hbd.left s hs e he; omega) (fun e he => by have := hbd.way q (by simp) e he; omega)
      have hbk2 : backP n (putS S1 q).1 (P' ++ [(p.1, p.2 ++ [(c, (putS S1 q).2)])]) (cur.take m') = backP n S P cur := by
        rw [← hBk.out, htk]
        exact (back_step n P' (cur.take m') S1 p q c (by rw [htl, hP']) (by rw [htl]; omega)).symm
      have hcl2 : closeP (putS S1 q).1 (P' ++ [(p.1, p.2 ++ [(c, (putS S1 q).2)])]) (cur.take m') = closeP S P cur := by
        rw [← hCl.out, htk]
        exact (close_step P' (cur.take m') S1 p q c (by rw [htl, hP'])).symm
      have hbd2 : BndP (putS S1 q).1 (P' ++ [(p.1, p.2 ++ [(c, (putS S1 q).2)])]) (cur.take m') := by
        rw [htk] at hbd
        exact hbd.step (by rw [htl, hP'])
      have hnb : (putS S1 q).2 ≤ 20000000000 := by have h1 := put_lt S1 q; have h2 := put_len S1 q; omega
      obtain ⟨num, hnum⟩ : ∃ num, num = (putS S1 q).2 := ⟨_, rfl⟩
      obtain ⟨S2, hS2⟩ : ∃ S2, S2 = (putS S1 q).1 := ⟨_, rfl⟩
      rw [← hnum, ← hS2] at pn hbk2 hcl2 hbd2
      have HBk : Hid _ := hbk2
      have HCl : Hid _ := hcl2
      have HBd : Hid _ := hbd2
      have Hup : Hid (us1[m']? = some (p.1, .slice (some ⟨eb, 0, none⟩) (kp + 1) cp)) := hup
      have HTk : Hid _ := htk
      have HTl : Hid _ := htl
      have HP' : Hid (P'.length = m') := hP'
      have HKp : Hid (kp = p.2.length) := hkp
      have HUl1 : Hid (us1.length = m + 1) := hul.out
      have Hm' : Hid (m = m' + 1) := hm'
      have HNum : Hid (num ≤ 20000000000) := by rw [hnum]; exact hnb
      have em : (m : Int) - 1 = (m' : Nat) := by omega
      have em1 : (m' : Int) < (m : Int) + 1 := by omega
      have em2 : ¬ (m' : Int) < 0 := by omega
      have hmb10 : m ≤ 10000000000 := by omega
      clear hM hPl hul hBk hCl hBd hM0 hup huq hpat hqat hrp hrq hspl hless hcl1 hbd hbk2 hcl2 hbd2 hnb hnum hS2 hkp hkq htk htl hP' hc hm' hkqb
      go_wp2_with fail
      refine pn.mono ?_
      rintro e W2 ⟨xv2, vs2, rfl, h2⟩
      obtain ⟨d1, d2⟩ := h2.ecell Hup.out (by rw [← HP'.out]; simp : (P' ++ [p])[m']? = some p) (by rw [HTk.out, List.getElem?_append_right (by rw [HTl.out]; exact Nat.le_refl _), HTl.out, Nat.sub_self]; rfl : (cur.take m)[m']? = some c)
      rw [← HKp.out] at d1 d2
      have H2 : Hid (MkAt w0 W2 mb bm xv2 vs2 (.slice (some ⟨y1, 0, none⟩) us1.length yc1) us1 S2 (P' ++ [p]) (cur.take m)) := h2
      clear pn h2 c1 c2 c3 c4
      go_upto_region 5 with (fail)
      obtain ⟨W3, hW3⟩ : ∃ W3, W3 = W2.setCell ⟨eb, kp * 2 + 1, none⟩ (.int .i64 (num : Nat)) := ⟨_, rfl⟩
      rw [← hW3]
      have h3 : MkAt w0 W3 mb bm xv2 vs2 (.slice (some ⟨y1, 0, none⟩) (m + 1) yc1) us1 S2 (P' ++ [(p.1, p.2 ++ [(c, num)])]) (cur.take m') := by
        rw [hW3]
        have h4 := H2.out
        rw [HTk.out, HUl1.out] at h4
        have h5 := h4.close (by rw [HTl.out, HP'.out]) (by rw [HTl.out]; exact Hup.out) (by rw [HKp.out]) num
        rw [← HKp.out] at h5
        exact h5
      obtain ⟨hrun, h4⟩ := h3.cut HUl1.out (by rw [List.length_append, HP'.out]; have := Hm'.out; simp; omega)
      have d3 : W3.cell? ⟨mb, 2, none⟩ = some (.slice (some ⟨y1, 0, none⟩) (m + 1) yc1) := cell_of h3.blk 2
      have d4 : W3.frozen? ⟨mb, 2, none⟩ = false := by simp [World.frozen?, h3.blk]
      have H4 : Hid (MkAt w0 (W3.setCell ⟨mb, 2, none⟩ (.slice (some ⟨y1, 0, none⟩) m yc1)) mb bm xv2 vs2 (.slice (some ⟨y1, 0, none⟩) m yc1) (us1.take m) S2 (P' ++ [(p.1, p.2 ++ [(c, num)])]) (cur.take m')) := h4
      clear hW3 h3 h4 d1 d2 H2
      go_wp2_with fail
      go_roundw
      case rel => exact ⟨m', S2, _, xv2, vs2, _, us1.take m, (by first | rfl | rw [em]), by have := Hm'.out; omega, by have := Hm'.out; omega, (by show _ = _; rw [List.length_append, HP'.out]; rfl), (by show _ = _; rw [List.length_take, HUl1.out]; have := Hm'.out; omega), H4.out, HBk.out, HCl.out, HBd.out⟩
      case measure => simp [intOf]; omega
    · have q1 : ¬ (n : Int) < m := by omega
      obtain rfl : m = n := by omega
      have hE : Hid (backP m S P cur = (S1, P1)) := by
        show _ = _
        rw [← hBk.out]
        exact back_done m P1 _ S1 (by rw [hPl.out, List.length_take]; have := HN.out; omega) (by rw [List.length_take]; omega)
      have hF : Hid (us1.length = m + 1) := hul.out
      have hG : Hid (MkAt w0 wr mb bm xv1 vs1 yv1 us1 S1 P1 (cur.take m)) := hM.out
      clear hPl hul hM hBk hCl hBd
      go_wp2
      go_end0
      rw [hE.out]
      exact ⟨rfl, _, _, _, _, hF.out, hG.out⟩
#print axioms back_any
end Go.Proofs.Ytmcpiikcgimhpaa
