/- The landed Merge. The landed Merge: the walk. -/
import Derived.Test.YtknfjonaepggnaaLoserPlays
import Derived.Test.YtknfjonaepggnaaLoserBegin
import Derived.Test.YtknfjonaepggnaaRunMay
import Derived.Test.YtknfjonaepggnaaRunRead
namespace Go.Proofs.Ytknfjonaepggnaa
open Go.RowKit
set_option linter.unusedVariables false
set_option linter.unusedSimpArgs false

/-- What comes next of lists, and what is left of them. -/
def NextIs (left : List (List En)) (k : Wd) (c : Nat) (okb : Bool) (left' : List (List En)) : Prop :=
  (okb = true ∧ ∃ i r, left[i]? = some ((k, c) :: r) ∧ left' = left.set i r ∧ LeastE left (k, c)) ∨ (okb = false ∧ left' = left ∧ ∀ l ∈ left, l = [])
/-- How many entries a block of slices shows. -/
def lensV : List Value → Nat
  | [] => 0
  | .slice _ n _ :: vs => n + lensV vs
  | _ :: vs => lensV vs
def lensAt (W : World) (b : Nat) : Nat := match W.heap[b]? with
  | some (.cells cs _ _) => lensV cs.toList
  | _ => 0
theorem lens_vals {B : Nat} {W : World} : ∀ {vs : List Value} {ls : List (List En)}, ListVals B W vs ls → lensV vs = totL ls
  | [], [], _ => rfl
  | [], _ :: _, h => by have := h.length; simp at this
  | _ :: _, [], h => by have := h.length; simp at this
  | v :: vs, l :: ls, h => by
    obtain ⟨ai, ci, rfl, _, _⟩ := h.row 0 v l rfl rfl
    have ih := lens_vals (h.drop 1)
    simp only [List.drop_one, List.tail_cons] at ih
    simp only [lensV, ih, totL, List.flatten_cons, List.length_append]
theorem PlayAt.lens {B : Nat} {W : World} {pb lb ob : Nat} {ls : List (List En)} {L : List Nat} {vs : List Value} (h : PlayAt B W pb lb ob ls L vs) : lensAt W lb = totL ls := by
  unfold lensAt
  rw [h.left]
  simp only [List.toList_toArray]
  exact lens_vals h.vals

def PBoth (B : Nat) (w : World) (pb lb ob : Nat) (left : List (List En)) (n : Nat) (e : Ending) (w' : World) : Prop :=
  ∃ k c okb left' L' W' vs', e = .returned (.tuple #[.agg #[strV k, .int .u64 (c : Nat)], .bool okb]) ∧ Kept2 w w' lb ob ∧ PlayAt B w' pb lb ob left' L' vs' ∧ Hid (L'.length = n ∧ Tree left' L' W' n ∧ L'.getD 0 0 = W' 1) ∧ Hid (NextIs left k c okb left')
theorem pnext_both {B : Nat} {w : World} {pb lb ob : Nat} {left : List (List En)} {L : List Nat} {vs : List Value} {W : Nat → Nat} {n : Nat} (h : PlayAt B w pb lb ob left L vs) (h1 : 1 ≤ n) (hT : L.length = n ∧ Tree left L W n ∧ L.getD 0 0 = W 1) (hR : ∀ l ∈ left, RiseE l) :
    Calls Try.prog 32 #[.pointer (some ⟨pb, 0, none⟩)] w fun e w' => PBoth B w pb lb ob left n e w' := by
  obtain ⟨t1, t2, t3⟩ := hT
  obtain ⟨b1, b2⟩ := best_least (left := left) (n := n) (i := W 1) (h.len.trans t1) t2.all hR
  have hi := t2.lt 1 (by omega) (by omega)
  obtain ⟨l, hl⟩ : ∃ l, left[W 1]? = some l := ⟨_, List.getElem?_eq_getElem (by rw [h.len, t1]; exact hi)⟩
  cases l with
  | nil =>
    refine (pnext_nil h t1 hi t3 hl).mono ?_
    rintro e w' ⟨rfl, hG⟩
    exact ⟨[], 0, false, left, L, W, vs, rfl, Kept2.grow hG _ _, h.later hG (Nat.le_refl _), ⟨t1, t2, t3⟩, .inr ⟨rfl, rfl, b2 hl⟩⟩
  | cons x r =>
    refine (pnext_any h t1 hi t2 t3 rfl hl).mono ?_
    rintro e w' ⟨rfl, hK, L', W', vs', hp, s1, s2, s3⟩
    exact ⟨x.1, x.2, true, left.set (W 1) r, L', W', vs', rfl, hK, hp, ⟨s1, s2, s3⟩, .inl ⟨rfl, W 1, r, hl, rfl, b1 x r hl⟩⟩

/-- What the loop keeps. -/
structure LoopM (ls left : List (List En)) (out : List En) (k : Wd) (c : Nat) (okb : Bool) : Prop where
  ex : ∃ left0, MidL ls left0 out ∧ NextIs left0 k c okb left ∧ out.length + totL left0 ≤ totL ls
theorem LoopM.done {ls left : List (List En)} {out : List En} {k : Wd} {c : Nat} (h : LoopM ls left out k c false) (hl : ls.length ≤ 256) (hb : badL ls = 0) : mergeL ls = (out, 0) := by
  obtain ⟨left0, h1, h2, _⟩ := h.ex
  rcases h2 with ⟨h2, _⟩ | ⟨_, _, h3⟩
  · cases h2
  · exact h1.done h3 hl hb
theorem LoopM.tot {ls left : List (List En)} {out : List En} {k : Wd} {c : Nat} {okb : Bool} (h : LoopM ls left out k c okb) : out.length ≤ totL ls := by
  obtain ⟨left0, _, _, h3⟩ := h.ex; omega
/-- The next entry, and how much is left. -/
theorem LoopM.next {ls left left2 : List (List En)} {out : List En} {k2 : Wd} {c2 : Nat} {okb2 : Bool} (h : MidL ls left out) (ht : out.length + totL left ≤ totL ls) (hN : NextIs left k2 c2 okb2 left2) :
    LoopM ls left2 out k2 c2 okb2 ∧ totL left2 + (if okb2 then 1 else 0) = totL left := by
  refine ⟨⟨left, h, hN, ht⟩, ?_⟩
  rcases hN with ⟨rfl, i, r, h1, rfl, _⟩ | ⟨rfl, rfl, _⟩
  · rw [tot_set h1]; rfl
  · simp
/-- What count must make of it. -/
theorem LoopM.step {ls left : List (List En)} {out : List En} {k : Wd} {c : Nat} (h : LoopM ls left out k c true) (hl : ls.length ≤ 256) (hb : badL ls = 0) :
    ((∀ z, out.getLast? = some z → z.1 ≠ k) ∧ MidL ls left (out ++ [(k, c)]) ∧ (out ++ [(k, c)]).length + totL left ≤ totL ls) ∨
    (∃ zn, out.getLast? = some (k, zn) ∧ zn + c ≤ 4611686018427387904 ∧ MidL ls left (out.set (out.length - 1) (k, zn + c)) ∧ (out.set (out.length - 1) (k, zn + c)).length + totL left ≤ totL ls) ∨
    (∃ zn, out.getLast? = some (k, zn) ∧ 4611686018427387904 < zn + c ∧ zn ≤ 4611686018427387904 ∧ c ≤ 4611686018427387904 ∧ mergeL ls = ([], 5)) := by
  obtain ⟨left0, h1, h2, h3⟩ := h.ex
  rcases h2 with ⟨_, i, r, g1, rfl, g2⟩ | ⟨h2, _⟩
  · have ht := tot_set g1
    by_cases hz : ∃ zn, out.getLast? = some (k, zn)
    · obtain ⟨zn, hz⟩ := hz
      right
      by_cases hs : zn + c ≤ 4611686018427387904
      · left
        exact ⟨zn, hz, hs, h1.more g1 g2 hz rfl hs, by rw [List.length_set]; omega⟩
      · right
        have hzp := h1.good.pos _ (List.mem_of_getLast? hz)
        have hcp := (h1.rise _ (List.mem_of_getElem? g1)).2.1 (k, c) (by simp)
        simp only at hzp hcp
        exact ⟨zn, hz, by omega, by omega, by omega, h1.over g1 hz rfl (by simp only; omega) hl hb⟩
    · left
      have hn : ∀ z, out.getLast? = some z → z.1 ≠ k := fun z hz' e => hz ⟨z.2, by rw [hz', ← e]⟩
      exact ⟨hn, h1.put g1 g2 hn, by rw [List.length_append]; simp only [List.length_singleton]; omega⟩
  · cases h2
def okN : Value → Nat
  | .bool true => 1
  | _ => 0
theorem okN_bool (b : Bool) : okN (.bool b) = if b then 1 else 0 := by cases b <;> rfl
end Go.Proofs.Ytknfjonaepggnaa

namespace Go.Proofs.Ytknfjonaepggnaa
open Go.RowKit
set_option linter.unusedVariables false
set_option linter.unusedSimpArgs false

/-- The loop's world: the play, what was told, the entry's own block. -/
structure LoopW (B : Nat) (W : World) (pb lb ob eb : Nat) (left : List (List En)) (L : List Nat) (vs : List Value) (v : Value) (out : List En) (k : Wd) (c : Nat) : Prop where
  play : PlayAt B W pb lb ob left L vs
  row : W.ownsRow B 64 2 v out.length (cellsE out)
  ent : W.heap[eb]? = some (.cells #[strV k, .int .u64 (c : Nat)] 64 (0, 0))
  off : v.ownBlock ≠ some eb
  base : B ≤ eb
theorem LoopW.grown {B : Nat} {W W' : World} {pb lb ob eb : Nat} {left : List (List En)} {L : List Nat} {vs : List Value} {v v' : Value} {out out' : List En} {k : Wd} {c : Nat} (h : LoopW B W pb lb ob eb left L vs v out k c) (hg : W.grownBy W' v.ownBlock) (hr : W'.ownsRow B 64 2 v' out'.length (cellsE out')) :
    PlayAt B W' pb lb ob left L vs ∧ W'.heap[eb]? = some (.cells #[strV k, .int .u64 (c : Nat)] 64 (0, 0)) := by
  obtain ⟨l1, l2, l3⟩ := h.play.lt
  have ty : ∀ {b : Nat} {cs : Array Value} {t : TypeId}, W.heap[b]? = some (.cells cs t (0, 0)) → t ≠ 64 → v.ownBlock ≠ some b := fun {b cs t} hb ht e => by
    obtain ⟨cur, hc⟩ := own2_type h.row e
    rw [hb] at hc
    simp at hc
    exact ht hc.2
  refine ⟨h.play.kept (hg.block _ l1 (fun e => ty h.play.blk (by decide) e.symm)) (hg.block _ l2 (fun e => ty h.play.left (by decide) e.symm)) (hg.block _ l3 (fun e => ty h.play.los (by decide) e.symm)) fun k hk hk2 => hg.block k hk2 (fun e => ?_), ?_⟩
  · have := (h.row.lt k e.symm).1; omega
  · rw [hg.block eb (Array.getElem?_eq_some_iff.1 h.ent).1 (fun e => h.off e.symm)]; exact h.ent
/-- Behind the next entry's call: the entry is laid into a block that the call left alone. -/
theorem LoopW.next {B : Nat} {W W5 : World} {pb lb ob eb : Nat} {left left2 : List (List En)} {L L2 : List Nat} {vs vs2 : List Value} {v : Value} {out : List En} {k k2 : Wd} {c c2 : Nat} (hp0 : PlayAt B W pb lb ob left L vs) (hrow : W.ownsRow B 64 2 v out.length (cellsE out)) (hent : W.heap[eb]? = some (.cells #[strV k, .int .u64 (c : Nat)] 64 (0, 0)))
    (hoff : v.ownBlock ≠ some eb) (hbase : B ≤ eb) (hK : Kept2 W W5 lb ob) (hp : PlayAt B W5 pb lb ob left2 L2 vs2) :
    LoopW B ((W5.setCell ⟨eb, 0, none⟩ (strV k2)).setCell ⟨eb, 1, none⟩ (.int .u64 (c2 : Nat))) pb lb ob eb left2 L2 vs2 v out k2 c2 := by
  have ty : ∀ {b : Nat} {cs : Array Value} {t : TypeId}, W.heap[b]? = some (.cells cs t (0, 0)) → t ≠ 64 → eb ≠ b ∧ v.ownBlock ≠ some b := fun {b cs t} hb ht => ⟨fun e => by
    subst e
    rw [hent] at hb
    simp at hb
    exact ht hb.2.symm, fun e => by
    obtain ⟨cur, hc⟩ := own2_type hrow e
    rw [hb] at hc
    simp at hc
    exact ht hc.2⟩
  obtain ⟨a1, a2⟩ := ty hp0.blk (by decide)
  obtain ⟨b1, b2⟩ := ty hp0.left (by decide)
  obtain ⟨c1, c2'⟩ := ty hp0.los (by decide)
  have hge : ∀ i, i ≠ eb → ((W5.setCell ⟨eb, 0, none⟩ (strV k2)).setCell ⟨eb, 1, none⟩ (.int .u64 (c2 : Nat))).heap[i]? = W5.heap[i]? := fun i hi => (Below.heap_setCell _ _ _ _ hi).trans (Below.heap_setCell _ _ _ _ hi)
  have he5 := (hK.block eb (Array.getElem?_eq_some_iff.1 hent).1 b1 c1).trans hent
  refine ⟨hp.kept (hge _ (fun e => a1 e.symm)) (hge _ (fun e => b1 e.symm)) (hge _ (fun e => c1 e.symm)) fun i hi _ => hge i (by omega), own2_block hrow fun i hi => ?_, blk2_set he5 _ _, hoff, hbase⟩
  have hil := (hrow.lt i hi).2
  rw [hge i (fun e => hoff (by rw [hi, e])), hK.block i hil (fun e => b2 (by rw [hi, e])) (fun e => c2' (by rw [hi, e]))]

set_option maxRecDepth 100000 in
set_option maxHeartbeats 8000000 in
theorem merge_any {B : Nat} {w : World} {ao : Option Addr} {len cap : Nat} {vs : List Value} {ls : List (List En)} (h : Reads w ao len cap vs) (hv : ListVals B w vs ls)
    (hf : ∀ l ∈ ls, ∀ z ∈ l, z.1.length ≤ 140737488351232 ∧ z.2 ≤ 18446744073709551615) (ht : ls.flatten.length ≤ 500000) :
    Calls Try.prog 22 #[.slice ao len cap] w fun e w' => DecOut w (mergeL ls) e w' := by
  have hlx : ls.length = len := by rw [← hv.length]; exact h.length
  have hml : len ≤ 9223372036854775807 := by have := Nat.le_trans h.le h.most; unfold maxLen at this; omega
  have hM : mergeL ls = if 256 < ls.length then ([], 6) else if badL ls = 0 then foldE [] ls.flatten else ([], badL ls) := rfl
  rw [hlx] at hM
  by_cases h256 : 256 < len
  · rw [if_pos h256] at hM
    have H : Hid _ := hM
    have hi : (256 : Int) < len := by omega
    clear hM h256
    go_enter Try.func22, Try.ntmps22
    go_wp2
    go_ret2
    rw [H.out]
    exact DecOut.bad (Below.refl _ _)
  rw [if_neg h256] at hM
  have hi : ¬ (256 : Int) < len := by omega
  have HM : Hid _ := hM
  have Hlx : Hid _ := hlx
  have H256 : Hid (ls.length ≤ 256) := by show _ ≤ _; omega
  clear hM h256 hlx
  go_enter Try.func22, Try.ntmps22
  go_wp2_with fail
  go_loopw [17] (fun i wr => ∃ j : Nat, i = .int .i64 j ∧ j ≤ len ∧ Hid (∀ x ∈ ls.take j, mayE x = 0) ∧ Below w.heap.size w wr) (fun i _ => (len - intOf i).toNat)
  case atStart => exact ⟨0, rfl, Nat.zero_le _, (show ∀ x ∈ ls.take 0, mayE x = 0 from fun x hx => by simp at hx), Below.refl _ _⟩
  case round =>
    obtain ⟨j, rfl, hj, hA, hB⟩ := hrel
    by_cases hjl : j < len
    · have hji : (j : Int) < len := by omega
      obtain ⟨l, ai, ci, hl, hvl, hr, _⟩ := hv.at (i := j) (by rw [Hlx.out]; exact hjl)
      obtain ⟨b, off, rfl, hbl, hc⟩ := h.atV (by omega)
      have c1 : wr.cell? ⟨b, off + j, none⟩ = some (.slice ai l.length ci) := (hB.cell (p := ⟨b, off + j, none⟩) hbl).trans (hc j _ hvl)
      have hfl := hf l (List.mem_of_getElem? hl)
      have pm : Calls Try.prog 30 #[.slice ai l.length ci] wr fun e w' => e = .returned (.int .i64 (mayE l : Nat)) ∧ Below wr.heap.size wr w' :=
        may_any (es := l) (hr.later hB (Nat.le_refl _)) (fun e he => (hfl e he).2) (fun e he => by have := (hfl e he).1; omega)
      have Hl : Hid _ := hl
      have HB : Hid _ := hB
      have hsz := hB.size
      clear hc hr hvl hl hfl hB
      by_cases hm0 : mayE l = 0
      · rw [hm0] at pm
        have hA2 : Hid (∀ x ∈ ls.take (j + 1), mayE x = 0) := by
          show ∀ x ∈ _, _
          intro x hx
          rw [List.take_add_one, Hl.out] at hx
          rcases List.mem_append.1 hx with hx | hx
          · exact hA.out x hx
          · simp at hx; subst hx; exact hm0
        clear hA hm0
        go_wp2_with fail
        refine pm.mono ?_
        rintro e w1 ⟨rfl, hb1⟩
        have HB2 : Hid _ := HB.out.trans (hb1.mono hsz)
        clear pm c1 hb1
        go_wp2
        go_roundw
        case rel => exact ⟨j + 1, by go_num, by omega, hA2, HB2.out⟩
        case measure => simp [intOf]; omega
      · have hE : Hid (mergeL ls = ([], mayE l)) := by
          show _ = _
          rw [HM.out, bad_at hA.out Hl.out hm0, if_neg hm0]
        have hmi : ¬ (mayE l : Int) = 0 := by omega
        generalize mayE l = c at *
        clear hA hm0
        go_wp2_with fail
        refine pm.mono ?_
        rintro e w1 ⟨rfl, hb1⟩
        have HB2 : Hid _ := HB.out.trans (hb1.mono hsz)
        clear pm c1 hb1
        go_wp2
        go_ret2
        rw [hE.out]
        exact DecOut.bad HB2.out
    · have hje : j = len := by omega
      have hni : ¬ (j : Int) < len := by omega
      have hbad : Hid (badL ls = 0) := all_bad (by have := hA.out; rw [hje, List.take_of_length_le (by rw [Hlx.out]; exact Nat.le_refl _)] at this; exact this)
      clear hA hje hjl hj
      by_cases hn0 : len = 0
      · have hE : Hid (mergeL ls = ([], 0)) := by
          show _ = _
          rw [HM.out, if_pos hbad.out]
          have : ls = [] := List.eq_nil_of_length_eq_zero (by rw [Hlx.out]; exact hn0)
          rw [this]; rfl
        have hn0i : (len : Int) = 0 := by omega
        clear HM hn0
        go_wp2
        go_ret2
        rw [hE.out]
        exact DecOut.bad hB
      have h1 : 1 ≤ len := by omega
      have hn0i : ¬ (len : Int) = 0 := by omega
      have hlen2 : len ≤ 256 := by have := H256.out; have := Hlx.out; omega
      have pb0 := begin_any (h.later hB (Nat.le_refl _)) (hv.here.later hB (Nat.le_refl _)) h1 (by omega)
      have hsz0 := hB.size
      have HB : Hid _ := hB
      clear HM hn0 hB
      go_wp2_with fail
      refine pb0.mono ?_
      rintro e w1 ⟨hB1, pb, lb, ob, L, W, rfl, hp, hT⟩
      have HB1 : Hid (Below w.heap.size w w1) := HB.out.trans (hB1.mono hsz0)
      have hsB := hB1.size
      generalize hBB : wr.heap.size = B0 at hp hsB hsz0
      have hS0 := MidL.start hbad.out
      have pn := pnext_both hp h1 hT fun l hl => (hS0.rise l hl).1
      clear pb0 hBB HB
      go_wp2_with fail
      refine pn.mono ?_
      rintro e w2 ⟨k, c, okb, left, L2, W2, vs2, rfl, hK, hp2, hT2, hN⟩
      obtain ⟨hLM, hTot0⟩ := LoopM.next hS0 (by simp) hN.out
      obtain ⟨g1, g2, g3⟩ := hp.base
      have hB2 : Below w.heap.size w w2 := hK.below HB1.out (by omega) (by omega) HB1.out.size
      have hgr : Grow w2 (w2.alloc (.cells #[strV k, .int .u64 (c : Nat)] 64)) := (Below.refl _ _).alloc (Nat.le_refl _) _
      have hs2 := hK.size
      have hLW : LoopW B0 (w2.alloc (.cells #[strV k, .int .u64 (c : Nat)] 64)) pb lb ob w2.heap.size left L2 vs2 (.slice none 0 0) [] k c :=
        ⟨hp2.later hgr (Nat.le_refl _), World.ownsRow_nil _ _ _ _, heap_alloc_new _ _, by simp [Value.ownBlock], by omega⟩
      have hB3 := hB2.alloc hB2.size (.cells #[strV k, .int .u64 (c : Nat)] 64)
      have HLM : Hid _ := hLM
      have HLW : Hid _ := hLW
      have HB3 : Hid _ := hB3
      clear pn hp hT hK hp2 hN hLM hB2 hgr hLW hB3 HB1 hs2 hsB hS0 hTot0 hB1
      go_wp2_with fail
      obtain ⟨e0, he0⟩ : ∃ e0, e0 = w2.heap.size := ⟨_, rfl⟩
      rw [← he0] at HLW ⊢
      generalize w2.alloc (.cells #[strV k, .int .u64 (c : Nat)] 64) = w3 at HLW HB3 ⊢
      clear he0
      go_loopw [7, 9, 10] (fun v q u wr => ∃ (left : List (List En)) (out : List En) (k : Wd) (c : Nat) (okb : Bool) (L2 : List Nat) (W2 : Nat → Nat) (vs2 : List Value) (eb : Nat), q = .pointer (some ⟨eb, 0, none⟩) ∧ u = .bool okb ∧ Hid (LoopW B0 wr pb lb ob eb left L2 vs2 v out k c) ∧ Hid (L2.length = len ∧ Tree left L2 W2 len ∧ L2.getD 0 0 = W2 1) ∧ Hid (LoopM ls left out k c okb) ∧ Hid (Below w.heap.size w wr)) (fun _ _ u wr => lensAt wr lb + okN u)
      case atStart => exact ⟨left, [], k, c, okb, L2, W2, vs2, e0, rfl, rfl, HLW, hT2, HLM, HB3⟩
      case round =>
        clear HLW hT2 HLM HB3
        obtain ⟨left, out, k, c, okb, L2, W2, vs2, eb, rfl, rfl, HLW, hT2, HLM, HB3⟩ := hrel
        obtain ⟨ag, cp, rfl⟩ := own2_slice HLW.out.row
        cases okb with
        | false =>
          have hE : Hid (mergeL ls = (out, 0)) := HLM.out.done H256.out hbad.out
          go_wp2
          go_ret2
          rw [hE.out]
          exact ⟨ag, cp, out.length, rfl, rfl, own2_mono HLW.out.row hsz0, HB3.out⟩
        | true =>
          have hB0r : B0 ≤ wr.heap.size := by have := HLW.out.play.lt; omega
          have hol : out.length ≤ 1000000 := by have := HLM.out.tot; unfold totL at this; omega
          have cz := blk2 HLW.out.ent
          have hcnt : (∃ out', Calls Try.prog 33 #[.slice ag out.length cp, .agg #[strV k, .int .u64 (c : Nat)]] wr (fun e w' => CountAt B0 wr (.slice ag out.length cp) out' e w') ∧ MidL ls left out' ∧ out'.length + totL left ≤ totL ls) ∨
              (Calls Try.prog 33 #[.slice ag out.length cp, .agg #[strV k, .int .u64 (c : Nat)]] wr (fun e w' => e = .returned (.tuple #[.slice none 0 0, .bool false]) ∧ Grow wr w') ∧ mergeL ls = ([], 5)) := by
            rcases HLM.out.step H256.out hbad.out with ⟨n1, n2, n3⟩ | ⟨zn, n1, n2, n3, n4⟩ | ⟨zn, n1, n2, n3, n4, n5⟩
            · exact .inl ⟨_, count_put HLW.out.row hB0r k c n1 hol, n2, n3⟩
            · exact .inl ⟨_, count_more HLW.out.row hB0r k c zn n1 n2 hol, n3, n4⟩
            · exact .inr ⟨count_over HLW.out.row hB0r k c zn n1 n2 n3 n4 hol, n5⟩
          generalize out.length = ol at *
          rcases hcnt with ⟨out', pc, hMid, hTot⟩ | ⟨pc, hE⟩
          · have HMid : Hid _ := hMid
            have HTot : Hid _ := hTot
            clear hMid hTot hol
            go_wp2_with fail
            refine pc.mono ?_
            rintro e w4 ⟨v', rfl, hr4, hg4⟩
            obtain ⟨hp4, he4⟩ := HLW.out.grown hg4 hr4
            have cz4 := blk2 he4
            have hB4 : Below w.heap.size w w4 := HB3.out.grown hg4 HB3.out.size (fun k hk => by have := (HLW.out.row.lt k hk).1; omega)
            obtain ⟨W5, hW5⟩ : ∃ W5, W5 = w4.alloc (.cells #[strV k, .int .u64 (c : Nat)] 64) := ⟨_, rfl⟩
            have hgr : Grow w4 W5 := by rw [hW5]; exact (Below.refl _ _).alloc (Nat.le_refl _) _
            have hent5 : W5.heap[w4.heap.size]? = some (.cells #[strV k, .int .u64 (c : Nat)] 64 (0, 0)) := by rw [hW5]; exact heap_alloc_new _ _
            have hp5 := hp4.later hgr (Nat.le_refl _)
            have hr5 := own2_later hr4 hgr (Nat.le_refl _)
            have hoff5 : v'.ownBlock ≠ some w4.heap.size := fun e => by have := (hr4.lt _ e).2; omega
            have hB04 : B0 ≤ w4.heap.size := by have := hg4.size; omega
            have hB5 := hB4.trans (hgr.mono hB4.size)
            have pn := pnext_both hp5 h1 hT2.out fun l hl => (HMid.out.rise l hl).1
            obtain ⟨eb2, heb2⟩ : ∃ eb2, eb2 = w4.heap.size := ⟨_, rfl⟩
            rw [← heb2] at hent5 hoff5 hB04
            have HW5 : Hid _ := hW5
            have Heb2 : Hid _ := heb2
            have hw4s : w.heap.size ≤ eb2 := by have := hB4.size; omega
            have Hp5 : Hid _ := hp5
            have Hr5 : Hid _ := hr5
            have Hent5 : Hid _ := hent5
            have HB5 : Hid _ := hB5
            clear pc hr4 hg4 hp4 he4 hW5 hgr hp5 hr5 hent5 hB4 hB5 cz heb2
            go_wp2_with fail
            rw [← HW5.out, ← Heb2.out]
            refine pn.mono ?_
            rintro e w6 ⟨k2, c2, okb2, left2, L3, W3, vs3, rfl, hK6, hp6, hT6, hN6⟩
            have HL6 : Hid _ := LoopW.next (k2 := k2) (c2 := c2) Hp5.out Hr5.out Hent5.out hoff5 hB04 hK6 hp6
            obtain ⟨hLM6, hTot6⟩ := LoopM.next HMid.out HTot.out hN6.out
            have HLM6 : Hid _ := hLM6
            obtain ⟨g1, g2, g3⟩ := Hp5.out.base
            have hne1 : eb2 ≠ lb := fun e => by have h1 := Hent5.out; have h2 := Hp5.out.left; rw [e, h2] at h1; simp at h1
            have hne2 : eb2 ≠ ob := fun e => by have h1 := Hent5.out; have h2 := Hp5.out.los; rw [e, h2] at h1; simp at h1
            have he6 := (hK6.block eb2 (Array.getElem?_eq_some_iff.1 Hent5.out).1 hne1 hne2).trans Hent5.out
            have cz6 := blk2 he6
            have HB6 : Hid _ := below_set2 (hK6.below HB5.out (by omega) (by omega) HB5.out.size) hw4s (strV k2) (.int .u64 (c2 : Nat))
            have HMs : Hid (lensAt ((w6.setCell ⟨eb2, 0, none⟩ (strV k2)).setCell ⟨eb2, 1, none⟩ (.int .u64 (c2 : Nat))) lb + okN (.bool okb2) < lensAt wr lb + okN (.bool true)) := by
              show _ < _
              rw [HL6.out.play.lens, HLW.out.play.lens, okN_bool, okN_bool]
              simp only [if_true]
              omega
            clear pn hK6 hp6 hN6 hLM6 hTot6 g1 g2 g3 hne1 hne2 he6 cz4 HW5 hoff5 Hp5 Hr5 Hent5 HB5
            go_wp2
            go_roundw
            case rel => exact ⟨left2, out', k2, c2, okb2, L3, W3, vs3, eb2, rfl, rfl, HL6, hT6, HLM6, HB6⟩
            case measure => exact HMs.out
          · have HE : Hid _ := hE
            clear hE
            go_wp2_with fail
            refine pc.mono ?_
            rintro e w4 ⟨rfl, hG4⟩
            have HB4 : Hid _ := HB3.out.trans (hG4.mono HB3.out.size)
            clear pc hG4 cz
            go_wp2
            go_ret2
            rw [HE.out]
            exact DecOut.bad HB4.out
#print axioms merge_any
end Go.Proofs.Ytknfjonaepggnaa
