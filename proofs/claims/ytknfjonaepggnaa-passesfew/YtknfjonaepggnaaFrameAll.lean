/- Plain mathematics of records: what is put is got; cut records; records one behind the other. Plain mathematics of records: payloads are bytes; where records end. The contracts of frame.laySum and frame.Put. The contracts of bytes.Equal, bytes.Clone and frame.Get. The contract of frame.Scan. The contracts of the document's own answers for records: Put, Get, Scan. -/
import Derived.Test.YtknfjonaepggnaaNumAll
import Derived.Test.YtknfjonaepggnaaCrcAll
import Derived.Test.YtknfjonaepggnaaFound
import Derived.Deep.RegionHeld
import Derived.Lib.SliceRun
import Derived.Deep.QuietTactic
import Derived.BigQuiet
namespace Go.Proofs.Ytknfjonaepggnaa

def sum4 (c : Nat) : List Int := [((c % 256 : Nat) : Int), ((c / 256 % 256 : Nat) : Int), ((c / 65536 % 256 : Nat) : Int), ((c / 16777216 % 256 : Nat) : Int)]
def recL (p : List Int) : List Int := encode p.length ++ (p ++ sum4 (ofL p))

theorem sum4_len (c : Nat) : (sum4 c).length = 4 := rfl
theorem sum4_bytes (c : Nat) : isBytes (sum4 c) := fun z hz => by
  simp only [sum4, List.mem_cons, List.not_mem_nil, or_false] at hz
  rcases hz with rfl | rfl | rfl | rfl <;> omega
theorem rec_len (p : List Int) : (recL p).length = (encode p.length).length + p.length + 4 := by simp [recL, sum4_len]; omega
theorem isBytes.app {xs ys : List Int} (h1 : isBytes xs) (h2 : isBytes ys) : isBytes (xs ++ ys) := fun z hz => by
  rcases List.mem_append.1 hz with h | h
  · exact h1 z h
  · exact h2 z h
theorem rec_bytes {p : List Int} (h : isBytes p) (hl : p.length ≤ 1048576) : isBytes (recL p) :=
  (encode_bytes _ (by omega)).app (h.app (sum4_bytes _))

/-- The record with which bytes begin: its payload, its bytes' number, the error's number. -/
def getR (zs : List Int) : List Int × Nat × Nat :=
  if (getL zs).2.2 ≠ 0 then ([], 0, (getL zs).2.2)
  else if 1048576 < (getL zs).1 then ([], 0, 2)
  else if zs.length < (getL zs).2.1 + (getL zs).1 + 4 then ([], 0, 3)
  else if (zs.drop ((getL zs).2.1 + (getL zs).1)).take 4 = sum4 (ofL ((zs.drop (getL zs).2.1).take (getL zs).1)) then ((zs.drop (getL zs).2.1).take (getL zs).1, (getL zs).2.1 + (getL zs).1 + 4, 0)
  else ([], 0, 4)

theorem getR_err (zs : List Int) (h : (getR zs).2.2 ≠ 0) : (getR zs).1 = [] ∧ (getR zs).2.1 = 0 := by
  unfold getR at h ⊢
  split
  · exact ⟨rfl, rfl⟩
  · split
    · exact ⟨rfl, rfl⟩
    · split
      · exact ⟨rfl, rfl⟩
      · split
        · rename_i h1 h2 h3 h4
          rw [if_neg h1, if_neg h2, if_neg h3, if_pos h4] at h
          exact absurd rfl h
        · exact ⟨rfl, rfl⟩

theorem get_rec (p r : List Int) (hl : p.length ≤ 1048576) : getR (recL p ++ r) = (p, (recL p).length, 0) := by
  have hg : getL (recL p ++ r) = (p.length, (encode p.length).length, 0) := by
    have := get_back p.length (p ++ sum4 (ofL p) ++ r) (by omega)
    rw [← List.append_assoc] at this
    exact this
  have hd1 : (recL p ++ r).drop (encode p.length).length = p ++ (sum4 (ofL p) ++ r) := by
    rw [recL, List.append_assoc, List.drop_left', List.append_assoc]; rfl
  have hd2 : (recL p ++ r).drop ((encode p.length).length + p.length) = sum4 (ofL p) ++ r := by
    rw [← List.drop_drop, hd1, List.drop_left]
  have ht1 : ((recL p ++ r).drop (encode p.length).length).take p.length = p := by rw [hd1, List.take_left]
  have ht2 : ((recL p ++ r).drop ((encode p.length).length + p.length)).take 4 = sum4 (ofL p) := by
    rw [hd2]; exact List.take_left' (sum4_len _)
  unfold getR
  rw [hg]
  simp only
  rw [if_neg (by simp), if_neg (by omega), if_neg (by rw [List.length_append, rec_len]; omega), ht1, ht2, if_pos rfl, rec_len]

theorem get_rec_ok {zs p : List Int} {m : Nat} (h8 : isBytes zs) (h : getR zs = (p, m, 0)) : m ≤ zs.length ∧ zs.take m = recL p ∧ p.length ≤ 1048576 ∧ m = (recL p).length ∧ zs = recL p ++ zs.drop m := by
  rcases hg : getL zs with ⟨n, k, e⟩
  unfold getR at h
  rw [hg] at h
  simp only at h
  split at h
  · rename_i he; simp only [Prod.mk.injEq] at h; exact absurd h.2.2 he
  · rename_i he
    have he : e = 0 := by simpa using he
    subst he
    obtain ⟨k1, k2, k3, k4⟩ := get_ok zs h8 n k hg
    split at h
    · simp at h
    · split at h
      · simp at h
      · split at h
        · rename_i n1 n2 n3
          simp only [Prod.mk.injEq, and_true] at h
          obtain ⟨rfl, rfl⟩ := h
          have hlen : ((zs.drop k).take n).length = n := by simp; omega
          have htk : zs.take (k + n + 4) = recL ((zs.drop k).take n) := by
            rw [recL, hlen, k3, ← n3]
            have e1 : zs.take (k + n + 4) = zs.take k ++ ((zs.drop k).take n ++ ((zs.drop k).drop n).take 4) := by
              rw [Nat.add_assoc, List.take_add, List.take_add]
            rw [e1, List.drop_drop]
          refine ⟨by omega, htk, by omega, ?_, ?_⟩
          · rw [← htk]; simp; omega
          · rw [← htk, List.take_append_drop]
        · simp at h

/-- A record that is cut is none. -/
theorem get_rec_cut {p : List Int} {k : Nat} (h8 : isBytes p) (hl : p.length ≤ 1048576) (hk : k < (recL p).length) : (getR ((recL p).take k)).2.2 ≠ 0 := by
  intro h0
  rcases hg : getR ((recL p).take k) with ⟨q, m, e⟩
  rw [hg] at h0
  have h0 : e = 0 := h0
  subst h0
  obtain ⟨h1, h2, h3, h4, h5⟩ := get_rec_ok ((rec_bytes h8 hl).take k) hg
  have e1 : recL p = recL q ++ (((recL p).take k).drop m ++ (recL p).drop k) := by
    rw [← List.append_assoc, ← h5, List.take_append_drop]
  have g1 := get_rec q (((recL p).take k).drop m ++ (recL p).drop k) h3
  rw [← e1] at g1
  have g2 := get_rec p [] hl
  rw [List.append_nil, g1] at g2
  simp only [Prod.mk.injEq, and_true] at g2
  rw [List.length_take] at h1
  omega

/-! All records. -/
def scanF : Nat → List Int → List (List Int) × Nat
  | 0, _ => ([], 0)
  | f + 1, zs => if (getR zs).2.2 = 0 then ((getR zs).1 :: (scanF f (zs.drop (getR zs).2.1)).1, (getR zs).2.1 + (scanF f (zs.drop (getR zs).2.1)).2) else ([], 0)
def scanR (zs : List Int) : List (List Int) × Nat := scanF (zs.length + 1) zs

theorem rec_pos (p : List Int) : 5 ≤ (recL p).length := by rw [rec_len]; have := encode_len p.length; omega

theorem get_len {zs p : List Int} {m : Nat} (h : getR zs = (p, m, 0)) : 4 ≤ m ∧ m ≤ zs.length := by
  unfold getR at h
  split at h
  · rename_i he; simp only [Prod.mk.injEq] at h; exact absurd h.2.2 he
  · split at h
    · simp at h
    · split at h
      · simp at h
      · split at h
        · simp only [Prod.mk.injEq, and_true] at h; omega
        · simp at h

theorem scanF_more (f : Nat) : ∀ (g : Nat) (zs : List Int), zs.length < f → f ≤ g → scanF g zs = scanF f zs := by
  induction f with
  | zero => intro g zs h; omega
  | succ f ih =>
    intro g zs h hg
    cases g with
    | zero => omega
    | succ g =>
      unfold scanF
      split
      · rename_i h0
        rcases hr : getR zs with ⟨p, m, e⟩
        rw [hr] at h0
        have h0 : e = 0 := h0
        subst h0
        have := get_len hr
        rw [ih g (zs.drop m) (by simp; omega) (by omega)]
      · rfl

theorem scan_step {zs p : List Int} {m : Nat} (h : getR zs = (p, m, 0)) : scanR zs = (p :: (scanR (zs.drop m)).1, m + (scanR (zs.drop m)).2) := by
  have := get_len h
  unfold scanR
  conv => lhs; unfold scanF
  rw [h]
  simp only [if_true]
  rw [scanF_more ((zs.drop m).length + 1) zs.length (zs.drop m) (by omega) (by simp; omega)]
theorem scan_stop {zs : List Int} (h : (getR zs).2.2 ≠ 0) : scanR zs = ([], 0) := by
  unfold scanR scanF
  rw [if_neg h]

def recs : List (List Int) → List Int
  | [] => []
  | p :: l => recL p ++ recs l
theorem recs_append (a b : List (List Int)) : recs (a ++ b) = recs a ++ recs b := by
  induction a with
  | nil => rfl
  | cons p l ih => simp [recs, ih]

def okRows (ls : List (List Int)) : Prop := ∀ p ∈ ls, isBytes p ∧ p.length ≤ 1048576
theorem okRows.tail {p : List Int} {l : List (List Int)} (h : okRows (p :: l)) : okRows l := fun q hq => h q (List.mem_cons_of_mem _ hq)
theorem recs_bytes : ∀ (ls : List (List Int)), okRows ls → isBytes (recs ls)
  | [], _ => fun z hz => by simp [recs] at hz
  | p :: l, h => (rec_bytes (h p List.mem_cons_self).1 (h p List.mem_cons_self).2).app (recs_bytes l h.tail)

/-- Records, and what is none behind them. -/
theorem scan_recs : ∀ (ls : List (List Int)) (t : List Int), okRows ls → (getR t).2.2 ≠ 0 → scanR (recs ls ++ t) = (ls, (recs ls).length)
  | [], t, _, ht => by rw [recs, List.nil_append, scan_stop ht]; rfl
  | p :: l, t, h, ht => by
    have hp := h p List.mem_cons_self
    rw [recs, List.append_assoc, scan_step (get_rec p (recs l ++ t) hp.2), List.drop_left, scan_recs l t h.tail ht, List.length_append]

theorem get_nil : (getR []).2.2 ≠ 0 := by decide

/-- Records that are cut: as many as are whole. -/
def whole : List (List Int) → Nat → Nat
  | [], _ => 0
  | p :: l, k => if (recL p).length ≤ k then whole l (k - (recL p).length) + 1 else 0
theorem scan_cut_recs : ∀ (ls : List (List Int)) (k : Nat), okRows ls → k ≤ (recs ls).length →
    scanR ((recs ls).take k) = (ls.take (whole ls k), (recs (ls.take (whole ls k))).length) ∧ whole ls k ≤ ls.length ∧ (recs (ls.take (whole ls k))).length ≤ k ∧ (whole ls k < ls.length → k < (recs (ls.take (whole ls k + 1))).length)
  | [], k, _, hk => by
    have : k = 0 := by simpa [recs] using hk
    subst this
    refine ⟨?_, Nat.le_refl _, Nat.le_refl _, fun h => by simp at h⟩
    rw [recs, List.take_nil, scan_stop get_nil]; rfl
  | p :: l, k, h, hk => by
    have hp := h p List.mem_cons_self
    unfold whole
    by_cases hle : (recL p).length ≤ k
    · obtain ⟨i1, i2, i3, i4⟩ := scan_cut_recs l (k - (recL p).length) h.tail (by simp [recs] at hk; omega)
      rw [if_pos hle]
      have e : (recs (p :: l)).take k = recL p ++ (recs l).take (k - (recL p).length) := by
        rw [recs, List.take_append, List.take_of_length_le hle]
      refine ⟨?_, by simp; omega, ?_, fun hw => ?_⟩
      · rw [e, scan_step (get_rec p _ hp.2), List.drop_left, i1]
        simp [recs]
      · simp only [List.take_succ_cons, recs, List.length_append]; omega
      · have := i4 (by simpa using hw)
        simp only [List.take_succ_cons, recs, List.length_append] at this ⊢
        omega
    · rw [if_neg hle]
      have e : (recs (p :: l)).take k = (recL p).take k := by
        rw [recs, List.take_append_of_le_length (by omega)]
      refine ⟨?_, Nat.zero_le _, by simp [recs], fun _ => ?_⟩
      · rw [e, scan_stop (get_rec_cut hp.1 hp.2 (by omega))]; rfl
      · simp [recs]; omega
theorem get_255 : (getR [255, 255]).2.2 ≠ 0 := by decide
theorem get_most1 : getR [129, 128, 64, 1, 2, 3] = ([], 0, 2) := by decide +kernel
theorem get_most2 : getR [128, 128, 64, 1, 2, 3] = ([], 0, 3) := by decide +kernel
end Go.Proofs.Ytknfjonaepggnaa

namespace Go.Proofs.Ytknfjonaepggnaa

theorem get_bytes {zs : List Int} (h8 : isBytes zs) : isBytes (getR zs).1 := by
  have h0 : isBytes [] := fun z hz => by simp at hz
  unfold getR
  split
  · exact h0
  · split
    · exact h0
    · split
      · exact h0
      · split
        · exact fun z hz => h8 z (List.mem_of_mem_drop (List.mem_of_mem_take hz))
        · exact h0

theorem get_errs (zs : List Int) : (getR zs).2.2 = 0 ∨ (getR zs).2.2 = 2 ∨ (getR zs).2.2 = 3 ∨ (getR zs).2.2 = 4 := by
  have h := scan_err zs 0 0 (getL zs).1 (getL zs).2.1 (getL zs).2.2 rfl
  unfold getR
  split
  · simp only; omega
  · split
    · simp
    · split
      · simp
      · split <;> simp

theorem scanF_bytes (f : Nat) : ∀ (zs : List Int), isBytes zs → ∀ l ∈ (scanF f zs).1, isBytes l := by
  induction f with
  | zero => intro zs _ l hl; simp [scanF] at hl
  | succ f ih =>
    intro zs h8 l hl
    unfold scanF at hl
    split at hl
    · simp only [List.mem_cons] at hl
      rcases hl with rfl | hl
      · exact get_bytes h8
      · exact ih _ (fun z hz => h8 z (List.mem_of_mem_drop hz)) l hl
    · simp at hl

theorem scan_bytes {zs : List Int} (h8 : isBytes zs) : ∀ l ∈ (scanR zs).1, isBytes l := scanF_bytes _ zs h8

theorem scanF_len (f : Nat) : ∀ (zs : List Int), 4 * (scanF f zs).1.length ≤ zs.length ∧ (scanF f zs).2 ≤ zs.length := by
  induction f with
  | zero => intro zs; simp [scanF]
  | succ f ih =>
    intro zs
    unfold scanF
    split
    · rename_i h0
      rcases hr : getR zs with ⟨p, m, e⟩
      rw [hr] at h0
      have h0 : e = 0 := h0
      subst h0
      obtain ⟨g1, g2⟩ := get_len hr
      have := ih (zs.drop m)
      simp only [List.length_drop] at this
      simp only [List.length_cons]
      omega
    · simp
theorem scan_len (zs : List Int) : 4 * (scanR zs).1.length ≤ zs.length ∧ (scanR zs).2 ≤ zs.length := scanF_len _ zs
end Go.Proofs.Ytknfjonaepggnaa

namespace Go.Proofs.Ytknfjonaepggnaa
open Go.RowKit

set_option maxRecDepth 100000 in
set_option maxHeartbeats 400000 in
theorem laysum_any (base : Nat) (ag : Option Addr) (n c : Nat) (xs : List Int) (bo : Option Addr) (blen bcap : Nat) (ps : List Int) (w : World) (hown : w.ownsRow base 5 1 (.slice ag n c) n (xs.map (.int .u8))) (hbase : base ≤ w.heap.size)
    (hp : Reads w bo blen bcap (ps.map (.int .u8))) (h8 : isBytes ps) (hlen : n + 4 ≤ 140737488351232) :
    Calls Try.prog 55 #[.slice ag n c, .slice bo blen bcap] w fun e w' => ∃ ag' c', e = .returned (.slice ag' (n + 4) c') ∧
      w'.ownsRow base 5 1 (.slice ag' (n + 4) c') (n + 4) ((xs ++ sum4 (ofL ps)).map (.int .u8)) ∧ Below base w w' := by
  have mx : n + 20 ≤ maxLen := by unfold maxLen; omega
  have hs32 : ofL ps < 4294967296 := more_lt 0 ps
  generalize hS : ofL ps = s at hs32 ⊢
  have e24 : Hid ((s : Int) / 16777216 % 256 = (s : Int) / 16777216) := by show _ = _; omega
  go_enter Try.func55, Try.ntmps55
  go_wp2_with fail
  refine (of_any bo blen bcap ps w hp h8).mono ?_
  rintro e w1 ⟨rfl, hb1⟩
  rw [hS]
  clear hS
  have hown1 := own_later hown hb1 (Nat.le_refl _)
  have hB1 : Below base w w1 := hb1.mono hbase
  clear hb1 hown
  go_wp2_with fail
  go_loopw [0, 9] (fun v i wr => ∃ (j : Nat) (ag' : Option Addr) (c' : Nat), i = .int .i64 j ∧ j ≤ 4 ∧ v = .slice ag' (n + j) c' ∧
      wr.ownsRow base 5 1 (.slice ag' (n + j) c') (n + j) ((xs ++ (sum4 s).take j).map (.int .u8)) ∧ Below base w wr) (fun _ i _ => (4 - intOf i).toNat)
  case atStart => exact ⟨0, ag, c, rfl, by omega, rfl, by simpa using hown1, hB1⟩
  case round =>
    obtain ⟨j, ag', c', rfl, hj, rfl, hown, hb⟩ := hrel
    by_cases hj4 : j = 4
    · subst hj4
      go_wp2
      go_ret
      exact ⟨ag', c', rfl, hown, hb⟩
    · have hcase : j = 0 ∨ j = 1 ∨ j = 2 ∨ j = 3 := by omega
      have hsz := hb.size
      rcases hcase with rfl | rfl | rfl | rfl
      all_goals
        go_wp2_with (at_builtin; refine wpList_append_reads rfl (.tmp 12) (.tmp 18) 30 rfl base 5 Try.info5 rfl Try.underlying30 _ _ _ _ rfl (hown.alloc _) _ _ _ _ rfl (reads_one _ _ _) (ints_oneCell .u8 [_]) (by omega) (by omega) (by simp; omega) ?_)
        intro ag3 c3 w3 hown3 hb3
        have hb3' : Below base w w3 := (hb.alloc (by omega) _).trans hb3
        clear hb3
        go_wp2
        go_roundw
        case rel =>
          first
            | refine ⟨1, ag3, c3, by first | rfl | go_num, by decide, rfl, ?_, hb3'⟩
            | refine ⟨2, ag3, c3, by first | rfl | go_num, by decide, rfl, ?_, hb3'⟩
            | refine ⟨3, ag3, c3, by first | rfl | go_num, by decide, rfl, ?_, hb3'⟩
            | refine ⟨4, ag3, c3, by first | rfl | go_num, by decide, rfl, ?_, hb3'⟩
          all_goals simpa [sum4, e24.out] using hown3
        case measure => simp [intOf]

set_option maxRecDepth 100000 in
set_option maxHeartbeats 400000 in
theorem fput_ok (ao : Option Addr) (len cap : Nat) (zs : List Int) (bo : Option Addr) (blen bcap : Nat) (ps : List Int) (w : World) (hr : Reads w ao len cap (zs.map (.int .u8))) (hp : Reads w bo blen bcap (ps.map (.int .u8))) (h8 : isBytes ps)
    (hlen : len ≤ 100000000000000) (hbl : blen ≤ 1048576) :
    Calls Try.prog 35 #[.slice ao len cap, .slice bo blen bcap] w fun e w' => ∃ ag c m, m = len + (recL ps).length ∧ e = .returned (.tuple #[.slice ag m c, .int .i64 0]) ∧
      w'.ownsRow w.heap.size 5 1 (.slice ag m c) m ((zs ++ recL ps).map (.int .u8)) ∧ Below w.heap.size w w' := by
  have hbl' : (blen : Int) ≤ 1048576 := by omega
  have hpl : ps.length = blen := by simpa using hp.length
  have hel := encode_len blen
  go_enter Try.func35, Try.ntmps35
  go_wp2_with fail
  refine (put_any ao len cap zs blen w hr (by omega) (by omega)).mono ?_
  rintro e w1 ⟨g, c1, m1, hm1, rfl, hown1, hb1⟩
  have hp1 := hp.later hb1 (Nat.le_refl _)
  have mx : m1 + blen + 20 ≤ maxLen := by unfold maxLen; omega
  have hm1' : m1 ≤ len + 10 := by omega
  have Hm1 : Hid _ := hm1
  clear hm1
  have hs1 := hb1.size
  go_wp2_with (at_builtin; refine wpList_append_reads rfl (.tmp 15) (.tmp 16) 30 rfl w.heap.size 5 Try.info5 rfl Try.underlying30 _ _ _ _ rfl hown1 _ _ _ _ rfl hp1 (ints_oneCell _ _) (by omega) (by omega) hs1 ?_)
  intro ag2 c2 w2 hown2 hb2'
  have hb2 := hb1.trans hb2'
  have hp2 := hp.later hb2 (Nat.le_refl _)
  clear hb2' hb1
  simp only [← List.map_append, ← List.append_assoc] at hown2
  go_wp2_with fail
  refine (laysum_any w.heap.size ag2 _ c2 _ bo blen bcap ps w2 hown2 hb2.size hp2 h8 (by omega)).mono ?_
  rintro e w3 ⟨ag3, c3, rfl, hown3, hb3⟩
  have hb3' := hb2.trans hb3
  go_wp2
  go_ret2
  refine ⟨ag3, c3, m1 + blen + 4, by rw [rec_len, hpl, Hm1.out]; omega, rfl, ?_, hb3'⟩
  have e : zs ++ recL ps = zs ++ encode blen ++ ps ++ sum4 (ofL ps) := by rw [recL, hpl]; simp
  rw [e]
  exact hown3

set_option maxRecDepth 100000 in
theorem fput_full (ao : Option Addr) (len cap : Nat) (bo : Option Addr) (blen bcap : Nat) (w : World) (hbl : 1048576 < blen) (hlt : blen ≤ 140737488351232) :
    Calls Try.prog 35 #[.slice ao len cap, .slice bo blen bcap] w fun e w' => e = .returned (.tuple #[.slice none 0 0, .int .i64 6]) ∧ w' = w := by
  have hbl' : (1048577 : Int) ≤ blen := by omega
  go_enter Try.func35, Try.ntmps35
  go_wp2
  go_ret2
  exact ⟨rfl, rfl⟩
#print axioms fput_ok
#print axioms fput_full
end Go.Proofs.Ytknfjonaepggnaa

namespace Go.Proofs.Ytknfjonaepggnaa
open Go.RowKit

set_option maxRecDepth 100000 in
theorem equal_any (ao : Option Addr) (len cap : Nat) (zs : List Int) (bo : Option Addr) (blen bcap : Nat) (ps : List Int) (w : World) (hr : Reads w ao len cap (zs.map (.int .u8))) (hp : Reads w bo blen bcap (ps.map (.int .u8))) (h1 : isBytes zs) (h2 : isBytes ps) :
    Calls Try.prog 47 #[.slice ao len cap, .slice bo blen bcap] w fun e w' => e = .returned (.bool (decide (zs = ps))) ∧ w' = w := by
  have hc1 := conv_of Try.underlying30 Try.underlying5 Try.underlying9 hr
  have hc2 := conv_of Try.underlying30 Try.underlying5 Try.underlying9 hp
  go_enter Try.func47, Try.ntmps47
  go_wp2
  go_ret
  refine ⟨?_, rfl⟩
  rw [str_beq h1 h2]
  rfl

set_option maxRecDepth 100000 in
theorem clone_any (ao : Option Addr) (len cap : Nat) (zs : List Int) (w : World) (hr : Reads w ao len cap (zs.map (.int .u8))) (hlen : len ≤ 140737488351232) :
    Calls Try.prog 69 #[.slice ao len cap] w fun e w' => ∃ ag c, e = .returned (.slice ag len c) ∧ w'.ownsRow w.heap.size 5 1 (.slice ag len c) len (zs.map (.int .u8)) ∧ Below w.heap.size w w' := by
  cases ao with
  | none =>
    obtain ⟨rfl, rfl⟩ := hr.bare rfl
    have : zs = [] := List.eq_nil_of_length_eq_zero (by simpa using hr.length)
    subst this
    have hnil := fun W => Lib.run_eql_slice_nil (P := Try.prog) W 30 5 none 0 0 0 0 Try.underlying30
    go_enter Try.func69, Try.ntmps69
    go_wp2
    go_ret
    exact ⟨none, 0, rfl, World.ownsRow_nil _ _ _ _, Below.refl _ _⟩
  | some ad =>
    have mx : len ≤ maxLen := by unfold maxLen; omega
    have hnil := fun W => Lib.run_eql_slice_nil (P := Try.prog) W 30 5 (some ad) len cap 0 0 Try.underlying30
    go_enter Try.func69, Try.ntmps69
    go_wp2_with (at_builtin; refine wpList_append_reads rfl (.tmp 5) (.tmp 6) 30 rfl w.heap.size 5 Try.info5 rfl Try.underlying30 _ _ _ _ rfl (ownsRow_empty w 5) _ _ _ _ rfl (hr.later ((Below.refl w.heap.size w).alloc (Nat.le_refl _) _) (Nat.le_refl _)) (ints_oneCell _ _) (by omega) (by omega) (by simp) ?_)
    intro ag c2 wc hown2 hb3
    have hb2 : Below w.heap.size w wc := Below.trans ((Below.refl w.heap.size w).alloc (Nat.le_refl _) _) hb3
    clear hb3
    go_wp2
    go_ret
    exact ⟨ag, c2, by simp, by simpa using hown2, hb2⟩
#print axioms clone_any

theorem getR_at {zs : List Int} {n k : Nat} (h : getL zs = (n, k, 0)) : getR zs = if 1048576 < n then ([], 0, 2) else if zs.length < k + n + 4 then ([], 0, 3)
    else if (zs.drop (k + n)).take 4 = sum4 (ofL ((zs.drop k).take n)) then ((zs.drop k).take n, k + n + 4, 0) else ([], 0, 4) := by
  unfold getR
  rw [h]
  simp

def getRV (ag : Option Addr) (c : Nat) (r : List Int × Nat × Nat) : Value := .tuple #[.slice ag r.1.length c, .int .i64 r.2.1, .int .i64 r.2.2]

set_option maxRecDepth 100000 in
set_option maxHeartbeats 400000 in
/-- frame.Get of whatever bytes. -/
theorem fget_any (ao : Option Addr) (len cap : Nat) (zs : List Int) (w : World) (hr : Reads w ao len cap (zs.map (.int .u8))) (h8 : isBytes zs) (hlen : len ≤ 140737488351232) :
    Calls Try.prog 62 #[.slice ao len cap] w fun e w' => ∃ ag c, e = .returned (getRV ag c (getR zs)) ∧
      w'.ownsRow w.heap.size 5 1 (.slice ag (getR zs).1.length c) (getR zs).1.length ((getR zs).1.map (.int .u8)) ∧ Below w.heap.size w w' := by
  have hl : zs.length = len := by simpa using hr.length
  have hlc := hr.le
  rcases hgl : getL zs with ⟨n, k, f⟩
  have Hgl : Hid _ := hgl
  clear hgl
  have hferr := scan_err zs 0 0 n k f Hgl.out
  go_enter Try.func62, Try.ntmps62
  go_wp2_with fail
  refine (get_any ao len cap zs w hr h8).mono ?_
  rintro e wa ⟨rfl, rfl⟩
  rw [Hgl.out]
  unfold getV
  by_cases hf : f = 0
  case neg =>
    have hR : Hid (getR zs = ([], 0, f)) := by show _ = _; unfold getR; rw [Hgl.out]; simp [hf]
    have hf2 : f = 2 ∨ f = 3 := by omega
    clear hferr hf
    have hfb : ((f : Int) == 0) = false := by rcases hf2 with rfl | rfl <;> rfl
    go_wp2
    go_ret3
    rw [hR.out]
    exact ⟨none, 0, rfl, World.ownsRow_nil _ _ _ _, Below.refl _ _⟩
  subst hf
  clear hferr
  obtain ⟨k1, k2, -, k4⟩ := get_ok zs h8 n k Hgl.out
  by_cases hn : n ≤ 1048576
  case neg =>
    have hR : Hid (getR zs = ([], 0, 2)) := by show _ = _; rw [getR_at Hgl.out, if_pos (by omega)]
    have hn' : (1048577 : Int) ≤ n := by omega
    have hn2 : (n : Int) ≤ 18446744073709551615 := by omega
    clear k4
    go_wp2
    go_ret3
    rw [hR.out]
    exact ⟨none, 0, rfl, World.ownsRow_nil _ _ _ _, Below.refl _ _⟩
  have hn' : (n : Int) ≤ 1048576 := by omega
  clear k4
  by_cases hsh : len < k + n + 4
  · have hR : Hid (getR zs = ([], 0, 3)) := by show _ = _; rw [getR_at Hgl.out, if_neg (by omega), if_pos (by omega)]
    have hsh' : (len : Int) < k + n + 4 := by omega
    have hk' : (k : Int) ≤ 140737488351232 := by omega
    have hk0 : (0 : Int) ≤ k := by omega
    go_wp2
    go_ret3
    rw [hR.out]
    exact ⟨none, 0, rfl, World.ownsRow_nil _ _ _ _, Below.refl _ _⟩
  · have hsh' : (k : Int) + n + 4 ≤ len := by omega
    have hk' : (k : Int) ≤ 140737488351232 := by omega
    have hk0 : (0 : Int) ≤ k := by omega
    obtain ⟨a1, hs1, hd1⟩ := Reads.mid (P := Try.prog) Try.underlying30 (size_of Try.info5) (ao := ao) hlc k (k + n) (by omega) (by omega)
    obtain ⟨a2, hs2, hd2⟩ := Reads.mid (P := Try.prog) Try.underlying30 (size_of Try.info5) (ao := ao) hlc (k + n) (k + n + 4) (by omega) (by omega)
    have e1 : k + n - k = n := by omega
    have e2 : k + n + 4 - (k + n) = 4 := by omega
    rw [e1] at hs1 hd1
    rw [e2] at hs2 hd2
    clear e1 e2
    have rd1 : ∀ W, Below wa.heap.size wa W → Reads W a1 n (cap - k) (((zs.drop k).take n).map (.int .u8)) := fun W hW => by
      have := hd1 W _ (hr.later hW (Nat.le_refl _)); simpa using this
    have rd2 : ∀ W, Below wa.heap.size wa W → Reads W a2 4 (cap - (k + n)) (((zs.drop (k + n)).take 4).map (.int .u8)) := fun W hW => by
      have := hd2 W _ (hr.later hW (Nat.le_refl _)); simpa using this
    have b1 : isBytes ((zs.drop k).take n) := fun z hz => h8 z (List.mem_of_mem_drop (List.mem_of_mem_take hz))
    have b2 : isBytes ((zs.drop (k + n)).take 4) := fun z hz => h8 z (List.mem_of_mem_drop (List.mem_of_mem_take hz))
    have hR : Hid (getR zs = if (zs.drop (k + n)).take 4 = sum4 (ofL ((zs.drop k).take n)) then ((zs.drop k).take n, k + n + 4, 0) else ([], 0, 4)) := by show _ = _; rw [getR_at Hgl.out, if_neg (by omega), if_neg (by omega)]
    clear hd1 hd2
    generalize hP : (zs.drop k).take n = p at rd1 b1 hR
    generalize hS : (zs.drop (k + n)).take 4 = q at rd2 b2 hR
    have hpl : Hid (p.length = n) := by show _ = _; rw [← hP]; simp; omega
    clear hP hS
    have c1 : ((k + n : Nat) : Int) = (k : Int) + n := by omega
    have c2 : ((k + n + 4 : Nat) : Int) = (k : Int) + n + 4 := by omega
    simp only [c1, c2] at hs1 hs2
    clear c1 c2
    have hwr : IntKind.i64.wrap ((k : Int) + n + 4) = (k : Int) + n + 4 := by rw [IntKind.wrap_i64]; omega
    have hB0 : Below wa.heap.size wa wa := Below.refl _ _
    by_cases hq : q = sum4 (ofL p)
    · have hR' : Hid (getR zs = (p, k + n + 4, 0)) := by show _ = _; rw [hR.out, if_pos hq]
      have hqd : Hid (decide (q = sum4 (ofL p)) = true) := by show _ = _; simp [hq]
      clear hR hq
      go_wp2_with fail
      go_region_held (fun W => Below wa.heap.size wa W) (first | exact Below.refl _ _ | exact Below.drew (Below.refl _ _) | assumption | exact Below.drew (by assumption)) (first | (go_at_call 55; refine (laysum_any wa.heap.size none 0 0 [] a1 n (cap - k) p _ (World.ownsRow_nil _ _ _ _) (Below.size (B := wa.heap.size) (w := wa) (by first | exact Below.refl _ _ | exact Below.drew (Below.refl _ _) | assumption)) (rd1 _ (by first | exact Below.refl _ _ | exact Below.drew (Below.refl _ _) | assumption)) b1 (by omega)).mono ?_; rintro e w3 ⟨ag3, c3, rfl, hown3, hb3⟩; have hb3' : Below wa.heap.size wa w3 := Below.trans (by first | exact Below.refl _ _ | exact Below.drew (Below.refl _ _) | assumption) hb3; clear hb3) | (go_at_call 47; refine (equal_any _ _ _ _ _ _ _ (sum4 (ofL p)) _ (rd2 _ (by assumption)) (by first | exact Reads.own hown3 | exact (Reads.own hown3).later (Below.drew (Below.refl _ _)) (Nat.le_refl _)) b2 (sum4_bytes _)).mono ?_; rintro e w4 ⟨rfl, rfl⟩; rw [hqd.out]))
      go_wp2_with fail
      refine (clone_any a1 n (cap - k) p _ (rd1 _ (by assumption)) (by omega)).mono ?_
      rintro e w5 ⟨ag5, c5, rfl, hown5, hb5⟩
      have hB5 : Below wa.heap.size wa w5 := Grow.trans (by assumption) hb5
      have hs5 : wa.heap.size ≤ w4.heap.size := Below.size (B := wa.heap.size) (by assumption)
      go_wp2
      go_ret3
      rw [hR'.out]
      refine ⟨ag5, c5, ?_, ?_, hB5⟩
      · unfold getRV; simp only [hpl.out]; rfl
      · simp only [hpl.out]; exact own_mono hown5 hs5
    · have hR' : Hid (getR zs = ([], 0, 4)) := by show _ = _; rw [hR.out, if_neg hq]
      have hqd : Hid (decide (q = sum4 (ofL p)) = false) := by show _ = _; simp [hq]
      clear hR hq
      go_wp2_with fail
      go_region_held (fun W => Below wa.heap.size wa W) (first | exact Below.refl _ _ | exact Below.drew (Below.refl _ _) | assumption | exact Below.drew (by assumption)) (first | (go_at_call 55; refine (laysum_any wa.heap.size none 0 0 [] a1 n (cap - k) p _ (World.ownsRow_nil _ _ _ _) (Below.size (B := wa.heap.size) (w := wa) (by first | exact Below.refl _ _ | exact Below.drew (Below.refl _ _) | assumption)) (rd1 _ (by first | exact Below.refl _ _ | exact Below.drew (Below.refl _ _) | assumption)) b1 (by omega)).mono ?_; rintro e w3 ⟨ag3, c3, rfl, hown3, hb3⟩; have hb3' : Below wa.heap.size wa w3 := Below.trans (by first | exact Below.refl _ _ | exact Below.drew (Below.refl _ _) | assumption) hb3; clear hb3) | (go_at_call 47; refine (equal_any _ _ _ _ _ _ _ (sum4 (ofL p)) _ (rd2 _ (by assumption)) (by first | exact Reads.own hown3 | exact (Reads.own hown3).later (Below.drew (Below.refl _ _)) (Nat.le_refl _)) b2 (sum4_bytes _)).mono ?_; rintro e w4 ⟨rfl, rfl⟩; rw [hqd.out]))
      go_wp2
      go_ret3
      rw [hR'.out]
      exact ⟨none, 0, rfl, World.ownsRow_nil _ _ _ _, by assumption⟩
#print axioms fget_any
end Go.Proofs.Ytknfjonaepggnaa

namespace Go.Proofs.Ytknfjonaepggnaa
open Go.RowKit

theorem Try.infoRow : (Try.prog.info? 30).map (fun i => (i.zero, i.size, i.bytes)) = some (some (.slice none 0 0), 1, 24) := by kernel_rfl

theorem slice_oneCell (a : Option Addr) (m c : Nat) : ∀ u ∈ [Value.slice a m c], u.oneCell' = true := fun u hu => by
  simp only [List.mem_singleton] at hu; rw [hu]; rfl

set_option maxRecDepth 100000 in
set_option maxHeartbeats 400000 in
/-- frame.Scan of whatever bytes. -/
theorem fscan_any (ao : Option Addr) (len cap : Nat) (zs : List Int) (w : World) (hr : Reads w ao len cap (zs.map (.int .u8))) (h8 : isBytes zs) (hlen : len ≤ 1000000000000) :
    Calls Try.prog 44 #[.slice ao len cap] w fun e w' => ∃ ag c m, e = .returned (.tuple #[.slice ag m c, .int .i64 ((scanR zs).2 : Nat)]) ∧
      ReadsRows w' ag m c (scanR zs).1 ∧ Below w.heap.size w w' := by
  have hl : zs.length = len := by simpa using hr.length
  go_enter Try.func44, Try.ntmps44
  go_wp2_with fail
  go_loopw [4, 5] (fun v i wr => ∃ (t : Nat) (ag : Option Addr) (c m : Nat) (vs : List Value) (ls : List (List Int)), v = .slice ag m c ∧ i = .int .i64 t ∧ t ≤ len ∧ 4 * m ≤ t ∧
      wr.ownsRow w.heap.size 30 1 (.slice ag m c) m vs ∧ RowOwns wr w.heap.size vs ls ∧ Hid (scanR zs = (ls ++ (scanR (zs.drop t)).1, t + (scanR (zs.drop t)).2)) ∧ Below w.heap.size w wr) (fun _ i _ => (len - intOf i).toNat)
  case atStart => exact ⟨0, none, 0, 0, [], [], rfl, rfl, by omega, by omega, World.ownsRow_nil _ _ _ _, RowOwns.nil _ _, by show _ = _; simp, Below.refl _ _⟩
  case round =>
    obtain ⟨t, ag, c, m, vs, ls, rfl, rfl, ht, hm, hown, hrow, hS, hb⟩ := hrel
    have hsz := hb.size
    obtain ⟨a1, hs1, hd1⟩ := Reads.from (P := Try.prog) Try.underlying30 (size_of Try.info5) (ao := ao) (len := len) (cap := cap) t ht
    have rd1 : Reads wr a1 (len - t) (cap - t) ((zs.drop t).map (.int .u8)) := by have := hd1 wr _ (hr.later hb (Nat.le_refl _)); simpa using this
    have b1 : isBytes (zs.drop t) := fun z hz => h8 z (List.mem_of_mem_drop hz)
    clear hd1
    go_wp2_with fail
    refine (fget_any a1 (len - t) (cap - t) (zs.drop t) wr rd1 b1 (by omega)).mono ?_
    rintro e wb ⟨ag5, c5, rfl, hown5, hb5⟩
    clear rd1 b1
    rcases hg : getR (zs.drop t) with ⟨p, k, f⟩
    have Hg : Hid _ := hg
    rw [hg] at hown5
    clear hg
    unfold getRV
    have hB5 : Below w.heap.size w wb := hb.trans (hb5.mono hsz)
    by_cases hf : f = 0
    · subst hf
      obtain ⟨g4, gl⟩ := get_len Hg.out
      have gl' : t + k ≤ len := by simp at gl; omega
      clear gl
      have hownb := own_later hown hb5 (Nat.le_refl _)
      have hrowb := (hrow.later hb5 (Nat.le_refl _)).snoc rfl (own_mono hown5 hsz)
      have mx : m + 20 ≤ maxLen := by unfold maxLen; omega
      have hkk : (t : Int) + k ≤ 1000000000000 := by omega
      clear hown hrow hb5 hb hown5
      have hszb := hB5.size
      go_wp2_with (at_builtin; refine wpList_append_grown rfl (.tmp 21) (.tmp 23) 28 rfl w.heap.size 30 Try.infoRow rfl Try.underlying28 _ _ _ _ rfl (hownb.alloc _) _ _ _ _ rfl (reads_one _ _ _) (slice_oneCell _ _ _) (by omega) (by omega) (by simp; omega) ?_)
      intro ag3 c3 w3 hown3 hg3 hb3
      have hb3' : Below w.heap.size w w3 := (hB5.alloc hszb _).trans hb3
      have hrow3 := (hrowb.later ((Below.refl _ wb).alloc (Nat.le_refl _) _) (Nat.le_refl _)).apart (hownb.alloc _) (by decide) hg3
      have hS' : Hid (scanR zs = ((ls ++ [p]) ++ (scanR (zs.drop (t + k))).1, (t + k) + (scanR (zs.drop (t + k))).2)) := by
        show _ = _
        rw [hS.out, scan_step Hg.out, List.drop_drop]; simp; omega
      clear hb3 hg3 hrowb hownb hS
      go_wp2
      go_roundw
      case rel => exact ⟨t + k, ag3, c3, m + 1, _, _, rfl, by go_num, by omega, by omega, hown3, hrow3, hS', hb3'⟩
      case measure => simp [intOf]; omega
    · have hfb : ((f : Int) == 0) = false := by simp; omega
      have hE : Hid (scanR zs = (ls, t)) := by show _ = _; rw [hS.out, scan_stop (by rw [Hg.out]; exact hf)]; simp
      clear hf
      have hown4 := own_later hown hb5 (Nat.le_refl _)
      have hrow4 := hrow.later hb5 (Nat.le_refl _)
      go_wp2
      go_ret2
      rw [hE.out]
      exact ⟨ag, c, m, rfl, ReadsRows.of (Reads.own hown4) hrow4.vals, hB5⟩
#print axioms fscan_any
end Go.Proofs.Ytknfjonaepggnaa

namespace Go.Proofs.Ytknfjonaepggnaa
open Go.RowKit

set_option maxRecDepth 100000 in
set_option maxHeartbeats 400000 in
theorem rfput_ok (ao : Option Addr) (len cap : Nat) (zs : List Int) (bo : Option Addr) (blen bcap : Nat) (ps : List Int) (w : World) (hr : Reads w ao len cap (zs.map (.int .u8))) (hp : Reads w bo blen bcap (ps.map (.int .u8))) (h8 : isBytes ps)
    (hlen : len ≤ 100000000000000) (hbl : blen ≤ 1048576) :
    Calls Try.prog 41 #[.slice ao len cap, .slice bo blen bcap] w fun e w' => ∃ ag c m, m = len + (recL ps).length ∧ e = .returned (.tuple #[.slice ag m c, .int .i64 0]) ∧
      w'.ownsRow w.heap.size 5 1 (.slice ag m c) m ((zs ++ recL ps).map (.int .u8)) ∧ Below w.heap.size w w' := by
  have hbl' : (blen : Int) ≤ 1048576 := by omega
  have hpl : ps.length = blen := by simpa using hp.length
  have hel := encode_len blen
  have hs32 : ofL ps < 4294967296 := more_lt 0 ps
  have Hrec : Hid (∀ s, ofL ps = s → recL ps = encode blen ++ (ps ++ sum4 s)) := by show ∀ s, _; intro s hs; rw [recL, hpl, hs]
  generalize hS : ofL ps = s at hs32
  replace Hrec : Hid (recL ps = encode blen ++ (ps ++ sum4 s)) := Hrec.out s hS
  have HS : Hid _ := hS
  clear hS
  go_enter Try.func41, Try.ntmps41
  go_wp2_with fail
  refine (rput_any ao len cap zs blen w hr (by omega) (by omega)).mono ?_
  rintro e w1 ⟨g, c1, m1, hm1, rfl, hown1, hb1⟩
  have hp1 := hp.later hb1 (Nat.le_refl _)
  have mx : m1 + blen + 20 ≤ maxLen := by unfold maxLen; omega
  have hm1' : m1 ≤ len + 10 := by omega
  have Hm1 : Hid _ := hm1
  clear hm1
  have hs1 := hb1.size
  go_wp2_with (at_builtin; refine wpList_append_reads rfl (.tmp 16) (.tmp 17) 30 rfl w.heap.size 5 Try.info5 rfl Try.underlying30 _ _ _ _ rfl hown1 _ _ _ _ rfl hp1 (ints_oneCell _ _) (by omega) (by omega) hs1 ?_)
  intro ag2 c2 w2 hown2 hb2'
  have hb2 := hb1.trans hb2'
  have hp2 := hp.later hb2 (Nat.le_refl _)
  clear hb2' hb1
  have hs2 := hb2.size
  simp only [← List.map_append, ← List.append_assoc] at hown2
  go_wp2_with fail
  refine (rof_any bo blen bcap ps w2 hp2 h8).mono ?_
  rintro e w3 ⟨rfl, rfl⟩
  rw [HS.out]
  go_wp2_with (at_builtin; refine wpList_append_reads rfl (.tmp 21) (.tmp 36) 30 rfl w.heap.size 5 Try.info5 rfl Try.underlying30 _ _ _ _ rfl (hown2.alloc _) _ _ _ _ rfl (reads_new _ [.int .u8 ((s : Int) % 256), .int .u8 ((s : Int) / 256 % 256), .int .u8 ((s : Int) / 65536 % 256), .int .u8 ((s : Int) / 16777216)] _ (by simp [maxLen])) (ints_oneCell .u8 [(s : Int) % 256, (s : Int) / 256 % 256, (s : Int) / 65536 % 256, (s : Int) / 16777216]) (by show m1 + blen + 4 ≤ _; omega) (by show (m1 + blen + 4) * 1 ≤ _; omega) (by simp; omega) ?_)
  intro ag3 c3 w4 hown3 hb3
  have hb3' : Below w.heap.size w w4 := (hb2.alloc hs2 _).trans hb3
  clear hb3
  go_wp2
  go_ret2
  refine ⟨ag3, c3, m1 + blen + 4, by rw [rec_len, hpl, Hm1.out]; omega, rfl, ?_, hb3'⟩
  rw [Hrec.out]
  have e24 : (s : Int) / 16777216 % 256 = (s : Int) / 16777216 := by omega
  simpa [sum4, e24] using hown3
#print axioms rfput_ok

theorem rec_iff {zs : List Int} {n k : Nat} (h8 : isBytes zs) (hg : getL zs = (n, k, 0)) (hl : k + n + 4 ≤ zs.length) :
    (recL ((zs.drop k).take n) = zs.take (k + n + 4)) ↔ (zs.drop (k + n)).take 4 = sum4 (ofL ((zs.drop k).take n)) := by
  obtain ⟨k1, k2, k3, k4⟩ := get_ok zs h8 n k hg
  have hlen : ((zs.drop k).take n).length = n := by simp; omega
  have e1 : zs.take (k + n + 4) = zs.take k ++ ((zs.drop k).take n ++ (zs.drop (k + n)).take 4) := by
    rw [Nat.add_assoc, List.take_add, List.take_add, List.drop_drop]
  rw [recL, hlen, k3, e1]
  constructor
  · intro h
    exact (List.append_cancel_left (List.append_cancel_left h)).symm
  · intro h; rw [h]

set_option maxRecDepth 100000 in
set_option maxHeartbeats 400000 in
/-- The document's Get of whatever bytes. -/
theorem rfget_any (ao : Option Addr) (len cap : Nat) (zs : List Int) (w : World) (hr : Reads w ao len cap (zs.map (.int .u8))) (h8 : isBytes zs) (hlen : len ≤ 140737488351232) :
    Calls Try.prog 56 #[.slice ao len cap] w fun e w' => ∃ ag c, e = .returned (getRV ag c (getR zs)) ∧
      w'.ownsRow w.heap.size 5 1 (.slice ag (getR zs).1.length c) (getR zs).1.length ((getR zs).1.map (.int .u8)) ∧ Below w.heap.size w w' := by
  have hl : zs.length = len := by simpa using hr.length
  have hlc := hr.le
  rcases hgl : getL zs with ⟨n, k, f⟩
  have Hgl : Hid _ := hgl
  clear hgl
  have hferr := scan_err zs 0 0 n k f Hgl.out
  go_enter Try.func56, Try.ntmps56
  go_wp2_with fail
  refine (rget_any ao len cap zs w hr h8).mono ?_
  rintro e wa ⟨rfl, rfl⟩
  rw [Hgl.out]
  unfold getV
  by_cases hf : f = 0
  case neg =>
    have hR : Hid (getR zs = ([], 0, f)) := by show _ = _; unfold getR; rw [Hgl.out]; simp [hf]
    have hf2 : f = 2 ∨ f = 3 := by omega
    clear hferr hf
    have hfb : ((f : Int) == 0) = false := by rcases hf2 with rfl | rfl <;> rfl
    go_wp2
    go_ret3
    rw [hR.out]
    exact ⟨none, 0, rfl, World.ownsRow_nil _ _ _ _, Below.refl _ _⟩
  subst hf
  clear hferr
  obtain ⟨k1, k2, -, k4⟩ := get_ok zs h8 n k Hgl.out
  by_cases hn : n ≤ 1048576
  case neg =>
    have hR : Hid (getR zs = ([], 0, 2)) := by show _ = _; rw [getR_at Hgl.out, if_pos (by omega)]
    have hn' : (1048577 : Int) ≤ n := by omega
    have hn2 : (n : Int) ≤ 18446744073709551615 := by omega
    clear k4
    go_wp2
    go_ret3
    rw [hR.out]
    exact ⟨none, 0, rfl, World.ownsRow_nil _ _ _ _, Below.refl _ _⟩
  have hn' : (n : Int) ≤ 1048576 := by omega
  clear k4
  by_cases hsh : len < k + n + 4
  · have hR : Hid (getR zs = ([], 0, 3)) := by show _ = _; rw [getR_at Hgl.out, if_neg (by omega), if_pos (by omega)]
    have hsh' : (len : Int) < k + n + 4 := by omega
    have hk' : (k : Int) ≤ 140737488351232 := by omega
    have hk0 : (0 : Int) ≤ k := by omega
    go_wp2
    go_ret3
    rw [hR.out]
    exact ⟨none, 0, rfl, World.ownsRow_nil _ _ _ _, Below.refl _ _⟩
  · have hsh' : (k : Int) + n + 4 ≤ len := by omega
    have hk' : (k : Int) ≤ 140737488351232 := by omega
    have hk0 : (0 : Int) ≤ k := by omega
    obtain ⟨a1, hs1, hd1⟩ := Reads.mid (P := Try.prog) Try.underlying30 (size_of Try.info5) (ao := ao) hlc k (k + n) (by omega) (by omega)
    obtain ⟨a2, hs2, hd2⟩ := Reads.to (P := Try.prog) Try.underlying30 (size_of Try.info5) (ao := ao) hlc (k + n + 4) (by omega)
    have e1 : k + n - k = n := by omega
    rw [e1] at hs1 hd1
    clear e1
    have rd1 : ∀ W, Below wa.heap.size wa W → Reads W a1 n (cap - k) (((zs.drop k).take n).map (.int .u8)) := fun W hW => by
      have := hd1 W _ (hr.later hW (Nat.le_refl _)); simpa using this
    have rd2 : ∀ W, Below wa.heap.size wa W → Reads W a2 (k + n + 4) cap ((zs.take (k + n + 4)).map (.int .u8)) := fun W hW => by
      have := hd2 W _ (hr.later hW (Nat.le_refl _)); simpa using this
    have b1 : isBytes ((zs.drop k).take n) := fun z hz => h8 z (List.mem_of_mem_drop (List.mem_of_mem_take hz))
    have b2 : isBytes (zs.take (k + n + 4)) := fun z hz => h8 z (List.mem_of_mem_take hz)
    have hR : Hid (getR zs = if recL ((zs.drop k).take n) = zs.take (k + n + 4) then ((zs.drop k).take n, k + n + 4, 0) else ([], 0, 4)) := by
      show _ = _
      rw [getR_at Hgl.out, if_neg (by omega), if_neg (by omega)]
      by_cases hc : (zs.drop (k + n)).take 4 = sum4 (ofL ((zs.drop k).take n))
      · rw [if_pos hc, if_pos ((rec_iff h8 Hgl.out (by omega)).2 hc)]
      · rw [if_neg hc, if_neg (fun h => hc ((rec_iff h8 Hgl.out (by omega)).1 h))]
    clear hd1 hd2
    have hpl : Hid (((zs.drop k).take n).length = n) := by show _ = _; simp; omega
    generalize hP : (zs.drop k).take n = p at rd1 b1 hR hpl
    generalize hS : zs.take (k + n + 4) = q at rd2 b2 hR
    clear hP hS
    have c1 : ((k + n : Nat) : Int) = (k : Int) + n := by omega
    have c2 : ((k + n + 4 : Nat) : Int) = (k : Int) + n + 4 := by omega
    simp only [c1, c2] at hs1 hs2
    clear c1 c2
    have hwr : IntKind.i64.wrap ((k : Int) + n + 4) = (k : Int) + n + 4 := by rw [IntKind.wrap_i64]; omega
    have mx : n + 20 ≤ maxLen := by unfold maxLen; omega
    go_wp2_with (at_builtin; refine wpList_append_reads rfl (.tmp 32) (.tmp 37) 30 rfl wa.heap.size 5 Try.info5 rfl Try.underlying30 _ _ _ _ rfl (ownsRow_empty wa 5) _ _ _ _ rfl (rd1 _ ((Below.refl wa.heap.size wa).alloc (Nat.le_refl _) _)) (ints_oneCell _ _) (by omega) (by omega) (by simp) ?_)
    intro ag2 c2 w2 hown2 hb3
    have hb2 : Below wa.heap.size wa w2 := Below.trans ((Below.refl wa.heap.size wa).alloc (Nat.le_refl _) _) hb3
    clear hb3
    try simp only [Nat.zero_add, List.nil_append] at hown2
    have hs2' := hb2.size
    have hpl' := hpl.out
    go_wp2_with fail
    refine (rfput_ok none 0 0 [] ag2 n c2 p w2 (Reads.nil _) (Reads.own hown2) b1 (by omega) (by omega)).mono ?_
    rintro e w3 ⟨ag3, c3, m3, hm3, rfl, hown3, hb3⟩
    have Hm3 : Hid _ := hm3
    clear hm3
    have hB3 : Below wa.heap.size wa w3 := hb2.trans (hb3.mono hs2')
    have hown2' := own_later hown2 hb3 (Nat.le_refl _)
    have q1 : ∀ W, Below w3.heap.size w3 W → (convert 30 9 (.slice ag3 m3 c3)).run Try.prog W = .ok (.string (strOfNums (recL p))) W := fun W hW =>
      conv_of Try.underlying30 Try.underlying5 Try.underlying9 ((Reads.own hown3).later hW (Nat.le_refl _))
    have q2 : ∀ W, Below w3.heap.size w3 W → (convert 30 9 (.slice a2 (k + n + 4) cap)).run Try.prog W = .ok (.string (strOfNums q)) W := fun W hW =>
      conv_of Try.underlying30 Try.underlying5 Try.underlying9 (rd2 W (Grow.trans hB3 hW))
    have b3 := rec_bytes b1 (by omega)
    clear hown2 hown3 hb3 hb2 hs2' rd1 rd2
    by_cases hq : recL p = q
    · have hR' : Hid (getR zs = (p, k + n + 4, 0)) := by show _ = _; rw [hR.out, if_pos hq]
      have hqd : ((strOfNums (recL p)).toList == (strOfNums q).toList) = true := by rw [str_beq b3 b2]; simp [hq]
      clear hR hq b3 b2 b1 hpl'
      go_wp2_with fail
      go_region_held (fun W => Below w3.heap.size w3 W) (first | exact Below.refl _ _ | exact Below.drew (Below.refl _ _) | assumption | exact Below.drew (by assumption)) (fail)
      go_wp2
      go_ret3
      rw [hR'.out]
      refine ⟨ag2, c2, ?_, ?_, ?_⟩
      · unfold getRV; simp only [hpl.out]; rfl
      · simp only [hpl.out]; exact own_later hown2' (by assumption) (Nat.le_refl _)
      · exact Grow.trans hB3 (by assumption)
    · have hR' : Hid (getR zs = ([], 0, 4)) := by show _ = _; rw [hR.out, if_neg hq]
      have hqd : ((strOfNums (recL p)).toList == (strOfNums q).toList) = false := by rw [str_beq b3 b2]; simp [hq]
      clear hR hq b3 b2 b1 hpl'
      go_wp2_with fail
      go_region_held (fun W => Below w3.heap.size w3 W) (first | exact Below.refl _ _ | exact Below.drew (Below.refl _ _) | assumption | exact Below.drew (by assumption)) (fail)
      go_wp2
      go_ret3
      rw [hR'.out]
      exact ⟨none, 0, rfl, World.ownsRow_nil _ _ _ _, Grow.trans hB3 (by assumption)⟩
#print axioms rfget_any

set_option maxRecDepth 100000 in
set_option maxHeartbeats 400000 in
theorem rfscan_any (ao : Option Addr) (len cap : Nat) (zs : List Int) (w : World) (hr : Reads w ao len cap (zs.map (.int .u8))) (h8 : isBytes zs) (hlen : len ≤ 1000000000000) :
    Calls Try.prog 36 #[.slice ao len cap] w fun e w' => ∃ ag c m, e = .returned (.tuple #[.slice ag m c, .int .i64 ((scanR zs).2 : Nat)]) ∧
      ReadsRows w' ag m c (scanR zs).1 ∧ Below w.heap.size w w' := by
  have hl : zs.length = len := by simpa using hr.length
  go_enter Try.func36, Try.ntmps36
  go_wp2_with fail
  refine (rfget_any ao len cap zs w hr h8 (by omega)).mono ?_
  rintro e wa ⟨ag0, c0, rfl, hown0, hb0⟩
  unfold getRV
  go_wp2_with fail
  go_loopw [4, 5, 6, 7, 8] (fun vp vn vb i v wr => ∃ (t : Nat) (ag : Option Addr) (c m : Nat) (vs : List Value) (ls : List (List Int)) (ap : Option Addr) (cp : Nat) (p : List Int) (k f : Nat), vp = .slice ap p.length cp ∧ vn = .int .i64 k ∧ vb = .int .i64 f ∧ i = .int .i64 t ∧ v = .slice ag m c ∧
      Hid (getR (zs.drop t) = (p, k, f)) ∧ wr.ownsRow w.heap.size 5 1 (.slice ap p.length cp) p.length (p.map (.int .u8)) ∧ t ≤ len ∧ 4 * m ≤ t ∧
      wr.ownsRow w.heap.size 30 1 (.slice ag m c) m vs ∧ RowOwns wr w.heap.size vs ls ∧ Hid (scanR zs = (ls ++ (scanR (zs.drop t)).1, t + (scanR (zs.drop t)).2)) ∧ Below w.heap.size w wr) (fun _ _ _ i _ _ => (len - intOf i).toNat)
  case atStart => exact ⟨0, none, 0, 0, [], [], ag0, c0, _, _, _, rfl, rfl, rfl, rfl, rfl, rfl, hown0, by omega, by omega, World.ownsRow_nil _ _ _ _, RowOwns.nil _ _, by show _ = _; simp, hb0⟩
  case round =>
    obtain ⟨t, ag, c, m, vs, ls, ap, cp, p, k, f, rfl, rfl, rfl, rfl, rfl, Hg, hownp, ht, hm, hown, hrow, hS, hb⟩ := hrel
    have hsz := hb.size
    by_cases hf : f = 0
    · subst hf
      obtain ⟨g4, gl⟩ := get_len Hg.out
      have gl' : t + k ≤ len := by simp at gl; omega
      clear gl
      have hrowb := hrow.snoc rfl hownp
      have mx : m + 20 ≤ maxLen := by unfold maxLen; omega
      have hkk : (t : Int) + k ≤ 1000000000000 := by omega
      obtain ⟨a1, hs1, hd1⟩ := Reads.from (P := Try.prog) Try.underlying30 (size_of Try.info5) (ao := ao) (len := len) (cap := cap) (t + k) gl'
      have c1 : ((t + k : Nat) : Int) = (t : Int) + k := by omega
      simp only [c1] at hs1
      clear c1
      clear hrow hownp
      go_wp2_with (at_builtin; refine wpList_append_grown rfl (.tmp 17) (.tmp 19) 28 rfl w.heap.size 30 Try.infoRow rfl Try.underlying28 _ _ _ _ rfl (hown.alloc _) _ _ _ _ rfl (reads_one _ _ _) (slice_oneCell _ _ _) (by omega) (by omega) (by simp; omega) ?_)
      intro ag3 c3 w3 hown3 hg3 hb3
      have hb3' : Below w.heap.size w w3 := (hb.alloc hsz _).trans hb3
      have hrow3 := (hrowb.later ((Below.refl _ wr).alloc (Nat.le_refl _) _) (Nat.le_refl _)).apart (hown.alloc _) (by decide) hg3
      have hS' : Hid (scanR zs = ((ls ++ [p]) ++ (scanR (zs.drop (t + k))).1, (t + k) + (scanR (zs.drop (t + k))).2)) := by
        show _ = _
        rw [hS.out, scan_step Hg.out, List.drop_drop]; simp; omega
      have rd1 : Reads w3 a1 (len - (t + k)) (cap - (t + k)) ((zs.drop (t + k)).map (.int .u8)) := by have := hd1 w3 _ (hr.later hb3' (Nat.le_refl _)); simpa using this
      have b1 : isBytes (zs.drop (t + k)) := fun z hz => h8 z (List.mem_of_mem_drop hz)
      clear hd1
      have hsz3 := hb3'.size
      clear hb3 hg3 hrowb hown hS hb hsz Hg
      go_wp2_with fail
      refine (rfget_any a1 (len - (t + k)) (cap - (t + k)) (zs.drop (t + k)) w3 rd1 b1 (by omega)).mono ?_
      rintro e wb ⟨ag5, c5, rfl, hown5, hb5⟩
      clear rd1 b1
      have hB5 : Below w.heap.size w wb := hb3'.trans (hb5.mono hsz3)
      have hownb := own_later hown3 hb5 (Nat.le_refl _)
      have hrowb := hrow3.later hb5 (Nat.le_refl _)
      have hown5' := own_mono hown5 hsz3
      clear hown5 hown3 hrow3 hb5 hb3' hsz3
      unfold getRV
      go_wp2
      go_roundw
      case rel => exact ⟨t + k, ag3, c3, m + 1, _, _, ag5, c5, _, _, _, rfl, rfl, rfl, by go_num, rfl, rfl, hown5', by omega, by omega, hownb, hrowb, hS', hB5⟩
      case measure => simp [intOf]; omega
    · have hfb : ((f : Int) == 0) = false := by simp; omega
      have hE : Hid (scanR zs = (ls, t)) := by show _ = _; rw [hS.out, scan_stop (by rw [Hg.out]; exact hf)]; simp
      clear hf
      go_wp2
      go_ret2
      rw [hE.out]
      exact ⟨ag, c, m, rfl, ReadsRows.of (Reads.own hown) hrow.vals, hb⟩
#print axioms rfscan_any

end Go.Proofs.Ytknfjonaepggnaa
