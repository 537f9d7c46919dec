/- Plain mathematics of records: what is put is got; cut records; records one behind the other. -/
import Derived.Test.YtgnhnhachhfafaaNumMath
import Derived.Test.YtgnhnhachhfafaaCrcMath
namespace Go.Proofs.Ytgnhnhachhfafaa

def sum4 (c : Nat) : List Int := [((c % 256 : Nat) : Int), ((c / 256 % 256 : Nat) : Int), ((c / 65536 % 256 : Nat) : Int), ((c / 16777216 % 256 : Nat) : Int)]
def recL (p : List Int) : List Int := encode p.length ++ (p ++ sum4 (ofL p))

theorem sum4_len (c : Nat) : (sum4 c).length = 4 := rfl
theorem sum4_bytes (c : Nat) : isBytes (sum4 c) := fun z hz => by
  simp only [sum4, List.mem_cons, List.not_mem_nil, or_false] at hz
  rcases hz with rfl | rfl | rfl | rfl <;> omega
theorem rec_len (p : List Int) : (recL p).length = (encode p.length).length + p.length + 4 := by simp [recL, sum4_len]; omega
theorem isBytes.app {xs ys : List Int} (h1 : isBytes xs) (h2 : isBytes ys) : isBytes (xs ++ ys) := fun z hz => by
  rcases List.mem_append.1 hz with h | h
  · exact h1 z h
  · exact h2 z h
theorem rec_bytes {p : List Int} (h : isBytes p) (hl : p.length ≤ 1048576) : isBytes (recL p) :=
  (encode_bytes _ (by omega)).app (h.app (sum4_bytes _))

/-- The record with which bytes begin: its payload, its bytes' number, the error's number. -/
def getR (zs : List Int) : List Int × Nat × Nat :=
  if (getL zs).2.2 ≠ 0 then ([], 0, (getL zs).2.2)
  else if 1048576 < (getL zs).1 then ([], 0, 2)
  else if zs.length < (getL zs).2.1 + (getL zs).1 + 4 then ([], 0, 3)
  else if (zs.drop ((getL zs).2.1 + (getL zs).1)).take 4 = sum4 (ofL ((zs.drop (getL zs).2.1).take (getL zs).1)) then ((zs.drop (getL zs).2.1).take (getL zs).1, (getL zs).2.1 + (getL zs).1 + 4, 0)
  else ([], 0, 4)

theorem getR_err (zs : List Int) (h : (getR zs).2.2 ≠ 0) : (getR zs).1 = [] ∧ (getR zs).2.1 = 0 := by
  unfold getR at h ⊢
  split
  · exact ⟨rfl, rfl⟩
  · split
    · exact ⟨rfl, rfl⟩
    · split
      · exact ⟨rfl, rfl⟩
      · split
        · rename_i h1 h2 h3 h4
          rw [if_neg h1, if_neg h2, if_neg h3, if_pos h4] at h
          exact absurd rfl h
        · exact ⟨rfl, rfl⟩

theorem get_rec (p r : List Int) (hl : p.length ≤ 1048576) : getR (recL p ++ r) = (p, (recL p).length, 0) := by
  have hg : getL (recL p ++ r) = (p.length, (encode p.length).length, 0) := by
    have := get_back p.length (p ++ sum4 (ofL p) ++ r) (by omega)
    rw [← List.append_assoc] at this
    exact this
  have hd1 : (recL p ++ r).drop (encode p.length).length = p ++ (sum4 (ofL p) ++ r) := by
    rw [recL, List.append_assoc, List.drop_left', List.append_assoc]; rfl
  have hd2 : (recL p ++ r).drop ((encode p.length).length + p.length) = sum4 (ofL p) ++ r := by
    rw [← List.drop_drop, hd1, List.drop_left]
  have ht1 : ((recL p ++ r).drop (encode p.length).length).take p.length = p := by rw [hd1, List.take_left]
  have ht2 : ((recL p ++ r).drop ((encode p.length).length + p.length)).take 4 = sum4 (ofL p) := by
    rw [hd2]; exact List.take_left' (sum4_len _)
  unfold getR
  rw [hg]
  simp only
  rw [if_neg (by simp), if_neg (by omega), if_neg (by rw [List.length_append, rec_len]; omega), ht1, ht2, if_pos rfl, rec_len]

theorem get_rec_ok {zs p : List Int} {m : Nat} (h8 : isBytes zs) (h : getR zs = (p, m, 0)) : m ≤ zs.length ∧ zs.take m = recL p ∧ p.length ≤ 1048576 ∧ m = (recL p).length ∧ zs = recL p ++ zs.drop m := by
  rcases hg : getL zs with ⟨n, k, e⟩
  unfold getR at h
  rw [hg] at h
  simp only at h
  split at h
  · rename_i he; simp only [Prod.mk.injEq] at h; exact absurd h.2.2 he
  · rename_i he
    have he : e = 0 := by simpa using he
    subst he
    obtain ⟨k1, k2, k3, k4⟩ := get_ok zs h8 n k hg
    split at h
    · simp at h
    · split at h
      · simp at h
      · split at h
        · rename_i n1 n2 n3
          simp only [Prod.mk.injEq, and_true] at h
          obtain ⟨rfl, rfl⟩ := h
          have hlen : ((zs.drop k).take n).length = n := by simp; omega
          have htk : zs.take (k + n + 4) = recL ((zs.drop k).take n) := by
            rw [recL, hlen, k3, ← n3]
            have e1 : zs.take (k + n + 4) = zs.take k ++ ((zs.drop k).take n ++ ((zs.drop k).drop n).take 4) := by
              rw [Nat.add_assoc, List.take_add, List.take_add]
            rw [e1, List.drop_drop]
          refine ⟨by omega, htk, by omega, ?_, ?_⟩
          · rw [← htk]; simp; omega
          · rw [← htk, List.take_append_drop]
        · simp at h

/-- A record that is cut is none. -/
theorem get_rec_cut {p : List Int} {k : Nat} (h8 : isBytes p) (hl : p.length ≤ 1048576) (hk : k < (recL p).length) : (getR ((recL p).take k)).2.2 ≠ 0 := by
  intro h0
  rcases hg : getR ((recL p).take k) with ⟨q, m, e⟩
  rw [hg] at h0
  have h0 : e = 0 := h0
  subst h0
  obtain ⟨h1, h2, h3, h4, h5⟩ := get_rec_ok ((rec_bytes h8 hl).take k) hg
  have e1 : recL p = recL q ++ (((recL p).take k).drop m ++ (recL p).drop k) := by
    rw [← List.append_assoc, ← h5, List.take_append_drop]
  have g1 := get_rec q (((recL p).take k).drop m ++ (recL p).drop k) h3
  rw [← e1] at g1
  have g2 := get_rec p [] hl
  rw [List.append_nil, g1] at g2
  simp only [Prod.mk.injEq, and_true] at g2
  rw [List.length_take] at h1
  omega

/-! All records. -/
def scanF : Nat → List Int → List (List Int) × Nat
  | 0, _ => ([], 0)
  | f + 1, zs => if (getR zs).2.2 = 0 then ((getR zs).1 :: (scanF f (zs.drop (getR zs).2.1)).1, (getR zs).2.1 + (scanF f (zs.drop (getR zs).2.1)).2) else ([], 0)
def scanR (zs : List Int) : List (List Int) × Nat := scanF (zs.length + 1) zs

theorem rec_pos (p : List Int) : 5 ≤ (recL p).length := by rw [rec_len]; have := encode_len p.length; omega

theorem get_len {zs p : List Int} {m : Nat} (h : getR zs = (p, m, 0)) : 4 ≤ m ∧ m ≤ zs.length := by
  unfold getR at h
  split at h
  · rename_i he; simp only [Prod.mk.injEq] at h; exact absurd h.2.2 he
  · split at h
    · simp at h
    · split at h
      · simp at h
      · split at h
        · simp only [Prod.mk.injEq, and_true] at h; omega
        · simp at h

theorem scanF_more (f : Nat) : ∀ (g : Nat) (zs : List Int), zs.length < f → f ≤ g → scanF g zs = scanF f zs := by
  induction f with
  | zero => intro g zs h; omega
  | succ f ih =>
    intro g zs h hg
    cases g with
    | zero => omega
    | succ g =>
      unfold scanF
      split
      · rename_i h0
        rcases hr : getR zs with ⟨p, m, e⟩
        rw [hr] at h0
        have h0 : e = 0 := h0
        subst h0
        have := get_len hr
        rw [ih g (zs.drop m) (by simp; omega) (by omega)]
      · rfl

theorem scan_step {zs p : List Int} {m : Nat} (h : getR zs = (p, m, 0)) : scanR zs = (p :: (scanR (zs.drop m)).1, m + (scanR (zs.drop m)).2) := by
  have := get_len h
  unfold scanR
  conv => lhs; unfold scanF
  rw [h]
  simp only [if_true]
  rw [scanF_more ((zs.drop m).length + 1) zs.length (zs.drop m) (by omega) (by simp; omega)]
theorem scan_stop {zs : List Int} (h : (getR zs).2.2 ≠ 0) : scanR zs = ([], 0) := by
  unfold scanR scanF
  rw [if_neg h]

def recs : List (List Int) → List Int
  | [] => []
  | p :: l => recL p ++ recs l
theorem recs_append (a b : List (List Int)) : recs (a ++ b) = recs a ++ recs b := by
  induction a with
  | nil => rfl
  | cons p l ih => simp [recs, ih]

def okRows (ls : List (List Int)) : Prop := ∀ p ∈ ls, isBytes p ∧ p.length ≤ 1048576
theorem okRows.tail {p : List Int} {l : List (List Int)} (h : okRows (p :: l)) : okRows l := fun q hq => h q (List.mem_cons_of_mem _ hq)
theorem recs_bytes : ∀ (ls : List (List Int)), okRows ls → isBytes (recs ls)
  | [], _ => fun z hz => by simp [recs] at hz
  | p :: l, h => (rec_bytes (h p List.mem_cons_self).1 (h p List.mem_cons_self).2).app (recs_bytes l h.tail)

/-- Records, and what is none behind them. -/
theorem scan_recs : ∀ (ls : List (List Int)) (t : List Int), okRows ls → (getR t).2.2 ≠ 0 → scanR (recs ls ++ t) = (ls, (recs ls).length)
  | [], t, _, ht => by rw [recs, List.nil_append, scan_stop ht]; rfl
  | p :: l, t, h, ht => by
    have hp := h p List.mem_cons_self
    rw [recs, List.append_assoc, scan_step (get_rec p (recs l ++ t) hp.2), List.drop_left, scan_recs l t h.tail ht, List.length_append]

theorem get_nil : (getR []).2.2 ≠ 0 := by decide

/-- Records that are cut: as many as are whole. -/
def whole : List (List Int) → Nat → Nat
  | [], _ => 0
  | p :: l, k => if (recL p).length ≤ k then whole l (k - (recL p).length) + 1 else 0
theorem scan_cut_recs : ∀ (ls : List (List Int)) (k : Nat), okRows ls → k ≤ (recs ls).length →
    scanR ((recs ls).take k) = (ls.take (whole ls k), (recs (ls.take (whole ls k))).length) ∧ whole ls k ≤ ls.length ∧ (recs (ls.take (whole ls k))).length ≤ k ∧ (whole ls k < ls.length → k < (recs (ls.take (whole ls k + 1))).length)
  | [], k, _, hk => by
    have : k = 0 := by simpa [recs] using hk
    subst this
    refine ⟨?_, Nat.le_refl _, Nat.le_refl _, fun h => by simp at h⟩
    rw [recs, List.take_nil, scan_stop get_nil]; rfl
  | p :: l, k, h, hk => by
    have hp := h p List.mem_cons_self
    unfold whole
    by_cases hle : (recL p).length ≤ k
    · obtain ⟨i1, i2, i3, i4⟩ := scan_cut_recs l (k - (recL p).length) h.tail (by simp [recs] at hk; omega)
      rw [if_pos hle]
      have e : (recs (p :: l)).take k = recL p ++ (recs l).take (k - (recL p).length) := by
        rw [recs, List.take_append, List.take_of_length_le hle]
      refine ⟨?_, by simp; omega, ?_, fun hw => ?_⟩
      · rw [e, scan_step (get_rec p _ hp.2), List.drop_left, i1]
        simp [recs]
      · simp only [List.take_succ_cons, recs, List.length_append]; omega
      · have := i4 (by simpa using hw)
        simp only [List.take_succ_cons, recs, List.length_append] at this ⊢
        omega
    · rw [if_neg hle]
      have e : (recs (p :: l)).take k = (recL p).take k := by
        rw [recs, List.take_append_of_le_length (by omega)]
      refine ⟨?_, Nat.zero_le _, by simp [recs], fun _ => ?_⟩
      · rw [e, scan_stop (get_rec_cut hp.1 hp.2 (by omega))]; rfl
      · simp [recs]; omega
theorem get_255 : (getR [255, 255]).2.2 ≠ 0 := by decide
theorem get_most1 : getR [129, 128, 64, 1, 2, 3] = ([], 0, 2) := by decide +kernel
theorem get_most2 : getR [128, 128, 64, 1, 2, 3] = ([], 0, 3) := by decide +kernel
end Go.Proofs.Ytgnhnhachhfafaa
