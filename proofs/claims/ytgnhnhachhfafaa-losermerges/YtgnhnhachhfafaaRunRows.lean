/- Runs: records, row by row; a byte that is another one. -/
import Derived.Test.YtgnhnhachhfafaaRunMath
import Derived.Test.YtgnhnhachhfafaaCrcTurn
namespace Go.Proofs.Ytgnhnhachhfafaa
open Go.RowKit
set_option linter.unusedVariables false
set_option linter.unusedSimpArgs false

/-! The rows that a run has. -/
def SizeRow (p : List Int) : Prop := ∃ s, 1 ≤ s ∧ s ≤ 255 ∧ p = encode s
def BlockRow (p : List Int) : Prop := ∃ l : List En, l ≠ [] ∧ l.length ≤ 255 ∧ (∀ e ∈ l, oneE e = true) ∧ p = blockL l
def EndRow (p : List Int) : Prop := ∃ n, n < 18446744073709551616 ∧ p = encode 0 ++ encode n
/-- Two rows at one place. -/
def Paired (p q : List Int) : Prop := (SizeRow p ∧ SizeRow q) ∨ ((BlockRow p ∨ EndRow p) ∧ (BlockRow q ∨ EndRow q))
theorem Paired.symm {p q : List Int} (h : Paired p q) : Paired q p := h.imp (fun h => ⟨h.2, h.1⟩) fun h => ⟨h.2, h.1⟩
theorem encode_zero : encode 0 = [0] := by decide
theorem num_free {a b : Nat} {X Y : List Int} (ha : a < 18446744073709551616) (hb : b < 18446744073709551616) (e : encode a ++ X = encode b ++ Y) : a = b := by
  have g1 := get_back a X ha
  rw [e, get_back b Y hb] at g1
  simp only [Prod.mk.injEq, and_true] at g1
  exact g1.1.symm
theorem block_end {l : List En} {n : Nat} {X Y : List Int} (hl : l ≠ []) (hl2 : l.length ≤ 255) (e : blockL l ++ X = (encode 0 ++ encode n) ++ Y) : False := by
  unfold blockL at e
  rw [List.append_assoc, List.append_assoc] at e
  have := num_free (by omega) (by omega) e
  exact hl (List.length_eq_zero_iff.1 this)
theorem pay_free {p q X Y : List Int} (h : Paired p q) (e : p ++ X = q ++ Y) : p = q := by
  rcases h with ⟨⟨s, h1, h2, rfl⟩, ⟨t, h3, h4, rfl⟩⟩ | ⟨hp, hq⟩
  · rw [num_free (by omega) (by omega) e]
  · rcases hp with ⟨l, h1, h2, h3, rfl⟩ | ⟨n, h1, rfl⟩
    · rcases hq with ⟨l', k1, k2, k3, rfl⟩ | ⟨m, k1, rfl⟩
      · rw [block_free h3 k3 (by omega) (by omega) e]
      · exact (block_end h1 h2 e).elim
    · rcases hq with ⟨l', k1, k2, k3, rfl⟩ | ⟨m, k1, rfl⟩
      · exact (block_end k1 k2 e.symm).elim
      · rw [List.append_assoc, List.append_assoc] at e
        rw [num_free h1 k1 (List.append_cancel_left e)]

/-! Numbers end where they say. -/
theorem enc_last (f : Nat) : ∀ n : Nat, n ≠ 0 → ∃ c, (enc f n).getLast? = some c ∧ c ≠ 0 := by
  induction f with
  | zero => intro n hn; exact ⟨n, by simp [enc], by omega⟩
  | succ f ih =>
    intro n hn
    unfold enc
    split
    · exact ⟨n, by simp, by omega⟩
    · obtain ⟨c, h1, h2⟩ := ih (n / 128) (by omega)
      refine ⟨c, ?_, h2⟩
      rw [List.getLast?_cons, h1]; rfl
theorem enc_head (f : Nat) (n : Nat) (hn : n ≠ 0) (hl : n < lim f) : ∃ c r, enc f n = c :: r ∧ c ≠ 0 := by
  cases f with
  | zero => exact ⟨n, [], rfl, by omega⟩
  | succ f =>
    unfold enc
    split
    · exact ⟨n, [], rfl, by omega⟩
    · exact ⟨_, _, rfl, by omega⟩
/-- All bytes but the last one go on. -/
def Delim : List Int → Prop
  | [] => False
  | [c] => c < 128
  | c :: d :: r => 128 ≤ c ∧ Delim (d :: r)
theorem delim_free : ∀ {a b X Y : List Int}, Delim a → Delim b → a ++ X = b ++ Y → a = b
  | [], _, _, _, h, _, _ => h.elim
  | _, [], _, _, _, h, _ => h.elim
  | [c], [d], X, Y, _, _, e => by simp at e; rw [e.1]
  | [c], d :: d2 :: r, X, Y, h, k, e => by
    simp only [List.cons_append, List.nil_append, List.cons.injEq] at e
    have h1 : c < 128 := h
    have h2 : 128 ≤ d := k.1
    omega
  | c :: c2 :: r, [d], X, Y, h, k, e => by
    simp only [List.cons_append, List.nil_append, List.cons.injEq] at e
    have h1 : d < 128 := k
    have h2 : 128 ≤ c := h.1
    omega
  | c :: c2 :: r, d :: d2 :: r', X, Y, h, k, e => by
    simp only [List.cons_append, List.cons.injEq] at e
    have := delim_free (a := c2 :: r) (b := d2 :: r') h.2 k.2 (by simp only [List.cons_append, List.cons.injEq]; exact e.2)
    rw [e.1, this]
theorem delim_drop : ∀ {a : List Int} {n : Nat}, Delim a → n < a.length → Delim (a.drop n)
  | a, 0, h, _ => h
  | [c], n + 1, _, hn => by simp at hn
  | c :: d :: r, n + 1, h, hn => delim_drop (a := d :: r) h.2 (by simpa using hn)
theorem delim_enc (f : Nat) : ∀ n : Nat, n < lim f → Delim (enc f n) := by
  induction f with
  | zero => intro n hn; simp only [lim] at hn; show (n : Int) < 128; omega
  | succ f ih =>
    intro n hn
    unfold enc
    split
    · show (n : Int) < 128; omega
    · have h1 := ih (n / 128) (by simp only [lim] at hn; omega)
      cases he : enc f (n / 128) with
      | nil => rw [he] at h1; exact h1.elim
      | cons c r => rw [he] at h1; exact ⟨by omega, h1⟩
theorem delim_encode (n : Nat) (hn : n < 18446744073709551616) : Delim (encode n) := delim_enc 9 n (by simp [lim]; omega)
theorem delim_last : ∀ {a : List Int} (h : Delim a) (n : Nat), n + 1 = a.length → a.getD n 0 < 128
  | [c], h, 0, _ => h
  | [c], h, n + 1, hn => by simp at hn
  | c :: d :: r, h, 0, hn => by simp at hn
  | c :: d :: r, h, n + 1, hn => by
    have := delim_last (a := d :: r) h.2 n (by simpa using hn)
    simpa using this
theorem delim_on : ∀ {a : List Int} (h : Delim a) (n : Nat), n + 1 < a.length → 128 ≤ a.getD n 0
  | [c], h, n, hn => by simp at hn
  | c :: d :: r, h, 0, hn => h.1
  | c :: d :: r, h, n + 1, hn => by
    have := delim_on (a := d :: r) h.2 n (by simpa using hn)
    simpa using this

/-- A length's number that goes on into the row: no. -/
theorem pay_clash {p q X Y : List Int} (h : Paired p q) (hp : p.length < 18446744073709551616) (hq : q.length < 18446744073709551616) (hlt : (encode p.length).length < (encode q.length).length) (e : p ++ X = (encode q.length).drop (encode p.length).length ++ (q ++ Y)) : False := by
  have h1 : ¬ q.length < 128 := fun hs => by
    have := (encode_one q.length).2 hs
    have := encode_len p.length
    omega
  have small : ∀ n, n < 18446744073709551616 → (encode n).length ≤ 10 := fun n _ => (encode_len n).2
  have hdel := delim_drop (delim_encode q.length hq) hlt
  obtain ⟨c, hc, hc0⟩ := enc_last 9 q.length (by omega)
  have hlast : ((encode q.length).drop (encode p.length).length).getLast? = some c := by
    rw [List.getLast?_drop, if_neg (by omega)]; exact hc
  generalize (encode q.length).drop (encode p.length).length = t at e hdel hlast
  have qsmall : EndRow q → q.length < 128 := fun ⟨n, hn, he⟩ => by
    rw [he, List.length_append]
    have := small 0 (by omega)
    have := small n hn
    omega
  rcases h with ⟨_, ⟨t', h3, h4, he⟩⟩ | ⟨hpr, hqr⟩
  · have : q.length ≤ 10 := by rw [he]; exact small t' (by omega)
    omega
  · rcases hqr with ⟨l', k1, k2, k3, he⟩ | hqe
    rotate_left
    · exact h1 (qsmall hqe)
    · rcases hpr with ⟨l, m1, m2, m3, rfl⟩ | ⟨n, hn, rfl⟩
      · have e2 := e
        unfold blockL at e
        rw [List.append_assoc] at e
        have et := delim_free (delim_encode l.length (by omega)) hdel e
        rw [← et] at e
        have e3 := List.append_cancel_left e
        rw [he] at e3
        cases l with
        | nil => exact m1 rfl
        | cons a l =>
          rw [entsL, entL, alike_nil, encode_zero] at e3
          obtain ⟨c', r, hc', hc1⟩ := enc_head 9 l'.length (fun h => k1 (List.length_eq_zero_iff.1 h)) (by simp [lim]; omega)
          unfold blockL encode at e3
          rw [hc'] at e3
          simp only [List.cons_append, List.cons.injEq] at e3
          exact hc1 e3.1.symm
      · rw [List.append_assoc] at e
        have et := delim_free (delim_encode 0 (by omega)) hdel e
        rw [← et, encode_zero] at hlast
        simp at hlast
        exact hc0 hlast.symm

/-! One byte that is another one. -/
structure Diff1 (x c : List Int) (k : Nat) : Prop where
  length : x.length = c.length
  lt : k < x.length
  same : ∀ i, i ≠ k → x[i]? = c[i]?
  turned : x[k]? ≠ c[k]?
theorem Diff1.symm {x c : List Int} {k : Nat} (h : Diff1 x c k) : Diff1 c x k := ⟨h.length.symm, h.length ▸ h.lt, fun i hi => (h.same i hi).symm, fun e => h.turned e.symm⟩
theorem Diff1.drop {x c : List Int} {k : Nat} (h : Diff1 x c k) {n : Nat} (hn : k < n) : x.drop n = c.drop n := by
  apply List.ext_getElem?
  intro i
  rw [List.getElem?_drop, List.getElem?_drop]
  exact h.same _ (by omega)
theorem Diff1.take {x c : List Int} {k : Nat} (h : Diff1 x c k) {n : Nat} (hn : n ≤ k) : x.take n = c.take n := by
  apply List.ext_getElem?
  intro i
  by_cases hi : i < n
  · rw [List.getElem?_take_of_lt hi, List.getElem?_take_of_lt hi]; exact h.same _ (by omega)
  · rw [List.getElem?_take_eq_none (by omega), List.getElem?_take_eq_none (by omega)]
theorem Diff1.tail {A X Y : List Int} {k : Nat} (h : Diff1 (A ++ X) (A ++ Y) k) : A.length ≤ k ∧ Diff1 X Y (k - A.length) := by
  have hk : A.length ≤ k := by
    rcases Nat.lt_or_ge k A.length with hlt | hge
    · exact absurd (by rw [List.getElem?_append_left hlt, List.getElem?_append_left hlt]) h.turned
    · exact hge
  have hl := h.length
  have hlt := h.lt
  simp only [List.length_append] at hl hlt
  refine ⟨hk, ⟨by omega, by omega, fun i hi => ?_, fun e => h.turned ?_⟩⟩
  · have := h.same (A.length + i) (by omega)
    rw [List.getElem?_append_right (by omega), List.getElem?_append_right (by omega)] at this
    simpa using this
  · rw [List.getElem?_append_right hk, List.getElem?_append_right hk]; exact e
theorem sum4_inj {a b : Nat} (ha : a < 4294967296) (hb : b < 4294967296) (h : sum4 a = sum4 b) : a = b := by
  simp only [sum4, List.cons.injEq, and_true] at h
  omega

theorem ofL_lt (p : List Int) : ofL p < 4294967296 := by unfold ofL moreL; exact flip_lt _
/-- Records: the first ones are the same. -/
theorem rec_apart {p q X Y : List Int} {k : Nat} (hd : Diff1 (recL p ++ X) (recL q ++ Y) k) (h : Paired p q) (p8 : isBytes p) (q8 : isBytes q) (hp : p.length ≤ 1048576) (hq : q.length ≤ 1048576) : p = q := by
  have ex : recL p ++ X = encode p.length ++ (p ++ (sum4 (ofL p) ++ X)) := by simp [recL, List.append_assoc]
  have ey : recL q ++ Y = encode q.length ++ (q ++ (sum4 (ofL q) ++ Y)) := by simp [recL, List.append_assoc]
  rw [ex, ey] at hd
  -- where both numbers are whole they are one
  have whole : ∀ {a b : List Int} {A B : List Int}, a.length ≤ 1048576 → b.length ≤ 1048576 → Diff1 (encode a.length ++ A) (encode b.length ++ B) k → (encode a.length).length ≤ k → a.length = b.length := by
    intro a b A B ha hb hd hk
    have h1 := hd.take hk
    rw [List.take_left] at h1
    have h2 : encode b.length ++ B = encode a.length ++ (encode b.length ++ B).drop (encode a.length).length := by
      conv => lhs; rw [← List.take_append_drop (encode a.length).length (encode b.length ++ B)]
      rw [← h1]
    exact num_free (by omega) (by omega) h2.symm
  have finish : p.length = q.length → p = q := by
    intro hl
    rw [← hl] at hd
    obtain ⟨hk, hd2⟩ := hd.tail
    generalize k - (encode p.length).length = j at hd2
    rcases Nat.lt_or_ge j p.length with hj | hj
    · -- within the row: the sums would part
      have hs := hd2.drop (n := p.length) hj
      rw [List.drop_left, hl, List.drop_left] at hs
      have hs2 : sum4 (ofL p) = sum4 (ofL q) := by
        have := congrArg (List.take 4) hs
        rw [List.take_append_of_le_length (by simp [sum4_len]), List.take_append_of_le_length (by simp [sum4_len])] at this
        simpa [sum4] using this
      have hcrc := sum4_inj (ofL_lt p) (ofL_lt q) hs2
      have hset : q = p.set j (q.getD j 0) := by
        apply List.ext_getElem?
        intro i
        by_cases hi : i = j
        · subst hi
          rw [List.getElem?_set_self hj, List.getD, List.getElem?_eq_getElem (by omega)]; rfl
        · rw [List.getElem?_set_ne (by omega)]
          have := hd2.same i hi
          by_cases hi2 : i < p.length
          · rw [List.getElem?_append_left hi2, List.getElem?_append_left (by omega)] at this; exact this.symm
          · rw [List.getElem?_eq_none (by omega), List.getElem?_eq_none (by omega)]
      have hne : q.getD j 0 ≠ p.getD j 0 := fun e => hd2.turned (by
        rw [List.getElem?_append_left hj, List.getElem?_append_left (by omega), List.getElem?_eq_getElem hj, List.getElem?_eq_getElem (by omega)]
        rw [List.getD, List.getD, List.getElem?_eq_getElem hj, List.getElem?_eq_getElem (by omega)] at e
        simp only [Option.getD_some] at e
        rw [e])
      have hq8 := q8 (q.getD j 0) (by rw [List.getD, List.getElem?_eq_getElem (by omega)]; exact List.getElem_mem _)
      exact absurd (by rw [← hset]; exact hcrc.symm) (turned_set p8 hj hq8 hne)
    · have ht := hd2.take hj
      rw [List.take_left, hl, List.take_left] at ht
      exact ht
  rcases Nat.lt_or_ge k (encode p.length).length with h1 | h1
  · rcases Nat.lt_or_ge k (encode q.length).length with h2 | h2
    · rcases Nat.lt_trichotomy (encode p.length).length (encode q.length).length with h3 | h3 | h3
      · exfalso
        have hk : k + 1 = (encode p.length).length := by
          rcases Nat.lt_or_ge (k + 1) (encode p.length).length with h4 | h4
          · have a1 := delim_last (delim_encode p.length (by omega)) ((encode p.length).length - 1) (by omega)
            have a2 := delim_on (delim_encode q.length (by omega)) ((encode p.length).length - 1) (by omega)
            have a3 := hd.same ((encode p.length).length - 1) (by omega)
            rw [List.getElem?_append_left (by omega), List.getElem?_append_left (by omega)] at a3
            rw [List.getD, a3] at a1
            rw [List.getD] at a2
            omega
          · omega
        have hdr := hd.drop (n := (encode p.length).length) (by omega)
        rw [List.drop_left, List.drop_append_of_le_length (by omega)] at hdr
        exact pay_clash h (by omega) (by omega) h3 hdr
      · have hdr := hd.drop (n := (encode p.length).length) h1
        rw [List.drop_left, h3, List.drop_left] at hdr
        exact pay_free h hdr
      · exfalso
        have hk : k + 1 = (encode q.length).length := by
          rcases Nat.lt_or_ge (k + 1) (encode q.length).length with h4 | h4
          · have a1 := delim_last (delim_encode q.length (by omega)) ((encode q.length).length - 1) (by omega)
            have a2 := delim_on (delim_encode p.length (by omega)) ((encode q.length).length - 1) (by omega)
            have a3 := hd.same ((encode q.length).length - 1) (by omega)
            rw [List.getElem?_append_left (by omega), List.getElem?_append_left (by omega)] at a3
            rw [List.getD, a3] at a2
            rw [List.getD] at a1
            omega
          · omega
        have hdr := hd.drop (n := (encode q.length).length) (by omega)
        rw [List.drop_append_of_le_length (by omega), List.drop_left] at hdr
        exact pay_clash h.symm (by omega) (by omega) h3 hdr.symm
    · exact finish (whole hq hp hd.symm h2).symm
  · exact finish (whole hp hq hd h1)
#print axioms rec_apart
def okRow (p : List Int) : Prop := isBytes p ∧ p.length ≤ 1048576
theorem rows_apart : ∀ (ps qs : List (List Int)) (e e' : List Int) (k : Nat), (∀ p ∈ ps, BlockRow p) → (∀ q ∈ qs, BlockRow q) → EndRow e → EndRow e' → okRows (ps ++ [e]) → okRows (qs ++ [e']) → ¬ Diff1 (recs (ps ++ [e])) (recs (qs ++ [e'])) k
  | [], [], e, e', k, _, _, he, he', ok, ok', hd => by
    simp only [List.nil_append, recs, List.append_nil] at hd
    have o1 := ok e (by simp)
    have o2 := ok' e' (by simp)
    have h1 := rec_apart (X := []) (Y := []) (by simpa using hd) (.inr ⟨.inr he, .inr he'⟩) o1.1 o2.1 o1.2 o2.2
    rw [h1] at hd
    exact hd.turned rfl
  | [], q :: qs, e, e', k, _, hq, he, he', ok, ok', hd => by
    simp only [List.nil_append, List.cons_append, recs] at hd
    have o1 := ok e (by simp)
    have o2 := ok' q (by simp)
    have hb := hq q (by simp)
    have h1 := rec_apart hd (.inr ⟨.inr he, .inl hb⟩) o1.1 o2.1 o1.2 o2.2
    obtain ⟨l, k1, k2, k3, hl⟩ := hb
    obtain ⟨n, hn, hne⟩ := he
    exact block_end (X := []) (Y := []) k1 k2 (by rw [← hl, ← h1, hne])
  | p :: ps, [], e, e', k, hp, _, he, he', ok, ok', hd => by
    simp only [List.nil_append, List.cons_append, recs] at hd
    have o1 := ok p (by simp)
    have o2 := ok' e' (by simp)
    have hb := hp p (by simp)
    have h1 := rec_apart hd (.inr ⟨.inl hb, .inr he'⟩) o1.1 o2.1 o1.2 o2.2
    obtain ⟨l, k1, k2, k3, hl⟩ := hb
    obtain ⟨n, hn, hne⟩ := he'
    exact block_end (X := []) (Y := []) k1 k2 (by rw [← hl, h1, hne])
  | p :: ps, q :: qs, e, e', k, hp, hq, he, he', ok, ok', hd => by
    simp only [List.cons_append, recs] at hd
    have o1 := ok p (by simp)
    have o2 := ok' q (by simp)
    have h1 := rec_apart hd (.inr ⟨.inl (hp p (by simp)), .inl (hq q (by simp))⟩) o1.1 o2.1 o1.2 o2.2
    subst h1
    exact rows_apart ps qs e e' _ (fun x hx => hp x (by simp [hx])) (fun x hx => hq x (by simp [hx])) he he' (fun x hx => ok x (by simp only [List.cons_append, List.mem_cons]; exact .inr hx)) (fun x hx => ok' x (by simp only [List.cons_append, List.mem_cons]; exact .inr hx)) hd.tail.2

/-! The rows of a run. -/
theorem chunks_blocks : ∀ (f s : Nat) (l : List En), 1 ≤ s → s ≤ 255 → (∀ e ∈ l, oneE e = true) → ∀ c ∈ chunksF f s l, c ≠ [] ∧ c.length ≤ 255 ∧ ∀ e ∈ c, oneE e = true
  | 0, _, _, _, _, _, c, hc => by simp [chunksF] at hc
  | f + 1, s, l, h1, h2, h, c, hc => by
    unfold chunksF at hc
    by_cases hl : l = []
    · rw [if_pos hl] at hc; simp at hc
    · rw [if_neg hl] at hc
      rcases List.mem_cons.1 hc with rfl | hc
      · refine ⟨fun e => hl ?_, by rw [List.length_take]; omega, fun e he => h e (List.mem_of_mem_take he)⟩
        have := congrArg List.length e
        simp only [List.length_take, List.length_nil] at this
        exact List.length_eq_zero_iff.1 (by omega)
      · exact chunks_blocks f s (l.drop s) h1 h2 (fun e he => h e (List.mem_of_mem_drop he)) c hc
theorem ent_len (was : Wd) (e : En) (h : oneE e = true) : (entL was e).length ≤ 285 := by
  have h1 := one_ok.1 h
  have a := encode_len (alikeW was e.1)
  have b := encode_len (e.1.length - alikeW was e.1)
  have c := encode_len e.2
  unfold entL
  simp only [List.length_append, bytesI_len, List.length_drop]
  omega
theorem ents_len : ∀ (l : List En) (was : Wd), (∀ e ∈ l, oneE e = true) → (entsL was l).length ≤ l.length * 285
  | [], _, _ => by simp [entsL]
  | e :: l, was, h => by
    have h1 := ent_len was e (h e (by simp))
    have h2 := ents_len l e.1 fun x hx => h x (by simp [hx])
    simp only [entsL, List.length_append, List.length_cons]
    omega
theorem ent_bytes (was : Wd) (e : En) (h : oneE e = true) (hw : was.length ≤ 255) : isBytes (entL was e) := by
  have h1 := one_ok.1 h
  have ha := alike_le was e.1
  unfold entL
  exact (encode_bytes _ (by omega)).app ((encode_bytes _ (by omega)).app ((bytesI_bytes _).app (encode_bytes _ (by omega))))
theorem ents_bytes : ∀ (l : List En) (was : Wd), (∀ e ∈ l, oneE e = true) → was.length ≤ 255 → isBytes (entsL was l)
  | [], _, _, _ => fun z hz => by simp [entsL] at hz
  | e :: l, was, h, hw => (ent_bytes was e (h e (by simp)) hw).app (ents_bytes l e.1 (fun x hx => h x (by simp [hx])) (one_ok.1 (h e (by simp))).2.1)
theorem block_ok {l : List En} (h2 : l.length ≤ 255) (h : ∀ e ∈ l, oneE e = true) : isBytes (blockL l) ∧ (blockL l).length ≤ 1048576 := by
  refine ⟨(encode_bytes _ (by omega)).app (ents_bytes l [] h (by simp)), ?_⟩
  have := encode_len l.length
  have := ents_len l [] h
  unfold blockL
  rw [List.length_append]
  omega
theorem end_ok {n : Nat} (hn : n < 18446744073709551616) : isBytes (encode 0 ++ encode n) ∧ (encode 0 ++ encode n).length ≤ 1048576 := by
  refine ⟨(encode_bytes _ (by omega)).app (encode_bytes _ hn), ?_⟩
  have := encode_len 0
  have := encode_len n
  rw [List.length_append]; omega
/-- What may be a run. -/
def RunOk (l : List En) (s : Nat) : Prop := 1 ≤ s ∧ s ≤ 255 ∧ (∀ e ∈ l, oneE e = true) ∧ l.length < 18446744073709551616
theorem run_blocks {l : List En} {s : Nat} (h : RunOk l s) : ∀ p ∈ (chunksE s l).map blockL, BlockRow p := fun p hp => by
  obtain ⟨c, hc, rfl⟩ := List.mem_map.1 hp
  obtain ⟨h1, h2, h3⟩ := chunks_blocks _ s l h.1 h.2.1 h.2.2.1 c hc
  exact ⟨c, h1, h2, h3, rfl⟩
theorem run_rest {l : List En} {s : Nat} (h : RunOk l s) : okRows ((chunksE s l).map blockL ++ [encode 0 ++ encode l.length]) := fun p hp => by
  rcases List.mem_append.1 hp with hp | hp
  · obtain ⟨c, h1, h2, h3, rfl⟩ := run_blocks h p hp
    exact block_ok h2 h3
  · simp only [List.mem_singleton] at hp; subst hp; exact end_ok h.2.2.2
theorem size_ok {s : Nat} (h : s ≤ 255) : isBytes (encode s) ∧ (encode s).length ≤ 1048576 := ⟨encode_bytes _ (by omega), by have := encode_len s; omega⟩
theorem run_rows {l : List En} {s : Nat} (h : RunOk l s) : okRows (runRows l s) := fun p hp => by
  rcases List.mem_cons.1 hp with rfl | hp
  · exact size_ok h.2.1
  · exact run_rest h p hp
/-- No run with one byte that is another one is a run. -/
theorem run_apart {l l' : List En} {s s' k : Nat} (h : RunOk l s) (h' : RunOk l' s') : ¬ Diff1 (runL l s) (runL l' s') k := fun hd => by
  unfold runL runRows at hd
  rw [recs, recs] at hd
  have o1 := size_ok h.2.1
  have o2 := size_ok h'.2.1
  have h1 := rec_apart hd (.inl ⟨⟨s, h.1, h.2.1, rfl⟩, ⟨s', h'.1, h'.2.1, rfl⟩⟩) o1.1 o2.1 o1.2 o2.2
  rw [h1] at hd
  exact rows_apart _ _ _ _ _ (run_blocks h) (run_blocks h') ⟨_, h.2.2.2, rfl⟩ ⟨_, h'.2.2.2, rfl⟩ (run_rest h) (run_rest h') hd.tail.2
#print axioms run_apart
/-- What a run begins with is one run at most. -/
theorem chunks_join : ∀ (f s : Nat) (l : List En), 1 ≤ s → l.length ≤ f → (chunksF f s l).flatten = l
  | 0, _, l, _, hl => by
    have h0 : l = [] := List.length_eq_zero_iff.1 (by omega)
    subst h0; rfl
  | f + 1, s, l, hs, hl => by
    unfold chunksF
    by_cases h : l = []
    · simp [h]
    · rw [if_neg h, List.flatten_cons, chunks_join f s (l.drop s) hs (by rw [List.length_drop]; omega), List.take_append_drop]
theorem recs_free : ∀ (ps qs : List (List Int)) (e e' : List Int) {X Y : List Int}, (∀ p ∈ ps, BlockRow p) → (∀ q ∈ qs, BlockRow q) → EndRow e → EndRow e' → okRows (ps ++ [e]) → okRows (qs ++ [e']) → recs (ps ++ [e]) ++ X = recs (qs ++ [e']) ++ Y → ps = qs ∧ e = e' ∧ X = Y
  | ps, qs, e, e', X, Y, hp, hq, he, he', ok, ok', hx => by
    have key : ∀ {p q A B : List Int}, okRow p → okRow q → recL p ++ A = recL q ++ B → p = q ∧ A = B := fun {p q A B} hp hq h => by
      have g1 := get_rec p A hp.2
      rw [h, get_rec q B hq.2] at g1
      simp only [Prod.mk.injEq, and_true] at g1
      have e1 := g1.1.symm
      subst e1
      exact ⟨rfl, List.append_cancel_left h⟩
    cases ps with
    | nil =>
      cases qs with
      | nil =>
        simp only [List.nil_append, recs, List.append_nil] at hx
        obtain ⟨h1, h2⟩ := key (ok e (by simp)) (ok' e' (by simp)) hx
        exact ⟨rfl, h1, h2⟩
      | cons q qs =>
        simp only [List.nil_append, List.cons_append, recs, List.append_nil, List.append_assoc] at hx
        obtain ⟨h1, _⟩ := key (ok e (by simp)) (ok' q (by simp)) hx
        obtain ⟨l, k1, k2, k3, hl⟩ := hq q (by simp)
        obtain ⟨n, hn, hne⟩ := he
        exact (block_end (X := []) (Y := []) k1 k2 (by rw [← hl, ← h1, hne])).elim
    | cons p ps =>
      cases qs with
      | nil =>
        simp only [List.nil_append, List.cons_append, recs, List.append_nil, List.append_assoc] at hx
        obtain ⟨h1, _⟩ := key (ok p (by simp)) (ok' e' (by simp)) hx
        obtain ⟨l, k1, k2, k3, hl⟩ := hp p (by simp)
        obtain ⟨n, hn, hne⟩ := he'
        exact (block_end (X := []) (Y := []) k1 k2 (by rw [← hl, h1, hne])).elim
      | cons q qs =>
        simp only [List.cons_append, recs, List.append_assoc] at hx
        obtain ⟨h1, h2⟩ := key (ok p (by simp)) (ok' q (by simp)) hx
        subst h1
        obtain ⟨h3, h4, h5⟩ := recs_free ps qs e e' (fun x hx => hp x (by simp [hx])) (fun x hx => hq x (by simp [hx])) he he' (fun x hx => ok x (by simp only [List.cons_append, List.mem_cons]; exact .inr hx)) (fun x hx => ok' x (by simp only [List.cons_append, List.mem_cons]; exact .inr hx)) h2
        exact ⟨by rw [h3], h4, h5⟩
theorem map_inj {α β : Type} {f : α → β} {P : α → Prop} (hf : ∀ a b, P a → P b → f a = f b → a = b) : ∀ {l l' : List α}, (∀ a ∈ l, P a) → (∀ a ∈ l', P a) → l.map f = l'.map f → l = l'
  | [], [], _, _, _ => rfl
  | [], _ :: _, _, _, h => by simp at h
  | _ :: _, [], _, _, h => by simp at h
  | a :: l, b :: l', h1, h2, h => by
    simp only [List.map_cons, List.cons.injEq] at h
    rw [hf a b (h1 a (by simp)) (h2 b (by simp)) h.1, map_inj hf (fun x hx => h1 x (by simp [hx])) (fun x hx => h2 x (by simp [hx])) h.2]
theorem run_free {l l' : List En} {s s' : Nat} {X Y : List Int} (h : RunOk l s) (h' : RunOk l' s') (e : runL l s ++ X = runL l' s' ++ Y) : l = l' ∧ s = s' ∧ X = Y := by
  unfold runL runRows at e
  rw [recs, recs, List.append_assoc, List.append_assoc] at e
  have g1 := get_rec (encode s) (recs ((chunksE s l).map blockL ++ [encode 0 ++ encode l.length]) ++ X) (size_ok h.2.1).2
  rw [e, get_rec (encode s') _ (size_ok h'.2.1).2] at g1
  simp only [Prod.mk.injEq, and_true] at g1
  have hs : s = s' := encode_inj (by have := h.2.1; omega) (by have := h'.2.1; omega) g1.1.symm
  subst hs
  have e2 := List.append_cancel_left e
  obtain ⟨h1, _, h3⟩ := recs_free _ _ _ _ (run_blocks h) (run_blocks h') ⟨_, h.2.2.2, rfl⟩ ⟨_, h'.2.2.2, rfl⟩ (run_rest h) (run_rest h') e2
  have hc : chunksE s l = chunksE s l' := map_inj (P := fun c => c.length ≤ 255 ∧ ∀ e ∈ c, oneE e = true) (fun a b ha hb hab => block_free (X := []) (Y := []) ha.2 hb.2 (by omega) (by omega) (by rw [hab]))
    (fun c hc => (chunks_blocks _ s l h.1 h.2.1 h.2.2.1 c hc).2) (fun c hc => (chunks_blocks _ s l' h'.1 h'.2.1 h'.2.2.1 c hc).2) h1
  have j1 := chunks_join l.length s l h.1 (Nat.le_refl _)
  have j2 := chunks_join l'.length s l' h'.1 (Nat.le_refl _)
  unfold chunksE at hc
  rw [hc, j2] at j1
  exact ⟨j1.symm, rfl, h3⟩
#print axioms run_free
end Go.Proofs.Ytgnhnhachhfafaa
