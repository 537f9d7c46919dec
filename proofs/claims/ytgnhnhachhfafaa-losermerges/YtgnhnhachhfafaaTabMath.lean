/- Words and counts: lists of entries, the order of words, what a table tells. -/
import Derived.Test.YtgnhnhachhfafaaBase
import Derived.Lib.Bytealg
namespace Go.Proofs.Ytgnhnhachhfafaa
open Go.RowKit
set_option linter.unusedVariables false
set_option linter.unusedSimpArgs false

abbrev Wd := List UInt8
abbrev En := List UInt8 × Nat
/-- The order of words, byte by byte. -/
abbrev lessB : Wd → Wd → Bool := Go.Op.bytesLess

theorem less_nil (a : Wd) : lessB a [] = false := by cases a <;> rfl
theorem less_cons (a b : UInt8) (x y : Wd) : lessB (a :: x) (b :: y) = (decide (a < b) || (a == b && lessB x y)) := rfl
theorem less_irrefl : ∀ a : Wd, lessB a a = false
  | [] => rfl
  | a :: x => by rw [less_cons, less_irrefl x]; simp
theorem less_trans : ∀ a b c : Wd, lessB a b = true → lessB b c = true → lessB a c = true
  | _, [], _, h, _ => by rw [less_nil] at h; cases h
  | _, _ :: _, [], _, h => by rw [less_nil] at h; cases h
  | [], _ :: _, _ :: _, _, _ => rfl
  | a :: x, b :: y, c :: z, h, k => by
    rw [less_cons] at h k ⊢
    simp only [Bool.or_eq_true, decide_eq_true_eq, Bool.and_eq_true, beq_iff_eq] at h k ⊢
    rcases h with h | ⟨rfl, h⟩
    · rcases k with k | ⟨rfl, k⟩
      · exact .inl (UInt8.lt_trans h k)
      · exact .inl h
    · rcases k with k | ⟨rfl, k⟩
      · exact .inl k
      · exact .inr ⟨rfl, less_trans x y z h k⟩
theorem less_tri : ∀ a b : Wd, lessB a b = false → lessB b a = false → a = b
  | [], [], _, _ => rfl
  | [], _ :: _, h, _ => by cases h
  | _ :: _, [], _, h => by cases h
  | a :: x, b :: y, h, k => by
    rw [less_cons] at h k
    simp only [Bool.or_eq_false_iff, decide_eq_false_iff_not, Bool.and_eq_false_iff, beq_eq_false_iff_ne] at h k
    have e : a = b := by
      apply UInt8.toNat_inj.1
      have h1 := h.1
      have k1 := k.1
      rw [UInt8.lt_iff_toNat_lt] at h1 k1
      omega
    subst e
    rw [less_tri x y (by rcases h.2 with h | h; exact absurd rfl h; exact h) (by rcases k.2 with k | k; exact absurd rfl k; exact k)]
theorem less_asymm (a b : Wd) (h : lessB a b = true) : lessB b a = false := by
  cases e : lessB b a with
  | false => rfl
  | true => have := less_trans a b a h e; rw [less_irrefl] at this; cases this
theorem less_ne {a b : Wd} (h : lessB a b = true) : a ≠ b := fun e => by subst e; rw [less_irrefl] at h; cases h
theorem cmp_less : ∀ a b : Wd, decide (Lib.compareBytes a b < 0) = lessB a b
  | [], [] => rfl
  | [], _ :: _ => rfl
  | _ :: _, [] => rfl
  | a :: x, b :: y => by
    rw [less_cons]
    unfold Lib.compareBytes
    by_cases h : a < b
    · simp [h]
    · by_cases k : b < a
      · have hne : a ≠ b := fun e => by subst e; exact h k
        simp [h, k, hne]
      · have e : a = b := by
          apply UInt8.toNat_inj.1
          rw [UInt8.lt_iff_toNat_lt] at h k
          omega
        subst e
        rw [if_neg h, if_neg h, cmp_less x y]
        simp

/-- A word's count; 0 without it. -/
def getE : List En → Wd → Nat
  | [], _ => 0
  | e :: es, k => if e.1 = k then e.2 else getE es k
def KeysE (es : List En) : Prop := es.Pairwise fun a b => a.1 ≠ b.1
def PosE (es : List En) : Prop := ∀ e ∈ es, 1 ≤ e.2 ∧ e.2 ≤ 4611686018427387904
def RiseE (es : List En) : Prop := es.Pairwise fun a b => lessB a.1 b.1 = true
/-- A word's count is another one. -/
def setE : List En → Wd → Nat → List En
  | [], _, _ => []
  | e :: es, k, s => if e.1 = k then (k, s) :: es else e :: setE es k s
/-- Add, of a table of so much room: the entries then, and the error. -/
def addE (room : Nat) (es : List En) (k : Wd) (n : Nat) : List En × Nat :=
  if k = [] ∨ n = 0 then (es, 1) else if 4611686018427387904 < getE es k + n then (es, 5) else if 0 < getE es k then (setE es k (getE es k + n), 0)
  else if room ≤ es.length then (es, 6) else (es ++ [(k, n)], 0)

theorem rise_keys {es : List En} (h : RiseE es) : KeysE es := h.imp fun h => less_ne h
theorem get_zero {es : List En} {k : Wd} (h : ∀ e ∈ es, e.1 ≠ k) : getE es k = 0 := by
  induction es with
  | nil => rfl
  | cons e es ih => rw [getE, if_neg (h e (by simp)), ih fun e he => h e (by simp [he])]
theorem get_mem {es : List En} (hk : KeysE es) {e : En} (he : e ∈ es) : getE es e.1 = e.2 := by
  induction es with
  | nil => cases he
  | cons a es ih =>
    rw [getE]
    have hk' := List.pairwise_cons.1 hk
    rcases List.mem_cons.1 he with rfl | he
    · rw [if_pos rfl]
    · rw [if_neg (hk'.1 e he), ih hk'.2 he]
theorem get_pos {es : List En} {k : Wd} (h : 0 < getE es k) : (k, getE es k) ∈ es := by
  induction es with
  | nil => simp [getE] at h
  | cons a es ih =>
    rw [getE] at h ⊢
    split at h
    · rename_i e; rw [if_pos e, ← e]; simp
    · rename_i e; rw [if_neg e]; simp [ih h]
theorem getE_none {es : List En} (hp : PosE es) {k : Wd} (h : getE es k = 0) : ∀ e ∈ es, e.1 ≠ k := by
  induction es with
  | nil => intro e he; cases he
  | cons a es ih =>
    rw [getE] at h
    intro e he
    split at h
    · have := (hp a (by simp)).1; omega
    · rename_i hne
      rcases List.mem_cons.1 he with rfl | he
      · exact hne
      · exact ih (fun e he => hp e (by simp [he])) h e he
theorem perm_keys {es x : List En} (hp : x.Perm es) (h : KeysE es) : KeysE x := (hp.pairwise_iff fun h e => h e.symm).2 h
theorem perm_pos {es x : List En} (hp : x.Perm es) (h : PosE es) : PosE x := fun e he => h e (hp.mem_iff.1 he)
theorem get_perm {es x : List En} (hp : x.Perm es) (hk : KeysE es) (k : Wd) : getE x k = getE es k := by
  by_cases h : ∃ e ∈ es, e.1 = k
  · obtain ⟨e, he, rfl⟩ := h
    rw [get_mem hk he, get_mem (perm_keys hp hk) (hp.mem_iff.2 he)]
  · rw [get_zero fun e he e' => h ⟨e, he, e'⟩, get_zero fun e he e' => h ⟨e, hp.mem_iff.1 he, e'⟩]
theorem get_app_in (es : List En) (k k' : Wd) (n : Nat) (h : ∃ e ∈ es, e.1 = k') : getE (es ++ [(k, n)]) k' = getE es k' := by
  induction es with
  | nil => obtain ⟨e, he, _⟩ := h; cases he
  | cons a es ih =>
    rw [List.cons_append, getE, getE]
    by_cases ha : a.1 = k'
    · rw [if_pos ha, if_pos ha]
    · rw [if_neg ha, if_neg ha, ih]
      obtain ⟨e, he, e'⟩ := h
      rcases List.mem_cons.1 he with rfl | he
      · exact absurd e' ha
      · exact ⟨e, he, e'⟩
theorem get_app_out (es : List En) (k k' : Wd) (n : Nat) (h : ∀ e ∈ es, e.1 ≠ k') : getE (es ++ [(k, n)]) k' = if k = k' then n else 0 := by
  induction es with
  | nil => rfl
  | cons a es ih => rw [List.cons_append, getE, if_neg (h a (by simp)), ih fun e he => h e (by simp [he])]
theorem set_keys (es : List En) (k : Wd) (s : Nat) : (setE es k s).map Prod.fst = es.map Prod.fst := by
  induction es with
  | nil => rfl
  | cons a es ih =>
    rw [setE]
    split
    · rename_i h; simp [h]
    · simp [ih]
theorem set_length (es : List En) (k : Wd) (s : Nat) : (setE es k s).length = es.length := by
  have := congrArg List.length (set_keys es k s); simpa using this
theorem keys_iff (es : List En) : KeysE es ↔ (es.map Prod.fst).Pairwise (· ≠ ·) := by rw [List.pairwise_map]; rfl
theorem rise_iff (es : List En) : RiseE es ↔ (es.map Prod.fst).Pairwise (fun a b => lessB a b = true) := by rw [List.pairwise_map]; rfl
theorem keys_set {es : List En} (h : KeysE es) (k : Wd) (s : Nat) : KeysE (setE es k s) := by rw [keys_iff, set_keys, ← keys_iff]; exact h
theorem rise_set {es : List En} (h : RiseE es) (k : Wd) (s : Nat) : RiseE (setE es k s) := by rw [rise_iff, set_keys, ← rise_iff]; exact h
theorem pos_set {es : List En} (h : PosE es) (k : Wd) (s : Nat) (hs : 1 ≤ s ∧ s ≤ 4611686018427387904) : PosE (setE es k s) := by
  induction es with
  | nil => intro e he; cases he
  | cons a es ih =>
    rw [setE]
    intro e he
    split at he
    · rcases List.mem_cons.1 he with rfl | he
      · exact hs
      · exact h e (by simp [he])
    · rcases List.mem_cons.1 he with rfl | he
      · exact h e (by simp)
      · exact ih (fun e he => h e (by simp [he])) e he
theorem get_set (es : List En) (k k' : Wd) (s : Nat) (h : ∃ e ∈ es, e.1 = k) : getE (setE es k s) k' = if k = k' then s else getE es k' := by
  induction es with
  | nil => obtain ⟨e, he, _⟩ := h; cases he
  | cons a es ih =>
    rw [setE]
    by_cases ha : a.1 = k
    · rw [if_pos ha, getE, getE]
      by_cases hk : k = k'
      · simp [hk]
      · simp [hk, ha]
    · rw [if_neg ha, getE, getE]
      have h' : ∃ e ∈ es, e.1 = k := by
        obtain ⟨e, he, e'⟩ := h
        rcases List.mem_cons.1 he with rfl | he
        · exact absurd e' ha
        · exact ⟨e, he, e'⟩
      rw [ih h']
      by_cases hk : k = k'
      · subst hk; simp [ha]
      · simp [hk]
/-- Two lists that rise and tell the same counts are one. -/
theorem rise_ext : ∀ {x y : List En}, RiseE x → RiseE y → PosE x → PosE y → (∀ k, getE x k = getE y k) → x = y
  | [], [], _, _, _, _, _ => rfl
  | [], b :: y, _, _, _, hp, h => by
    have h1 := h b.1
    have h2 := (hp b (by simp)).1
    simp [getE] at h1; omega
  | a :: x, [], _, _, hp, _, h => by
    have h1 := h a.1
    have h2 := (hp a (by simp)).1
    simp [getE] at h1; omega
  | a :: x, b :: y, hx, hy, px, py, h => by
    have hx' := List.pairwise_cons.1 hx
    have hy' := List.pairwise_cons.1 hy
    have lone : ∀ {a b : En} {y : List En}, RiseE (b :: y) → lessB a.1 b.1 = true → getE (b :: y) a.1 = 0 := fun {a b y} hy hl => by
      have hy' := List.pairwise_cons.1 hy
      refine get_zero fun e he => ?_
      rcases List.mem_cons.1 he with rfl | he
      · exact fun e => less_ne hl e.symm
      · exact fun e' => less_ne (less_trans _ _ _ hl (hy'.1 e he)) e'.symm
    have hab : a.1 = b.1 := by
      apply less_tri
      · cases e : lessB a.1 b.1 with
        | false => rfl
        | true =>
          have h1 := h a.1
          rw [lone hy e, getE, if_pos rfl] at h1
          have := (px a (by simp)).1; omega
      · cases e : lessB b.1 a.1 with
        | false => rfl
        | true =>
          have h1 := h b.1
          rw [lone hx e, getE, if_pos rfl] at h1
          have := (py b (by simp)).1; omega
    have hn : a.2 = b.2 := by
      have h1 := h a.1
      rw [getE, if_pos rfl, getE, if_pos hab.symm] at h1
      exact h1
    have e1 : a = b := Prod.ext hab hn
    subst e1
    congr 1
    refine rise_ext hx'.2 hy'.2 (fun e he => px e (by simp [he])) (fun e he => py e (by simp [he])) fun k => ?_
    have h1 := h k
    rw [getE, getE] at h1
    by_cases hk : a.1 = k
    · rw [get_zero fun e he e' => less_ne (hx'.1 e he) (hk.trans e'.symm), get_zero fun e he e' => less_ne (hy'.1 e he) (hk.trans e'.symm)]
    · rw [if_neg hk, if_neg hk] at h1; exact h1
theorem rise_perm {x y es : List En} (hx : RiseE x) (hy : RiseE y) (px : x.Perm es) (py : y.Perm es) (hk : KeysE es) (hp : PosE es) : x = y :=
  rise_ext hx hy (perm_pos px hp) (perm_pos py hp) fun k => by rw [get_perm px hk, get_perm py hk]
/-- What is sorted, each word once, rises. -/
theorem rise_sorted {d : List En} (hk : KeysE d) (hs : d.Pairwise fun a b => lessB b.1 a.1 = false) : RiseE d := by
  refine (hk.and hs).imp fun {a b} h => ?_
  cases e : lessB a.1 b.1 with
  | true => rfl
  | false => exact absurd (less_tri _ _ e h.2) h.1

/-- A word that is there: its place. -/
theorem get_at {es : List En} (hk : KeysE es) {i : Nat} {e : En} (h : es[i]? = some e) : getE es e.1 = e.2 := get_mem hk (List.mem_of_getElem? h)
theorem keys_at {es : List En} (hk : KeysE es) {i j : Nat} {a b : En} (h : es[i]? = some a) (h' : es[j]? = some b) (he : a.1 = b.1) : i = j := by
  have hk' := (keys_iff es).1 hk
  have h1 : (es.map Prod.fst)[i]? = some a.1 := by simp [h]
  have h2 : (es.map Prod.fst)[j]? = some a.1 := by simp [h', he]
  have hl : i < (es.map Prod.fst).length := (List.getElem?_eq_some_iff.1 h1).1
  exact (List.getElem?_inj hl hk').1 (h1.trans h2.symm)
theorem setE_at {es : List En} (hk : KeysE es) {i : Nat} {e : En} (h : es[i]? = some e) (s : Nat) : es.set i (e.1, s) = setE es e.1 s := by
  induction es generalizing i with
  | nil => cases h
  | cons a es ih =>
    have hk' := List.pairwise_cons.1 hk
    cases i with
    | zero =>
      simp only [List.getElem?_cons_zero, Option.some.injEq] at h
      subst h
      rw [setE, if_pos rfl]; rfl
    | succ i =>
      simp only [List.getElem?_cons_succ] at h
      rw [setE, if_neg (hk'.1 e (List.mem_of_getElem? h)), ← ih hk'.2 h]; rfl

/-- Add keeps what a table is. -/
structure TabE (room : Nat) (es : List En) : Prop where
  keys : KeysE es
  pos : PosE es
  most : es.length ≤ room
  words : ∀ e ∈ es, e.1 ≠ []
theorem TabE.nil (room : Nat) : TabE room [] := ⟨.nil, (fun e he => by cases he), Nat.zero_le _, (fun e he => by cases he)⟩
theorem TabE.add {room : Nat} {es : List En} (h : TabE room es) (k : Wd) (n : Nat) : TabE room (addE room es k n).1 := by
  unfold addE
  by_cases h1 : k = [] ∨ n = 0
  · rw [if_pos h1]; exact h
  rw [if_neg h1]
  by_cases h2 : 4611686018427387904 < getE es k + n
  · rw [if_pos h2]; exact h
  rw [if_neg h2]
  have h1' : k ≠ [] ∧ n ≠ 0 := by simpa using h1
  by_cases h3 : 0 < getE es k
  · rw [if_pos h3]
    refine ⟨keys_set h.keys _ _, pos_set h.pos _ _ ⟨by omega, by omega⟩, by rw [set_length]; exact h.most, fun e he => ?_⟩
    have : e.1 ∈ (setE es k (getE es k + n)).map Prod.fst := List.mem_map.2 ⟨e, he, rfl⟩
    rw [set_keys] at this
    obtain ⟨e2, he2, e3⟩ := List.mem_map.1 this
    exact e3 ▸ h.words e2 he2
  rw [if_neg h3]
  by_cases h4 : room ≤ es.length
  · rw [if_pos h4]; exact h
  rw [if_neg h4]
  have hz := getE_none h.pos (k := k) (by omega)
  refine ⟨List.pairwise_append.2 ⟨h.keys, by simp, fun a ha b hb => by simp at hb; subst hb; exact hz a ha⟩, fun e he => ?_, by simp; omega, fun e he => ?_⟩
  · rcases List.mem_append.1 he with he | he
    · exact h.pos e he
    · simp at he; subst he; exact ⟨by omega, by simp; omega⟩
  · rcases List.mem_append.1 he with he | he
    · exact h.words e he
    · simp at he; subst he; exact h1'.1

/-! The document's list, which rises. -/
def atE (x : List En) (k : Wd) : Nat := (x.takeWhile fun e => lessB e.1 k).length
def getQ (x : List En) (k : Wd) : Nat := match x[atE x k]? with
  | some e => if e.1 = k then e.2 else 0
  | none => 0
def addR (room : Nat) (x : List En) (k : Wd) (n : Nat) : List En × Nat :=
  if k = [] ∨ n = 0 then (x, 1) else if 4611686018427387904 < getQ x k + n then (x, 5) else if 0 < getQ x k then (x.set (atE x k) (((x[atE x k]?).getD ([], 0)).1, getQ x k + n), 0)
  else if room ≤ x.length then (x, 6) else (x.take (atE x k) ++ [(k, n)] ++ x.drop (atE x k), 0)
theorem at_le (x : List En) (k : Wd) : atE x k ≤ x.length := by
  unfold atE
  exact (List.takeWhile_sublist _).length_le
theorem take_while {α : Type} (p : α → Bool) : ∀ l : List α, l.take (l.takeWhile p).length = l.takeWhile p
  | [] => rfl
  | a :: l => by
    rw [List.takeWhile_cons]
    split
    · simp [take_while p l]
    · rfl
theorem drop_while {α : Type} (p : α → Bool) : ∀ l : List α, l.drop (l.takeWhile p).length = l.dropWhile p
  | [] => rfl
  | a :: l => by
    rw [List.takeWhile_cons, List.dropWhile_cons]
    split
    · simp [drop_while p l]
    · rfl
theorem mem_while {α : Type} (p : α → Bool) : ∀ (l : List α) {a : α}, a ∈ l.takeWhile p → p a = true
  | [], _, h => by cases h
  | b :: l, a, h => by
    rw [List.takeWhile_cons] at h
    split at h
    · rcases List.mem_cons.1 h with rfl | h
      · assumption
      · exact mem_while p l h
    · cases h
theorem at_take (x : List En) (k : Wd) : x.take (atE x k) = x.takeWhile fun e => lessB e.1 k := take_while _ x
theorem at_drop (x : List En) (k : Wd) : x.drop (atE x k) = x.dropWhile fun e => lessB e.1 k := drop_while _ x
theorem at_below {x : List En} {k : Wd} {e : En} (he : e ∈ x.take (atE x k)) : lessB e.1 k = true := by
  rw [at_take] at he
  exact mem_while (fun e : En => lessB e.1 k) x he
theorem at_above {x : List En} (hx : RiseE x) {k : Wd} {e : En} (he : e ∈ x.drop (atE x k)) : lessB e.1 k = false := by
  rw [at_drop] at he
  induction x with
  | nil => cases he
  | cons a x ih =>
    have hx' := List.pairwise_cons.1 hx
    rw [List.dropWhile_cons] at he
    split at he
    · exact ih hx'.2 he
    · rename_i hn
      have hn' : lessB a.1 k = false := by simpa using hn
      rcases List.mem_cons.1 he with rfl | he
      · exact hn'
      · cases hh : lessB e.1 k with
        | false => rfl
        | true => rw [less_trans _ _ _ (hx'.1 e he) hh] at hn'; cases hn'
theorem at_key {x : List En} (hx : RiseE x) {e : En} (he : e ∈ x) : x[atE x e.1]? = some e := by
  have h1 : e ∈ x.take (atE x e.1) ++ x.drop (atE x e.1) := by rw [List.take_append_drop]; exact he
  rcases List.mem_append.1 h1 with h | h
  · have := at_below h; rw [less_irrefl] at this; cases this
  · cases hd : x.drop (atE x e.1) with
    | nil => rw [hd] at h; cases h
    | cons a r =>
      have ha := at_above hx (k := e.1) (e := a) (by rw [hd]; simp)
      have hr : RiseE (a :: r) := by rw [← hd]; exact List.Pairwise.drop hx
      rw [hd] at h
      have e1 : e = a := by
        rcases List.mem_cons.1 h with rfl | h
        · rfl
        · have := (List.pairwise_cons.1 hr).1 e h; rw [this] at ha; cases ha
      have h2 : (x.drop (atE x e.1))[0]? = some a := by rw [hd]; rfl
      rw [List.getElem?_drop, Nat.add_zero] at h2
      rw [h2, e1]
theorem getQ_eq {x : List En} (hx : RiseE x) (k : Wd) : getQ x k = getE x k := by
  unfold getQ
  by_cases h : ∃ e ∈ x, e.1 = k
  · obtain ⟨e, he, rfl⟩ := h
    rw [at_key hx he, get_mem (rise_keys hx) he]; simp
  · rw [get_zero fun e he e' => h ⟨e, he, e'⟩]
    split
    · rename_i e he
      rw [if_neg fun e' => h ⟨e, List.mem_of_getElem? he, e'⟩]
    · rfl
theorem rise_insert {x : List En} (hx : RiseE x) {k : Wd} (n : Nat) (hz : ∀ e ∈ x, e.1 ≠ k) : RiseE (x.take (atE x k) ++ [(k, n)] ++ x.drop (atE x k)) := by
  have hup : ∀ e ∈ x.drop (atE x k), lessB k e.1 = true := fun e he => by
    cases hh : lessB k e.1 with
    | true => rfl
    | false => exact absurd (less_tri _ _ (at_above hx he) hh) (hz e (List.mem_of_mem_drop he))
  unfold RiseE
  rw [List.append_assoc, List.pairwise_append]
  refine ⟨List.Pairwise.take hx, ?_, ?_⟩
  · rw [List.singleton_append, List.pairwise_cons]
    exact ⟨hup, List.Pairwise.drop hx⟩
  · intro a ha b hb
    rcases List.mem_append.1 hb with hb | hb
    · simp at hb; subst hb; exact at_below ha
    · exact less_trans _ _ _ (at_below ha) (hup b hb)
theorem perm_insert (x : List En) (i : Nat) (e : En) : (x.take i ++ [e] ++ x.drop i).Perm (x ++ [e]) := by
  rw [List.append_assoc]
  refine (List.perm_append_comm_assoc _ _ _).trans ?_
  rw [List.take_append_drop]
  exact List.perm_append_comm
theorem perm_set {x es : List En} (hp : x.Perm es) (hk : KeysE es) (k : Wd) (s : Nat) : (setE x k s).Perm (setE es k s) := by
  induction hp with
  | nil => exact .nil
  | cons a hp ih =>
    rw [setE, setE]
    have hk' := List.pairwise_cons.1 hk
    split
    · exact hp.cons _
    · exact (ih hk'.2).cons _
  | swap a b l =>
    rw [setE, setE, setE, setE]
    have hk' := List.pairwise_cons.1 hk
    have hne := hk'.1 b (by simp)
    by_cases h1 : a.1 = k
    · by_cases h2 : b.1 = k
      · exact absurd (h1.trans h2.symm) hne
      · simp only [h1, h2, if_true, if_false]; exact .swap _ _ _
    · by_cases h2 : b.1 = k
      · simp only [h1, h2, if_true, if_false]; exact .swap _ _ _
      · simp only [h1, h2, if_false]; exact .swap _ _ _
  | trans h1 h2 ih1 ih2 => exact (ih1 (perm_keys h2 hk)).trans (ih2 hk)
/-- The document's Add, and the table's. -/
theorem add_ref {room : Nat} {x es : List En} (hp : x.Perm es) (hx : RiseE x) (h : TabE room es) (k : Wd) (n : Nat) :
    (addR room x k n).1.Perm (addE room es k n).1 ∧ RiseE (addR room x k n).1 ∧ (addR room x k n).2 = (addE room es k n).2 := by
  unfold addR addE
  rw [getQ_eq hx, get_perm hp h.keys, hp.length_eq]
  by_cases h1 : k = [] ∨ n = 0
  · rw [if_pos h1, if_pos h1]; exact ⟨hp, hx, rfl⟩
  rw [if_neg h1, if_neg h1]
  by_cases h2 : 4611686018427387904 < getE es k + n
  · rw [if_pos h2, if_pos h2]; exact ⟨hp, hx, rfl⟩
  rw [if_neg h2, if_neg h2]
  by_cases h3 : 0 < getE es k
  · rw [if_pos h3, if_pos h3]
    have hm := hp.mem_iff.2 (get_pos h3)
    have ha := at_key hx hm
    have hs := setE_at (rise_keys hx) ha (getE es k + n)
    simp only at ha hs
    rw [ha]
    simp only [Option.getD_some]
    rw [hs]
    exact ⟨perm_set hp h.keys _ _, rise_set hx _ _, by first | rfl | trivial⟩
  rw [if_neg h3, if_neg h3]
  by_cases h4 : room ≤ es.length
  · rw [if_pos h4, if_pos h4]; exact ⟨hp, hx, rfl⟩
  rw [if_neg h4, if_neg h4]
  have hz := getE_none h.pos (k := k) (by omega)
  exact ⟨(perm_insert _ _ _).trans (hp.append_right _), rise_insert hx n fun e he => hz e (hp.mem_iff.1 he), rfl⟩
end Go.Proofs.Ytgnhnhachhfafaa
