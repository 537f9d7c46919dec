/- Words and counts: lists of entries, the order of words, what a table tells. Entries in memory: a word and a count, two cells each. Rows of entries (two cells each): what a slice shows, cuts of it, append onto an own row. How a slice of words, and one of deeds, that came in is shown to a walk. How a slice of entries that came in is shown to a walk. -/
import Derived.Test.YtnojjipoppemcaaTwo
import Derived.Lib.Bytealg
import Derived.Maps.AppendAt
import Derived.Laws.AppendOwnNone
import Derived.Deep.Strs
import Derived.Deep.SlicePairs
namespace Go.Proofs.Ytnojjipoppemcaa
open Go.RowKit
set_option linter.unusedVariables false
set_option linter.unusedSimpArgs false

/-- A word's count; 0 without it. -/
def getE : List En → Wd → Nat
  | [], _ => 0
  | e :: es, k => if e.1 = k then e.2 else getE es k
def KeysE (es : List En) : Prop := es.Pairwise fun a b => a.1 ≠ b.1
def PosE (es : List En) : Prop := ∀ e ∈ es, 1 ≤ e.2 ∧ e.2 ≤ 4611686018427387904
def RiseE (es : List En) : Prop := es.Pairwise fun a b => lessB a.1 b.1 = true
/-- A word's count is another one. -/
def setE : List En → Wd → Nat → List En
  | [], _, _ => []
  | e :: es, k, s => if e.1 = k then (k, s) :: es else e :: setE es k s
/-- Add, of a table of so much room: the entries then, and the error. -/
def addE (room : Nat) (es : List En) (k : Wd) (n : Nat) : List En × Nat :=
  if k = [] ∨ n = 0 then (es, 1) else if 4611686018427387904 < getE es k + n then (es, 5) else if 0 < getE es k then (setE es k (getE es k + n), 0)
  else if room ≤ es.length then (es, 6) else (es ++ [(k, n)], 0)

theorem rise_keys {es : List En} (h : RiseE es) : KeysE es := h.imp fun h => less_ne h
theorem get_zero {es : List En} {k : Wd} (h : ∀ e ∈ es, e.1 ≠ k) : getE es k = 0 := by
  induction es with
  | nil => rfl
  | cons e es ih => rw [getE, if_neg (h e (by simp)), ih fun e he => h e (by simp [he])]
theorem get_mem {es : List En} (hk : KeysE es) {e : En} (he : e ∈ es) : getE es e.1 = e.2 := by
  induction es with
  | nil => cases he
  | cons a es ih =>
    rw [getE]
    have hk' := List.pairwise_cons.1 hk
    rcases List.mem_cons.1 he with rfl | he
    · rw [if_pos rfl]
    · rw [if_neg (hk'.1 e he), ih hk'.2 he]
theorem get_pos {es : List En} {k : Wd} (h : 0 < getE es k) : (k, getE es k) ∈ es := by
  induction es with
  | nil => simp [getE] at h
  | cons a es ih =>
    rw [getE] at h ⊢
    split at h
    · rename_i e; rw [if_pos e, ← e]; simp
    · rename_i e; rw [if_neg e]; simp [ih h]
theorem getE_none {es : List En} (hp : PosE es) {k : Wd} (h : getE es k = 0) : ∀ e ∈ es, e.1 ≠ k := by
  induction es with
  | nil => intro e he; cases he
  | cons a es ih =>
    rw [getE] at h
    intro e he
    split at h
    · have := (hp a (by simp)).1; omega
    · rename_i hne
      rcases List.mem_cons.1 he with rfl | he
      · exact hne
      · exact ih (fun e he => hp e (by simp [he])) h e he
theorem perm_keys {es x : List En} (hp : x.Perm es) (h : KeysE es) : KeysE x := (hp.pairwise_iff fun h e => h e.symm).2 h
theorem perm_pos {es x : List En} (hp : x.Perm es) (h : PosE es) : PosE x := fun e he => h e (hp.mem_iff.1 he)
theorem get_perm {es x : List En} (hp : x.Perm es) (hk : KeysE es) (k : Wd) : getE x k = getE es k := by
  by_cases h : ∃ e ∈ es, e.1 = k
  · obtain ⟨e, he, rfl⟩ := h
    rw [get_mem hk he, get_mem (perm_keys hp hk) (hp.mem_iff.2 he)]
  · rw [get_zero fun e he e' => h ⟨e, he, e'⟩, get_zero fun e he e' => h ⟨e, hp.mem_iff.1 he, e'⟩]
theorem get_app_in (es : List En) (k k' : Wd) (n : Nat) (h : ∃ e ∈ es, e.1 = k') : getE (es ++ [(k, n)]) k' = getE es k' := by
  induction es with
  | nil => obtain ⟨e, he, _⟩ := h; cases he
  | cons a es ih =>
    rw [List.cons_append, getE, getE]
    by_cases ha : a.1 = k'
    · rw [if_pos ha, if_pos ha]
    · rw [if_neg ha, if_neg ha, ih]
      obtain ⟨e, he, e'⟩ := h
      rcases List.mem_cons.1 he with rfl | he
      · exact absurd e' ha
      · exact ⟨e, he, e'⟩
theorem get_app_out (es : List En) (k k' : Wd) (n : Nat) (h : ∀ e ∈ es, e.1 ≠ k') : getE (es ++ [(k, n)]) k' = if k = k' then n else 0 := by
  induction es with
  | nil => rfl
  | cons a es ih => rw [List.cons_append, getE, if_neg (h a (by simp)), ih fun e he => h e (by simp [he])]
theorem set_keys (es : List En) (k : Wd) (s : Nat) : (setE es k s).map Prod.fst = es.map Prod.fst := by
  induction es with
  | nil => rfl
  | cons a es ih =>
    rw [setE]
    split
    · rename_i h; simp [h]
    · simp [ih]
theorem set_length (es : List En) (k : Wd) (s : Nat) : (setE es k s).length = es.length := by
  have := congrArg List.length (set_keys es k s); simpa using this
theorem keys_iff (es : List En) : KeysE es ↔ (es.map Prod.fst).Pairwise (· ≠ ·) := by rw [List.pairwise_map]; rfl
theorem rise_iff (es : List En) : RiseE es ↔ (es.map Prod.fst).Pairwise (fun a b => lessB a b = true) := by rw [List.pairwise_map]; rfl
theorem keys_set {es : List En} (h : KeysE es) (k : Wd) (s : Nat) : KeysE (setE es k s) := by rw [keys_iff, set_keys, ← keys_iff]; exact h
theorem rise_set {es : List En} (h : RiseE es) (k : Wd) (s : Nat) : RiseE (setE es k s) := by rw [rise_iff, set_keys, ← rise_iff]; exact h
theorem pos_set {es : List En} (h : PosE es) (k : Wd) (s : Nat) (hs : 1 ≤ s ∧ s ≤ 4611686018427387904) : PosE (setE es k s) := by
  induction es with
  | nil => intro e he; cases he
  | cons a es ih =>
    rw [setE]
    intro e he
    split at he
    · rcases List.mem_cons.1 he with rfl | he
      · exact hs
      · exact h e (by simp [he])
    · rcases List.mem_cons.1 he with rfl | he
      · exact h e (by simp)
      · exact ih (fun e he => h e (by simp [he])) e he
theorem get_set (es : List En) (k k' : Wd) (s : Nat) (h : ∃ e ∈ es, e.1 = k) : getE (setE es k s) k' = if k = k' then s else getE es k' := by
  induction es with
  | nil => obtain ⟨e, he, _⟩ := h; cases he
  | cons a es ih =>
    rw [setE]
    by_cases ha : a.1 = k
    · rw [if_pos ha, getE, getE]
      by_cases hk : k = k'
      · simp [hk]
      · simp [hk, ha]
    · rw [if_neg ha, getE, getE]
      have h' : ∃ e ∈ es, e.1 = k := by
        obtain ⟨e, he, e'⟩ := h
        rcases List.mem_cons.1 he with rfl | he
        · exact absurd e' ha
        · exact ⟨e, he, e'⟩
      rw [ih h']
      by_cases hk : k = k'
      · subst hk; simp [ha]
      · simp [hk]
/-- Two lists that rise and tell the same counts are one. -/
theorem rise_ext : ∀ {x y : List En}, RiseE x → RiseE y → PosE x → PosE y → (∀ k, getE x k = getE y k) → x = y
  | [], [], _, _, _, _, _ => rfl
  | [], b :: y, _, _, _, hp, h => by
    have h1 := h b.1
    have h2 := (hp b (by simp)).1
    simp [getE] at h1; omega
  | a :: x, [], _, _, hp, _, h => by
    have h1 := h a.1
    have h2 := (hp a (by simp)).1
    simp [getE] at h1; omega
  | a :: x, b :: y, hx, hy, px, py, h => by
    have hx' := List.pairwise_cons.1 hx
    have hy' := List.pairwise_cons.1 hy
    have lone : ∀ {a b : En} {y : List En}, RiseE (b :: y) → lessB a.1 b.1 = true → getE (b :: y) a.1 = 0 := fun {a b y} hy hl => by
      have hy' := List.pairwise_cons.1 hy
      refine get_zero fun e he => ?_
      rcases List.mem_cons.1 he with rfl | he
      · exact fun e => less_ne hl e.symm
      · exact fun e' => less_ne (less_trans _ _ _ hl (hy'.1 e he)) e'.symm
    have hab : a.1 = b.1 := by
      apply less_tri
      · cases e : lessB a.1 b.1 with
        | false => rfl
        | true =>
          have h1 := h a.1
          rw [lone hy e, getE, if_pos rfl] at h1
          have := (px a (by simp)).1; omega
      · cases e : lessB b.1 a.1 with
        | false => rfl
        | true =>
          have h1 := h b.1
          rw [lone hx e, getE, if_pos rfl] at h1
          have := (py b (by simp)).1; omega
    have hn : a.2 = b.2 := by
      have h1 := h a.1
      rw [getE, if_pos rfl, getE, if_pos hab.symm] at h1
      exact h1
    have e1 : a = b := Prod.ext hab hn
    subst e1
    congr 1
    refine rise_ext hx'.2 hy'.2 (fun e he => px e (by simp [he])) (fun e he => py e (by simp [he])) fun k => ?_
    have h1 := h k
    rw [getE, getE] at h1
    by_cases hk : a.1 = k
    · rw [get_zero fun e he e' => less_ne (hx'.1 e he) (hk.trans e'.symm), get_zero fun e he e' => less_ne (hy'.1 e he) (hk.trans e'.symm)]
    · rw [if_neg hk, if_neg hk] at h1; exact h1
theorem rise_perm {x y es : List En} (hx : RiseE x) (hy : RiseE y) (px : x.Perm es) (py : y.Perm es) (hk : KeysE es) (hp : PosE es) : x = y :=
  rise_ext hx hy (perm_pos px hp) (perm_pos py hp) fun k => by rw [get_perm px hk, get_perm py hk]
/-- What is sorted, each word once, rises. -/
theorem rise_sorted {d : List En} (hk : KeysE d) (hs : d.Pairwise fun a b => lessB b.1 a.1 = false) : RiseE d := by
  refine (hk.and hs).imp fun {a b} h => ?_
  cases e : lessB a.1 b.1 with
  | true => rfl
  | false => exact absurd (less_tri _ _ e h.2) h.1

/-- A word that is there: its place. -/
theorem get_at {es : List En} (hk : KeysE es) {i : Nat} {e : En} (h : es[i]? = some e) : getE es e.1 = e.2 := get_mem hk (List.mem_of_getElem? h)
theorem keys_at {es : List En} (hk : KeysE es) {i j : Nat} {a b : En} (h : es[i]? = some a) (h' : es[j]? = some b) (he : a.1 = b.1) : i = j := by
  have hk' := (keys_iff es).1 hk
  have h1 : (es.map Prod.fst)[i]? = some a.1 := by simp [h]
  have h2 : (es.map Prod.fst)[j]? = some a.1 := by simp [h', he]
  have hl : i < (es.map Prod.fst).length := (List.getElem?_eq_some_iff.1 h1).1
  exact (List.getElem?_inj hl hk').1 (h1.trans h2.symm)
theorem setE_at {es : List En} (hk : KeysE es) {i : Nat} {e : En} (h : es[i]? = some e) (s : Nat) : es.set i (e.1, s) = setE es e.1 s := by
  induction es generalizing i with
  | nil => cases h
  | cons a es ih =>
    have hk' := List.pairwise_cons.1 hk
    cases i with
    | zero =>
      simp only [List.getElem?_cons_zero, Option.some.injEq] at h
      subst h
      rw [setE, if_pos rfl]; rfl
    | succ i =>
      simp only [List.getElem?_cons_succ] at h
      rw [setE, if_neg (hk'.1 e (List.mem_of_getElem? h)), ← ih hk'.2 h]; rfl

/-- Add keeps what a table is. -/
structure TabE (room : Nat) (es : List En) : Prop where
  keys : KeysE es
  pos : PosE es
  most : es.length ≤ room
  words : ∀ e ∈ es, e.1 ≠ []
theorem TabE.nil (room : Nat) : TabE room [] := ⟨.nil, (fun e he => by cases he), Nat.zero_le _, (fun e he => by cases he)⟩
theorem TabE.add {room : Nat} {es : List En} (h : TabE room es) (k : Wd) (n : Nat) : TabE room (addE room es k n).1 := by
  unfold addE
  by_cases h1 : k = [] ∨ n = 0
  · rw [if_pos h1]; exact h
  rw [if_neg h1]
  by_cases h2 : 4611686018427387904 < getE es k + n
  · rw [if_pos h2]; exact h
  rw [if_neg h2]
  have h1' : k ≠ [] ∧ n ≠ 0 := by simpa using h1
  by_cases h3 : 0 < getE es k
  · rw [if_pos h3]
    refine ⟨keys_set h.keys _ _, pos_set h.pos _ _ ⟨by omega, by omega⟩, by rw [set_length]; exact h.most, fun e he => ?_⟩
    have : e.1 ∈ (setE es k (getE es k + n)).map Prod.fst := List.mem_map.2 ⟨e, he, rfl⟩
    rw [set_keys] at this
    obtain ⟨e2, he2, e3⟩ := List.mem_map.1 this
    exact e3 ▸ h.words e2 he2
  rw [if_neg h3]
  by_cases h4 : room ≤ es.length
  · rw [if_pos h4]; exact h
  rw [if_neg h4]
  have hz := getE_none h.pos (k := k) (by omega)
  refine ⟨List.pairwise_append.2 ⟨h.keys, by simp, fun a ha b hb => by simp at hb; subst hb; exact hz a ha⟩, fun e he => ?_, by simp; omega, fun e he => ?_⟩
  · rcases List.mem_append.1 he with he | he
    · exact h.pos e he
    · simp at he; subst he; exact ⟨by omega, by simp; omega⟩
  · rcases List.mem_append.1 he with he | he
    · exact h.words e he
    · simp at he; subst he; exact h1'.1

/-! The document's list, which rises. -/
def atE (x : List En) (k : Wd) : Nat := (x.takeWhile fun e => lessB e.1 k).length
def getQ (x : List En) (k : Wd) : Nat := match x[atE x k]? with
  | some e => if e.1 = k then e.2 else 0
  | none => 0
def addR (room : Nat) (x : List En) (k : Wd) (n : Nat) : List En × Nat :=
  if k = [] ∨ n = 0 then (x, 1) else if 4611686018427387904 < getQ x k + n then (x, 5) else if 0 < getQ x k then (x.set (atE x k) (((x[atE x k]?).getD ([], 0)).1, getQ x k + n), 0)
  else if room ≤ x.length then (x, 6) else (x.take (atE x k) ++ [(k, n)] ++ x.drop (atE x k), 0)
theorem at_le (x : List En) (k : Wd) : atE x k ≤ x.length := by
  unfold atE
  exact (List.takeWhile_sublist _).length_le
theorem take_while {α : Type} (p : α → Bool) : ∀ l : List α, l.take (l.takeWhile p).length = l.takeWhile p
  | [] => rfl
  | a :: l => by
    rw [List.takeWhile_cons]
    split
    · simp [take_while p l]
    · rfl
theorem drop_while {α : Type} (p : α → Bool) : ∀ l : List α, l.drop (l.takeWhile p).length = l.dropWhile p
  | [] => rfl
  | a :: l => by
    rw [List.takeWhile_cons, List.dropWhile_cons]
    split
    · simp [drop_while p l]
    · rfl
theorem mem_while {α : Type} (p : α → Bool) : ∀ (l : List α) {a : α}, a ∈ l.takeWhile p → p a = true
  | [], _, h => by cases h
  | b :: l, a, h => by
    rw [List.takeWhile_cons] at h
    split at h
    · rcases List.mem_cons.1 h with rfl | h
      · assumption
      · exact mem_while p l h
    · cases h
theorem at_take (x : List En) (k : Wd) : x.take (atE x k) = x.takeWhile fun e => lessB e.1 k := take_while _ x
theorem at_drop (x : List En) (k : Wd) : x.drop (atE x k) = x.dropWhile fun e => lessB e.1 k := drop_while _ x
theorem at_below {x : List En} {k : Wd} {e : En} (he : e ∈ x.take (atE x k)) : lessB e.1 k = true := by
  rw [at_take] at he
  exact mem_while (fun e : En => lessB e.1 k) x he
theorem at_above {x : List En} (hx : RiseE x) {k : Wd} {e : En} (he : e ∈ x.drop (atE x k)) : lessB e.1 k = false := by
  rw [at_drop] at he
  induction x with
  | nil => cases he
  | cons a x ih =>
    have hx' := List.pairwise_cons.1 hx
    rw [List.dropWhile_cons] at he
    split at he
    · exact ih hx'.2 he
    · rename_i hn
      have hn' : lessB a.1 k = false := by simpa using hn
      rcases List.mem_cons.1 he with rfl | he
      · exact hn'
      · cases hh : lessB e.1 k with
        | false => rfl
        | true => rw [less_trans _ _ _ (hx'.1 e he) hh] at hn'; cases hn'
theorem at_key {x : List En} (hx : RiseE x) {e : En} (he : e ∈ x) : x[atE x e.1]? = some e := by
  have h1 : e ∈ x.take (atE x e.1) ++ x.drop (atE x e.1) := by rw [List.take_append_drop]; exact he
  rcases List.mem_append.1 h1 with h | h
  · have := at_below h; rw [less_irrefl] at this; cases this
  · cases hd : x.drop (atE x e.1) with
    | nil => rw [hd] at h; cases h
    | cons a r =>
      have ha := at_above hx (k := e.1) (e := a) (by rw [hd]; simp)
      have hr : RiseE (a :: r) := by rw [← hd]; exact List.Pairwise.drop hx
      rw [hd] at h
      have e1 : e = a := by
        rcases List.mem_cons.1 h with rfl | h
        · rfl
        · have := (List.pairwise_cons.1 hr).1 e h; rw [this] at ha; cases ha
      have h2 : (x.drop (atE x e.1))[0]? = some a := by rw [hd]; rfl
      rw [List.getElem?_drop, Nat.add_zero] at h2
      rw [h2, e1]
theorem getQ_eq {x : List En} (hx : RiseE x) (k : Wd) : getQ x k = getE x k := by
  unfold getQ
  by_cases h : ∃ e ∈ x, e.1 = k
  · obtain ⟨e, he, rfl⟩ := h
    rw [at_key hx he, get_mem (rise_keys hx) he]; simp
  · rw [get_zero fun e he e' => h ⟨e, he, e'⟩]
    split
    · rename_i e he
      rw [if_neg fun e' => h ⟨e, List.mem_of_getElem? he, e'⟩]
    · rfl
theorem rise_insert {x : List En} (hx : RiseE x) {k : Wd} (n : Nat) (hz : ∀ e ∈ x, e.1 ≠ k) : RiseE (x.take (atE x k) ++ [(k, n)] ++ x.drop (atE x k)) := by
  have hup : ∀ e ∈ x.drop (atE x k), lessB k e.1 = true := fun e he => by
    cases hh : lessB k e.1 with
    | true => rfl
    | false => exact absurd (less_tri _ _ (at_above hx he) hh) (hz e (List.mem_of_mem_drop he))
  unfold RiseE
  rw [List.append_assoc, List.pairwise_append]
  refine ⟨List.Pairwise.take hx, ?_, ?_⟩
  · rw [List.singleton_append, List.pairwise_cons]
    exact ⟨hup, List.Pairwise.drop hx⟩
  · intro a ha b hb
    rcases List.mem_append.1 hb with hb | hb
    · simp at hb; subst hb; exact at_below ha
    · exact less_trans _ _ _ (at_below ha) (hup b hb)
theorem perm_insert (x : List En) (i : Nat) (e : En) : (x.take i ++ [e] ++ x.drop i).Perm (x ++ [e]) := by
  rw [List.append_assoc]
  refine (List.perm_append_comm_assoc _ _ _).trans ?_
  rw [List.take_append_drop]
  exact List.perm_append_comm
theorem perm_set {x es : List En} (hp : x.Perm es) (hk : KeysE es) (k : Wd) (s : Nat) : (setE x k s).Perm (setE es k s) := by
  induction hp with
  | nil => exact .nil
  | cons a hp ih =>
    rw [setE, setE]
    have hk' := List.pairwise_cons.1 hk
    split
    · exact hp.cons _
    · exact (ih hk'.2).cons _
  | swap a b l =>
    rw [setE, setE, setE, setE]
    have hk' := List.pairwise_cons.1 hk
    have hne := hk'.1 b (by simp)
    by_cases h1 : a.1 = k
    · by_cases h2 : b.1 = k
      · exact absurd (h1.trans h2.symm) hne
      · simp only [h1, h2, if_true, if_false]; exact .swap _ _ _
    · by_cases h2 : b.1 = k
      · simp only [h1, h2, if_true, if_false]; exact .swap _ _ _
      · simp only [h1, h2, if_false]; exact .swap _ _ _
  | trans h1 h2 ih1 ih2 => exact (ih1 (perm_keys h2 hk)).trans (ih2 hk)
/-- The document's Add, and the table's. -/
theorem add_ref {room : Nat} {x es : List En} (hp : x.Perm es) (hx : RiseE x) (h : TabE room es) (k : Wd) (n : Nat) :
    (addR room x k n).1.Perm (addE room es k n).1 ∧ RiseE (addR room x k n).1 ∧ (addR room x k n).2 = (addE room es k n).2 := by
  unfold addR addE
  rw [getQ_eq hx, get_perm hp h.keys, hp.length_eq]
  by_cases h1 : k = [] ∨ n = 0
  · rw [if_pos h1, if_pos h1]; exact ⟨hp, hx, rfl⟩
  rw [if_neg h1, if_neg h1]
  by_cases h2 : 4611686018427387904 < getE es k + n
  · rw [if_pos h2, if_pos h2]; exact ⟨hp, hx, rfl⟩
  rw [if_neg h2, if_neg h2]
  by_cases h3 : 0 < getE es k
  · rw [if_pos h3, if_pos h3]
    have hm := hp.mem_iff.2 (get_pos h3)
    have ha := at_key hx hm
    have hs := setE_at (rise_keys hx) ha (getE es k + n)
    simp only at ha hs
    rw [ha]
    simp only [Option.getD_some]
    rw [hs]
    exact ⟨perm_set hp h.keys _ _, rise_set hx _ _, by first | rfl | trivial⟩
  rw [if_neg h3, if_neg h3]
  by_cases h4 : room ≤ es.length
  · rw [if_pos h4, if_pos h4]; exact ⟨hp, hx, rfl⟩
  rw [if_neg h4, if_neg h4]
  have hz := getE_none h.pos (k := k) (by omega)
  exact ⟨(perm_insert _ _ _).trans (hp.append_right _), rise_insert hx n fun e he => hz e (hp.mem_iff.1 he), rfl⟩
end Go.Proofs.Ytnojjipoppemcaa

namespace Go.Proofs.Ytnojjipoppemcaa
open Go.RowKit
set_option linter.unusedVariables false
set_option linter.unusedSimpArgs false
/-- An entry's two cells. -/
def encE (x : En) : List Value := [strV x.1, .int .u64 x.2]
def cellsE (es : List En) : List Value := es.flatMap encE
theorem cells_len (es : List En) : (cellsE es).length = es.length * 2 := by
  induction es with
  | nil => rfl
  | cons a es ih => simp only [cellsE, List.flatMap_cons, List.length_append] at ih ⊢; rw [ih]; simp [encE]; omega
theorem cells_app (es ds : List En) : cellsE (es ++ ds) = cellsE es ++ cellsE ds := List.flatMap_append
theorem cells_at : ∀ {es : List En} {i : Nat} {e : En}, es[i]? = some e → (cellsE es)[i * 2]? = some (strV e.1) ∧ (cellsE es)[i * 2 + 1]? = some (.int .u64 e.2)
  | a :: es, 0, e, h => by
    simp only [List.getElem?_cons_zero, Option.some.injEq] at h
    subst h; exact ⟨rfl, rfl⟩
  | a :: es, i + 1, e, h => by
    simp only [List.getElem?_cons_succ] at h
    have := cells_at h
    rw [show (i + 1) * 2 = i * 2 + 1 + 1 by omega]
    exact this
theorem cells_set : ∀ (es : List En) (i : Nat) (e : En) (s : Nat), es[i]? = some e → (cellsE es).set (i * 2 + 1) (.int .u64 s) = cellsE (es.set i (e.1, s))
  | a :: es, 0, e, s, h => by
    simp only [List.getElem?_cons_zero, Option.some.injEq] at h
    subst h; rfl
  | a :: es, i + 1, e, s, h => by
    simp only [List.getElem?_cons_succ] at h
    have := cells_set es i e s h
    rw [show (i + 1) * 2 + 1 = i * 2 + 1 + 1 + 1 by omega]
    show strV a.1 :: .int .u64 a.2 :: (cellsE es).set (i * 2 + 1) _ = _
    rw [this]; rfl
theorem own2_at {w : World} {base : Nat} {v : Value} {es : List En} (h : w.ownsRow base 35 2 v es.length (cellsE es)) (hp : 0 < es.length) :
    ∃ g cap, v = .slice (some ⟨g, 0, none⟩) es.length cap ∧ es.length ≤ cap ∧ cap ≤ maxLen ∧ g < w.heap.size ∧ (∀ i e, es[i]? = some e → w.cell? ⟨g, i * 2, none⟩ = some (strV e.1) ∧ w.cell? ⟨g, i * 2 + 1, none⟩ = some (.int .u64 e.2)) ∧ ∀ i, w.frozen? ⟨g, i, none⟩ = false := by
  rcases h.2 with ⟨h1, h2⟩ | ⟨g, cap, cur, h1, h2, h3, h4, h5, h6, h7⟩
  · omega
  · have hc := h.cells (g := g) (by rw [h1]; rfl)
    refine ⟨g, cap, h1, h4, h5, (Array.getElem?_eq_some_iff.1 h3).1, fun i e he => ?_, fun i => by simp [World.frozen?, h3]⟩
    have h8 := cells_at he
    have h9 := hc _ _ h8.1
    have h10 := hc _ _ h8.2
    simp only [Addr.add_lit, Nat.zero_add] at h9 h10
    exact ⟨h9, h10⟩
theorem Try.infoEn : (Try.prog.info? 35).map (fun i => (i.zero, i.size, i.bytes)) = some (some (.agg #[.string ⟨#[]⟩, .int .u64 0]), 2, 24) := by kernel_rfl
theorem own2_lit (W : World) (es : List En) (hl : es.length ≤ maxLen) : (W.alloc (.cells (cellsE es).toArray 35)).ownsRow 0 35 2 (.slice (some ⟨W.heap.size, 0, none⟩) es.length es.length) es.length (cellsE es) :=
  ⟨cells_len es, .inr ⟨W.heap.size, es.length, _, rfl, Nat.zero_le _, heap_alloc_new _ _, Nat.le_refl _, hl, by simp [cells_len], by rw [List.take_of_length_le (by rw [List.toList_toArray, cells_len]; exact Nat.le_refl _)]⟩⟩
end Go.Proofs.Ytnojjipoppemcaa

namespace Go.Proofs.Ytnojjipoppemcaa
open Go.RowKit
set_option linter.unusedVariables false
set_option linter.unusedSimpArgs false

theorem ReadsE.at {w : World} {ao : Option Addr} {len cap : Nat} {es : List En} (h : ReadsE w ao len cap (cellsE es)) (hp : 0 < len) :
    ∃ b off, ao = some ⟨b, off, none⟩ ∧ b < w.heap.size ∧ ∀ (i : Nat) e, es[i]? = some e → w.cell? ⟨b, off + i * 2, none⟩ = some (strV e.1) ∧ w.cell? ⟨b, off + i * 2 + 1, none⟩ = some (.int .u64 e.2) := by
  have hl := h.length
  cases ao with
  | none => have := h.bare rfl; omega
  | some a =>
    obtain ⟨b, off, rfl⟩ := h.plain hp
    refine ⟨b, off, rfl, ?_, fun i e he => ?_⟩
    · obtain ⟨u, hu⟩ : ∃ u, (cellsE es)[0]? = some u := ⟨_, List.getElem?_eq_getElem (by omega)⟩
      have := World.block_lt_of_cell? w _ (h.cell _ rfl 0 u hu)
      simpa [Addr.add_lit] using this
    · have h8 := cells_at he
      have h9 := h.cell _ rfl _ _ h8.1
      have h10 := h.cell _ rfl _ _ h8.2
      rw [Addr.add_lit] at h9 h10
      exact ⟨h9, by rw [Nat.add_assoc]; exact h10⟩
theorem ReadsE.count {w : World} {ao : Option Addr} {len cap : Nat} {es : List En} (h : ReadsE w ao len cap (cellsE es)) : es.length = len := by
  have := h.length; rw [cells_len] at this; omega
theorem cells_one (es : List En) : ∀ u ∈ cellsE es, u.oneCell' = true := by
  intro u hu
  obtain ⟨e, _, he⟩ := List.mem_flatMap.1 hu
  simp [encE] at he
  rcases he with rfl | rfl <;> rfl
theorem cells_drop : ∀ (es : List En) (l : Nat), (cellsE es).drop (l * 2) = cellsE (es.drop l)
  | [], l => by simp [cellsE]
  | a :: es, 0 => by simp
  | a :: es, l + 1 => by
    rw [show (l + 1) * 2 = l * 2 + 1 + 1 by omega]
    exact cells_drop es l
theorem cells_take : ∀ (es : List En) (l : Nat), (cellsE es).take (l * 2) = cellsE (es.take l)
  | [], l => by simp [cellsE]
  | a :: es, 0 => by simp [cellsE]
  | a :: es, l + 1 => by
    rw [show (l + 1) * 2 = l * 2 + 1 + 1 by omega]
    show strV a.1 :: .int .u64 a.2 :: (cellsE es).take (l * 2) = _
    rw [cells_take es l]; rfl

/-- 'append(own, src...)' of entries, whatever the source, and where it lies then. -/
theorem wpList_append_en {w : World} {ops : Array Oper} {rest : List Oper} {o : Oper} {a : Act} {Q : Exit → Act → World → Prop} (hgd : o.guard = none) (s x : Operand)
    (ho : o.op = .call { callee := .builtin .append, args := #[s, x], argTypes := #[22, 22] }) (base : Nat)
    (ag : Option Addr) (n c : Nat) (xs : List Value) (hs : a.eval s = .slice ag n c) (hown : w.ownsRow base 35 2 (.slice ag n c) n xs)
    (ao : Option Addr) (m d : Nat) (news : List Value) (hx : a.eval x = .slice ao m d) (hr : ReadsE w ao m d news) (h1 : ∀ u ∈ news, u.oneCell' = true)
    (h63 : n + m ≤ maxLen) (hbytes : (n + m) * 24 ≤ 140737488355328) (hbase : base ≤ w.heap.size)
    (h : ∀ ag' c' w', w'.ownsRow base 35 2 (.slice ag' (n + m) c') (n + m) (xs ++ news) → w.grownBy w' (Value.slice ag n c).ownBlock → Below base w w' →
      ((Value.slice ag' (n + m) c').ownBlock = (Value.slice ag n c).ownBlock ∨ ∃ k, (Value.slice ag' (n + m) c').ownBlock = some k ∧ w.heap.size ≤ k) → wpList Try.prog ops Q rest (a.put o.dst (.slice ag' (n + m) c')) w') : wpList Try.prog ops Q (o :: rest) a w := by
  obtain ⟨i, hi, hz0, hz1, hz2⟩ := info_parts Try.infoEn
  cases ao with
  | none =>
    obtain ⟨rfl, rfl⟩ := hr.bare rfl
    have : news = [] := List.eq_nil_of_length_eq_zero hr.length
    subst this
    refine wpList_append_own_none hgd s x 22 ho base 35 i 2 Try.underlying22 hi _ n xs hs hown hx ?_
    exact h ag c w (by simpa using hown) (World.grownBy.refl _ _) (Below.refl _ _) (.inl (by cases ag <;> rfl))
  | some ad =>
    refine wpList_append_own_at w hgd s x 22 ho base 35 i (.agg #[.string ⟨#[]⟩, .int .u64 0]) 2 24 Try.underlying22 hi hz0 hz1 hz2 rfl (by decide) _ n xs hs hown ad m d news hx hr.length (hr.cell ad rfl) h1 h63 hbytes hbase ?_
    intro v' w' h2 h3 h4 h5
    obtain ⟨ag', c', rfl⟩ := own2_slice h2
    exact h ag' c' w' h2 h3 ((Below.refl _ _).grown h3 hbase (fun k hk => (hown.lt k hk).1)) (h5.imp id fun h => ⟨_, h, Nat.le_refl _⟩)
/-- .. onto an empty one. -/
theorem wpList_append_new {w : World} {ops : Array Oper} {rest : List Oper} {o : Oper} {a : Act} {Q : Exit → Act → World → Prop} (hgd : o.guard = none) (s x : Operand)
    (ho : o.op = .call { callee := .builtin .append, args := #[s, x], argTypes := #[22, 22] }) (base : Nat)
    (ag : Option Addr) (c : Nat) (hs : a.eval s = .slice ag 0 c) (hown : w.ownsRow base 35 2 (.slice ag 0 c) 0 [])
    (ao : Option Addr) (m d : Nat) (news : List Value) (hx : a.eval x = .slice ao m d) (hr : ReadsE w ao m d news) (h1 : ∀ u ∈ news, u.oneCell' = true)
    (h63 : m ≤ maxLen) (hbytes : m * 24 ≤ 140737488355328) (hbase : base ≤ w.heap.size)
    (h : ∀ ag' c' w', w'.ownsRow base 35 2 (.slice ag' m c') m news → Below base w w' → wpList Try.prog ops Q rest (a.put o.dst (.slice ag' m c')) w') : wpList Try.prog ops Q (o :: rest) a w := by
  refine wpList_append_en hgd s x ho base ag 0 c [] hs hown ao m d news hx hr h1 (by omega) (by omega) hbase ?_
  intro ag' c' w' h2 h3 h4 h5
  rw [Nat.zero_add] at h2 ⊢
  exact h ag' c' w' h2 h4
end Go.Proofs.Ytnojjipoppemcaa

namespace Go.Proofs.Ytnojjipoppemcaa
open Go.ChangeShapes Go.WideShapes Go.ChangeAt Go.RowKit
set_option linter.unusedVariables false
set_option linter.unusedSimpArgs false

/-- What a slice of deeds shows: a kind, a word, a number each. -/
structure ReadsD (w : World) (ao : Option Addr) (len cap : Nat) (ds : List (Int × Wd × Nat)) : Prop where
  length : ds.length = len
  le : len ≤ cap
  most : cap ≤ maxLen
  bare : ao = none → len = 0 ∧ cap = 0
  cell : ∀ a, ao = some a → ∀ (i : Nat) d, ds[i]? = some d → w.cell? (a.add (i * 3)) = some (.int .i64 d.1) ∧ w.cell? (a.add (i * 3 + 1)) = some (strV d.2.1) ∧ w.cell? (a.add (i * 3 + 2)) = some (.int .u64 d.2.2)
theorem ReadsD.later {w w' : World} {ao : Option Addr} {len cap : Nat} {ds : List (Int × Wd × Nat)} {B : Nat} (h : ReadsD w ao len cap ds) (hb : Below B w w') (hB : w.heap.size ≤ B) : ReadsD w' ao len cap ds :=
  ⟨h.length, h.le, h.most, h.bare, fun a ha i d hd => by
    obtain ⟨h1, h2, h3⟩ := h.cell a ha i d hd
    have l1 := World.block_lt_of_cell? w _ h1
    have l2 := World.block_lt_of_cell? w _ h2
    have l3 := World.block_lt_of_cell? w _ h3
    exact ⟨(hb.cell (by omega)).trans h1, (hb.cell (by omega)).trans h2, (hb.cell (by omega)).trans h3⟩⟩
theorem ReadsD.at {w : World} {ao : Option Addr} {len cap : Nat} {ds : List (Int × Wd × Nat)} (h : ReadsD w ao len cap ds) (hp : 0 < len) :
    ∃ b off, ao = some ⟨b, off, none⟩ ∧ b < w.heap.size ∧ ∀ (i : Nat) d, ds[i]? = some d → w.cell? ⟨b, off + i * 3, none⟩ = some (.int .i64 d.1) ∧ w.cell? ⟨b, off + i * 3 + 1, none⟩ = some (strV d.2.1) ∧ w.cell? ⟨b, off + i * 3 + 2, none⟩ = some (.int .u64 d.2.2) := by
  have hl := h.length
  cases ao with
  | none => have := h.bare rfl; omega
  | some a =>
    obtain ⟨b, off, spot⟩ := a
    obtain ⟨d0, hd0⟩ : ∃ d, ds[0]? = some d := ⟨_, List.getElem?_eq_getElem (by omega)⟩
    have h0 := (h.cell _ rfl 0 d0 hd0).1
    have hspot : spot = none := by simpa [Addr.add] using World.cell?_spot h0
    subst hspot
    refine ⟨b, off, rfl, by simpa [Addr.add_lit] using World.block_lt_of_cell? w _ h0, fun i d hd => ?_⟩
    have := h.cell _ rfl i d hd
    simpa [Addr.add_lit, Nat.add_assoc] using this
theorem bytes_list (s : ByteArray) : (⟨s.data.toList.toArray⟩ : ByteArray) = s := by cases s; simp

theorem deeds_in {H : Type} {enc : TypeId × Value → H} {P : Program} {W : World} {t e : TypeId} {f0 f1 f2 : Field} {B : Nat} (hu : P.underlying t = some (.slice e)) (he : P.underlying e = some (.struct #[f0, f1, f2])) (ce : P.cellsOf e = 3)
    (o0 : f0.offset = 0) (o1 : f1.offset = 1) (o2 : f2.offset = 2) (c0 : P.cellsOf f0.type = 1) (c1 : P.cellsOf f1.type = 1) (c2 : P.cellsOf f2.type = 1)
    (u0 : P.underlying f0.type = some (.int .i64)) (u1 : P.underlying f1.type = some .string) (u2 : P.underlying f2.type = some (.int .u64)) (hB : P.bytesOf e = B)
    {ts : List TypeId} {ds : List (DataW H)} (hsz : (DataW.weightsEach P ts ds).all (· ≤ reachBytes) = true) {j : Nat} {a : Option Addr} {len cap : Nat} {d : DataW H} {p : List MemPlace} (ht : ts[j]? = some t) (hd : ds[j]? = some d)
    (h : DataW.Trod enc P W 0 (fun _ => true) true t (.slice a len cap) d p) :
    ∃ zs : List (Int × Wd × Nat), ReadsD W a len cap zs ∧ (∀ z ∈ zs, (Lit.int .i64 z.1).wf = true ∧ z.2.1.length ≤ 140737488351232 ∧ z.2.2 ≤ 18446744073709551615) ∧ len * B ≤ 140737488351232 := by
  obtain ⟨fuel, hf⟩ := h
  rcases Go.Deep.open_slice hu hf with ⟨hcs, _⟩ | ⟨x, l, c, m, n, D, Pl, hcs, _, hl, hm, hmm, hx, hcell⟩
  · simp [Value.cells] at hcs
    obtain ⟨rfl, rfl, rfl⟩ := hcs
    exact ⟨[], ⟨rfl, Nat.le_refl _, Nat.zero_le _, fun _ => ⟨rfl, rfl⟩, fun a ha => by cases ha⟩, fun z hz => by simp at hz, by omega⟩
  · simp [Value.cells] at hcs
    obtain ⟨rfl, rfl, rfl⟩ := hcs
    simp only [if_true] at hmm
    subst hmm
    simp only [Prod.mk.injEq] at hx
    have hb := sized_slice hsz (e := e) ht (by rw [hd, hx.1]) hu
    rw [hB] at hb
    simp only [List.length_map, List.length_range, reachBytes] at hb
    have each : ∀ i, i < m → ∃ q : Int × Wd × Nat, W.cell? (x.add (i * 3)) = some (.int .i64 q.1) ∧ W.cell? (x.add (i * 3 + 1)) = some (strV q.2.1) ∧ W.cell? (x.add (i * 3 + 2)) = some (.int .u64 q.2.2) ∧
        (Lit.int .i64 q.1).wf = true ∧ (q.2.2 : Int) ≤ 18446744073709551615 ∧ D i = .agg [.lit (.int .i64 q.1), .lit (.string q.2.1), .lit (.int .u64 q.2.2)] := by
      intro i hi
      obtain ⟨cs', h1, h2⟩ := hcell i hi
      rw [ce] at h1
      obtain ⟨_, hlen, hc⟩ := World.cells?_some h1
      obtain ⟨y0, y1, y2, n', hxy, _, g0, g1, g2⟩ := Go.Deep.trod_struct3 he h2
      match cs', hlen with
      | [v0, v1, v2], _ =>
        simp [o0, o1, o2, c0, c1, c2] at g0 g1 g2
        obtain ⟨n0, e0, r0, wf0⟩ := DataW.trod_int u0 g0
        obtain ⟨s1, e1, r1, _⟩ := DataW.trod_string u1 g1
        obtain ⟨n2, e2, r2, wf2⟩ := DataW.trod_int u2 g2
        have b2 := bounds_u64 wf2
        obtain ⟨k2, rfl⟩ := Int.eq_ofNat_of_zero_le b2.1
        simp only [List.cons.injEq, and_true] at e0 e1 e2
        subst e0 e1 e2
        have q0 := hc 0 (by omega)
        have q1 := hc 1 (by omega)
        have q2 := hc 2 (by omega)
        rw [Go.Deep.add_add] at q0 q1 q2
        simp only [Prod.mk.injEq] at hxy
        refine ⟨(n0, s1.data.toList, k2), by simpa using q0, ?_, by simpa using q2, wf0, b2.2, ?_⟩
        · simp only [strV, bytes_list]; simpa using q1
        · rw [hxy.1, r0, r1, r2]
    obtain ⟨q, hq⟩ := Go.Deep.choose_lt each
    refine ⟨(List.range len).map q, ⟨by simp, hl, hm, fun h => (by cases h), fun y hy i d' hd' => ?_⟩, fun z hz => ?_, ?_⟩
    · cases hy
      have hi : i < len := by
        have := (List.getElem?_eq_some_iff.1 hd').1
        simp at this; omega
      simp [hi] at hd'
      subst hd'
      have := hq i (by omega)
      exact ⟨this.1, this.2.1, this.2.2.1⟩
    · simp only [List.mem_map, List.mem_range] at hz
      obtain ⟨i, hi, rfl⟩ := hz
      obtain ⟨_, _, _, w1, w2, w3⟩ := hq i (by omega)
      refine ⟨w1, ?_, by omega⟩
      have := sized_elem hsz (e := e) ht (by rw [hd, hx.1]) hu (d := D i) (List.mem_map.2 ⟨i, List.mem_range.2 hi, rfl⟩) (n := (q i).2.1.length) (by rw [w3]; simp [DataW.weights, he, DataW.weightsEach])
      simpa [reachBytes] using this
    · have e1 : len + (m - len) = m := by omega
      rw [e1] at hb
      exact Nat.le_trans (Nat.mul_le_mul_right B hl) hb
end Go.Proofs.Ytnojjipoppemcaa

namespace Go.Proofs.Ytnojjipoppemcaa
open Go.ChangeShapes Go.WideShapes Go.ChangeAt Go.RowKit
set_option linter.unusedVariables false
set_option linter.unusedSimpArgs false

theorem entries_in {H : Type} {enc : TypeId × Value → H} {P : Program} {W : World} {t e : TypeId} {f0 f1 : Field} {B : Nat} (hu : P.underlying t = some (.slice e)) (he : P.underlying e = some (.struct #[f0, f1])) (ce : P.cellsOf e = 2)
    (o0 : f0.offset = 0) (o1 : f1.offset = 1) (c0 : P.cellsOf f0.type = 1) (c1 : P.cellsOf f1.type = 1)
    (u0 : P.underlying f0.type = some .string) (u1 : P.underlying f1.type = some (.int .u64)) (hB : P.bytesOf e = B)
    {ts : List TypeId} {ds : List (DataW H)} (hsz : (DataW.weightsEach P ts ds).all (· ≤ reachBytes) = true) {j : Nat} {a : Option Addr} {len cap : Nat} {d : DataW H} {p : List MemPlace} (ht : ts[j]? = some t) (hd : ds[j]? = some d)
    (h : DataW.Trod enc P W 0 (fun _ => true) true t (.slice a len cap) d p) :
    ∃ zs : List En, ReadsE W a len cap (cellsE zs) ∧ (∀ z ∈ zs, z.1.length ≤ 140737488351232 ∧ z.2 ≤ 18446744073709551615) ∧ len * B ≤ 140737488351232 := by
  obtain ⟨fuel, hf⟩ := h
  rcases Go.Deep.open_slice hu hf with ⟨hcs, _⟩ | ⟨x, l, c, m, n, D, Pl, hcs, _, hl, hm, hmm, hx, hcell⟩
  · simp [Value.cells] at hcs
    obtain ⟨rfl, rfl, rfl⟩ := hcs
    exact ⟨[], ⟨rfl, Nat.le_refl _, Nat.zero_le _, fun _ => ⟨rfl, rfl⟩, fun a ha => by cases ha⟩, fun z hz => by simp at hz, by omega⟩
  · simp [Value.cells] at hcs
    obtain ⟨rfl, rfl, rfl⟩ := hcs
    simp only [if_true] at hmm
    subst hmm
    simp only [Prod.mk.injEq] at hx
    have hb := sized_slice hsz (e := e) ht (by rw [hd, hx.1]) hu
    rw [hB] at hb
    simp only [List.length_map, List.length_range, reachBytes] at hb
    have each : ∀ i, i < m → ∃ q : En, W.cell? (x.add (i * 2)) = some (strV q.1) ∧ W.cell? (x.add (i * 2 + 1)) = some (.int .u64 q.2) ∧ (q.2 : Int) ≤ 18446744073709551615 ∧ D i = .agg [.lit (.string q.1), .lit (.int .u64 q.2)] := by
      intro i hi
      obtain ⟨cs', h1, h2⟩ := hcell i hi
      rw [ce] at h1
      obtain ⟨_, hlen, hc⟩ := World.cells?_some h1
      obtain ⟨xs, n', _, hxy, _, hlen2, hff⟩ := DataW.trod_struct he h2
      match xs, hlen2 with
      | [y0, y1], _ =>
        have g0 := hff 0 f0 rfl
        have g1 := hff 1 f1 rfl
        match cs', hlen with
        | [v0, v1], _ =>
          simp [o0, o1, c0, c1] at g0 g1
          obtain ⟨s1, e1, r1, _⟩ := DataW.trod_string u0 g0
          obtain ⟨n2, e2, r2, wf2⟩ := DataW.trod_int u1 g1
          have b2 := bounds_u64 wf2
          obtain ⟨k2, rfl⟩ := Int.eq_ofNat_of_zero_le b2.1
          simp only [List.cons.injEq, and_true] at e1 e2
          subst e1 e2
          have q0 := hc 0 (by omega)
          have q1 := hc 1 (by omega)
          rw [Go.Deep.add_add] at q0 q1
          simp only [Prod.mk.injEq] at hxy
          refine ⟨(s1.data.toList, k2), ?_, by simpa using q1, b2.2, ?_⟩
          · simp only [strV, bytes_list]; simpa using q0
          · rw [hxy.1]; simp [r1, r2]
    obtain ⟨q, hq⟩ := Go.Deep.choose_lt each
    refine ⟨(List.range len).map q, ⟨by rw [cells_len]; simp, hl, hm, fun h => (by cases h), fun y hy i u hu => ?_⟩, fun z hz => ?_, ?_⟩
    · cases hy
      have hi : i < len * 2 := by
        have := (List.getElem?_eq_some_iff.1 hu).1
        rw [cells_len] at this
        simpa using this
      obtain ⟨k, hk⟩ : ∃ k, i = k * 2 ∨ i = k * 2 + 1 := ⟨i / 2, by omega⟩
      have hkl : k < len := by omega
      have he' : ((List.range len).map q)[k]? = some (q k) := by simp [hkl]
      have := cells_at he'
      rcases hk with rfl | rfl
      · rw [this.1] at hu
        cases hu
        exact (hq k (by omega)).1
      · rw [this.2] at hu
        cases hu
        exact (hq k (by omega)).2.1
    · simp only [List.mem_map, List.mem_range] at hz
      obtain ⟨i, hi, rfl⟩ := hz
      obtain ⟨_, _, w2, w3⟩ := hq i (by omega)
      refine ⟨?_, by omega⟩
      have := sized_elem hsz (e := e) ht (by rw [hd, hx.1]) hu (d := D i) (List.mem_map.2 ⟨i, List.mem_range.2 hi, rfl⟩) (n := (q i).1.length) (by rw [w3]; simp [DataW.weights, he, DataW.weightsEach])
      simpa [reachBytes] using this
    · have e1 : len + (m - len) = m := by omega
      rw [e1] at hb
      exact Nat.le_trans (Nat.mul_le_mul_right B hl) hb
end Go.Proofs.Ytnojjipoppemcaa
