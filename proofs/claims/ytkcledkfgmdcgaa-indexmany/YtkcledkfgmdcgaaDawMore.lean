/- Of the automaton of words: how many states there are, that each is of use, that edges rise, and words that all end alike. -/
import Derived.Test.YtkcledkfgmdcgaaDawLeave
namespace Go.Proofs.Ytkcledkfgmdcgaa
set_option linter.unusedVariables false
set_option linter.unusedSimpArgs false

def nodesK : Kids → Nat
  | .nil => 0
  | .cons _ _ sub rest => 1 + nodesK sub + nodesK rest
theorem chain_nodes : ∀ w : Wd, nodesK (chainN w).2 = w.length
  | [] => rfl
  | c :: w => by show 1 + nodesK (chainN w).2 + 0 = _; rw [chain_nodes w]; simp; omega
theorem ins_nodes : ∀ (k : Kids) (x : UInt8) (w : Wd), nodesK (insK k x w) ≤ nodesK k + (w.length + 1)
  | .nil, x, w => by show 1 + nodesK (chainN w).2 + 0 ≤ _; rw [chain_nodes]; show _ ≤ 0 + _; omega
  | .cons c f sub rest, x, w => by
    have hs := fun y v => ins_nodes sub y v
    have hr := ins_nodes rest x w
    rw [insK_cons]
    by_cases hx : x = c
    · rw [if_pos hx]
      cases w with
      | nil => simp only [insN, nodesK]; omega
      | cons y v => simp only [insN, nodesK, List.length_cons]; have := hs y v; omega
    · rw [if_neg hx]
      by_cases hlt : x < c
      · rw [if_pos hlt]; simp only [nodesK, chain_nodes]; omega
      · rw [if_neg hlt]; simp only [nodesK]; omega
theorem insN_nodes (t : Node) (w : Wd) : nodesK (insN t w).2 ≤ nodesK t.2 + w.length := by
  cases w with
  | nil => exact Nat.le_refl _
  | cons c w => exact ins_nodes t.2 c w
theorem fold_nodes : ∀ (l : List Wd) (t : Node), nodesK (l.foldl insN t).2 ≤ nodesK t.2 + (l.map List.length).sum
  | [], t => by simp
  | w :: l, t => by
    have h1 := fold_nodes l (insN t w)
    have h2 := insN_nodes t w
    rw [List.foldl_cons, List.map_cons, List.sum_cons]; omega
theorem put_len (S : List Stt) (s : Stt) : (putS S s).1.length ≤ S.length + 1 := by unfold putS; split <;> simp
theorem leave_len : ∀ (k : Kids) (S : List Stt), (leaveK S k).1.length ≤ S.length + nodesK k
  | .nil, S => Nat.le_refl _
  | .cons c f sub rest, S => by
    have h1 := leave_len sub S
    have h2 := put_len (leaveK S sub).1 (f, (leaveK S sub).2)
    have h3 := leave_len rest (leaveN S (f, sub)).1
    have h4 : (leaveN S (f, sub)).1.length ≤ (leaveK S sub).1.length + 1 := h2
    rw [leaveK_cons]
    show (leaveK (leaveN S (f, sub)).1 rest).1.length ≤ S.length + (1 + nodesK sub + nodesK rest)
    omega
theorem build_len (l : List Wd) : 1 ≤ (buildL l).length ∧ (buildL l).length ≤ 1 + (l.map List.length).sum := by
  have h1 := (build_is l).1
  have h2 := leave_len (trieW l).2 []
  have h3 := fold_nodes l (false, .nil)
  have h4 : nodesK (trieW l).2 ≤ nodesK .nil + (l.map List.length).sum := h3
  have h5 : nodesK Kids.nil = 0 := rfl
  rw [h1, List.length_append]
  simp only [List.length_nil, List.length_singleton] at h2 ⊢
  omega

/-- Of use: a word ends at each node, or it leads on. -/
def liveK : Kids → Prop
  | .nil => True
  | .cons _ f sub rest => (f = true ∨ sub ≠ .nil) ∧ liveK sub ∧ liveK rest
theorem chain_live : ∀ w : Wd, ((chainN w).1 = true ∨ (chainN w).2 ≠ .nil) ∧ liveK (chainN w).2
  | [] => ⟨.inl rfl, trivial⟩
  | c :: w => ⟨.inr (by simp [chainN]), (chain_live w).1, (chain_live w).2, trivial⟩
theorem insK_ne (k : Kids) (x : UInt8) (w : Wd) : insK k x w ≠ .nil := by
  cases k with
  | nil => simp [insK]
  | cons c f sub rest => rw [insK_cons]; split; (· simp); split <;> simp
theorem insN_use (t : Node) (w : Wd) : (insN t w).1 = true ∨ (insN t w).2 ≠ .nil := by
  cases w with
  | nil => exact .inl rfl
  | cons c w => exact .inr (insK_ne _ _ _)
theorem ins_live : ∀ (k : Kids) (x : UInt8) (w : Wd), liveK k → liveK (insK k x w)
  | .nil, x, w, _ => ⟨(chain_live w).1, (chain_live w).2, trivial⟩
  | .cons c f sub rest, x, w, h => by
    have hs := fun y v => ins_live sub y v h.2.1
    have hr := ins_live rest x w h.2.2
    rw [insK_cons]
    by_cases hx : x = c
    · rw [if_pos hx]
      refine ⟨insN_use (f, sub) w, ?_, h.2.2⟩
      cases w with
      | nil => exact h.2.1
      | cons y v => exact hs y v
    · rw [if_neg hx]
      by_cases hlt : x < c
      · rw [if_pos hlt]; exact ⟨(chain_live w).1, (chain_live w).2, h⟩
      · rw [if_neg hlt]; exact ⟨h.1, h.2.1, hr⟩
theorem fold_live : ∀ (l : List Wd) (t : Node), liveK t.2 → liveK (l.foldl insN t).2
  | [], t, h => h
  | w :: l, t, h => by
    rw [List.foldl_cons]
    refine fold_live l _ ?_
    cases w with
    | nil => exact h
    | cons c w => exact ins_live t.2 c w h
theorem leave_nil {k : Kids} {S : List Stt} : (leaveK S k).2 = [] ↔ k = .nil := by
  cases k with
  | nil => simp [leaveK]
  | cons c f sub rest => simp [leaveK_cons]
/-- Edges that rise. -/
def RiseEd (es : List (UInt8 × Nat)) : Prop := es.Pairwise fun a b => a.1 < b.1
theorem leave_bytes : ∀ (k : Kids) (S : List Stt) (c : UInt8), aboveK c k → ∀ e ∈ (leaveK S k).2, c < e.1
  | .nil, S, c, h, e, he => by simp [leaveK] at he
  | .cons d f sub rest, S, c, h, e, he => by
    rw [leaveK_cons] at he
    rcases List.mem_cons.1 he with rfl | he
    · exact h.1
    · exact leave_bytes rest _ c h.2 e he
theorem leave_rise : ∀ (k : Kids) (S : List Stt), RiseK k → RiseEd (leaveK S k).2
  | .nil, S, h => List.Pairwise.nil
  | .cons d f sub rest, S, h => by
    rw [leaveK_cons]
    exact List.pairwise_cons.2 ⟨fun e he => leave_bytes rest _ d h.1 e he, leave_rise rest _ h.2.2⟩
/-- What each state that was left is. -/
def UseS (s : Stt) : Prop := (s.1 = true ∨ s.2 ≠ []) ∧ RiseEd s.2
theorem put_mem {S : List Stt} {s t : Stt} (h : t ∈ (putS S s).1) : t ∈ S ∨ t = s := by
  unfold putS at h
  split at h
  · exact .inl h
  · simpa using h
theorem leave_use : ∀ (k : Kids) (S : List Stt), liveK k → RiseK k → (∀ s ∈ S, UseS s) → ∀ s ∈ (leaveK S k).1, UseS s
  | .nil, S, _, _, h, s, hs => h s hs
  | .cons c f sub rest, S, hl, hr, h, s, hs => by
    rw [leaveK_cons] at hs
    refine leave_use rest _ hl.2.2 hr.2.2 (fun t ht => ?_) s hs
    rcases put_mem ht with ht | rfl
    · exact leave_use sub S hl.2.1 hr.2.1 h t ht
    · refine ⟨?_, leave_rise sub S hr.2.1⟩
      rcases hl.1 with h1 | h1
      · exact .inl h1
      · exact .inr fun h2 => h1 (leave_nil.1 h2)
theorem build_use {l : List Wd} (hne : ∀ w ∈ l, w ≠ []) (s : Stt) (hs : s ∈ buildL l) : RiseEd s.2 ∧ (l ≠ [] → s.1 = true ∨ s.2 ≠ []) := by
  rw [(build_is l).1] at hs
  have hlive : liveK (trieW l).2 := fold_live l _ trivial
  rcases List.mem_append.1 hs with hs | hs
  · have := leave_use (trieW l).2 [] hlive (trie_rise l) (fun s h => by simp at h) s hs
    exact ⟨this.2, fun _ => this.1⟩
  · simp only [List.mem_singleton] at hs
    subst hs
    refine ⟨leave_rise _ _ (trie_rise l), fun hl => .inr fun h => ?_⟩
    have hk := leave_nil.1 h
    obtain ⟨w, l', rfl⟩ := List.exists_cons_of_ne_nil hl
    have ht := trie_take (w :: l') w
    obtain ⟨c, v, rfl⟩ := List.exists_cons_of_ne_nil (hne w (by simp))
    simp only [takeN, hk, takeK] at ht
    simp at ht

/-- What was left once is not left again. -/
theorem put_again {S T : List Stt} {s : Stt} (hg : T.Nodup) (hp : (putS S s).1 <+: T) : putS T s = (T, (putS S s).2) := by
  have ha := pre_at hp (put_at S s)
  have hm : s ∈ T := List.mem_of_getElem? ha
  have hl := (List.getElem?_eq_some_iff.1 ha).1
  unfold putS
  rw [if_pos hm]
  congr 1
  have h1 := List.idxOf_lt_length_iff.2 hm
  have h2 : T[T.idxOf s]'h1 = T[(putS S s).2]'hl := by rw [List.getElem_idxOf]; exact ((List.getElem?_eq_some_iff.1 ha).2).symm
  exact (List.getElem_inj hg).1 h2
theorem leave_again : ∀ (k : Kids) (S T : List Stt), GoodS T → (leaveK S k).1 <+: T → GoodS S → leaveK T k = (T, (leaveK S k).2)
  | .nil, S, T, _, _, _ => rfl
  | .cons c f sub rest, S, T, hT, hp, hS => by
    obtain ⟨b1, b2, b3, b4⟩ := leaveN_good hS (f, sub)
    have c1 := (leave_good rest _ b2).1
    rw [leaveK_cons] at hp
    have hpN : (leaveN S (f, sub)).1 <+: T := c1.trans hp
    have h1 := leave_again sub S T hT ((put_pre (leaveK S sub).1 (f, (leaveK S sub).2)).trans hpN) hS
    have h2 : leaveN T (f, sub) = (T, (leaveN S (f, sub)).2) := by
      show putS (leaveK T sub).1 (f, (leaveK T sub).2) = _
      rw [h1]
      exact put_again hT.nodup hpN
    rw [leaveK_cons, leaveK_cons, h2]
    show ((leaveK T rest).1, (c, (leaveN S (f, sub)).2) :: (leaveK T rest).2) = _
    rw [leave_again rest _ T hT hp b2]
theorem leaveN_again (t : Node) (S T : List Stt) (hT : GoodS T) (hp : (leaveN S t).1 <+: T) (hS : GoodS S) : leaveN T t = (T, (leaveN S t).2) := by
  show putS (leaveK T t.2).1 (t.1, (leaveK T t.2).2) = _
  rw [leave_again t.2 S T hT ((put_pre (leaveK S t.2).1 (t.1, (leaveK S t.2).2)).trans hp) hS]
  exact put_again hT.nodup hp
/-- A word by itself has a state more than bytes. -/
theorem chain_len : ∀ w : Wd, (leaveN [] (chainN w)).1.length = w.length + 1 ∧ (leaveN [] (chainN w)).2 = w.length
  | [] => ⟨rfl, rfl⟩
  | c :: w => by
    obtain ⟨h1, h2⟩ := chain_len w
    have hg := (leaveN_good GoodS.nil (chainN w)).2.1
    have e1 : leaveK [] (chainN (c :: w)).2 = ((leaveN [] (chainN w)).1, [(c, (leaveN [] (chainN w)).2)]) := rfl
    have hnew : (false, [(c, (leaveN [] (chainN w)).2)]) ∉ (leaveN [] (chainN w)).1 := by
      intro hm
      obtain ⟨i, hi, he⟩ := List.getElem_of_mem hm
      have := hg.low i _ (List.getElem?_eq_getElem hi) (c, (leaveN [] (chainN w)).2) (by rw [he]; simp)
      simp only at this
      omega
    have e2 : leaveN [] (chainN (c :: w)) = putS (leaveN [] (chainN w)).1 (false, [(c, (leaveN [] (chainN w)).2)]) := rfl
    have e3 : putS (leaveN [] (chainN w)).1 (false, [(c, (leaveN [] (chainN w)).2)]) = ((leaveN [] (chainN w)).1 ++ [(false, [(c, (leaveN [] (chainN w)).2)])], (leaveN [] (chainN w)).1.length) := by unfold putS; rw [if_neg hnew]
    rw [e2, e3]
    simp [h1]
/-- Kids that all go on alike. -/
def fanK (t : Node) : List UInt8 → Kids
  | [] => .nil
  | c :: cs => .cons c t.1 t.2 (fanK t cs)
theorem fan_leave (t : Node) (T : List Stt) (hT : GoodS T) (hp : (leaveN [] t).1 <+: T) : ∀ cs, leaveK T (fanK t cs) = (T, cs.map fun c => (c, (leaveN [] t).2))
  | [] => rfl
  | c :: cs => by
    show leaveK T (.cons c t.1 t.2 (fanK t cs)) = _
    have h1 : leaveN T (t.1, t.2) = (T, (leaveN [] t).2) := leaveN_again t [] T hT hp GoodS.nil
    rw [leaveK_cons, h1]
    show ((leaveK T (fanK t cs)).1, _ :: (leaveK T (fanK t cs)).2) = _
    rw [fan_leave t T hT hp cs]; rfl
theorem ins_fan (t : Wd) : ∀ (cs : List UInt8) (x : UInt8), (∀ c ∈ cs, c < x) → insK (fanK (chainN t) cs) x t = fanK (chainN t) (cs ++ [x])
  | [], x, _ => rfl
  | c :: cs, x, h => by
    have hc := h c (by simp)
    show insK (.cons c (chainN t).1 (chainN t).2 (fanK (chainN t) cs)) x t = _
    rw [insK_cons, if_neg (fun e => by subst e; exact UInt8.lt_irrefl _ hc), if_neg (fun h2 => UInt8.lt_irrefl _ (UInt8.lt_trans h2 hc)), ins_fan t cs x fun d hd => h d (by simp [hd])]
    rfl
theorem trie_fan (t : Wd) : ∀ (n : Nat), n ≤ 26 → trieW ((List.range n).map fun i => UInt8.ofNat (97 + i) :: t) = (false, fanK (chainN t) ((List.range n).map fun i => UInt8.ofNat (97 + i)))
  | 0, _ => rfl
  | n + 1, h => by
    have ih := trie_fan t n (by omega)
    unfold trieW at ih ⊢
    rw [List.range_succ, List.map_append, List.foldl_append, ih]
    show (false, insK _ _ _) = _
    rw [List.map_append]
    show (false, insK (fanK (chainN t) ((List.range n).map fun i => UInt8.ofNat (97 + i))) (UInt8.ofNat (97 + n)) t) = _
    rw [ins_fan]
    · rfl
    · intro c hc
      obtain ⟨i, hi, rfl⟩ := List.mem_map.1 hc
      have := List.mem_range.1 hi
      rw [UInt8.lt_iff_toNat_lt, UInt8.toNat_ofNat', UInt8.toNat_ofNat']
      omega
theorem ends_len (t : Wd) (n : Nat) (h1 : 1 ≤ n) (h : n ≤ 26) : (buildL ((List.range n).map fun i => UInt8.ofNat (97 + i) :: t)).length = t.length + 2 ∧ ∃ s, (buildL ((List.range n).map fun i => UInt8.ofNat (97 + i) :: t))[t.length + 1]? = some s ∧ s.2.length = n := by
  have hb := (build_is ((List.range n).map fun i => UInt8.ofNat (97 + i) :: t)).1
  rw [trie_fan t n h] at hb
  obtain ⟨m, rfl⟩ : ∃ m, n = m + 1 := ⟨n - 1, by omega⟩
  obtain ⟨cs, hcs⟩ : ∃ cs, (List.range (m + 1)).map (fun i => UInt8.ofNat (97 + i)) = UInt8.ofNat 97 :: cs := ⟨_, by rw [List.range_succ_eq_map, List.map_cons]⟩
  have hlc : cs.length = m := by have := congrArg List.length hcs; simp at this; omega
  obtain ⟨g1, g2, g3, g4⟩ := leaveN_good GoodS.nil (chainN t)
  obtain ⟨c1, c2⟩ := chain_len t
  have e1 : leaveK [] (fanK (chainN t) (UInt8.ofNat 97 :: cs)) = ((leaveN [] (chainN t)).1, (UInt8.ofNat 97, (leaveN [] (chainN t)).2) :: cs.map fun c => (c, (leaveN [] (chainN t)).2)) := by
    show leaveK [] (.cons (UInt8.ofNat 97) (chainN t).1 (chainN t).2 (fanK (chainN t) cs)) = _
    rw [leaveK_cons]
    show ((leaveK (leaveN [] (chainN t)).1 (fanK (chainN t) cs)).1, (UInt8.ofNat 97, (leaveN [] (chainN t)).2) :: (leaveK (leaveN [] (chainN t)).1 (fanK (chainN t) cs)).2) = _
    rw [fan_leave (chainN t) _ g2 (List.prefix_refl _) cs]
  rw [hcs] at hb
  simp only [e1] at hb
  rw [hb]
  constructor
  · rw [List.length_append, c1]; rfl
  · refine ⟨(false, (UInt8.ofNat 97, (leaveN [] (chainN t)).2) :: cs.map fun c => (c, (leaveN [] (chainN t)).2)), ?_, ?_⟩
    · rw [List.getElem?_append_right (by omega), c1, Nat.sub_self]; rfl
    · simp [hlc]
end Go.Proofs.Ytkcledkfgmdcgaa
