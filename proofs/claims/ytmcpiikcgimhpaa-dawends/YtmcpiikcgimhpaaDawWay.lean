/- Words that come rising, left while they come: the states on the last word's way stay open; over lists alone. -/
import Derived.Test.YtmcpiikcgimhpaaRestMath
namespace Go.Proofs.Ytmcpiikcgimhpaa
open Go.RowKit
set_option linter.unusedVariables false
set_option linter.unusedSimpArgs false

/-- All states of the way left, the first one last. -/
def closeP : List Stt → List Stt → Wd → List Stt × Nat
  | S, [], _ => (S, 0)
  | S, p :: P, [] => putS S p
  | S, p :: P, c :: w => putS (closeP S P w).1 (p.1, p.2 ++ [(c, (closeP S P w).2)])
/-- The states left that are more than n edges away. -/
def backP : Nat → List Stt → List Stt → Wd → List Stt × List Stt
  | _, S, [], _ => (S, [])
  | _, S, p :: P, [] => (S, p :: P)
  | 0, S, p :: P, c :: w => ((closeP S P w).1, [(p.1, p.2 ++ [(c, (closeP S P w).2)])])
  | n + 1, S, p :: P, c :: w => ((backP n S P w).1, p :: (backP n S P w).2)
/-- A trie whose way along w is open. -/
def OpenN : Wd → Node → List Stt → List Stt → List Stt → Prop
  | [], t, S0, S, P => t.2 = .nil ∧ S = S0 ∧ P = [(t.1, [])]
  | c :: v, t, S0, S, P => ∃ k sub P', t.2 = snocK k c sub ∧ belowK k c ∧ P = (t.1, (leaveK S0 k).2) :: P' ∧ OpenN v sub (leaveK S0 k).1 S P'
theorem open_len : ∀ {w : Wd} {t : Node} {S0 S P : List Stt}, OpenN w t S0 S P → P.length = w.length + 1
  | [], t, S0, S, P, h => by rw [h.2.2]; rfl
  | c :: v, t, S0, S, P, h => by
    obtain ⟨k, sub, P', h1, h2, h3, h4⟩ := h
    rw [h3, List.length_cons, open_len h4]; rfl
theorem open_close : ∀ {w : Wd} {t : Node} {S0 S P : List Stt}, OpenN w t S0 S P → closeP S P w = leaveN S0 t
  | [], (f, k), S0, S, P, h => by
    obtain ⟨h1, rfl, rfl⟩ := h
    simp only at h1
    subst h1
    rfl
  | c :: v, (f, k0), S0, S, P, h => by
    obtain ⟨k, sub, P', h1, h2, rfl, h4⟩ := h
    simp only at h1
    subst h1
    have ih := open_close h4
    show putS (closeP S P' v).1 (f, (leaveK S0 k).2 ++ [(c, (closeP S P' v).2)]) = putS (leaveK S0 (snocK k c sub)).1 (f, (leaveK S0 (snocK k c sub)).2)
    rw [ih, leave_snoc]
/-- The states of a word by itself. -/
def chainP : Wd → List Stt
  | [] => [(true, [])]
  | _ :: v => (false, []) :: chainP v
theorem chainP_is : ∀ v : Wd, chainP v = List.replicate v.length (false, []) ++ [(true, [])]
  | [] => rfl
  | c :: v => by rw [chainP, chainP_is v]; rfl
theorem chain_open : ∀ (w : Wd) (S : List Stt), OpenN w (chainN w) S S (chainP w)
  | [], S => ⟨rfl, rfl, rfl⟩
  | c :: v, S => ⟨.nil, chainN v, chainP v, rfl, trivial, rfl, chain_open v S⟩
/-- With how many same bytes two words begin. -/
def commonL : Wd → Wd → Nat
  | a :: x, b :: y => if a = b then commonL x y + 1 else 0
  | _, _ => 0
theorem common_le : ∀ x y : Wd, commonL x y ≤ x.length ∧ commonL x y ≤ y.length
  | [], y => by cases y <;> simp [commonL]
  | a :: x, [] => by simp [commonL]
  | a :: x, b :: y => by
    have ih := common_le x y
    rw [commonL]
    split
    · simp; omega
    · simp
theorem common_take : ∀ x y : Wd, x.take (commonL x y) = y.take (commonL x y)
  | [], y => by cases y <;> simp [commonL]
  | a :: x, [] => by simp [commonL]
  | a :: x, b :: y => by
    rw [commonL]
    split
    · rename_i h
      subst h
      rw [List.take_succ_cons, List.take_succ_cons, common_take x y]
    · simp
theorem common_lt : ∀ {x y : Wd}, lessB x y = true → commonL x y < y.length
  | _, [], h => by rw [less_nil] at h; cases h
  | [], b :: y, _ => by simp [commonL]
  | a :: x, b :: y, h => by
    rw [less_cons] at h
    rw [commonL]
    split
    · rename_i hab
      subst hab
      simp [UInt8.lt_irrefl] at h
      have := common_lt h
      simp; omega
    · simp
theorem snoc_below : ∀ {k : Kids} {d c : UInt8} (t : Node), belowK k c → d < c → belowK (snocK k d t) c
  | .nil, d, c, t, _, h => ⟨h, trivial⟩
  | .cons _ _ _ r, d, c, t, hb, h => ⟨hb.1, snoc_below t hb.2 h⟩
/-- A higher word: what its way and the last one's share stays open, the rest is left, and its own rest is new. -/
theorem open_next : ∀ {last w : Wd} {t : Node} {S0 S P : List Stt}, OpenN last t S0 S P → lessB last w = true →
    OpenN w (insN t w) S0 (backP (commonL last w) S P last).1 ((backP (commonL last w) S P last).2 ++ chainP (w.drop (commonL last w + 1)))
  | _, [], _, _, _, _, _, h => by rw [less_nil] at h; cases h
  | [], c :: v, (f, k), S0, S, P, h, _ => by
    obtain ⟨h1, rfl, rfl⟩ := h
    simp only at h1
    subst h1
    refine ⟨.nil, chainN v, chainP v, rfl, trivial, rfl, chain_open v _⟩
  | d :: u, c :: v, (f, k0), S0, S, P, h, hl => by
    obtain ⟨k, sub, P', h1, h2, rfl, h4⟩ := h
    simp only at h1
    subst h1
    rw [less_cons] at hl
    by_cases hdc : d = c
    · subst hdc
      simp [UInt8.lt_irrefl] at hl
      have ih := open_next h4 hl
      rw [show commonL (d :: u) (d :: v) = commonL u v + 1 by rw [commonL, if_pos rfl]]
      refine ⟨k, insN sub v, _, ?_, h2, rfl, ih⟩
      show insK (snocK k d sub) d v = _
      exact ins_more sub v h2
    · have hlt : d < c := by simpa [hdc] using hl
      rw [show commonL (d :: u) (c :: v) = 0 by rw [commonL, if_neg hdc]]
      have hb : belowK (snocK k d sub) c := by
        have hkc : ∀ {r : Kids}, belowK r d → belowK r c := by
          intro r
          induction r with
          | nil => exact fun _ => trivial
          | cons e g s r _ ihr => exact fun h => ⟨UInt8.lt_trans h.1 hlt, ihr h.2⟩
        exact snoc_below sub (hkc h2) hlt
      have hc := open_close h4
      refine ⟨snocK k d sub, chainN v, chainP v, ins_new v hb, hb, ?_, ?_⟩
      · show (f, (leaveK S0 k).2 ++ [(d, (closeP S P' u).2)]) :: chainP v = _
        rw [leave_snoc, hc]; rfl
      · rw [leave_snoc]
        show OpenN v (chainN v) _ (closeP S P' u).1 _
        rw [hc]
        exact chain_open v _
theorem close_step : ∀ (P : List Stt) (u : Wd) (S : List Stt) (p q : Stt) (c : UInt8), P.length = u.length → closeP S (P ++ [p, q]) (u ++ [c]) = closeP (putS S q).1 (P ++ [(p.1, p.2 ++ [(c, (putS S q).2)])]) u
  | [], [], S, p, q, c, _ => rfl
  | [], _ :: _, S, p, q, c, h => by simp at h
  | _ :: _, [], S, p, q, c, h => by simp at h
  | p0 :: P, d :: u, S, p, q, c, h => by
    have ih := close_step P u S p q c (by simpa using h)
    show putS (closeP S (P ++ [p, q]) (u ++ [c])).1 (p0.1, p0.2 ++ [(d, (closeP S (P ++ [p, q]) (u ++ [c])).2)]) = _
    rw [ih]; rfl
theorem back_step : ∀ (n : Nat) (P : List Stt) (u : Wd) (S : List Stt) (p q : Stt) (c : UInt8), P.length = u.length → n ≤ u.length → backP n S (P ++ [p, q]) (u ++ [c]) = backP n (putS S q).1 (P ++ [(p.1, p.2 ++ [(c, (putS S q).2)])]) u
  | 0, [], [], S, p, q, c, _, _ => rfl
  | n + 1, [], [], S, p, q, c, _, h => by simp at h
  | _, [], _ :: _, S, p, q, c, h, _ => by simp at h
  | _, _ :: _, [], S, p, q, c, h, _ => by simp at h
  | 0, p0 :: P, d :: u, S, p, q, c, h, _ => by
    have ih := close_step P u S p q c (by simpa using h)
    show ((closeP S (P ++ [p, q]) (u ++ [c])).1, [(p0.1, p0.2 ++ [(d, (closeP S (P ++ [p, q]) (u ++ [c])).2)])]) = _
    rw [ih]; rfl
  | n + 1, p0 :: P, d :: u, S, p, q, c, h, hn => by
    have ih := back_step n P u S p q c (by simpa using h) (by simpa using hn)
    show ((backP n S (P ++ [p, q]) (u ++ [c])).1, p0 :: (backP n S (P ++ [p, q]) (u ++ [c])).2) = _
    rw [ih]; rfl
theorem back_done : ∀ (n : Nat) (P : List Stt) (u : Wd) (S : List Stt), P.length = u.length + 1 → u.length ≤ n → backP n S P u = (S, P)
  | n, [], u, S, h, _ => by simp at h
  | n, p :: P, [], S, h, _ => by cases n <;> rfl
  | 0, p :: P, c :: u, S, _, h => by simp at h
  | n + 1, p :: P, c :: u, S, h, hn => by
    have ih := back_done n P u S (by simpa using h) (by simpa using hn)
    show ((backP n S P u).1, p :: (backP n S P u).2) = _
    rw [ih]
theorem back_root : ∀ (P : List Stt) (u : Wd) (S : List Stt), P.length = u.length + 1 → ∃ p, (backP 0 S P u).2 = [p] ∧ closeP S P u = putS (backP 0 S P u).1 p
  | [], u, S, h => by simp at h
  | p :: P, [], S, h => by
    have : P = [] := List.eq_nil_of_length_eq_zero (by simpa using h)
    subst this
    exact ⟨p, rfl, rfl⟩
  | p :: P, c :: u, S, h => ⟨_, rfl, rfl⟩
theorem close_pre : ∀ (P : List Stt) (u : Wd) (S : List Stt), S <+: (closeP S P u).1
  | [], u, S => List.prefix_refl _
  | p :: P, [], S => put_pre S p
  | p :: P, c :: u, S => (close_pre P u S).trans (put_pre _ _)
theorem back_len : ∀ (n : Nat) (P : List Stt) (u : Wd) (S : List Stt), P.length = u.length + 1 → (backP n S P u).2.length = min n u.length + 1
  | n, [], u, S, h => by simp at h
  | n, p :: P, [], S, h => by
    have : P = [] := List.eq_nil_of_length_eq_zero (by simpa using h)
    subst this
    cases n <;> simp [backP]
  | 0, p :: P, c :: u, S, h => by simp [backP]
  | n + 1, p :: P, c :: u, S, h => by
    have ih := back_len n P u S (by simpa using h)
    show ((backP n S P u).2).length + 1 = _
    rw [ih]; simp
theorem leave_cnt : ∀ (k : Kids) (S : List Stt), (leaveK S k).2.length ≤ nodesK k
  | .nil, S => Nat.le_refl _
  | .cons c f sub rest, S => by
    have ih := leave_cnt rest (leaveN S (f, sub)).1
    rw [leaveK_cons, nodesK, List.length_cons]
    omega
theorem snoc_nodes : ∀ (k : Kids) (c : UInt8) (t : Node), nodesK (snocK k c t) = nodesK k + (nodesK t.2 + 1)
  | .nil, c, t => by simp only [snocK, nodesK]; omega
  | .cons d f s r, c, t => by
    have ih := snoc_nodes r c t
    simp only [snocK, nodesK, ih]; omega
theorem open_cnt : ∀ {w : Wd} {t : Node} {S0 S P : List Stt}, OpenN w t S0 S P → ∀ p ∈ P, p.2.length ≤ nodesK t.2
  | [], t, S0, S, P, h, p, hp => by
    obtain ⟨_, _, rfl⟩ := h
    simp only [List.mem_singleton] at hp
    rw [hp]; exact Nat.zero_le _
  | c :: v, t, S0, S, P, h, p, hp => by
    obtain ⟨k, sub, P', h1, h2, rfl, h4⟩ := h
    rw [h1, snoc_nodes]
    rcases List.mem_cons.1 hp with rfl | hp
    · have := leave_cnt k S0; simp only; omega
    · have := open_cnt h4 p hp; omega
theorem open_good : ∀ {w : Wd} {t : Node} {S0 S P : List Stt}, OpenN w t S0 S P → GoodS S0 → S0 <+: S ∧ GoodS S ∧ ∀ p ∈ P, ∀ e ∈ p.2, e.2 < S.length
  | [], t, S0, S, P, h, hg => by
    obtain ⟨_, rfl, rfl⟩ := h
    exact ⟨List.prefix_refl _, hg, fun p hp => by simp only [List.mem_singleton] at hp; rw [hp]; simp⟩
  | c :: v, t, S0, S, P, h, hg => by
    obtain ⟨k, sub, P', h1, h2, rfl, h4⟩ := h
    obtain ⟨a1, a2, a3⟩ := leave_good k S0 hg
    obtain ⟨b1, b2, b3⟩ := open_good h4 a2
    refine ⟨a1.trans b1, b2, fun p hp => ?_⟩
    rcases List.mem_cons.1 hp with rfl | hp
    · intro e he
      have := a3 e he
      have := b1.length_le
      omega
    · exact b3 p hp
/-- The bound of all that is left. -/
theorem close_len {l : List Wd} {w : Wd} {S P : List Stt} (h : OpenN w (trieW l) [] S P) : (closeP S P w).1.length ≤ 1 + (l.map List.length).sum := by
  rw [open_close h]
  exact (build_len l).2
end Go.Proofs.Ytmcpiikcgimhpaa
