/- A map from counts to classes in memory; counts that rise, and how many are above each. -/
import Derived.Test.YtnojjipoppemcaaRankMath
import Derived.Test.YtnojjipoppemcaaKeysU
namespace Go.Proofs.Ytnojjipoppemcaa
open Go.RowKit Go.Maps Go.MapKept Go.WideShapes Go.ChangeMaps
set_option linter.unusedVariables false
set_option linter.unusedSimpArgs false

/-- The map at bm has just the keys ks, and f's values. -/
def MapU (w : World) (bm nn : Nat) (ks : List Nat) (f : Nat → Nat) : Prop := ∃ D : DataW Unit, w.ownsMap Try.prog 23 (plainElem Try.prog 3) bm nn D ∧
  (∀ x : Int, Maps.has D (.int .u64 x) = true ↔ ∃ c ∈ ks, x = (c : Nat)) ∧ ∀ c ∈ ks, D.atKey (.int .u64 (c : Nat)) (.lit (.int .i64 0)) = .lit (.int .i64 (f c : Nat))
theorem MapU.congr {w : World} {bm nn : Nat} {ks ls : List Nat} {f g : Nat → Nat} (h : MapU w bm nn ks f) (hk : ∀ x, x ∈ ls ↔ x ∈ ks) (hf : ∀ c ∈ ls, g c = f c) : MapU w bm nn ls g := by
  obtain ⟨D, h1, h2, h3⟩ := h
  refine ⟨D, h1, fun x => (h2 x).trans ⟨fun ⟨c, hc, e⟩ => ⟨c, (hk c).2 hc, e⟩, fun ⟨c, hc, e⟩ => ⟨c, (hk c).1 hc, e⟩⟩, fun c hc => ?_⟩
  rw [hf c hc]; exact h3 c ((hk c).1 hc)
theorem MapU.blk {w : World} {bm nn : Nat} {ks : List Nat} {f : Nat → Nat} (h : MapU w bm nn ks f) : ∃ xs c, w.heap[bm]? = some (.map xs c) := by
  obtain ⟨D, ⟨xs, clock, h1, h2⟩, h3⟩ := h
  exact ⟨xs, clock, h1⟩
theorem MapU.same {w w' : World} {bm nn : Nat} {ks : List Nat} {f : Nat → Nat} (h : MapU w bm nn ks f) (hb : w'.heap[bm]? = w.heap[bm]?) : MapU w' bm nn ks f := by
  obtain ⟨D, ⟨xs, clock, h1, h2⟩, h3⟩ := h
  exact ⟨D, ⟨xs, clock, hb.trans h1, h2⟩, h3⟩
theorem MapU.lt {w : World} {bm nn : Nat} {ks : List Nat} {f : Nat → Nat} (h : MapU w bm nn ks f) : bm < w.heap.size := by
  obtain ⟨xs, c, hm⟩ := h.blk
  exact (Array.getElem?_eq_some_iff.1 hm).1
theorem MapU.later {w w' : World} {bm nn B : Nat} {ks : List Nat} {f : Nat → Nat} (h : MapU w bm nn ks f) (hb : Below B w w') (hB : bm < B) : MapU w' bm nn ks f := h.same (hb.block bm hB)
theorem MapU.made (w : World) (f : Nat → Nat) : MapU (w.alloc (.map #[] 0)) w.heap.size 0 [] f := ⟨.map [], World.ownsMap_made _ _ _ _, fun x => by simp [Maps.has, Maps.has], fun c hc => by cases hc⟩
theorem key_u64 (c : Nat) (hc : c ≤ 18446744073709551615) : keyOf Try.prog 23 (.int .u64 (c : Nat)) = some (.int .u64 (c : Nat)) := keyOf_int_mk Try.underlying23 (WalkArith.wf_u64 (by omega))
theorem MapU.look {w : World} {bm nn : Nat} {ks : List Nat} {f : Nat → Nat} (h : MapU w bm nn ks f) {c : Nat} (hc : c ∈ ks) (hb : c ≤ 18446744073709551615) :
    (Instr.lookup 42 (.map (some bm)) (.int .u64 (c : Nat)) false).run Try.prog w = .ok (.int .i64 (f c : Nat)) w := by
  obtain ⟨D, h1, h2, h3⟩ := h
  obtain ⟨v, hrun, hv, _⟩ := h1.lookup_int keyedU Try.underlying42 Try.underlying3 (Try.zeroValue3 w) (key_u64 c hb)
  rw [h3 c hc] at hv
  simp only [DataW.lit.injEq, Lit.int.injEq, true_and] at hv
  rw [hrun, ← hv]
theorem MapU.put {w : World} {bm nn : Nat} {ks : List Nat} {f : Nat → Nat} (h : MapU w bm nn ks f) (c v : Nat) (hb : c ≤ 18446744073709551615) (hv : v ≤ 9223372036854775807) (hn : nn ≤ 1000000000) :
    ∃ w', (Instr.mapUpdate 42 (.map (some bm)) (.int .u64 (c : Nat)) (.int .i64 (v : Nat))).run Try.prog w = .ok () w' ∧ MapU w' bm (nn + 1) (c :: ks) (fun x => if x = c then v else f x) ∧ w.grownBy w' (some bm) := by
  obtain ⟨D, h1, h2, h3⟩ := h
  obtain ⟨w', hrun, ho, ht⟩ := h1.store keyedU Try.underlying42 (by unfold maxLen; omega) (key_u64 c hb) (plainElem_int Try.underlying3 (a := (v : Nat)) (WalkArith.wf_i64 (by omega)))
  have hkl : WideAt.IsKeyLit (Lit.int .u64 (c : Nat)) := trivial
  refine ⟨w', hrun, ⟨_, ho, fun x => ?_, fun d hd => ?_⟩, ht.grown⟩
  · by_cases e : x = (c : Nat)
    · subst e
      exact ⟨fun _ => ⟨c, by simp, rfl⟩, fun _ => Maps.has_put_same h1.isMap hkl _⟩
    · have hne : (Lit.int .u64 x) ≠ .int .u64 (c : Nat) := fun e' => e (by simpa using e')
      rw [Maps.has_put_other hne, h2]
      exact ⟨fun ⟨d, hd, e'⟩ => ⟨d, by simp [hd], e'⟩, fun ⟨d, hd, e'⟩ => ⟨d, by rcases List.mem_cons.1 hd with rfl | hd; exact absurd e' e; exact hd, e'⟩⟩
  · by_cases e : d = c
    · subst e
      show _ = DataW.lit (.int .i64 ((if d = d then v else f d : Nat) : Int))
      rw [if_pos rfl]
      exact Maps.atKey_put_same h1.isMap hkl _ _
    · have hne : (Lit.int .u64 (d : Nat)) ≠ .int .u64 (c : Nat) := fun e' => e (by simp at e'; omega)
      show _ = DataW.lit (.int .i64 ((if d = c then v else f d : Nat) : Int))
      rw [if_neg e, Maps.atKey_put_other hne]
      rcases List.mem_cons.1 hd with e' | hd
      · exact absurd e' e
      · exact h3 d hd

/-- Counts that rise: all that are in cs, each once. -/
structure RisesN (cs R : List Nat) : Prop where
  mem : ∀ x, x ∈ R ↔ x ∈ cs
  up : R.Pairwise (· < ·)
theorem RisesN.above {cs R : List Nat} (h : RisesN cs R) {i c : Nat} (hi : R[i]? = some c) : aboveN cs c = R.length - 1 - i := by
  have hlt : i < R.length := (List.getElem?_eq_some_iff.1 hi).1
  have hnd : (R.drop (i + 1)).Nodup := (h.up.imp fun {a b} h => Nat.ne_of_lt h).sublist (List.drop_sublist _ _)
  have hc : R[i] = c := (List.getElem?_eq_some_iff.1 hi).2
  have := nodup_eq (above_nodup cs c) hnd fun x => by
    rw [above_mem, ← h.mem]
    constructor
    · rintro ⟨hx, hcx⟩
      obtain ⟨k, hk, rfl⟩ := List.getElem_of_mem hx
      have hik : i < k := by
        rcases Nat.lt_trichotomy i k with h' | h' | h'
        · exact h'
        · subst h'; omega
        · have := List.pairwise_iff_getElem.1 h.up k i hk hlt h'
          omega
      exact List.mem_of_getElem? (i := k - (i + 1)) (by rw [List.getElem?_drop, show i + 1 + (k - (i + 1)) = k by omega]; exact List.getElem?_eq_getElem hk)
    · intro hx
      obtain ⟨k, hk⟩ := List.getElem?_of_mem hx
      rw [List.getElem?_drop] at hk
      have hk' := List.getElem?_eq_some_iff.1 hk
      exact ⟨List.mem_of_getElem? hk, by have := List.pairwise_iff_getElem.1 h.up i (i + 1 + k) hlt hk'.1 (by omega); rw [hk'.2, hc] at this; exact this⟩
  unfold aboveN
  rw [this, List.length_drop]
  omega
/-- What the map gave, sorted. -/
theorem rises_of {D : DataW Unit} {cs : List Nat} {ss : List Int} (hD : ∀ x : Int, Maps.has D (.int .u64 x) = true ↔ ∃ c ∈ cs, x = (c : Nat)) (hs : AllU D ss) :
    ∃ R : List Nat, risen ss = R.map (fun c => ((c : Nat) : Int)) ∧ R.length = ss.length ∧ RisesN cs R := by
  have hp : (risen ss).Perm ss := List.mergeSort_perm ss _
  have hmem : ∀ x : Int, x ∈ risen ss ↔ ∃ c ∈ cs, x = (c : Nat) := fun x => by rw [hp.mem_iff, hs.2 x, hD x]
  have e : ((risen ss).map Int.toNat).map (fun c => ((c : Nat) : Int)) = risen ss := by
    rw [List.map_map]
    conv => rhs; rw [← List.map_id (risen ss)]
    apply List.map_congr_left
    intro x hx
    obtain ⟨c, _, rfl⟩ := (hmem x).1 hx
    rfl
  refine ⟨(risen ss).map Int.toNat, e.symm, by rw [List.length_map, hp.length_eq], ⟨fun x => ?_, ?_⟩⟩
  · rw [List.mem_map]
    constructor
    · rintro ⟨y, hy, rfl⟩
      obtain ⟨c, hc, rfl⟩ := (hmem y).1 hy
      simpa using hc
    · intro hx
      exact ⟨(x : Int), (hmem _).2 ⟨x, hx, rfl⟩, rfl⟩
  · have h1 : (risen ss).Pairwise (fun x y => decide (x ≤ y) = true) := List.pairwise_mergeSort (fun a b c h1 h2 => by simp only [decide_eq_true_eq] at *; omega) (fun a b => by simp only [Bool.or_eq_true, decide_eq_true_eq]; omega) ss
    have h2 : (risen ss).Nodup := hp.nodup_iff.2 hs.1
    have h3 : (risen ss).Pairwise (fun x y => x < y) := by
      refine (h1.and h2).imp ?_
      rintro a b ⟨h, h'⟩
      simp only [decide_eq_true_eq] at h
      omega
    rw [List.pairwise_map]
    refine List.Pairwise.imp_of_mem ?_ h3
    intro a b ha hb hab
    obtain ⟨c, _, rfl⟩ := (hmem a).1 ha
    obtain ⟨d, _, rfl⟩ := (hmem b).1 hb
    simp; omega
end Go.Proofs.Ytnojjipoppemcaa
