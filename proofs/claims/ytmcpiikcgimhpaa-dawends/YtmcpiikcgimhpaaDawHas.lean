/- daw.Has: whatever states are gone along. -/
import Derived.Test.YtmcpiikcgimhpaaDawZ
import Derived.Deep.RegionHeld
import Derived.Deep.QuietTactic
import Derived.BigQuiet
namespace Go.Proofs.Ytmcpiikcgimhpaa
open Go.RowKit
set_option linter.unusedVariables false
set_option linter.unusedSimpArgs false

def followV : Option Int → Value
  | some m => .tuple #[.int .i64 m, .bool true]
  | none => .tuple #[.int .i64 0, .bool false]
theorem step_drop {es : List (UInt8 × Int)} {j : Nat} {e : UInt8 × Int} (he : es[j]? = some e) (k : UInt8) : stepZ (es.drop j) k = if e.1 = k then some e.2 else stepZ (es.drop (j + 1)) k := by
  have h := (List.getElem?_eq_some_iff.1 he)
  obtain ⟨h1, h2⟩ := h
  rw [List.drop_eq_getElem_cons h1, h2, stepZ]
theorem byte_eq (a b : UInt8) : ((a.toNat : Int) == b.toNat) = decide (a = b) := by
  by_cases h : a = b
  · subst h; simp
  · rw [decide_eq_false h, beq_eq_false_iff_ne]
    intro h2
    exact h (UInt8.toNat_inj.1 (by omega))
set_option maxRecDepth 100000 in
set_option maxHeartbeats 4000000 in
theorem follow_any {w : World} {eg : Option Addr} {n c : Nat} {es : List (UInt8 × Int)} (h : ReadsE w eg n c (cellsEd es)) (hn : es.length = n) (f : Bool) (k : UInt8) :
    Calls Try.prog 22 #[.agg #[.bool f, .slice eg n c], .int .u8 (k.toNat : Nat)] w fun e w' => e = .returned (followV (stepZ es k)) ∧ Below w.heap.size w w' := by
  have HR : Hid _ := h
  have Hn : Hid _ := hn
  have hmi : n ≤ 9223372036854775807 := by have := Nat.le_trans h.le h.most; unfold maxLen at this; omega
  clear h hn
  go_enter Try.func22, Try.ntmps22
  go_wp2_with fail
  go_loopw [11] (fun i wr => ∃ j : Nat, i = .int .i64 (j : Nat) ∧ j ≤ n ∧ Hid (stepZ es k = stepZ (es.drop j) k) ∧ Hid (Below w.heap.size w wr)) (fun i _ => (n - intOf i).toNat)
  case atStart => exact ⟨0, rfl, Nat.zero_le _, rfl, (Below.refl _ _).alloc (Nat.le_refl _) _⟩
  case round =>
    obtain ⟨j, rfl, hj, hS, hB⟩ := hrel
    by_cases hjl : j < n
    · have q1 : (j : Int) < n := by omega
      obtain ⟨b, off, hao, hb, hcl⟩ := HR.out.edge (by omega)
      obtain ⟨⟨cb, ct⟩, he⟩ : ∃ e, es[j]? = some e := ⟨_, List.getElem?_eq_getElem (by rw [Hn.out]; exact hjl)⟩
      have hcc := hcl j _ he
      simp only at hcc
      subst hao
      have x1 : wr.cell? ⟨b, off + j * 2, none⟩ = some (.int .u8 (cb.toNat : Nat)) := (hB.out.cell (p := ⟨b, off + j * 2, none⟩) hb).trans hcc.1
      have x2 : wr.cell? ⟨b, off + j * 2 + 1, none⟩ = some (.int .i64 ct) := (hB.out.cell (p := ⟨b, off + j * 2 + 1, none⟩) hb).trans hcc.2
      have hst := step_drop he k
      have hsz := hB.out.size
      by_cases hck : cb = k
      · have hE : Hid (stepZ es k = some ct) := by show _ = _; rw [hS.out, hst, if_pos hck]
        have hpp : ((cb.toNat : Int) == k.toNat) = true := by rw [byte_eq]; exact decide_eq_true hck
        have HB : Hid _ := hB.out
        clear hcl hcc he hS hst hck hjl hB hb
        go_wp2
        go_ret2
        rw [hE.out]
        exact ⟨rfl, by
          have h1 := HB.out
          have h2 := h1.size
          repeat' first | exact h1 | (refine Below.setCell ?_ (by first | omega | (simp; done) | (simp; omega)) _) | (refine Below.alloc ?_ (by first | omega | (simp; done) | (simp; omega)) _)⟩
      · have hS' : Hid (stepZ es k = stepZ (es.drop (j + 1)) k) := by show _ = _; rw [hS.out, hst, if_neg hck]
        have hpp : ((cb.toNat : Int) == k.toNat) = false := by rw [byte_eq]; exact decide_eq_false hck
        have HB : Hid _ := hB.out
        clear hcl hcc he hS hst hck hjl hB hb
        go_wp2
        go_roundw
        case rel => exact ⟨j + 1, by go_num, by omega, hS', by
          have h1 := HB.out
          have h2 := h1.size
          show Below _ _ _
          repeat' first | exact h1 | (refine Below.setCell ?_ (by first | omega | (simp; done) | (simp; omega)) _) | (refine Below.alloc ?_ (by first | omega | (simp; done) | (simp; omega)) _)⟩
        case measure => simp [intOf]; omega
    · have q1 : ¬ (j : Int) < n := by omega
      have hE : Hid (stepZ es k = none) := by
        show _ = _
        rw [hS.out, List.drop_eq_nil_of_le (by rw [Hn.out]; omega)]; rfl
      have HB : Hid _ := hB.out
      clear hjl hS hB
      go_wp2
      go_ret2
      rw [hE.out]
      exact ⟨rfl, HB.out⟩

theorem str_at (P : Program) (t : TypeId) (hu : P.underlying t = some .string) {k : Wd} {i : Nat} {c : UInt8} (hc : k[i]? = some c) (W : World) : (Instr.index t (strV k) (.int .i64 (i : Nat))).run P W = .ok (.int .u8 (c.toNat : Nat)) W := by
  obtain ⟨h1, h2⟩ := List.getElem?_eq_some_iff.1 hc
  have hs : (⟨k.toArray⟩ : ByteArray).size = k.length := by simp [ByteArray.size]
  rw [run_index_string (P := P) W t ⟨k.toArray⟩ .i64 i hu, dif_pos ⟨by omega, by rw [hs]; omega⟩]
  subst h2
  rfl
theorem hasn_at {A : List StZ} {m : Nat} {s : StZ} (hs : A[m]? = some s) : atZ A (m : Nat) = some s := by
  unfold atZ; rw [if_neg (by omega), Int.toNat_natCast]; exact hs
theorem hasn_step {A : List StZ} {m : Nat} {s : StZ} (hs : A[m]? = some s) {k : Wd} {i : Nat} {c : UInt8} (hc : k[i]? = some c) : hasZn A (m : Nat) (k.drop i) = match stepZ s.2 c with
    | some q => hasZn A q (k.drop (i + 1))
    | none => false := by
  obtain ⟨h1, h2⟩ := List.getElem?_eq_some_iff.1 hc
  rw [List.drop_eq_getElem_cons h1, h2]
  simp only [hasZn, hasn_at hs]
  cases stepZ s.2 c <;> rfl
theorem hasn_end {A : List StZ} {m : Nat} {s : StZ} (hs : A[m]? = some s) : hasZn A (m : Nat) [] = s.1 := by simp only [hasZn, hasn_at hs]
theorem hasn_out {A : List StZ} {q : Int} (h : q < 0 ∨ (A.length : Int) ≤ q) : ∀ w, hasZn A q w = false := by
  have h1 : atZ A q = none := by
    unfold atZ
    split
    · rfl
    · exact List.getElem?_eq_none (by omega)
  intro w
  cases w <;> simp only [hasZn, h1]
theorem step_in {es : List (UInt8 × Int)} {c : UInt8} {m : Int} (h : stepZ es c = some m) : (c, m) ∈ es := by
  induction es with
  | nil => simp [stepZ] at h
  | cons e es ih =>
    rw [stepZ] at h
    split at h
    · rename_i hc
      simp only [Option.some.injEq] at h
      subst hc h
      exact List.mem_cons_self
    · exact List.mem_cons_of_mem _ (ih h)
set_option maxRecDepth 100000 in
set_option maxHeartbeats 4000000 in
theorem has_any {w : World} {ao : Option Addr} {len cap : Nat} {A : List StZ} (h : ReadsA w ao len cap A) (k : Wd) (hk : k.length ≤ 140737488351232) (hl : len ≤ 1000000000000) (hz : ∀ s ∈ A, ∀ e ∈ s.2, -9223372036854775808 ≤ e.2 ∧ e.2 ≤ 9223372036854775807) :
    Calls Try.prog 11 #[.slice ao len cap, strV k] w fun e w' => e = .returned (.bool (hasZ A k)) ∧ Below w.heap.size w w' := by
  have HR : Hid _ := h
  have Hn : Hid _ := h.count
  have Hz : Hid _ := hz
  have hks : (⟨k.toArray⟩ : ByteArray).size = k.length := by simp [ByteArray.size]
  obtain ⟨n, hn⟩ : ∃ n, n = k.length := ⟨_, rfl⟩
  rw [← hn] at hk hks
  have Hk : Hid (k.length = n) := hn.symm
  clear h hz hn
  by_cases h0 : len = 0
  · subst h0
    have hE : Hid (hasZ A k = false) := by
      show _ = _
      unfold hasZ
      exact hasn_out (.inl (by have := Hn.out; omega)) k
    go_enter Try.func11, Try.ntmps11
    go_wp2
    go_ret
    exact ⟨by rw [hE.out]; rfl, Below.refl _ _⟩
  · obtain ⟨m0, hm0⟩ : ∃ m0 : Nat, len = m0 + 1 := ⟨len - 1, by omega⟩
    have e0 : (len : Int) - 1 = (m0 : Nat) := by omega
    have e1 : ¬ ((m0 : Nat) : Int) < 0 := by omega
    have hm1 : m0 < len := by omega
    have hE0 : hasZ A k = hasZn A (m0 : Nat) k := by unfold hasZ; rw [Hn.out, e0]
    have HE0 : Hid _ := hE0
    clear hm0 h0 hE0
    go_enter Try.func11, Try.ntmps11
    go_wp2_with fail
    go_loopw [5, 16] (fun v i wr => ∃ j m : Nat, i = .int .i64 (j : Nat) ∧ v = .int .i64 (m : Nat) ∧ j ≤ n ∧ m < len ∧ Hid (hasZ A k = hasZn A (m : Nat) (k.drop j)) ∧ Hid (Below w.heap.size w wr)) (fun _ i _ => (n - intOf i).toNat)
    case atStart => exact ⟨0, m0, rfl, rfl, Nat.zero_le _, hm1, HE0.out, Below.refl _ _⟩
    case round =>
      obtain ⟨j, m, rfl, rfl, hj, hm, hH, hB⟩ := hrel
      obtain ⟨b, off, hao, hb, hcl⟩ := HR.out.at (by omega)
      obtain ⟨⟨f, es⟩, hs⟩ : ∃ s, A[m]? = some s := ⟨_, List.getElem?_eq_getElem (by rw [Hn.out]; exact hm)⟩
      obtain ⟨eg, ec, c1, c2, er⟩ := hcl m _ hs
      simp only at c1 c2 er
      subst hao
      have hmi : (m : Int) < len := by omega
      have hml : (len : Int) ≤ 1000000000000 := by omega
      by_cases hjl : j < n
      · have q1 : (j : Int) < n := by omega
        obtain ⟨c, hc⟩ : ∃ c, k[j]? = some c := ⟨_, List.getElem?_eq_getElem (by rw [Hk.out]; exact hjl)⟩
        have hst := hasn_step hs hc
        have hidx := fun W => str_at Try.prog 9 Try.underlying9 hc W
        have y1 : ∀ W, Below wr.heap.size wr W → W.cell? ⟨b, off + m * 2, none⟩ = some (.bool f) := fun W hW => ((hB.out.trans (hW.mono hB.out.size)).cell (p := ⟨b, off + m * 2, none⟩) hb).trans c1
        have y2 : ∀ W, Below wr.heap.size wr W → W.cell? ⟨b, off + m * 2 + 1, none⟩ = some (.slice eg es.length ec) := fun W hW => ((hB.out.trans (hW.mono hB.out.size)).cell (p := ⟨b, off + m * 2 + 1, none⟩) hb).trans c2
        have hfo : ∀ W, Below wr.heap.size wr W → Calls Try.prog 22 #[.agg #[.bool f, .slice eg es.length ec], .int .u8 (c.toNat : Nat)] W fun e w' => e = .returned (followV (stepZ es c)) ∧ Below wr.heap.size wr w' := fun W hW => (follow_any (er.later (hB.out.trans (hW.mono hB.out.size)) (Nat.le_refl _)) rfl f c).mono fun e w' h => ⟨h.1, hW.trans (h.2.mono hW.size)⟩
        have hzz : ∀ q, stepZ es c = some q → -9223372036854775808 ≤ q ∧ q ≤ 9223372036854775807 := fun q hq => Hz.out _ (List.mem_of_getElem? hs) _ (step_in hq)
        have HB : Hid _ := hB.out
        have HH : Hid _ := hH.out
        have Hst : Hid _ := hst
        have Hzz : Hid _ := hzz
        have Hj : Hid (j < n) := hjl
        clear hcl hs hc c1 c2 er hB hH hst hjl hzz hb
        cases hq : stepZ es c with
        | none =>
          rw [hq] at hfo
          simp only [followV] at hfo
          have hE : Hid (hasZ A k = false) := by show _ = _; rw [HH.out, Hst.out]; simp only [hq]
          clear hq HH Hst Hzz
          go_wp2_with fail
          first | go_region_held (fun W => Below wr.heap.size wr W) (first | exact Below.refl _ _ | exact Below.drew (Below.refl _ _) | assumption | exact Below.drew (by assumption)) (first | (go_at_call 22; refine (hfo _ (by first | exact Below.refl _ _ | exact Below.drew (Below.refl _ _) | assumption | exact Below.drew (by assumption))).mono ?_; rintro e wb ⟨rfl, hwb⟩)) | fail
          all_goals
            go_wp2
            go_ret
            exact ⟨by rw [hE.out]; try rfl, HB.out.trans (Below.mono (B := wr.heap.size) (by assumption) HB.out.size)⟩
        | some q =>
          rw [hq] at hfo
          simp only [followV] at hfo
          have hqz := Hzz.out q hq
          obtain ⟨q, rfl⟩ | hneg : (∃ q' : Nat, q = (q' : Int)) ∨ q < 0 := by
            by_cases h : q < 0
            · exact .inr h
            · exact .inl ⟨q.toNat, by omega⟩
          · have hqi : ¬ (q : Int) < 0 := by omega
            by_cases hql : q < len
            · have hqq : (q : Int) < len := by omega
              have hqn : ¬ (len : Int) ≤ q := by omega
              have hS' : Hid (hasZ A k = hasZn A (q : Nat) (k.drop (j + 1))) := by show _ = _; rw [HH.out, Hst.out]; simp only [hq]
              clear hq HH Hst Hzz hqz
              go_wp2_with fail
              first | go_region_held (fun W => Below wr.heap.size wr W) (first | exact Below.refl _ _ | exact Below.drew (Below.refl _ _) | assumption | exact Below.drew (by assumption)) (first | (go_at_call 22; refine (hfo _ (by first | exact Below.refl _ _ | exact Below.drew (Below.refl _ _) | assumption | exact Below.drew (by assumption))).mono ?_; rintro e wb ⟨rfl, hwb⟩)) | fail
              all_goals
                go_wp2
                go_roundw
                case rel => exact ⟨j + 1, q, by go_num, rfl, by have := Hj.out; omega, hql, hS', HB.out.trans (Below.mono (B := wr.heap.size) (by assumption) HB.out.size)⟩
                case measure => have := Hj.out; simp [intOf]; omega
            · have hqq : ¬ (q : Int) < len := by omega
              have hqn : (len : Int) ≤ q := by omega
              have hE : Hid (hasZ A k = false) := by show _ = _; rw [HH.out, Hst.out]; simp only [hq]; exact hasn_out (.inr (by rw [Hn.out]; exact hqn)) _
              clear hq HH Hst Hzz hqz
              go_wp2_with fail
              first | go_region_held (fun W => Below wr.heap.size wr W) (first | exact Below.refl _ _ | exact Below.drew (Below.refl _ _) | assumption | exact Below.drew (by assumption)) (first | (go_at_call 22; refine (hfo _ (by first | exact Below.refl _ _ | exact Below.drew (Below.refl _ _) | assumption | exact Below.drew (by assumption))).mono ?_; rintro e wb ⟨rfl, hwb⟩)) | fail
              all_goals
                go_wp2
                go_ret
                exact ⟨by rw [hE.out]; try rfl, HB.out.trans (Below.mono (B := wr.heap.size) (by assumption) HB.out.size)⟩
          · have hE : Hid (hasZ A k = false) := by show _ = _; rw [HH.out, Hst.out]; simp only [hq]; exact hasn_out (.inl hneg) _
            clear hq HH Hst Hzz hqz
            go_wp2_with fail
            first | go_region_held (fun W => Below wr.heap.size wr W) (first | exact Below.refl _ _ | exact Below.drew (Below.refl _ _) | assumption | exact Below.drew (by assumption)) (first | (go_at_call 22; refine (hfo _ (by first | exact Below.refl _ _ | exact Below.drew (Below.refl _ _) | assumption | exact Below.drew (by assumption))).mono ?_; rintro e wb ⟨rfl, hwb⟩)) | fail
            all_goals
              go_wp2
              go_ret
              exact ⟨by rw [hE.out]; try rfl, HB.out.trans (Below.mono (B := wr.heap.size) (by assumption) HB.out.size)⟩
      · have q1 : ¬ (j : Int) < n := by omega
        have hE : Hid (hasZ A k = f) := by
          show _ = _
          rw [hH.out, List.drop_eq_nil_of_le (by rw [Hk.out]; omega)]
          exact hasn_end hs
        have y1 : wr.cell? ⟨b, off + m * 2, none⟩ = some (.bool f) := (hB.out.cell (p := ⟨b, off + m * 2, none⟩) hb).trans c1
        have y2 : wr.cell? ⟨b, off + m * 2 + 1, none⟩ = some (.slice eg es.length ec) := (hB.out.cell (p := ⟨b, off + m * 2 + 1, none⟩) hb).trans c2
        have HB : Hid _ := hB.out
        clear hcl hs hB hH hb c1 c2 er
        go_wp2
        go_ret
        exact ⟨by rw [hE.out]; try rfl, HB.out⟩
#print axioms has_any
end Go.Proofs.Ytmcpiikcgimhpaa
