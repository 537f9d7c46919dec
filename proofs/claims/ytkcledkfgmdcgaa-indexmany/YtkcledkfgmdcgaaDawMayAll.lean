/- daw.May of whatever states. -/
import Derived.Test.YtkcledkfgmdcgaaDawInTurn
namespace Go.Proofs.Ytkcledkfgmdcgaa
open Go.RowKit
set_option linter.unusedVariables false
set_option linter.unusedSimpArgs false

theorem zA_inj : ∀ {x y : List Stt}, zA x = zA y → x = y
  | [], [], _ => rfl
  | [], _ :: _, h => by simp [zA] at h
  | _ :: _, [], h => by simp [zA] at h
  | a :: x, b :: y, h => by
    have h' : ((a.1, zE a.2) : StZ) :: zA x = (b.1, zE b.2) :: zA y := h
    simp only [List.cons.injEq] at h'
    rw [zS_inj h'.1, zA_inj h'.2]
theorem z_of_edges : ∀ {es : List (UInt8 × Int)}, (∀ e ∈ es, 0 ≤ e.2) → es = zE (es.map fun e => (e.1, e.2.toNat))
  | [], _ => rfl
  | e :: es, h => by
    have h1 := h e List.mem_cons_self
    have h2 := z_of_edges (es := es) fun x hx => h x (List.mem_cons_of_mem _ hx)
    show e :: es = (e.1, ((e.2.toNat : Nat) : Int)) :: zE (es.map fun e => (e.1, e.2.toNat))
    rw [← h2, Int.toNat_of_nonneg h1]
theorem z_of : ∀ {A : List StZ}, (∀ s ∈ A, ∀ e ∈ s.2, 0 ≤ e.2) → ∃ B, A = zA B
  | [], _ => ⟨[], rfl⟩
  | s :: A, h => by
    obtain ⟨B, hB⟩ := z_of (A := A) fun x hx => h x (List.mem_cons_of_mem _ hx)
    refine ⟨(s.1, s.2.map fun e => (e.1, e.2.toNat)) :: B, ?_⟩
    show s :: A = (s.1, zE (s.2.map fun e => (e.1, e.2.toNat))) :: zA B
    rw [← hB, ← z_of_edges (h s List.mem_cons_self)]
theorem rise_at {es : List (UInt8 × Nat)} (h : RiseEd es) : ∀ (i : Nat) (hi : i < es.length), i ≤ (es[i]).1.toNat
  | 0, _ => Nat.zero_le _
  | i + 1, hi => by
    have h1 := rise_at h i (by omega)
    have h2 := List.pairwise_iff_getElem.1 h i (i + 1) (by omega) hi (by omega)
    have h3 := UInt8.lt_iff_toNat_lt.1 h2
    omega
theorem rise_256 {es : List (UInt8 × Nat)} (h : RiseEd es) : es.length ≤ 256 := by
  by_cases h0 : es.length ≤ 256
  · exact h0
  · have h1 := rise_at h 256 (by omega)
    have h2 := (es[256]'(by omega)).1.toNat_lt
    omega
theorem rise_zE {es : List (UInt8 × Nat)} : RiseZ (zE es) ↔ RiseEd es := by
  unfold RiseZ RiseEd zE
  rw [List.pairwise_map]
def FitZ (s : StZ) (i : Nat) : Prop := (s.1 = true ∨ s.2 ≠ []) ∧ LowP s.2 i
theorem fit_z {A : List StZ} (h : ∀ (i : Nat) (s : StZ), A[i]? = some s → FitZ s i) : ∃ B, A = zA B ∧ ∀ (i : Nat) (s : Stt), B[i]? = some s → (s.1 = true ∨ s.2 ≠ []) ∧ (∀ e ∈ s.2, e.2 < i) ∧ RiseEd s.2 := by
  obtain ⟨B, rfl⟩ := z_of (A := A) fun s hs e he => by
    obtain ⟨i, hi⟩ := List.getElem?_of_mem hs
    exact ((h i s hi).2.1 e he).1
  refine ⟨B, rfl, fun i s hs => ?_⟩
  obtain ⟨h1, h2, h3⟩ := h i _ (zA_at hs)
  refine ⟨h1.imp id fun h4 h5 => h4 (by simp only; rw [h5]; rfl), fun e he => ?_, rise_zE.1 h3⟩
  have := (h2 (e.1, (e.2 : Int)) (List.mem_map.2 ⟨e, he, rfl⟩)).2
  simp only at this
  omega
theorem may_fit {A : List StZ} (hne : ∀ f, A ≠ [(f, [])]) (h : MayP A) : A ≠ [] ∧ (∀ s, A[A.length - 1]? = some s → s.1 = false) ∧ ∀ (i : Nat) (s : StZ), A[i]? = some s → FitZ s i := by
  rcases h with h | ⟨_, B, rfl, hB⟩
  · exact absurd h (hne false)
  refine ⟨fun h => hB.any (by cases B with | nil => rfl | cons a b => simp [zA] at h), fun s hs => ?_, fun i s hs => ?_⟩
  · rw [zA_len] at hs
    unfold zA at hs
    rw [List.getElem?_map, Option.map_eq_some_iff] at hs
    obtain ⟨t, ht, rfl⟩ := hs
    exact hB.first t ht
  · unfold zA at hs
    rw [List.getElem?_map, Option.map_eq_some_iff] at hs
    obtain ⟨t, ht, rfl⟩ := hs
    obtain ⟨h1, h2, h3⟩ := hB.each i t ht
    refine ⟨h1.imp id fun h4 h5 => h4 (by simp only [zE, List.map_eq_nil_iff] at h5; exact h5), fun e he => ?_, rise_zE.2 h3⟩
    obtain ⟨d, hd, rfl⟩ := List.mem_map.1 he
    have := h2 d hd
    simp only
    omega
theorem may_iff {B : List Stt} {m : Nat} (hne : ∀ f, zA B ≠ [(f, [])]) (hlen : B.length = m + 1) (hlast : ∀ s, B[m]? = some s → s.1 = false) (heach : ∀ (i : Nat) (s : Stt), B[i]? = some s → (s.1 = true ∨ s.2 ≠ []) ∧ (∀ e ∈ s.2, e.2 < i) ∧ RiseEd s.2) :
    MayP (zA B) ↔ B.Nodup ∧ ∃ x, turnN B (m + 1) m 0 = some x := by
  constructor
  · rintro (h | ⟨_, B', h, hB⟩)
    · exact absurd h (hne false)
    · obtain rfl := zA_inj h
      refine ⟨hB.nodup, ?_⟩
      have := hB.turn
      rw [hlen, Nat.add_sub_cancel] at this
      exact this
  · rintro ⟨h1, h2⟩
    refine .inr ⟨hne, B, rfl, ⟨fun h => by rw [h] at hlen; simp at hlen, fun s hs => ?_, heach, h1, ?_⟩⟩
    · rw [hlen, Nat.add_sub_cancel] at hs
      exact hlast s hs
    · rw [hlen, Nat.add_sub_cancel]; exact h2
theorem readsA_nil {w : World} {ao : Option Addr} {cap : Nat} {A : List StZ} (h : ReadsA w ao 0 cap A) : A = [] := List.eq_nil_of_length_eq_zero h.count
set_option maxRecDepth 100000 in
set_option maxHeartbeats 4000000 in
theorem amay_any {w : World} {ao : Option Addr} {len cap : Nat} {A : List StZ} (h : ReadsA w ao len cap A) (hl : len ≤ 10000000000000) (hz : ∀ s ∈ A, ∀ e ∈ s.2, -9223372036854775808 ≤ e.2 ∧ e.2 ≤ 9223372036854775807) :
    Calls Try.prog 19 #[.slice ao len cap] w fun e w' => Tells e (MayP A) ∧ Below w.heap.size w w' := by
  have HR : Hid _ := h
  have Hn : Hid (A.length = len) := h.count
  have Hz : Hid _ := hz
  by_cases h0 : len = 0
  · subst h0
    have hE : Hid (¬ MayP A) := by
      show ¬ _
      rw [readsA_nil h]
      intro hm
      exact (may_fit (fun f h => by cases h) hm).1 rfl
    clear h hz
    go_enter Try.func19, Try.ntmps19
    go_wp2
    go_ret
    exact ⟨tells_no hE.out, Below.refl _ _⟩
  obtain ⟨m, rfl⟩ : ∃ m, len = m + 1 := ⟨len - 1, by omega⟩
  clear h hz h0
  obtain ⟨b, off, hao, hb, hcl⟩ := HR.out.at (by omega)
  obtain ⟨⟨f0, es0⟩, hs0⟩ : ∃ s, A[0]? = some s := ⟨_, List.getElem?_eq_getElem (by rw [Hn.out]; omega)⟩
  obtain ⟨eg0, ec0, a1, a2, ar⟩ := hcl 0 _ hs0
  obtain ⟨⟨fm, esm⟩, hsm⟩ : ∃ s, A[m]? = some s := ⟨_, List.getElem?_eq_getElem (by rw [Hn.out]; omega)⟩
  obtain ⟨egm, ecm, b1, b2, br⟩ := hcl m _ hsm
  obtain ⟨k0, hk0⟩ : ∃ k0, k0 = es0.length := ⟨_, rfl⟩
  simp only [Nat.zero_mul, Nat.add_zero, ← hk0] at a1 a2 ar b1
  have hkm0 : k0 ≤ 9223372036854775807 := by have := Nat.le_trans ar.le ar.most; unfold maxLen at this; omega
  have Hk0 : Hid (k0 = es0.length) := hk0
  subst hao
  have Hb : Hid _ := hb
  have Hcl : Hid _ := hcl
  by_cases h1 : m = 0 ∧ k0 = 0
  · obtain ⟨rfl, hk00⟩ := h1
    have hnil : es0 = [] := List.eq_nil_of_length_eq_zero (by rw [← hk0, hk00])
    have hA : A = [(f0, [])] := by
      have hl1 := Hn.out
      match A, hl1, hs0 with
      | [a], _, hs => simp at hs; rw [hs, hnil]
    have hE : Hid (MayP A ↔ f0 = false) := by
      show _ ↔ _
      rw [hA]
      constructor
      · rintro (h | ⟨h, _⟩)
        · simpa using h
        · exact absurd rfl (h f0)
      · intro h; rw [h]; exact .inl rfl
    subst hk00
    clear hk0 hs0 hsm b1 b2 br ar hnil hA hcl
    go_enter Try.func19, Try.ntmps19
    go_wp2
    go_ret
    exact ⟨tells_of (by rw [hE.out]; cases f0 <;> simp), Below.refl _ _⟩
  have hne : Hid (∀ f, A ≠ [(f, [])]) := by
    show ∀ f, _
    intro f h
    have hl1 := Hn.out
    rw [h] at hl1 hs0
    simp at hl1 hs0
    exact h1 ⟨by omega, by rw [hk0, hs0.2]; rfl⟩
  clear hs0 hcl
  cases fm with
  | true =>
    have hE : Hid (¬ MayP A) := by
      show ¬ _
      intro hm
      have := (may_fit hne.out hm).2.1 (true, esm) (by rw [Hn.out, Nat.add_sub_cancel]; exact hsm)
      cases this
    clear hsm br ar hk0 b2
    by_cases h2 : m = 0
    · have h3 : ¬ k0 = 0 := fun e => h1 ⟨h2, e⟩
      have h4 : ((k0 : Int) == 0) = false := zero_not (by omega)
      have h5 : ((m : Int) + 1 == 0) = false := by rw [beq_eq_false_iff_ne]; omega
      have h6 : ((m : Int) + 1 == 1) = true := by rw [h2]; rfl
      clear h1 h3 h2
      go_enter Try.func19, Try.ntmps19
      go_wp2
      go_ret
      exact ⟨tells_no hE.out, Below.refl _ _⟩
    · have h4 : ((m : Int) + 1 == 1) = false := by rw [beq_eq_false_iff_ne]; omega
      have h5 : ((m : Int) + 1 == 0) = false := by rw [beq_eq_false_iff_ne]; omega
      clear h1
      go_enter Try.func19, Try.ntmps19
      go_wp2
      go_ret
      exact ⟨tells_no hE.out, Below.refl _ _⟩
  | false =>
    have hlast : Hid (∀ s, A[m]? = some s → s.1 = false) := by show ∀ s, _; intro s hs; rw [hsm] at hs; cases hs; rfl
    have h5 : ((m : Int) + 1 == 0) = false := by rw [beq_eq_false_iff_ne]; omega
    clear hsm br ar hk0 b2
    have hcase : (((m : Int) + 1 == 1) = true ∧ ((k0 : Int) == 0) = false) ∨ ((m : Int) + 1 == 1) = false := by
      by_cases h2 : m = 0
      · exact .inl ⟨by rw [h2]; rfl, zero_not (by have h3 : ¬ k0 = 0 := fun e => h1 ⟨h2, e⟩; omega)⟩
      · exact .inr (by rw [beq_eq_false_iff_ne]; omega)
    clear h1
    go_enter Try.func19, Try.ntmps19
    rcases hcase with ⟨h6, h4⟩ | h6
    all_goals
      go_wp2_with fail
      clear a1 a2 b1
      go_loopw [35] (fun i wr => ∃ j : Nat, i = .int .i64 (j : Nat) ∧ j ≤ m + 1 ∧ Hid (∀ (i : Nat) (s : StZ), i < j → A[i]? = some s → FitZ s i) ∧ Hid (Below w.heap.size w wr)) (fun i _ => (m + 1 - intOf i).toNat)
      case atStart => exact ⟨0, rfl, Nat.zero_le _, (show ∀ (i : Nat) (s : StZ), i < 0 → _ from fun i s hi => by omega), Below.refl _ _⟩
      case round =>
        obtain ⟨j, rfl, hj, hF, hB⟩ := hrel
        by_cases hjl : j < m + 1
        · have q1 : (j : Int) < (m : Int) + 1 := by omega
          obtain ⟨⟨f, es⟩, hs⟩ : ∃ s, A[j]? = some s := ⟨_, List.getElem?_eq_getElem (by rw [Hn.out]; exact hjl)⟩
          obtain ⟨eg, ec, c1, c2, er⟩ := Hcl.out j _ hs
          obtain ⟨k, hk⟩ : ∃ k, k = es.length := ⟨_, rfl⟩
          simp only [← hk] at c1 c2 er
          have hkm : k ≤ 9223372036854775807 := by have := Nat.le_trans er.le er.most; unfold maxLen at this; omega
          have x1 : wr.cell? ⟨b, off + j * 2, none⟩ = some (.bool f) := (hB.out.cell (p := ⟨b, off + j * 2, none⟩) Hb.out).trans c1
          have x2 : wr.cell? ⟨b, off + j * 2 + 1, none⟩ = some (.slice eg k ec) := (hB.out.cell (p := ⟨b, off + j * 2 + 1, none⟩) Hb.out).trans c2
          have HF : Hid _ := hF.out
          have HB : Hid (Below w.heap.size w wr) := hB.out
          have HER : Hid _ := er
          have Hk : Hid (es.length = k) := hk.symm
          have HX : Hid (A[j]? = some (f, es)) := hs
          have hnb : w.heap.size ≤ wr.heap.size := hB.out.size
          clear hF hB c1 c2 er hk hs hjl
          go_upto_region 8 with (fail)
          obtain ⟨W1, hW1⟩ : ∃ W1, W1 = wr.alloc (.cells #[.bool f, .slice eg k ec] 45) := ⟨_, rfl⟩
          rw [← hW1]
          have e1 : W1.heap[wr.heap.size]? = some (.cells #[.bool f, .slice eg k ec] 45 (0, 0)) := by rw [hW1]; exact heap_alloc_new _ _
          have E1 : Hid _ := e1
          have y1 : W1.cell? ⟨wr.heap.size, 0, none⟩ = some (.bool f) := cell_of e1 0
          have y2 : W1.cell? ⟨wr.heap.size, 1, none⟩ = some (.slice eg k ec) := cell_of e1 1
          have B1 : Hid (Below w.heap.size w W1) := by rw [hW1]; exact HB.out.alloc hnb _
          have pe := ends_any f eg k ec W1 hkm
          clear hW1 e1 x1 x2 HB
          cases he : (f || decide (0 < k)) with
          | false =>
            rw [he] at pe
            have hE : Hid (¬ MayP A) := by
              show ¬ _
              intro hm
              have h7 := ((may_fit hne.out hm).2.2 j _ HX.out).1
              have h8 := Hk.out
              simp only [Bool.or_eq_false_iff, decide_eq_false_iff_not] at he
              rcases h7 with h7 | h7
              · simp only at h7; rw [he.1] at h7; cases h7
              · exact h7 (List.eq_nil_of_length_eq_zero (by simp only; omega))
            clear he
            go_wp2_with fail
            refine pe.mono ?_
            rintro e w2 ⟨rfl, hb2⟩
            have B2 : Hid (Below w.heap.size w w2) := B1.out.trans (hb2.mono B1.out.size)
            clear pe hb2 y1 y2
            go_wp2_with fail
            go_ret
            exact ⟨tells_no hE.out, B2.out⟩
          | true =>
            rw [he] at pe
            have hU : Hid (f = true ∨ es ≠ []) := by
              show _ ∨ _
              simp only [Bool.or_eq_true, decide_eq_true_eq] at he
              exact he.imp id fun h h' => by have := Hk.out; rw [h'] at this; simp at this; omega
            clear he
            go_wp2_with fail
            refine pe.mono ?_
            rintro e w2 ⟨rfl, hb2⟩
            have B2 : Hid (Below w.heap.size w w2) := B1.out.trans (hb2.mono B1.out.size)
            have e2 : w2.heap[wr.heap.size]? = some (.cells #[.bool f, .slice eg k ec] 45 (0, 0)) := (hb2.block _ (lt_of_block E1.out)).trans E1.out
            have y3 : w2.cell? ⟨wr.heap.size, 0, none⟩ = some (.bool f) := cell_of e2 0
            have y4 : w2.cell? ⟨wr.heap.size, 1, none⟩ = some (.slice eg k ec) := cell_of e2 1
            have pl := leads_any (HER.out.later B2.out (Nat.le_refl _)) Hk.out f j (by omega) (fun e he => Hz.out _ (List.mem_of_getElem? HX.out) e he)
            clear pe hb2 y1 y2 e2
            go_wp2_with fail
            refine pl.mono ?_
            rintro e w3 ⟨⟨bb, rfl, hbb⟩, hb3⟩
            have B3 : Hid (Below w.heap.size w w3) := B2.out.trans (hb3.mono B2.out.size)
            clear pl hb3 y3 y4
            cases bb with
            | false =>
              have hE : Hid (¬ MayP A) := by
                show ¬ _
                intro hm
                have h7 := ((may_fit hne.out hm).2.2 j _ HX.out).2
                have := hbb.2 h7
                cases this
              clear hbb
              go_wp2_with fail
              go_ret
              exact ⟨tells_no hE.out, B3.out⟩
            | true =>
              have hlow := hbb.1 rfl
              have HF' : Hid (∀ (i : Nat) (s : StZ), i < j + 1 → A[i]? = some s → FitZ s i) := by
                show ∀ (i : Nat) (s : StZ), _
                intro i s hi hs
                by_cases hij : i = j
                · subst hij; rw [HX.out] at hs; cases hs; exact ⟨hU.out, hlow⟩
                · exact HF.out i s (by omega) hs
              clear hbb hlow
              go_wp2_with fail
              go_roundw
              case rel => exact ⟨j + 1, by go_num, by omega, HF', B3.out⟩
              case measure => simp [intOf]; omega
        · have q1 : ¬ (j : Int) < (m : Int) + 1 := by omega
          obtain ⟨B, hAB, heach⟩ := fit_z (A := A) fun i s hs => hF.out i s (by have h7 := (List.getElem?_eq_some_iff.1 hs).1; have h8 := Hn.out; omega) hs
          have hlenB : B.length = m + 1 := by rw [← zA_len, ← hAB]; exact Hn.out
          have hiff := may_iff (B := B) (m := m) (fun f => by rw [← hAB]; exact hne.out f) hlenB (fun s hs => hlast.out _ (by rw [hAB]; exact zA_at hs)) heach
          rw [← hAB] at hiff
          have HIff : Hid _ := hiff
          have hrB : ReadsA w (some ⟨b, off, none⟩) (m + 1) cap (zA B) := by rw [← hAB]; exact HR.out
          have HRB : Hid _ := hrB
          have HB : Hid (Below w.heap.size w wr) := hB.out
          have pu := unlike_any (hrB.later hB.out (Nat.le_refl _)) hl (fun s hs => by
            obtain ⟨i, hi⟩ := List.getElem?_of_mem hs
            obtain ⟨_, u2, u3⟩ := heach i s hi
            have hil := (List.getElem?_eq_some_iff.1 hi).1
            exact ⟨rise_256 u3, fun e he => by have := u2 e he; omega⟩)
          have HLow : Hid (∀ (i : Nat) (s : Stt), B[i]? = some s → ∀ e ∈ s.2, e.2 < i) := fun i s hs => (heach i s hs).2.1
          clear hAB heach hlenB hiff hrB hF hB
          go_wp2_with fail
          refine pu.mono ?_
          rintro e w2 ⟨⟨bb, rfl, hbb⟩, hb2⟩
          have B2 : Hid (Below w.heap.size w w2) := HB.out.trans (hb2.mono HB.out.size)
          clear pu hb2
          cases bb with
          | false =>
            have hE : Hid (¬ MayP A) := by
              show ¬ _
              intro hm
              have := hbb.2 (HIff.out.1 hm).1
              cases this
            clear hbb
            go_wp2_with fail
            go_ret
            exact ⟨tells_no hE.out, B2.out⟩
          | true =>
            have HNd : Hid B.Nodup := hbb.1 rfl
            have pt := inturn_any (HRB.out.later B2.out (Nat.le_refl _)) hl HLow.out
            clear hbb
            go_wp2_with fail
            refine pt.mono ?_
            rintro e w3 ⟨⟨bb, rfl, hbb⟩, hb3⟩
            have B3 : Hid (Below w.heap.size w w3) := B2.out.trans (hb3.mono B2.out.size)
            clear pt hb3
            cases bb with
            | false =>
              have hE : Hid (¬ MayP A) := by
                show ¬ _
                intro hm
                have := hbb.2 (HIff.out.1 hm).2
                cases this
              clear hbb
              go_wp2_with fail
              go_ret
              exact ⟨tells_no hE.out, B3.out⟩
            | true =>
              have hE : Hid (MayP A) := HIff.out.2 ⟨HNd.out, hbb.1 rfl⟩
              clear hbb
              go_wp2_with fail
              go_ret
              exact ⟨tells_yes hE.out, B3.out⟩
#print axioms amay_any
theorem dmay_any {w : World} {ao : Option Addr} {len cap : Nat} {zs : List Wd} (h : ReadsA w ao len cap (zA (buildL zs))) (hne : [] ∉ zs) (hr : RiseW zs) (hs : (zs.map List.length).sum ≤ 1000000000) :
    Calls Try.prog 19 #[.slice ao len cap] w fun e w' => e = .returned (.bool true) ∧ Below w.heap.size w w' := by
  have hbl := build_len zs
  have hcount := h.count
  rw [zA_len] at hcount
  refine (amay_any h (by omega) ?_).mono ?_
  · intro s hs' e he
    obtain ⟨t, ht, rfl⟩ := List.mem_map.1 hs'
    obtain ⟨d, hd, rfl⟩ := List.mem_map.1 he
    obtain ⟨i, hi⟩ := List.getElem?_of_mem ht
    have h1 := (build_good zs).low i t hi d hd
    have h2 := (List.getElem?_eq_some_iff.1 hi).1
    simp only
    omega
  · rintro e w' ⟨⟨bb, rfl, hbb⟩, hB⟩
    rw [hbb.2 (build_may hne)]
    exact ⟨rfl, hB⟩
end Go.Proofs.Ytkcledkfgmdcgaa
