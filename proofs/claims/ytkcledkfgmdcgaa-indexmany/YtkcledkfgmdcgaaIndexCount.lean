/- index.count and lead. -/
import Derived.Test.YtkcledkfgmdcgaaIndexSmall
namespace Go.Proofs.Ytkcledkfgmdcgaa
open Go.RowKit
set_option linter.unusedVariables false
set_option linter.unusedSimpArgs false

def mostC (n : Nat) : Prop := n ≤ 4611686018427387904
instance (n : Nat) : Decidable (mostC n) := inferInstanceAs (Decidable (n ≤ 4611686018427387904))
def icountV (n : Nat) : Value := .tuple #[.int .u64 ((if mostC n then n else 0 : Nat) : Int), .bool (decide (mostC n))]

set_option maxRecDepth 100000 in
set_option maxHeartbeats 4000000 in
theorem icount_any {S : List Stt} (hS : GoodS S) {n : Nat} {f : Bool} {es : List (UInt8 × Nat)} (hs : S[n]? = some (f, es)) (hL : ∀ t, t < n → (langS S t).length ≤ 4611686018427387904) {w : World} {eg : Option Addr} {k c : Nat} (h : ReadsE w eg k c (cellsEd (zE es))) (hk : es.length = k)
    {g off m cm i : Nat} (hc : CntAt w g off m S i) (hi : n ≤ i) (hm : m ≤ 10000000000000) :
    Calls Try.prog 21 #[.agg #[.bool f, .slice eg k c], .slice (some ⟨g, off, none⟩) m cm] w fun e w' => e = .returned (icountV (langS S n).length) ∧ Below w.heap.size w w' := by
  have HR : Hid _ := h
  have Hk : Hid _ := hk
  have HC : Hid _ := hc
  have HL : Hid _ := hL
  have Hlow : Hid _ := hS.low n _ hs
  have hmi : k ≤ 9223372036854775807 := by have := Nat.le_trans h.le h.most; unfold maxLen at this; omega
  obtain ⟨b0, hb0⟩ : ∃ b0 : Nat, b0 = oneF f := ⟨_, rfl⟩
  have hb1 : b0 ≤ 1 := by rw [hb0]; exact oneF_le f
  have hpart := lang_parts hS hs
  rw [← hb0] at hpart
  obtain ⟨L, hLL⟩ : ∃ L, L = (langS S n).length := ⟨_, rfl⟩
  rw [← hLL] at hpart ⊢
  have Hpart : Hid (L = b0 + (flatS S es).length) := hpart
  have hsum : ∀ t, b0 + (flatS S (es.take t)).length ≤ L := fun t => by
    have := flat_most S es t; omega
  have Hsum : Hid _ := hsum
  have p1 := fun (W : World) => ended_any W f (.slice eg k c)
  rw [← hb0] at p1
  clear h hk hc hs hL hpart hsum hS hLL hb0
  go_enter Try.func21, Try.ntmps21
  go_wp2_with fail
  obtain ⟨W1, hW1⟩ : ∃ W1, W1 = w.alloc (.cells #[.bool f, .slice eg k c] 45) := ⟨_, rfl⟩
  rw [← hW1]
  have e1 : W1.heap[w.heap.size]? = some (.cells #[.bool f, .slice eg k c] 45 (0, 0)) := by rw [hW1]; exact heap_alloc_new _ _
  have B1 : Hid (Below w.heap.size w W1) := by rw [hW1]; exact (Below.refl _ _).alloc (Nat.le_refl _) _
  have hlt1 : w.heap.size < W1.heap.size := lt_of_block e1
  refine (p1 W1).mono ?_
  rintro e W2 ⟨rfl, hB2⟩
  have y2 : W2.cell? ⟨w.heap.size, 1, none⟩ = some (.slice eg k c) := (hB2.cell (p := ⟨w.heap.size, 1, none⟩) hlt1).trans (cell_of e1 1)
  have B2 : Hid (Below w.heap.size w W2) := B1.out.trans (hB2.mono (by omega))
  clear hW1 e1 p1 hB2 B1 hlt1
  go_wp2_with fail
  go_loopw [6, 16] (fun v i wr => ∃ (j y : Nat), v = .int .u64 (y : Nat) ∧ i = .int .i64 (j : Nat) ∧ j ≤ k ∧ y ≤ 4611686018427387904 ∧ Hid (y = b0 + (flatS S (es.take j)).length) ∧ Hid (Below w.heap.size w wr)) (fun _ i _ => (k - intOf i).toNat)
  case atStart => exact ⟨0, b0, rfl, rfl, Nat.zero_le _, by omega, (show b0 = b0 + (flatS S (es.take 0)).length by simp [flatS]), B2.out⟩
  case round =>
    obtain ⟨j, y, rfl, rfl, hj, hy, hyt, hB⟩ := hrel
    by_cases hjl : j < k
    · have q1 : (j : Int) < k := by omega
      obtain ⟨b', off', hao, hb, hcl⟩ := HR.out.edge (by omega)
      obtain ⟨⟨cb, ct⟩, he⟩ : ∃ e, es[j]? = some e := ⟨_, List.getElem?_eq_getElem (by rw [Hk.out]; exact hjl)⟩
      have hcc := hcl j _ (zE_at he)
      simp only at hcc
      subst hao
      have x1 : wr.cell? ⟨b', off' + j * 2, none⟩ = some (.int .u8 (cb.toNat : Nat)) := (hB.out.cell (p := ⟨b', off' + j * 2, none⟩) hb).trans hcc.1
      have x2 : wr.cell? ⟨b', off' + j * 2 + 1, none⟩ = some (.int .i64 (ct : Nat)) := (hB.out.cell (p := ⟨b', off' + j * 2 + 1, none⟩) hb).trans hcc.2
      have hctn := Hlow.out _ (List.mem_of_getElem? he)
      simp only at hctn
      obtain ⟨hC1, hC2, hC3⟩ := HC.out
      obtain ⟨p, hp⟩ : ∃ p, p = (langS S ct).length := ⟨_, rfl⟩
      have hcell := hC3 ct (by omega)
      have hpl := HL.out ct hctn
      rw [← hp] at hcell hpl
      have hctm : (ct : Int) < m := by omega
      have hctl : (ct : Int) ≤ 9223372036854775807 := by omega
      have hfl := flat_next S he
      rw [← hp] at hfl
      have hY' : Hid (y + p = b0 + (flatS S (es.take (j + 1))).length) := by show _ = _; rw [hfl, hyt.out]; omega
      have HB : Hid _ := hB.out
      obtain ⟨W3, hW3⟩ : ∃ W3, W3 = wr.alloc (.cells #[.int .u8 (cb.toNat : Nat), .int .i64 (ct : Nat)] 47) := ⟨_, rfl⟩
      have hB3 : Below wr.heap.size wr W3 := by rw [hW3]; exact (Below.refl _ _).alloc (Nat.le_refl _) _
      have z1 : W3.cell? ⟨g, off + ct, none⟩ = some (.int .u64 (p : Nat)) := ((hB.out.trans (hB3.mono hB.out.size)).cell (p := ⟨g, off + ct, none⟩) hC1).trans hcell
      have e3 : W3.heap[wr.heap.size]? = some (.cells #[.int .u8 (cb.toNat : Nat), .int .i64 (ct : Nat)] 47 (0, 0)) := by rw [hW3]; exact heap_alloc_new _ _
      have v2 : W3.cell? ⟨wr.heap.size, 1, none⟩ = some (.int .i64 (ct : Nat)) := cell_of e3 1
      have HB3 : Hid (Below w.heap.size w W3) := HB.out.trans (hB3.mono HB.out.size)
      clear hcl hcc he hjl hB hb hyt y2 hfl hC1 hC2 hC3 hcell hp hB3 e3
      go_upto_region 5 with (fail)
      rw [← hW3]
      clear x1 x2 HB hW3
      go_wp2_with fail
      refine (add_any (y : Nat) (p : Nat) W3 (by omega) (by omega) (by omega) (by omega)).mono ?_
      rintro e wa ⟨rfl, rfl⟩
      by_cases hsm : y + p ≤ 4611686018427387904
      · have e1 : addN (y : Nat) (p : Nat) = ((y + p : Nat) : Int) := by unfold addN; rw [if_pos (by omega)]; omega
        have e2 : addB (y : Nat) (p : Nat) = true := by unfold addB; exact decide_eq_true (by omega)
        rw [e1, e2]
        clear e1 e2
        go_wp2
        go_roundw
        case rel => exact ⟨j + 1, y + p, by go_num, by go_num, by omega, hsm, hY', HB3.out⟩
        case measure => simp [intOf]; omega
      · have e1 : addN (y : Nat) (p : Nat) = 0 := by unfold addN; rw [if_neg (by omega)]
        have e2 : addB (y : Nat) (p : Nat) = false := by unfold addB; exact decide_eq_false (by omega)
        have hE : Hid (¬ mostC L) := by
          show ¬ _
          have h1 := Hsum.out (j + 1)
          have h2 := hY'.out
          unfold mostC
          omega
        rw [e1, e2]
        clear e1 e2 hsm
        go_wp2
        go_ret2
        exact ⟨by rw [show icountV L = .tuple #[.int .u64 0, .bool false] by unfold icountV; rw [if_neg hE.out, decide_eq_false hE.out]; rfl]; rfl, HB3.out⟩
    · have q1 : ¬ (j : Int) < k := by omega
      have hE : Hid (y = L) := by
        show _ = _
        rw [hyt.out, List.take_of_length_le (by rw [Hk.out]; omega), Hpart.out]
      have HB : Hid _ := hB.out
      have Hm : Hid (mostC L) := by show L ≤ _; rw [← hE.out]; exact hy
      clear hjl hB hyt y2
      go_wp2
      go_ret2
      exact ⟨by rw [show icountV L = .tuple #[.int .u64 (y : Nat), .bool true] by unfold icountV; rw [if_pos Hm.out, decide_eq_true Hm.out, ← hE.out]]; rfl, HB.out⟩
#print axioms icount_any

theorem ires_cell_tmp {fn : Func} {p q : Tmp} {ty : TypeId} (h : fn.results = #[.cell q ty, .tmp p]) (tmps : Array Value) (P : Program) (w : World) {x : Addr} {v : Value} (hx : tmps.getD q undef = .pointer (some x)) (hv : (loadVar ty x).run P w = .ok v w) :
    (results fn tmps).run P w = .ok (.tuple #[v, tmps.getD p undef]) w := by
  have hx' : tmps[q]?.getD undef = .pointer (some x) := by simpa using hx
  simp only [results, h]
  simp [Sem.run_bind, Result.andThen, hx', asAddr, hv]
theorem load_edge {w : World} {b : Nat} {x y : Value} (h0 : w.cell? ⟨b, 0, none⟩ = some x) (h1 : w.cell? ⟨b, 1, none⟩ = some y) : (loadVar 47 ⟨b, 0, none⟩).run Try.prog w = .ok (.agg #[x, y]) w := by
  simp [loadVar, Try.isAgg47, Try.sizeOf47, loadCells, loadCellsFrom, go_sem, h0, h1]
theorem pick_drop (S : List Stt) {es : List (UInt8 × Nat)} {j : Nat} {e : UInt8 × Nat} (he : es[j]? = some e) (i : Nat) : pickE S (es.drop j) i = if i < (langS S e.2).length then some (e, i) else pickE S (es.drop (j + 1)) (i - (langS S e.2).length) := by
  obtain ⟨h1, h2⟩ := List.getElem?_eq_some_iff.1 he
  rw [List.drop_eq_getElem_cons h1, h2, pickE]
set_option maxRecDepth 100000 in
set_option maxHeartbeats 4000000 in
theorem lead_any {S : List Stt} (hS : GoodS S) {n : Nat} {f : Bool} {es : List (UInt8 × Nat)} (hs : S[n]? = some (f, es)) {w : World} {eg : Option Addr} {k c : Nat} (h : ReadsE w eg k c (cellsEd (zE es))) (hk : es.length = k)
    {g off m cm i : Nat} (hc : CntAt w g off m S i) (hi : n ≤ i) (hm : m ≤ 10000000000000) (p : Nat) (hp : p ≤ 4611686018427387904) {d : UInt8 × Nat} {q : Nat} (hpk : pickE S es p = some (d, q)) :
    Calls Try.prog 25 #[.agg #[.bool f, .slice eg k c], .int .u64 ((oneF f + p : Nat) : Int), .slice (some ⟨g, off, none⟩) m cm] w fun e w' => e = .returned (.tuple #[.agg #[.int .u8 (d.1.toNat : Nat), .int .i64 (d.2 : Nat)], .int .u64 (q : Nat)]) ∧ Below w.heap.size w w' := by
  have HR : Hid _ := h
  have Hk : Hid _ := hk
  have HC : Hid _ := hc
  have HP : Hid _ := hpk
  have Hlow : Hid _ := hS.low n _ hs
  have hmi : k ≤ 9223372036854775807 := by have := Nat.le_trans h.le h.most; unfold maxLen at this; omega
  have p1 := fun (W : World) => ended_any W f (.slice eg k c)
  obtain ⟨b0, hb0⟩ : ∃ b0 : Nat, b0 = oneF f := ⟨_, rfl⟩
  have hb1 : b0 ≤ 1 := by rw [hb0]; exact oneF_le f
  rw [← hb0] at p1 ⊢
  obtain ⟨pl, hpl⟩ : ∃ pl : Nat, pl = b0 + p := ⟨_, rfl⟩
  have hpi : (pl : Int) = b0 + p := by omega
  have hps : (pl : Int) - b0 = (p : Nat) := by omega
  have hple : pl ≤ 4611686018427387905 := by omega
  rw [← hpl]
  clear h hk hc hs hS hb0 hpk hpi hpl
  go_enter Try.func25, Try.ntmps25
  go_wp2_with fail
  obtain ⟨W1, hW1⟩ : ∃ W1, W1 = (w.alloc (.cells #[.bool f, .slice eg k c] 45)).alloc (.cells #[.int .u8 0, .int .i64 0] 47) := ⟨_, rfl⟩
  rw [← hW1]
  obtain ⟨e1, e2⟩ := two_new w (.cells #[.bool f, .slice eg k c] 45) (.cells #[.int .u8 0, .int .i64 0] 47)
  rw [← hW1] at e1 e2
  have B1 : Hid (Below w.heap.size w W1) := by rw [hW1]; exact ((Below.refl _ _).alloc (Nat.le_refl _) _).alloc (by simp) _
  have hlt1 : w.heap.size < W1.heap.size := lt_of_block e1
  have hlt2 : w.heap.size + 1 < W1.heap.size := lt_of_block e2
  refine (p1 W1).mono ?_
  rintro e W2 ⟨rfl, hB2⟩
  have y2 : W2.cell? ⟨w.heap.size, 1, none⟩ = some (.slice eg k c) := (hB2.cell (p := ⟨w.heap.size, 1, none⟩) hlt1).trans (cell_of e1 1)
  have f2 : W2.heap[w.heap.size + 1]? = some (.cells #[.int .u8 0, .int .i64 0] 47 (0, 0)) := by rw [hB2.block _ hlt2]; exact e2
  have B2 : Hid (Below w.heap.size w W2) := B1.out.trans (hB2.mono (by omega))
  clear hW1 e1 e2 p1 hB2 B1 hlt1 hlt2
  obtain ⟨hC1, hC2, hC3⟩ := HC.out
  have z : Hid (∀ t, t < i → W2.cell? ⟨g, off + t, none⟩ = some (.int .u64 ((langS S t).length : Nat))) := fun t ht => (B2.out.cell (p := ⟨g, off + t, none⟩) hC1).trans (hC3 t ht)
  go_wp2_with fail
  go_loop [1, 8] (fun v i => ∃ (j y : Nat), v = .int .u64 (y : Nat) ∧ i = .int .i64 (j : Nat) ∧ j ≤ k ∧ y ≤ 4611686018427387904 ∧ Hid (pickE S (es.drop j) y = some (d, q))) (fun _ i => (k - intOf i).toNat)
  case atStart => exact ⟨0, p, (by go_num), rfl, Nat.zero_le _, hp, HP.out⟩
  case round =>
    obtain ⟨j, y, rfl, rfl, hj, hy, hpk⟩ := hrel
    have hjl : j < k := by
      refine Nat.lt_of_not_le fun hh => ?_
      have := hpk.out
      rw [List.drop_eq_nil_of_le (by rw [Hk.out]; omega)] at this
      cases this
    have q1 : (j : Int) < k := by omega
    obtain ⟨b', off', hao, hb, hcl⟩ := HR.out.edge (by omega)
    obtain ⟨⟨cb, ct⟩, he⟩ : ∃ e, es[j]? = some e := ⟨_, List.getElem?_eq_getElem (by rw [Hk.out]; exact hjl)⟩
    have hcc := hcl j _ (zE_at he)
    simp only at hcc
    subst hao
    have x1 : W2.cell? ⟨b', off' + j * 2, none⟩ = some (.int .u8 (cb.toNat : Nat)) := (B2.out.cell (p := ⟨b', off' + j * 2, none⟩) hb).trans hcc.1
    have x2 : W2.cell? ⟨b', off' + j * 2 + 1, none⟩ = some (.int .i64 (ct : Nat)) := (B2.out.cell (p := ⟨b', off' + j * 2 + 1, none⟩) hb).trans hcc.2
    have hctn := Hlow.out _ (List.mem_of_getElem? he)
    simp only at hctn
    obtain ⟨x, hx⟩ : ∃ x, x = (langS S ct).length := ⟨_, rfl⟩
    have z1 := z.out ct (by omega)
    have hpd := pick_drop S he y
    have hpq := hpk.out
    rw [hpd] at hpq
    simp only [← hx] at z1 hpq
    have hctm : (ct : Int) < m := by omega
    have hctl : (ct : Int) ≤ 9223372036854775807 := by omega
    by_cases hyx : y < x
    · rw [if_pos hyx] at hpq
      obtain ⟨rfl, rfl⟩ : d = (cb, ct) ∧ q = y := by
        simp only [Option.some.injEq, Prod.mk.injEq] at hpq
        exact ⟨hpq.1.symm, hpq.2.symm⟩
      have hyi : ¬ (x : Int) ≤ q := by omega
      have r1 : W2.frozen? ⟨w.heap.size + 1, 0, none⟩ = false := by simp [World.frozen?, f2]
      have r2 : W2.frozen? ⟨w.heap.size + 1, 1, none⟩ = false := by simp [World.frozen?, f2]
      have s1 : W2.cell? ⟨w.heap.size + 1, 0, none⟩ = some (.int .u8 0) := cell_of f2 0
      have s2 : W2.cell? ⟨w.heap.size + 1, 1, none⟩ = some (.int .i64 0) := cell_of f2 1
      obtain ⟨W3, hW3⟩ : ∃ W3, W3 = (W2.setCell ⟨w.heap.size + 1, 0, none⟩ (.int .u8 (cb.toNat : Nat))).setCell ⟨w.heap.size + 1, 1, none⟩ (.int .i64 (ct : Nat)) := ⟨_, rfl⟩
      have f3 : W3.heap[w.heap.size + 1]? = some (.cells #[.int .u8 (cb.toNat : Nat), .int .i64 (ct : Nat)] 47 (0, 0)) := by rw [hW3, blk_set (blk_set f2 _) _]; rfl
      have HB : Hid (Below w.heap.size w W3) := by rw [hW3]; exact (B2.out.setCell (by simp) _).setCell (by simp) _
      have hld := load_edge (w := W3) (b := w.heap.size + 1) (cell_of f3 0) (cell_of f3 1)
      clear hcl hcc he hpd hpq hpk hyx hx hb f3 hC1 hC2 hC3
      go_wp2
      rw [← hW3]
      refine bodyPost_ret (ires_cell_tmp rfl _ _ _ (x := ⟨w.heap.size + 1, 0, none⟩) rfl hld) rfl ?_
      exact ⟨rfl, HB.out⟩
    · rw [if_neg hyx] at hpq
      have hyi : (x : Int) ≤ y := by omega
      have hsub : (y : Int) - x = ((y - x : Nat) : Int) := by omega
      have HQ : Hid _ := hpq
      clear hcl hcc he hpd hpq hpk hyx hx hb hC1 hC2 hC3
      go_wp2
      go_round
      case rel => exact ⟨j + 1, y - x, by go_num, by go_num, by omega, by omega, HQ.out⟩
      case measure => simp [intOf]; omega
#print axioms lead_any
end Go.Proofs.Ytkcledkfgmdcgaa
