/- daw.inTurn: whether all states are left in the turn of their numbers. -/
import Derived.Test.YtkcledkfgmdcgaaDawUnlike
import Derived.Laws.EntriesVeiled
namespace Go.Proofs.Ytkcledkfgmdcgaa
open Go.RowKit
set_option linter.unusedVariables false
set_option linter.unusedSimpArgs false

/-- What inTurn's closure keeps: the states, which number is next, itself. -/
structure TurnAt (w W : World) (ao : Option Addr) (len cap : Nat) (next : Nat) : Prop where
  low : Below w.heap.size w W
  box : W.heap[w.heap.size]? = some (.cells #[.slice ao len cap] 25 (0, 0))
  nxt : W.heap[w.heap.size + 1]? = some (.cells #[.int .i64 (next : Nat)] 3 (0, 0))
  fn : W.heap[w.heap.size + 2]? = some (.cells #[.func (.func 34) #[] #[.pointer (some ⟨w.heap.size, 0, none⟩), .pointer (some ⟨w.heap.size + 1, 0, none⟩), .pointer (some ⟨w.heap.size + 2, 0, none⟩)]] 71 (0, 0))
theorem TurnAt.lt {w W : World} {ao : Option Addr} {len cap next : Nat} (h : TurnAt w W ao len cap next) : w.heap.size + 3 ≤ W.heap.size := by
  have := (Array.getElem?_eq_some_iff.1 h.fn).1
  omega
theorem TurnAt.later {w W W' : World} {ao : Option Addr} {len cap next : Nat} (h : TurnAt w W ao len cap next) {B : Nat} (hb : Below B W W') (hB : w.heap.size + 3 ≤ B) : TurnAt w W' ao len cap next :=
  ⟨h.low.trans (hb.mono (by omega)), (hb.block _ (by omega)).trans h.box, (hb.block _ (by omega)).trans h.nxt, (hb.block _ (by omega)).trans h.fn⟩
theorem TurnAt.put {w W : World} {ao : Option Addr} {len cap next : Nat} (h : TurnAt w W ao len cap next) (x : Nat) : TurnAt w (W.setCell ⟨w.heap.size + 1, 0, none⟩ (.int .i64 (x : Nat))) ao len cap x :=
  ⟨h.low.setCell (by simp) _, (blk_ne (by omega) _).trans h.box, blk_set (i := 0) h.nxt _, (blk_ne (by omega) _).trans h.fn⟩
def TurnOut (w : World) (ao : Option Addr) (len cap : Nat) (r : Option Nat) (e : Ending) (W' : World) : Prop :=
  ∃ x, TurnAt w W' ao len cap x ∧ ((r = some x ∧ x ≤ len ∧ e = .returned (.bool true)) ∨ (r = none ∧ e = .returned (.bool false)))
theorem turnE_step {go : Nat → Nat → Option Nat} {es : List (UInt8 × Nat)} {t : Nat} {e : UInt8 × Nat} (he : es[t]? = some e) (x : Nat) : turnE go (es.drop t) x = if x ≤ e.2 then (match go e.2 x with
    | some m => turnE go (es.drop (t + 1)) m
    | none => none) else turnE go (es.drop (t + 1)) x := by
  obtain ⟨h1, h2⟩ := List.getElem?_eq_some_iff.1 he
  rw [List.drop_eq_getElem_cons h1, h2, turnE]
  rfl
set_option maxRecDepth 100000 in
set_option maxHeartbeats 4000000 in
theorem turn_any {w : World} {ao : Option Addr} {len cap : Nat} {B : List Stt} (h : ReadsA w ao len cap (zA B)) (hl : len ≤ 10000000000000) (hlow : ∀ (i : Nat) (s : Stt), B[i]? = some s → ∀ e ∈ s.2, e.2 < i) :
    ∀ (f n next : Nat) (W : World), n < f → n < len → next ≤ len → TurnAt w W ao len cap next →
    Calls Try.prog 34 #[.int .i64 (n : Nat), .pointer (some ⟨w.heap.size, 0, none⟩), .pointer (some ⟨w.heap.size + 1, 0, none⟩), .pointer (some ⟨w.heap.size + 2, 0, none⟩)] W fun e W' => TurnOut w ao len cap (turnN B f n next) e W' := by
  have HR : Hid _ := h
  have hn := h.count
  rw [zA_len] at hn
  have Hn : Hid (B.length = len) := hn
  have Hlow : Hid _ := hlow
  clear h hn hlow
  intro f
  induction f with
  | zero => intro n next W hnf; omega
  | succ f ih =>
    intro n next W hnf hnl hnx hT
    have IH : Hid _ := ih
    obtain ⟨b, off, hao, hb, hcl⟩ := HR.out.at (by omega)
    obtain ⟨s, hs⟩ : ∃ s, B[n]? = some s := ⟨_, List.getElem?_eq_getElem (by rw [Hn.out]; exact hnl)⟩
    obtain ⟨eg, ec, c1, c2, er⟩ := hcl n _ (zA_at hs)
    simp only [zE_len] at c1 c2 er
    obtain ⟨k, hk⟩ : ∃ k, k = s.2.length := ⟨_, rfl⟩
    rw [← hk] at c2 er
    have hkm : k ≤ 9223372036854775807 := by have := Nat.le_trans er.le er.most; unfold maxLen at this; omega
    have Hk : Hid (s.2.length = k) := hk.symm
    have Hs : Hid _ := Hlow.out n s hs
    have ER : Hid _ := er
    have HT : Hid (TurnAt w W ao len cap next) := hT
    have hbox : W.cell? ⟨w.heap.size, 0, none⟩ = some (.slice ao len cap) := cell_of hT.box 0
    have x2 : W.cell? ⟨b, off + n * 2 + 1, none⟩ = some (.slice eg k ec) := (hT.low.cell (p := ⟨b, off + n * 2 + 1, none⟩) hb).trans c2
    have hni : (n : Int) < len := by omega
    have HR2 : Hid (turnN B (f + 1) n next = match turnE (turnN B f) s.2 next with
      | some nx => if n = nx then some (nx + 1) else none
      | none => none) := by
      show _ = _
      rw [turnN, hs]
      simp only
      cases turnE (turnN B f) s.2 next <;> rfl
    subst hao
    clear ih hcl hs c1 c2 er hk hT hb HR
    go_enter Try.func34, Try.ntmps34
    go_wp2_with fail
    go_loopw [14] (fun i wr => ∃ t x : Nat, i = .int .i64 (t : Nat) ∧ t ≤ k ∧ x ≤ len ∧ Hid (turnE (turnN B f) s.2 next = turnE (turnN B f) (s.2.drop t) x) ∧ Hid (TurnAt w wr (some ⟨b, off, none⟩) len cap x)) (fun i _ => (k - intOf i).toNat)
    case atStart => exact ⟨0, next, rfl, Nat.zero_le _, hnx, rfl, HT.out⟩
    case round =>
      obtain ⟨t, x, rfl, ht, hx, hE, hT⟩ := hrel
      by_cases htk : t < k
      · have q1 : (t : Int) < k := by omega
        obtain ⟨bE, oE, hae, hbE, hce⟩ := ER.out.edge (by omega)
        subst hae
        obtain ⟨⟨cb, ct⟩, he⟩ : ∃ e, s.2[t]? = some e := ⟨_, List.getElem?_eq_getElem (by rw [Hk.out]; exact htk)⟩
        have hcc := hce t _ (zE_at he)
        simp only at hcc
        have hlow := hT.out.low
        have y1 : wr.cell? ⟨bE, oE + t * 2, none⟩ = some (.int .u8 (cb.toNat : Nat)) := (hlow.cell (p := ⟨bE, oE + t * 2, none⟩) hbE).trans hcc.1
        have y2 : wr.cell? ⟨bE, oE + t * 2 + 1, none⟩ = some (.int .i64 (ct : Nat)) := (hlow.cell (p := ⟨bE, oE + t * 2 + 1, none⟩) hbE).trans hcc.2
        have hstep := turnE_step (go := turnN B f) he x
        rw [← hE.out] at hstep
        simp only at hstep
        have HStep : Hid _ := hstep
        have hctn := Hs.out _ (List.mem_of_getElem? he)
        simp only at hctn
        have HT2 : Hid (TurnAt w wr (some ⟨b, off, none⟩) len cap x) := hT.out
        have hlt := hT.out.lt
        clear hce hcc he hlow hstep hE hT htk hbE
        go_upto_region 4 with (fail)
        obtain ⟨W1, hW1⟩ : ∃ W1, W1 = wr.alloc (.cells #[.int .u8 (cb.toNat : Nat), .int .i64 (ct : Nat)] 47) := ⟨_, rfl⟩
        rw [← hW1]
        have e1 : W1.heap[wr.heap.size]? = some (.cells #[.int .u8 (cb.toNat : Nat), .int .i64 (ct : Nat)] 47 (0, 0)) := by rw [hW1]; exact heap_alloc_new _ _
        have z2 : W1.cell? ⟨wr.heap.size, 1, none⟩ = some (.int .i64 (ct : Nat)) := cell_of e1 1
        have T1 : Hid (TurnAt w W1 (some ⟨b, off, none⟩) len cap x) := HT2.out.later (B := wr.heap.size) (by rw [hW1]; exact (Below.refl _ _).alloc (Nat.le_refl _) _) hlt
        have n1 : W1.cell? ⟨w.heap.size + 1, 0, none⟩ = some (.int .i64 (x : Nat)) := cell_of T1.out.nxt 0
        have n2 : W1.cell? ⟨w.heap.size + 2, 0, none⟩ = some (.func (.func 34) #[] #[.pointer (some ⟨w.heap.size, 0, none⟩), .pointer (some ⟨w.heap.size + 1, 0, none⟩), .pointer (some ⟨w.heap.size + 2, 0, none⟩)]) := cell_of T1.out.fn 0
        clear hW1 e1 y1 y2 HT2 hlt
        by_cases hxc : x ≤ ct
        · have q2 : (x : Int) ≤ ct := by omega
          have hcall := IH.out ct x W1 (by omega) (by omega) hx T1.out
          go_wp2_with fail
          refine hcall.mono ?_
          rintro e wb ⟨y, hTb, ⟨hr, hy, rfl⟩ | ⟨hr, rfl⟩⟩
          · have HTb : Hid (TurnAt w wb (some ⟨b, off, none⟩) len cap y) := hTb
            have hE' : Hid (turnE (turnN B f) s.2 next = turnE (turnN B f) (s.2.drop (t + 1)) y) := by show _ = _; rw [HStep.out, if_pos hxc, hr]
            clear hTb hcall hr z2 n1 n2
            go_wp2_with fail
            go_roundw
            case rel => exact ⟨t + 1, y, by go_num, by omega, hy, hE', HTb.out⟩
            case measure => simp [intOf]; omega
          · have HTb : Hid (TurnAt w wb (some ⟨b, off, none⟩) len cap y) := hTb
            have hE' : Hid (turnN B (f + 1) n next = none) := by show _ = _; rw [HR2.out, HStep.out, if_pos hxc, hr]
            clear hTb hcall hr z2 n1 n2
            go_wp2_with fail
            go_ret
            exact ⟨y, HTb.out, .inr ⟨hE'.out, rfl⟩⟩
        · have q2 : ¬ (x : Int) ≤ ct := by omega
          have hE' : Hid (turnE (turnN B f) s.2 next = turnE (turnN B f) (s.2.drop (t + 1)) x) := by show _ = _; rw [HStep.out, if_neg hxc]
          go_wp2_with fail
          go_roundw
          case rel => exact ⟨t + 1, x, by go_num, by omega, hx, hE', T1.out⟩
          case measure => simp [intOf]; omega
      · have q1 : ¬ (t : Int) < k := by omega
        have hE1 : turnE (turnN B f) s.2 next = some x := by rw [hE.out, List.drop_eq_nil_of_le (by rw [Hk.out]; omega)]; rfl
        have HTr : Hid (TurnAt w wr (some ⟨b, off, none⟩) len cap x) := hT.out
        have n1 : wr.cell? ⟨w.heap.size + 1, 0, none⟩ = some (.int .i64 (x : Nat)) := cell_of hT.out.nxt 0
        have n1' : wr.frozen? ⟨w.heap.size + 1, 0, none⟩ = false := by simp [World.frozen?, hT.out.nxt]
        have HTp : Hid (TurnAt w (wr.setCell ⟨w.heap.size + 1, 0, none⟩ (.int .i64 ((x : Int) + 1))) (some ⟨b, off, none⟩) len cap (x + 1)) := by
          have h1 := hT.out.put (x + 1)
          rw [show ((x + 1 : Nat) : Int) = (x : Int) + 1 by omega] at h1
          exact h1
        clear hE hT htk
        by_cases hnx2 : n = x
        · have hR : Hid (turnN B (f + 1) n next = some (x + 1)) := by show _ = _; rw [HR2.out, hE1]; simp only; rw [if_pos hnx2]
          have hxl : x + 1 ≤ len := by omega
          subst hnx2
          have hee : ((n : Int) == n) = true := by simp
          go_wp2
          go_ret
          exact ⟨n + 1, HTp.out, .inl ⟨hR.out, hxl, rfl⟩⟩
        · have hR : Hid (turnN B (f + 1) n next = none) := by show _ = _; rw [HR2.out, hE1]; simp only; rw [if_neg hnx2]
          have hee : ((n : Int) == x) = false := by rw [beq_eq_false_iff_ne]; omega
          have hxi : (x : Int) ≤ len := by omega
          go_wp2
          go_ret
          exact ⟨x + 1, HTp.out, .inr ⟨hR.out, rfl⟩⟩
#print axioms turn_any
set_option maxRecDepth 100000 in
set_option maxHeartbeats 4000000 in
theorem inturn_any {w : World} {ao : Option Addr} {m cap : Nat} {B : List Stt} (h : ReadsA w ao (m + 1) cap (zA B)) (hl : m + 1 ≤ 10000000000000) (hlow : ∀ (i : Nat) (s : Stt), B[i]? = some s → ∀ e ∈ s.2, e.2 < i) :
    Calls Try.prog 29 #[.slice ao (m + 1) cap] w fun e w' => Tells e (∃ x, turnN B (m + 1) m 0 = some x) ∧ Below w.heap.size w w' := by
  have hcall := fun W hT => turn_any h hl hlow (m + 1) m 0 W (by omega) (by omega) (by omega) hT
  have Hcall : Hid _ := hcall
  clear hcall h hlow
  have hmf : ∀ (fn : Fn) (first cap : Array Value) (w : World), (Instr.makeFunc fn first cap).run Try.prog w = .ok (.func fn first cap) w := fun _ _ _ _ => rfl
  go_enter Try.func29, Try.ntmps29
  go_wp2_with fail
  obtain ⟨k1, k2, k3⟩ := two_new_old w (.cells #[.slice ao (m + 1) cap] 25) (.cells #[.int .i64 0] 3) (.cells #[.func (.func 34) #[] #[.pointer (some ⟨w.heap.size, 0, none⟩), .pointer (some ⟨w.heap.size + 1, 0, none⟩), .pointer (some ⟨w.heap.size + 1 + 1, 0, none⟩)]] 71)
  refine (Hcall.out _ ⟨(((Below.refl _ _).alloc (Nat.le_refl _) _).alloc (by simp) _).alloc (by simp; omega) _, k1, k2, k3⟩).mono ?_
  rintro e wb ⟨x, hT, ⟨hr, hx, rfl⟩ | ⟨hr, rfl⟩⟩
  · have hB : Hid _ := hT.low
    have hE : Hid _ := hr
    clear hT hr k1 k2 k3 hmf
    go_wp2_with fail
    go_ret
    exact ⟨tells_yes ⟨x, hE.out⟩, hB.out⟩
  · have hB : Hid _ := hT.low
    have hE : Hid _ := hr
    clear hT hr k1 k2 k3 hmf
    go_wp2_with fail
    go_ret
    exact ⟨tells_no fun ⟨y, hy⟩ => (by rw [hE.out] at hy; cases hy), hB.out⟩
#print axioms inturn_any
end Go.Proofs.Ytkcledkfgmdcgaa
