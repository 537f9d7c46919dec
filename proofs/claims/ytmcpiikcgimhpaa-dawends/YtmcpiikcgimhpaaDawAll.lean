/- daw.all: the words of a built automaton, by a closure that calls itself. -/
import Derived.Test.YtmcpiikcgimhpaaDawMost
namespace Go.Proofs.Ytmcpiikcgimhpaa
open Go.RowKit
set_option linter.unusedVariables false
set_option linter.unusedSimpArgs false

theorem own_blk {w w' : World} {base e size n : Nat} {v : Value} {xs : List Value} (h : w.ownsRow base e size v n xs) (hb : ∀ k, v.ownBlock = some k → w'.heap[k]? = w.heap[k]?) : w'.ownsRow base e size v n xs := by
  refine ⟨h.1, ?_⟩
  rcases h.2 with h' | ⟨g, cap, cur, h1, h2, h3, h4⟩
  · exact .inl h'
  · exact .inr ⟨g, cap, cur, h1, h2, (hb g (by rw [h1]; rfl)).trans h3, h4⟩
theorem own_set_off {w : World} {base e size n b i : Nat} {v : Value} {xs : List Value} (h : w.ownsRow base e size v n xs) (hb : b < base) (u : Value) : (w.setCell ⟨b, i, none⟩ u).ownsRow base e size v n xs := by
  refine own_blk h fun k hk => blk_ne ?_ _
  rcases h.2 with ⟨h1, _⟩ | ⟨g, cap, cur, h1, h2, _⟩
  · rw [h1] at hk; cases hk
  · rw [h1] at hk
    simp only [Value.ownBlock, Option.some.injEq] at hk
    omega
theorem own_cut {P : Program} {t e : TypeId} (ht : P.underlying t = some (.slice e)) (hs : ∀ W, (sizeOf e).run P W = .ok 1 W) {w : World} {base n c : Nat} {ag : Option Addr} {xs : List Value} {x : Value} (h : w.ownsRow base e 1 (.slice ag (n + 1) c) (n + 1) (xs ++ [x])) :
    (∀ W, (Instr.slice t (.slice ag (n + 1) c) none (some (.int .i64 (n : Nat))) none).run P W = .ok (.slice ag n c) W) ∧ w.ownsRow base e 1 (.slice ag n c) n xs := by
  obtain ⟨h1, h2⟩ := h
  rcases h2 with ⟨h3, h4⟩ | ⟨g, cap, cur, h3, h4, h5, h6, h7, h8, h9⟩
  · omega
  simp only [Value.slice.injEq, true_and] at h3
  obtain ⟨rfl, rfl⟩ := h3
  have ht' : P.underlying t = some (.slice (P.elem t)) := by simp [Program.elem, ht]
  have he : P.elem t = e := by simp [Program.elem, ht]
  constructor
  · intro W
    rw [run_slice_h (P := P) W t _ _ _ ht' .i64 n (by omega) (by omega), he, hs]
    have hc : ¬ c = 0 := by omega
    simp [Result.andThen, sliced, hc, Addr.add]
  · refine ⟨by simp at h1; omega, .inr ⟨g, c, cur, rfl, h4, h5, by omega, h7, h8, ?_⟩⟩
    simp only [List.length_append, List.length_singleton, Nat.mul_one] at h1 h9 ⊢
    have h10 : xs.length = n := by omega
    have := congrArg (List.take n) h9
    rw [List.take_take, Nat.min_eq_left (by omega)] at this
    rw [this, ← h10, List.take_left]
def bV (cur : Wd) : List Value := (cur.map fun c => (c.toNat : Int)).map (.int .u8)
theorem bV_app (a b : Wd) : bV (a ++ b) = bV a ++ bV b := by simp [bV]
theorem str_of (cur : Wd) : strOfNums (cur.map fun c => (c.toNat : Int)) = ⟨cur.toArray⟩ := by
  unfold strOfNums
  rw [List.map_map]
  have : (List.map ((fun n => UInt8.ofNat n.toNat) ∘ fun c => (c.toNat : Int)) cur) = cur := by
    conv => rhs; rw [← List.map_id cur]
    apply List.map_congr_left
    intro c _
    simp
  rw [this]
/-- What the closure keeps: the states, the words so far, the bytes on the way, itself. -/
structure AllAt (w W : World) (ao : Option Addr) (len cap : Nat) (ws : List Wd) (cur : Wd) : Prop where
  low : Below w.heap.size w W
  box : W.heap[w.heap.size]? = some (.cells #[.slice ao len cap] 25 (0, 0))
  fn : W.heap[w.heap.size + 3]? = some (.cells #[.func (.func 28) #[] #[.pointer (some ⟨w.heap.size, 0, none⟩), .pointer (some ⟨w.heap.size + 1, 0, none⟩), .pointer (some ⟨w.heap.size + 2, 0, none⟩), .pointer (some ⟨w.heap.size + 3, 0, none⟩)]] 50 (0, 0))
  ex : ∃ (ag : Option Addr) (m c : Nat) (bg : Option Addr) (k d : Nat), W.heap[w.heap.size + 1]? = some (.cells #[.slice ag m c] 22 (0, 0)) ∧ m = ws.length ∧ W.ownsRow (w.heap.size + 4) 9 1 (.slice ag m c) m (ws.map strV) ∧
    W.heap[w.heap.size + 2]? = some (.cells #[.slice bg k d] 42 (0, 0)) ∧ k = cur.length ∧ W.ownsRow (w.heap.size + 4) 5 1 (.slice bg k d) k (bV cur)
theorem AllAt.lt {w W : World} {ao : Option Addr} {len cap : Nat} {ws : List Wd} {cur : Wd} (h : AllAt w W ao len cap ws cur) : w.heap.size + 4 ≤ W.heap.size := by
  have := lt_of_block h.fn
  omega
theorem AllAt.later {w W W' : World} {ao : Option Addr} {len cap : Nat} {ws : List Wd} {cur : Wd} (h : AllAt w W ao len cap ws cur) (hb : Below W.heap.size W W') : AllAt w W' ao len cap ws cur := by
  have hl := h.lt
  obtain ⟨ag, m, c, bg, k, d, h1, h2, h3, h4, h5, h6⟩ := h.ex
  exact ⟨h.low.trans (hb.mono (by omega)), (hb.block _ (by omega)).trans h.box, (hb.block _ (by omega)).trans h.fn, ag, m, c, bg, k, d, (hb.block _ (by omega)).trans h1, h2, own_later h3 hb (Nat.le_refl _), (hb.block _ (by omega)).trans h4, h5, own_later h6 hb (Nat.le_refl _)⟩
theorem Try.infoStrA : (Try.prog.info? 9).map (fun i => (i.zero, i.size, i.bytes)) = some (some (.string ⟨#[]⟩), 1, 16) := by kernel_rfl
/-- One word more. -/
theorem AllAt.word {w W W2 : World} {ao : Option Addr} {len cap : Nat} {ws : List Wd} {cur v : Wd} {ag bg ag2 : Option Addr} {m c k d c2 : Nat} {o : Obj} (h : AllAt w W ao len cap ws cur)
    (h1 : W.ownsRow (w.heap.size + 4) 9 1 (.slice ag m c) m (ws.map strV)) (hm : m = ws.length) (h4 : W.heap[w.heap.size + 2]? = some (.cells #[.slice bg k d] 42 (0, 0))) (hk : k = cur.length) (h6 : W.ownsRow (w.heap.size + 4) 5 1 (.slice bg k d) k (bV cur))
    (hw1 : W.heap[w.heap.size + 1]? = some (.cells #[.slice ag m c] 22 (0, 0)))
    (hr : W2.ownsRow (w.heap.size + 4) 9 1 (.slice ag2 (m + 1) c2) (m + 1) (ws.map strV ++ [strV v])) (hg : (W.alloc o).grownBy W2 (Value.slice ag m c).ownBlock) (hb : Below (w.heap.size + 4) (W.alloc o) W2) :
    AllAt w (W2.setCell ⟨w.heap.size + 1, 0, none⟩ (.slice ag2 (m + 1) c2)) ao len cap (ws ++ [v]) cur := by
  have hl := h.lt
  have hb2 : Below (w.heap.size + 4) W W2 := ((Below.refl (w.heap.size + 4) W).alloc hl o).trans hb
  refine ⟨(h.low.trans (hb2.mono (by omega))).setCell (by simp) _, (blk_ne (by omega) _).trans ((hb2.block _ (by omega)).trans h.box), (blk_ne (by omega) _).trans ((hb2.block _ (by omega)).trans h.fn), ag2, m + 1, c2, bg, k, d, blk_set (i := 0) ((hb2.block _ (by omega)).trans hw1) _, by rw [hm]; simp, ?_, (blk_ne (by omega) _).trans ((hb2.block _ (by omega)).trans h4), hk, ?_⟩
  · exact own_set_off (by simpa using hr) (by omega) _
  · exact own_set_off (own_apart (h6.alloc o) (h1.alloc o) (by decide) hg) (by omega) _
/-- One byte more on the way. -/
theorem AllAt.byte {w W W2 : World} {ao : Option Addr} {len cap : Nat} {ws : List Wd} {cur : Wd} {cb : UInt8} {ag bg bg2 : Option Addr} {m c k d d2 : Nat} {o : Obj} (h : AllAt w W ao len cap ws cur)
    (h1 : W.ownsRow (w.heap.size + 4) 9 1 (.slice ag m c) m (ws.map strV)) (hm : m = ws.length) (h4 : W.heap[w.heap.size + 2]? = some (.cells #[.slice bg k d] 42 (0, 0))) (hk : k = cur.length) (h6 : W.ownsRow (w.heap.size + 4) 5 1 (.slice bg k d) k (bV cur))
    (hw1 : W.heap[w.heap.size + 1]? = some (.cells #[.slice ag m c] 22 (0, 0)))
    (hr : W2.ownsRow (w.heap.size + 4) 5 1 (.slice bg2 (k + 1) d2) (k + 1) (bV cur ++ [.int .u8 (cb.toNat : Nat)])) (hg : (W.alloc o).grownBy W2 (Value.slice bg k d).ownBlock) (hb : Below (w.heap.size + 4) (W.alloc o) W2) :
    AllAt w (W2.setCell ⟨w.heap.size + 2, 0, none⟩ (.slice bg2 (k + 1) d2)) ao len cap ws (cur ++ [cb]) := by
  have hl := h.lt
  have hb2 : Below (w.heap.size + 4) W W2 := ((Below.refl (w.heap.size + 4) W).alloc hl o).trans hb
  refine ⟨(h.low.trans (hb2.mono (by omega))).setCell (by simp) _, (blk_ne (by omega) _).trans ((hb2.block _ (by omega)).trans h.box), (blk_ne (by omega) _).trans ((hb2.block _ (by omega)).trans h.fn), ag, m, c, bg2, k + 1, d2, (blk_ne (by omega) _).trans ((hb2.block _ (by omega)).trans hw1), hm, ?_, blk_set (i := 0) ((hb2.block _ (by omega)).trans h4) _, by rw [hk]; simp, ?_⟩
  · exact own_set_off (own_apart (h1.alloc o) (h6.alloc o) (by decide) hg) (by omega) _
  · exact own_set_off (by rw [bV_app]; exact hr) (by omega) _
/-- One byte less on the way. -/
theorem AllAt.back {w W : World} {ao : Option Addr} {len cap : Nat} {ws : List Wd} {cur : Wd} {cb : UInt8} (h : AllAt w W ao len cap ws (cur ++ [cb])) : ∃ (bg : Option Addr) (k d : Nat), W.heap[w.heap.size + 2]? = some (.cells #[.slice bg (k + 1) d] 42 (0, 0)) ∧ k = cur.length ∧
    (∀ V, (Instr.slice 42 (.slice bg (k + 1) d) none (some (.int .i64 (k : Nat))) none).run Try.prog V = .ok (.slice bg k d) V) ∧ AllAt w (W.setCell ⟨w.heap.size + 2, 0, none⟩ (.slice bg k d)) ao len cap ws cur := by
  obtain ⟨ag, m, c, bg, k1, d, h1, h2, h3, h4, h5, h6⟩ := h.ex
  obtain ⟨k, rfl⟩ : ∃ k, k1 = k + 1 := ⟨cur.length, by simpa using h5⟩
  have hk : k = cur.length := by simpa using h5
  rw [bV_app] at h6
  obtain ⟨hrun, hrow⟩ := own_cut (P := Try.prog) Try.underlying42 (fun W => Try.sizeOf5 W) h6
  exact ⟨bg, k, d, h4, hk, hrun, h.low.setCell (by simp) _, (blk_ne (by omega) _).trans h.box, (blk_ne (by omega) _).trans h.fn, ag, m, c, bg, k, d, (blk_ne (by omega) _).trans h1, h2, own_set_off h3 (by omega) _, blk_set (i := 0) h4 _, hk, own_set_off hrow (by omega) _⟩
theorem flat_map_step (S : List Stt) {es : List (UInt8 × Nat)} {t : Nat} {e : UInt8 × Nat} (he : es[t]? = some e) (cur : Wd) : (flatS S (es.take (t + 1))).map (cur ++ ·) = (flatS S (es.take t)).map (cur ++ ·) ++ (langS S e.2).map ((cur ++ [e.1]) ++ ·) := by
  have h1 : es.take (t + 1) = es.take t ++ [e] := by rw [List.take_add_one, he]; rfl
  rw [h1]
  unfold flatS
  rw [List.flatMap_append, List.map_append]
  congr 1
  simp only [List.flatMap_cons, List.flatMap_nil, List.append_nil, List.map_map]
  apply List.map_congr_left
  intro v _
  simp
theorem flat_le (S : List Stt) (es : List (UInt8 × Nat)) (t : Nat) : (flatS S (es.take t)).length ≤ (flatS S es).length := by
  conv => rhs; rw [← List.take_append_drop t es]
  unfold flatS
  rw [List.flatMap_append, List.length_append]
  omega
set_option maxRecDepth 100000 in
set_option maxHeartbeats 8000000 in
theorem all_gen {S : List Stt} (hS : GoodS S) {w : World} {ao : Option Addr} {len cap : Nat} (hr : ReadsA w ao len cap (zA S)) (hl : len ≤ 100000000000) :
    ∀ (f n : Nat) (ws : List Wd) (cur : Wd) (W : World), n < f → n < len → ws.length + (langS S n).length ≤ 100000 → cur.length + n ≤ len → AllAt w W ao len cap ws cur →
    Calls Try.prog 28 #[.int .i64 (n : Nat), .pointer (some ⟨w.heap.size, 0, none⟩), .pointer (some ⟨w.heap.size + 1, 0, none⟩), .pointer (some ⟨w.heap.size + 2, 0, none⟩), .pointer (some ⟨w.heap.size + 3, 0, none⟩)] W fun e W' =>
      e = .returned (.tuple #[]) ∧ AllAt w W' ao len cap (ws ++ (langS S n).map (cur ++ ·)) cur := by
  have HR : Hid _ := hr
  have hn := hr.count
  rw [zA_len] at hn
  have Hn : Hid (S.length = len) := hn
  have HS : Hid _ := hS
  clear hr hn hS
  intro f
  induction f with
  | zero => intro n ws cur W hnf; omega
  | succ f ih =>
    intro n ws cur W hnf hnl hws hcur hT
    have IH : Hid _ := ih
    obtain ⟨b, off, hao, hb, hcl⟩ := HR.out.at (by omega)
    obtain ⟨⟨fin, es⟩, hs⟩ : ∃ s, S[n]? = some s := ⟨_, List.getElem?_eq_getElem (by rw [Hn.out]; exact hnl)⟩
    obtain ⟨eg, ec, c1, c2, er⟩ := hcl n _ (zA_at hs)
    simp only [zE_len] at c1 c2 er
    obtain ⟨k, hk⟩ : ∃ k, k = es.length := ⟨_, rfl⟩
    rw [← hk] at c2 er
    have hkm : k ≤ 9223372036854775807 := by have := Nat.le_trans er.le er.most; unfold maxLen at this; omega
    have hlang : langS S n = (if fin then [[]] else []) ++ flatS S es := by rw [lang_at HS.out hs]; rfl
    obtain ⟨w0, hw0⟩ : ∃ w0 : List Wd, w0 = ws ++ (if fin then [cur] else []) := ⟨_, rfl⟩
    have hmap : ws ++ (langS S n).map (cur ++ ·) = w0 ++ (flatS S es).map (cur ++ ·) := by
      rw [hlang, hw0, List.map_append, List.append_assoc]
      cases fin <;> simp
    have hlen : w0.length + (flatS S es).length ≤ 100000 := by
      rw [hlang, List.length_append] at hws
      rw [hw0, List.length_append]
      cases fin <;> simp at hws ⊢ <;> omega
    have Hw0 : Hid _ := hw0
    have Hmap : Hid _ := hmap
    have Hlen : Hid _ := hlen
    have Hws : Hid _ := hws
    have Hk : Hid (es.length = k) := hk.symm
    have Hlow : Hid _ := HS.out.low n _ hs
    have ER : Hid _ := er
    have HT : Hid (AllAt w W ao len cap ws cur) := hT
    have hbox : W.cell? ⟨w.heap.size, 0, none⟩ = some (.slice ao len cap) := cell_of hT.box 0
    have x1 : W.cell? ⟨b, off + n * 2, none⟩ = some (.bool fin) := (hT.low.cell (p := ⟨b, off + n * 2, none⟩) hb).trans c1
    have x2 : W.cell? ⟨b, off + n * 2 + 1, none⟩ = some (.slice eg k ec) := (hT.low.cell (p := ⟨b, off + n * 2 + 1, none⟩) hb).trans c2
    have Hb : Hid _ := hb
    have C2 : Hid _ := c2
    have hni : (n : Int) < len := by omega
    subst hao
    clear ih hcl hs c1 c2 er hk hT hb HR hws hw0 hmap hlen hlang
    go_enter Try.func28, Try.ntmps28
    go_upto_if 12 with (fail)
    go_cut [] from 13 to 17 (fun wq => Hid (AllAt w wq (some ⟨b, off, none⟩) len cap w0 cur))
    case first =>
      cases fin with
      | false =>
        have h0 := Hw0.out
        rw [if_neg (by simp), List.append_nil] at h0
        have H0 : Hid _ := h0
        clear Hw0 h0
        go_wp2_with fail
        go_meet
        case rel => show AllAt _ _ _ _ _ _ _; rw [H0.out]; exact HT.out
      | true =>
        have h0 := Hw0.out
        rw [if_pos rfl] at h0
        have H0 : Hid _ := h0
        obtain ⟨ag, m, c, bg, kk, d, h1, h2, h3, h4, h5, h6⟩ := HT.out.ex
        have d1 : W.cell? ⟨w.heap.size + 1, 0, none⟩ = some (.slice ag m c) := cell_of h1 0
        have d2 : W.cell? ⟨w.heap.size + 2, 0, none⟩ = some (.slice bg kk d) := cell_of h4 0
        have hcv := conv_of (P := Try.prog) (t := 42) (e := 5) (s := 9) Try.underlying42 Try.underlying5 Try.underlying9 (W := W) (zs := cur.map fun c => (c.toNat : Int)) (Reads.own h6)
        rw [str_of] at hcv
        have HA : Hid (W.heap[w.heap.size + 1]? = some (.cells #[.slice ag m c] 22 (0, 0))) := h1
        have HM : Hid (m = ws.length) := h2
        have HO : Hid (W.ownsRow (w.heap.size + 4) 9 1 (.slice ag m c) m (ws.map strV)) := h3
        have HBb : Hid (W.heap[w.heap.size + 2]? = some (.cells #[.slice bg kk d] 42 (0, 0))) := h4
        have HK : Hid (kk = cur.length) := h5
        have HQ : Hid (W.ownsRow (w.heap.size + 4) 5 1 (.slice bg kk d) kk (bV cur)) := h6
        have hlt := HT.out.lt
        have hm5 : m ≤ 100000 := by have := Hws.out; omega
        have hone : ∀ u ∈ [strV cur], u.oneCell' = true := by simp [Value.oneCell']
        have hm1 : m + 1 ≤ maxLen := by unfold maxLen; omega
        have hm2 : (m + 1) * 16 ≤ 140737488355328 := by omega
        have HLt : Hid _ := hlt
        clear Hw0 h0 h1 h2 h3 h4 h5 h6 hlt
        go_wp2_with (at_builtin; refine wpList_append_grown rfl _ _ 22 rfl (w.heap.size + 4) 9 Try.infoStrA rfl Try.underlying22 _ _ _ _ rfl (HO.out.alloc _) _ _ _ _ rfl (reads_one _ _ _) hone hm1 hm2 (Nat.le_trans HLt.out (by simp)) ?_; intro ag2 c2 w2 hr2 hg2 hb2; have k1 : w2.heap[w.heap.size + 1]? = some (.cells #[.slice ag m c] 22 (0, 0)) := (hb2.block _ (by omega)).trans ((heap_alloc_old _ _ (by have := HLt.out; omega)).trans HA.out); have k2 : w2.cell? ⟨w.heap.size + 1, 0, none⟩ = some (.slice ag m c) := cell_of k1 0; have k3 : w2.frozen? ⟨w.heap.size + 1, 0, none⟩ = false := by simp [World.frozen?, k1])
        go_meet
        case rel => show AllAt _ _ _ _ _ _ _; rw [H0.out]; exact HT.out.word HO.out HM.out HBb.out HK.out HQ.out HA.out hr2 hg2 hb2
    case rest =>
      have HC : Hid (AllAt w wc (some ⟨b, off, none⟩) len cap w0 cur) := hcut.out
      have hbox : wc.cell? ⟨w.heap.size, 0, none⟩ = some (.slice (some ⟨b, off, none⟩) len cap) := cell_of HC.out.box 0
      have x2 : wc.cell? ⟨b, off + n * 2 + 1, none⟩ = some (.slice eg k ec) := (HC.out.low.cell (p := ⟨b, off + n * 2 + 1, none⟩) Hb.out).trans C2.out
      clear hcut
      go_wp2_with fail
      go_loopw [24] (fun i wr => ∃ t : Nat, i = .int .i64 (t : Nat) ∧ t ≤ k ∧ Hid (AllAt w wr (some ⟨b, off, none⟩) len cap (w0 ++ (flatS S (es.take t)).map (cur ++ ·)) cur)) (fun i _ => (k - intOf i).toNat)
      case atStart => exact ⟨0, rfl, Nat.zero_le _, by simp [flatS]; exact HC.out⟩
      case round =>
        obtain ⟨t, rfl, ht, hT⟩ := hrel
        by_cases htk : t < k
        · have q1 : (t : Int) < k := by omega
          obtain ⟨bE, oE, hae, hbE, hce⟩ := ER.out.edge (by omega)
          subst hae
          obtain ⟨⟨cb, ct⟩, he⟩ : ∃ e, es[t]? = some e := ⟨_, List.getElem?_eq_getElem (by rw [Hk.out]; exact htk)⟩
          have hcc := hce t _ (zE_at he)
          simp only at hcc
          have hlow := hT.out.low
          have y1 : wr.cell? ⟨bE, oE + t * 2, none⟩ = some (.int .u8 (cb.toNat : Nat)) := (hlow.cell (p := ⟨bE, oE + t * 2, none⟩) hbE).trans hcc.1
          have y2 : wr.cell? ⟨bE, oE + t * 2 + 1, none⟩ = some (.int .i64 (ct : Nat)) := (hlow.cell (p := ⟨bE, oE + t * 2 + 1, none⟩) hbE).trans hcc.2
          have hctn := Hlow.out _ (List.mem_of_getElem? he)
          simp only at hctn
          obtain ⟨wt, hwt⟩ : ∃ wt, wt = w0 ++ (flatS S (es.take t)).map (cur ++ ·) := ⟨_, rfl⟩
          have hnext : w0 ++ (flatS S (es.take (t + 1))).map (cur ++ ·) = wt ++ (langS S ct).map ((cur ++ [cb]) ++ ·) := by rw [flat_map_step S he, hwt, List.append_assoc]
          have hbound : wt.length + (langS S ct).length ≤ 100000 := by
            have h1 := flat_le S es (t + 1)
            have h2 := flat_step S he
            have h3 := Hlen.out
            simp only at h2
            rw [hwt, List.length_append, List.length_map]; omega
          have hT0 := hT.out
          rw [← hwt] at hT0
          have HNext : Hid _ := hnext
          have HBound : Hid _ := hbound
          have HT0 : Hid (AllAt w wr (some ⟨b, off, none⟩) len cap wt cur) := hT0
          have hlt := hT0.lt
          clear hce hcc he hlow hT hT0 hwt hnext hbound hbE htk
          go_upto_region 5 with (fail)
          obtain ⟨W1, hW1⟩ : ∃ W1, W1 = wr.alloc (.cells #[.int .u8 (cb.toNat : Nat), .int .i64 (ct : Nat)] 39) := ⟨_, rfl⟩
          rw [← hW1]
          have e1 : W1.heap[wr.heap.size]? = some (.cells #[.int .u8 (cb.toNat : Nat), .int .i64 (ct : Nat)] 39 (0, 0)) := by rw [hW1]; exact heap_alloc_new _ _
          have z1 : W1.cell? ⟨wr.heap.size, 0, none⟩ = some (.int .u8 (cb.toNat : Nat)) := cell_of e1 0
          have T1 : Hid (AllAt w W1 (some ⟨b, off, none⟩) len cap wt cur) := HT0.out.later (by rw [hW1]; exact (Below.refl _ _).alloc (Nat.le_refl _) _)
          have E1 : Hid _ := e1
          have hlt1 := T1.out.lt
          obtain ⟨ag, m, c, bg, kk, d, h1, h2, h3, h4, h5, h6⟩ := T1.out.ex
          have d2 : W1.cell? ⟨w.heap.size + 2, 0, none⟩ = some (.slice bg kk d) := cell_of h4 0
          have HA : Hid (W1.heap[w.heap.size + 1]? = some (.cells #[.slice ag m c] 22 (0, 0))) := h1
          have HM : Hid (m = wt.length) := h2
          have HO : Hid (W1.ownsRow (w.heap.size + 4) 9 1 (.slice ag m c) m (wt.map strV)) := h3
          have HBb : Hid (W1.heap[w.heap.size + 2]? = some (.cells #[.slice bg kk d] 42 (0, 0))) := h4
          have HK : Hid (kk = cur.length) := h5
          have HQ : Hid (W1.ownsRow (w.heap.size + 4) 5 1 (.slice bg kk d) kk (bV cur)) := h6
          have hkk : kk ≤ len := by omega
          have hone : ∀ u ∈ [Value.int .u8 (cb.toNat : Nat)], u.oneCell' = true := by simp [Value.oneCell']
          have hm1 : kk + 1 ≤ maxLen := by unfold maxLen; omega
          have hm2 : (kk + 1) * 1 ≤ 140737488355328 := by omega
          have HLt : Hid _ := hlt
          have HLt1 : Hid _ := hlt1
          have hon : ∀ q, (Value.slice bg kk d).ownBlock = some q → q ≠ wr.heap.size := fun q hq e => by
            subst e
            exact own_type h6 e1 (by decide) hq
          have HOn : Hid _ := hon
          clear hW1 e1 y1 y2 h1 h2 h3 h4 h5 h6 hlt hlt1 hon HT0
          go_upto_region 6 with (at_builtin; refine wpList_append_grown rfl _ _ 42 rfl (w.heap.size + 4) 5 Try.info5 rfl Try.underlying42 _ _ _ _ rfl (HQ.out.alloc _) _ _ _ _ rfl (reads_one _ _ _) hone hm1 hm2 (Nat.le_trans HLt1.out (by simp)) ?_; intro bg2 d3 w2 hr2 hg2 hb2; have k1 : w2.heap[w.heap.size + 2]? = some (.cells #[.slice bg kk d] 42 (0, 0)) := (hb2.block _ (by omega)).trans ((heap_alloc_old _ _ (by have := HLt1.out; omega)).trans HBb.out); have k2 : w2.cell? ⟨w.heap.size + 2, 0, none⟩ = some (.slice bg kk d) := cell_of k1 0; have k3 : w2.frozen? ⟨w.heap.size + 2, 0, none⟩ = false := by simp [World.frozen?, k1])
          obtain ⟨W3, hW3⟩ : ∃ W3, W3 = w2.setCell ⟨w.heap.size + 2, 0, none⟩ (.slice bg2 (kk + 1) d3) := ⟨_, rfl⟩
          rw [← hW3]
          have T3 : Hid (AllAt w W3 (some ⟨b, off, none⟩) len cap wt (cur ++ [cb])) := by rw [hW3]; exact T1.out.byte HO.out HM.out HBb.out HK.out HQ.out HA.out hr2 hg2 hb2
          have n1 : W3.cell? ⟨w.heap.size + 3, 0, none⟩ = some (.func (.func 28) #[] #[.pointer (some ⟨w.heap.size, 0, none⟩), .pointer (some ⟨w.heap.size + 1, 0, none⟩), .pointer (some ⟨w.heap.size + 2, 0, none⟩), .pointer (some ⟨w.heap.size + 3, 0, none⟩)]) := cell_of T3.out.fn 0
          have n2 : W3.cell? ⟨wr.heap.size, 1, none⟩ = some (.int .i64 (ct : Nat)) := by
            rw [hW3, cell_agree (blk_ne (show wr.heap.size ≠ w.heap.size + 2 by have := HLt.out; omega) _)]
            exact keep_two E1.out hg2 (fun h => HOn.out _ h rfl) 1
          have hcall := IH.out ct wt (cur ++ [cb]) W3 (by omega) (by omega) HBound.out (by have := HK.out; simp; omega) T3.out
          clear hW3 hr2 hg2 hb2 k1 k2 k3 z1 d2
          go_wp2_with fail
          refine hcall.mono ?_
          rintro e w4 ⟨rfl, T4⟩
          obtain ⟨bg4, k4, d4, g1, g2, g3, g4⟩ := T4.back
          have u1 : w4.cell? ⟨w.heap.size + 2, 0, none⟩ = some (.slice bg4 (k4 + 1) d4) := cell_of g1 0
          have u2 : w4.frozen? ⟨w.heap.size + 2, 0, none⟩ = false := by simp [World.frozen?, g1]
          have hk4 : k4 ≤ len := by have := HK.out; omega
          have G4 : Hid (AllAt w (w4.setCell ⟨w.heap.size + 2, 0, none⟩ (.slice bg4 k4 d4)) (some ⟨b, off, none⟩) len cap (w0 ++ (flatS S (es.take (t + 1))).map (cur ++ ·)) cur) := by
            show AllAt _ _ _ _ _ _ _
            rw [HNext.out]; exact g4
          clear hcall T4 g1 g2 g4 n1 n2
          go_wp2_with fail
          go_roundw
          case rel => exact ⟨t + 1, by go_num, by omega, G4.out⟩
          case measure => simp [intOf]; omega
        · have q1 : ¬ (t : Int) < k := by omega
          have hE : Hid (AllAt w wr (some ⟨b, off, none⟩) len cap (ws ++ (langS S n).map (cur ++ ·)) cur) := by
            show AllAt _ _ _ _ _ _ _
            have h1 := hT.out
            rw [List.take_of_length_le (by rw [Hk.out]; omega)] at h1
            rw [Hmap.out]; exact h1
          clear hT
          go_wp2
          go_end0
          exact ⟨rfl, hE.out⟩
#print axioms all_gen
end Go.Proofs.Ytmcpiikcgimhpaa
