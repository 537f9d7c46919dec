/- For every input ReaderPlays answers true, and leaves its arguments as they were. Conditions: none. -/
import Derived.Test.YtabecgeemhkkmaaRows
import Derived.Test.YtabecgeemhkkmaaRef10
import Derived.Test.YtabecgeemhkkmaaOpen09
import Derived.Test.YtabecgeemhkkmaaOpen10
import Derived.ProofKit
import Derived.OpenShut
import Derived.ShutString
import Derived.ChangeOld
import Derived.SizedLaws
import Derived.Deep.RegionHeld
import Derived.Deep.RegionHeld3
import Derived.Deep.QuietTactic
import Derived.BigQuiet
import Derived.Deep.Cut
import Derived.Deep.CutBlock
namespace Go.Proofs.Ytabecgeemhkkmaa.readerPlays
open Go.ChangeShapes Go.WideShapes Go.ChangeAt Go.RowKit
open Go.ChangeMaps (open_string shut_string)
set_option linter.unusedVariables false

theorem own : ownKnob Try.prog.godebug = none := by kernel_rfl
theorem laidOut : laidOutB Try.prog = true := by kernel_rfl

theorem readsE_off {w : World} {ao : Option Addr} {n cap k : Nat} {es : List En} {vs : Array Value} {t : TypeId} (h : ReadsE w ao n cap (cellsE es)) (hk : w.heap[k]? = some (.cells vs t (0, 0))) (hv : ∀ (i : Nat) (u : Value), vs[i]? = some u → (∀ k, u ≠ strV k) ∧ ∀ x, u ≠ .int .u64 x) : ∀ a, ao = some a → 0 < n → a.block ≠ k := fun a ha hp e => by
  have hc := h.count
  obtain ⟨x, hx⟩ : ∃ x, es[0]? = some x := ⟨_, List.getElem?_eq_getElem (by omega)⟩
  have h1 := h.cell a ha 0 _ (cells_at hx).1
  obtain ⟨b, off, rfl⟩ : ∃ b off, a = ⟨b, off, none⟩ := by subst ha; exact h.plain hp
  simp only at e
  subst e
  simp only [World.cell?, Addr.add_lit, hk] at h1
  exact (hv _ _ h1).1 _ rfl
theorem peek_form (l : List En) : ∃ k n b, peekV l = .tuple #[.agg #[strV k, .int .u64 (n : Nat)], .bool b] := by
  cases l with
  | nil => exact ⟨[], 0, false, rfl⟩
  | cons e l => exact ⟨e.1, e.2, true, rfl⟩
theorem next_form (ao : Option Addr) (n cap at' : Nat) (es : List En) (hl : es.length = n) (ha : at' ≤ n) : ∃ k c b at2, peekV (es.drop at') = .tuple #[.agg #[strV k, .int .u64 (c : Nat)], .bool b] ∧ nextV ao n cap at' es = .tuple #[.agg #[.slice ao n cap, .int .i64 (at2 : Nat)], .agg #[strV k, .int .u64 (c : Nat)], .bool b] ∧ es.drop at2 = (es.drop at').tail ∧ at2 ≤ n := by
  unfold nextV
  cases hd : es.drop at' with
  | nil => exact ⟨[], 0, false, at', rfl, rfl, by rw [hd]; rfl, ha⟩
  | cons e l =>
    refine ⟨e.1, e.2, true, at' + 1, rfl, rfl, ?_, ?_⟩
    · rw [← List.drop_drop, hd]; rfl
    · have : (es.drop at').length = l.length + 1 := by rw [hd]; rfl
      rw [List.length_drop] at this
      omega
theorem off_rd {w : World} {ao x : Option Addr} {n cap k y z : Nat} {es : List En} {t : TypeId} (h : ReadsE w ao n cap (cellsE es)) (hk : w.heap[k]? = some (.cells #[.slice x y z] t (0, 0))) : ∀ a, ao = some a → 0 < n → a.block ≠ k :=
  readsE_off h hk fun i u hu => by
    match i with
    | 0 => simp at hu; subst hu; exact ⟨fun k h => (by unfold strV at h; cases h), fun x h => (by cases h)⟩
    | i + 1 => simp at hu
theorem off_rd2 {w : World} {ao x : Option Addr} {n cap k y z : Nat} {q : Int} {es : List En} {t : TypeId} (h : ReadsE w ao n cap (cellsE es)) (hk : w.heap[k]? = some (.cells #[.slice x y z, .int .i64 q] t (0, 0))) : ∀ a, ao = some a → 0 < n → a.block ≠ k :=
  readsE_off h hk fun i u hu => by
    match i with
    | 0 => simp at hu; subst hu; exact ⟨fun k h => (by unfold strV at h; cases h), fun x h => (by cases h)⟩
    | 1 => simp at hu; subst hu; exact ⟨fun k h => (by unfold strV at h; cases h), fun x h => (by cases h)⟩
    | i + 2 => simp at hu
theorem readsE_lt {w : World} {ao : Option Addr} {n cap : Nat} {es : List En} (h : ReadsE w ao n cap (cellsE es)) : ∀ a, ao = some a → 0 < n → a.block < w.heap.size := fun a ha hp => by
  obtain ⟨b, off, hao, hbl, _⟩ := h.at hp
  rw [hao] at ha; cases ha; exact hbl
theorem two_new2 (w : World) (o : Obj) (cs : Array Value) (t : TypeId) : ((w.alloc o).alloc (.cells cs t)).heap[w.heap.size + 1]? = some (.cells cs t (0, 0)) := by
  have := World.alloc_heap_new (w.alloc o) (.cells cs t)
  rw [World.size_alloc] at this
  exact this
theorem two_new1 (w : World) (cs : Array Value) (t : TypeId) (o : Obj) : ((w.alloc (.cells cs t)).alloc o).heap[w.heap.size]? = some (.cells cs t (0, 0)) := (Below.heap_alloc _ _ _ (by simp)).trans (World.alloc_heap_new w _)
theorem off_set2 {w : World} {b k : Nat} (x y : Value) (h : k ≠ b) : ((w.setCell ⟨b, 0, none⟩ x).setCell ⟨b, 1, none⟩ y).heap[k]? = w.heap[k]? := (Below.heap_setCell _ _ _ _ h).trans (Below.heap_setCell _ _ _ _ h)

set_option maxRecDepth 100000 in
set_option maxHeartbeats 4000000 in
theorem walk (w : World) (a0 : Option Addr) (len0 cap0 : Nat) (z0 : List Int) (r0 : Reads w a0 len0 cap0 (z0.map (.int .u8))) (f0 : ∀ z ∈ z0, (Lit.int .u8 z).wf = true) (b0 : len0 * 1 ≤ 140737488351232) (a1 : Option Addr) (len1 cap1 : Nat) (z1 : List Bool) (r1 : Reads w a1 len1 cap1 (z1.map .bool)) (b1 : len1 * 1 ≤ 140737488351232) :
    Calls Try.prog 9 #[.slice a0 len0 cap0, .slice a1 len1 cap1] w fun e w' => e = .returned (.bool true) ∧ Below w.heap.size w w' := by
  have h8 : isBytes z0 := fun z hz => bounds_u8 (f0 z hz)
  have hl1 : z1.length = len1 := by simpa using r1.length
  clear f0 b0
  go_enter Try.func9, Try.ntmps9
  go_wp2_with fail
  refine (shown10_any w).mono ?_
  rintro e w1 ⟨rfl, hB1⟩
  by_cases hlb : len0 ≤ 20000
  case neg =>
    have hli : (20000 : Int) < len0 := by omega
    clear hlb
    go_wp2
    go_ret
    exact ⟨rfl, hB1⟩
  have hli : ¬ (20000 : Int) < len0 := by omega
  have hx1 := r0.later hB1 (Nat.le_refl _)
  have p3 := open_any hx1 h8 (by omega)
  obtain ⟨L, d, hD⟩ : ∃ L d, decL z0 = (L, d) := ⟨_, _, rfl⟩
  have hLl : L.length ≤ 1000000000 := by
    have := dec_cases z0
    rw [hD] at this
    rcases this with ⟨l, s, s1, _, _, hz, he⟩ | he
    · simp only [Prod.mk.injEq] at he
      obtain ⟨rfl, _⟩ := he
      have h1 := run_len (l := L) s1
      have h2 : z0.length = len0 := by simpa using r0.length
      rw [← hz] at h1
      omega
    · simp only [Prod.mk.injEq] at he
      obtain ⟨rfl, _⟩ := he
      simp
  rw [hD] at p3
  go_wp2_with fail
  refine p3.mono ?_
  rintro e w2 ⟨hG2, r, rfl, hr⟩
  have hx2 := hx1.later hG2 (Nat.le_refl _)
  have hB2 := hB1.trans (hG2.mono hB1.size)
  have hs12 : w.heap.size ≤ w1.heap.size := hB1.size
  have p4 := ropen_any hx2 h8 (by omega)
  rw [hD] at p4
  clear p3 hx1 hB1 hD hG2
  go_wp2_with fail
  refine p4.mono ?_
  rintro e w3 ⟨hG3, ag, c, m, rfl, hm, hre⟩
  have hmL : m = L.length := hm
  obtain ⟨W3, hW3⟩ : ∃ W3, W3 = w3.alloc (.cells #[.slice ag m c, .int .i64 0] 55) := ⟨_, rfl⟩
  have hG3' : Grow w3 W3 := by rw [hW3]; exact (Below.refl _ _).alloc (Nat.le_refl _) _
  have kx : W3.heap[w3.heap.size]? = some (.cells #[.slice ag m c, .int .i64 0] 55 (0, 0)) := by rw [hW3]; exact Array.getElem?_push_size
  have hB3 := hB2.trans ((Grow.trans hG3 hG3').mono hB2.size)
  have hre3 : ReadsE W3 ag m c (cellsE L) := hre.later hG3' (Nat.le_refl _)
  have HW3 : Hid _ := hW3
  have hs3 : w.heap.size ≤ w3.heap.size := Nat.le_trans hB2.size hG3.size
  rcases hr with ⟨hd, rfl⟩ | ⟨hd, rb, rfl, hrb, hat⟩
  · have hd' : d ≠ 0 := hd
    have hdi : ¬ (d : Int) = 0 := by omega
    have hdb : ((d : Int) != 0) = true := by rw [bne_iff_ne]; exact hdi
    rw [hW3] at hB3
    clear p4 hd hd' hre hre3 kx hG3 hG3' hB2 hx2 hm hmL hW3 HW3
    go_wp2_with fail
    go_loop [10] (fun i => i = .int .i64 0) (fun _ => 0)
    case atStart => rfl
    case round =>
      subst hrel
      by_cases h0 : 0 < len1
      · have h0i : (0 : Int) < len1 := by omega
        go_wp2
        go_ret
        exact ⟨rfl, hB3⟩
      · have h0i : ¬ (0 : Int) < len1 := by omega
        go_wp2
        go_ret
        exact ⟨rfl, hB3⟩
  have hd' : d = 0 := hd
  subst hd'
  have hat2 : RdAt w2.heap.size w2 rb L := hat
  have hat3 : RdAt w2.heap.size W3 rb (L.drop 0) := (hat2.later hG3).later hG3'
  have hrw : w.heap.size ≤ rb := Nat.le_trans hs12 hrb
  have hrx : rb ≠ w3.heap.size := by have := (hat2.later hG3).rb_lt; omega
  clear p4 hd hre hG3 hG3' hB2 hx2 hm hW3 hat hat2 hrb
  have HmL : Hid _ := hmL
  have HLl : Hid (m ≤ 1000000000) := by rw [hmL]; exact hLl
  clear hmL hLl
  go_wp2_with fail
  rw [← HW3.out]
  go_loopw [10] (fun iv wr => ∃ (i at' : Nat), iv = .int .i64 (i : Nat) ∧ i ≤ len1 ∧ at' ≤ m ∧ RdAt w2.heap.size wr rb (L.drop at') ∧ wr.heap[w3.heap.size]? = some (.cells #[.slice ag m c, .int .i64 (at' : Nat)] 55 (0, 0)) ∧ ReadsE wr ag m c (cellsE L) ∧ Below w.heap.size w wr) (fun iv _ => (len1 - intOf iv).toNat)
  case atStart => exact ⟨0, 0, rfl, Nat.zero_le _, Nat.zero_le _, hat3, kx, hre3, hB3⟩
  case round =>
    obtain ⟨i, at', rfl, hi, ha, hat, kx, hre, hB⟩ := hrel
    clear hat3 hre3 hB3
    by_cases hil : i < len1 ∧ i < 300
    case neg =>
      have hsp : ¬ (i : Int) < len1 ∨ ((i : Int) < len1 ∧ ¬ (i : Int) < 300) := by omega
      clear hil
      rcases hsp with q1 | ⟨q1, q2⟩
      all_goals go_wp2
      all_goals go_ret
      all_goals exact ⟨rfl, hB⟩
    obtain ⟨q1', q2'⟩ := hil
    have q1 : (i : Int) < len1 := by omega
    have q2 : (i : Int) < 300 := by omega
    obtain ⟨ad, hadd⟩ : ∃ ad, a1 = some ad := by
      cases a1 with
      | none => have := r1.bare rfl; omega
      | some ad => exact ⟨ad, rfl⟩
    subst hadd
    obtain ⟨b, off, rfl⟩ := r1.plain (by omega)
    obtain ⟨q, hq⟩ : ∃ q, z1[i]? = some q := ⟨_, List.getElem?_eq_getElem (by omega)⟩
    have cq0 := r1.cell _ rfl i (.bool q) (by rw [List.getElem?_map, hq]; rfl)
    rw [Addr.add_lit] at cq0
    have hbl : b < w.heap.size := World.block_lt_of_cell? w _ cq0
    have cq : wr.cell? ⟨b, off + i, none⟩ = some (.bool q) := (hB.cell (p := ⟨b, off + i, none⟩) hbl).trans cq0
    clear hq cq0
    go_upto_if 62 with (fail)
    go_cut [11, 12, 13, 14, 15] from 63 to 82 (fun _ _ _ _ _ wq => ∃ at2 : Nat, at2 ≤ m ∧ RdAt w2.heap.size wq rb (L.drop at2) ∧ wq.heap[w3.heap.size]? = some (.cells #[.slice ag m c, .int .i64 (at2 : Nat)] 55 (0, 0)) ∧ ReadsE wq ag m c (cellsE L) ∧ Below w.heap.size w wq)
    case first =>
      cases q with
      | false =>
        go_wp2_with fail
        go_meet
        case rel => exact ⟨at', ha, hat, kx, hre, hB⟩
      | true =>
        obtain ⟨k1, c1, b1, at2, f1, f2, f3, f4⟩ := next_form ag m c at' L HmL.out.symm ha
        have pn := next_any hat
        obtain ⟨ao', cap', hvr, _⟩ := id hat
        have hrn : w3.heap.size ≠ rb := fun e => hrx e.symm
        have og1 := off_rd hre hvr
        clear hvr
        go_wp2_with fail
        refine pn.mono ?_
        rintro e w5 hn5
        have he5 : e = .returned (.tuple #[.agg #[strV k1, .int .u64 (c1 : Nat)], .bool b1]) := by rw [hn5.1, f1]
        subst he5
        have hB5 := hn5.below hB hB.size hrw
        have hat5 : RdAt w2.heap.size w5 rb (L.drop at2) := by rw [f3]; exact hn5.2.2
        have kx5 := hn5.block kx hrn
        have hre5 : ReadsE w5 ag m c (cellsE L) := readsE_type hre fun a ha' hp => hn5.2.1.block _ (readsE_lt hre a ha' hp) (fun e => og1 a ha' hp (by cases e; rfl))
        obtain ⟨W5, hW5⟩ : ∃ W5, W5 = w5.alloc (.cells #[strV k1, .int .u64 (c1 : Nat)] 44) := ⟨_, rfl⟩
        have hG5 : Grow w5 W5 := by rw [hW5]; exact (Below.refl _ _).alloc (Nat.le_refl _) _
        have k8 := cells_later kx5 hG5
        have kA : W5.heap[w5.heap.size]? = some (.cells #[strV k1, .int .u64 (c1 : Nat)] 44 (0, 0)) := by rw [hW5]; exact Array.getElem?_push_size
        have hB6 := hB5.trans (hG5.mono hB5.size)
        have hat6 := hat5.later hG5
        have hre6 := hre5.later hG5 (Nat.le_refl _)
        have pm := rnext_any hre6 ha HLl.out
        rw [f2] at pm
        have n53 : w5.heap.size ≠ w3.heap.size := by have := (Array.getElem?_eq_some_iff.1 kx5).1; omega
        have cx := blk2 k8
        rw [hW5] at cx
        have HW5 : Hid _ := hW5
        have F4 : Hid _ := f4
        clear pn hn5 hat hre kx hB kx5 hat5 hre5 hG5 hW5 og1 f1 f2 f3 f4 hB5
        go_wp2_with fail
        rw [← HW5.out]
        refine pm.mono ?_
        rintro e w6 ⟨rfl, hG6⟩
        clear pm cx
        obtain ⟨W6, hW6⟩ : ∃ W6, W6 = (w6.alloc (.cells #[.slice ag m c, .int .i64 (at2 : Nat)] 55)).alloc (.cells #[strV k1, .int .u64 (c1 : Nat)] 44) := ⟨_, rfl⟩
        have hG6' : Grow w6 W6 := by rw [hW6]; exact two_below2 _ _ _
        have j8 := cells_later (cells_later k8 hG6) hG6'
        have jA := cells_later (cells_later kA hG6) hG6'
        have j13 : W6.heap[w6.heap.size]? = some (.cells #[.slice ag m c, .int .i64 (at2 : Nat)] 55 (0, 0)) := by rw [hW6]; exact two_new1 _ _ _ _
        have j14 : W6.heap[w6.heap.size + 1]? = some (.cells #[strV k1, .int .u64 (c1 : Nat)] 44 (0, 0)) := by rw [hW6]; exact two_new2 _ _ _ _
        have n63 : w6.heap.size + 1 ≠ w3.heap.size := by have := (Array.getElem?_eq_some_iff.1 (cells_later k8 hG6)).1; omega
        obtain ⟨W7, hW7⟩ : ∃ W7, W7 = (W6.setCell ⟨w3.heap.size, 0, none⟩ (.slice ag m c)).setCell ⟨w3.heap.size, 1, none⟩ (.int .i64 (at2 : Nat)) := ⟨_, rfl⟩
        have l8 : W7.heap[w3.heap.size]? = some (.cells #[.slice ag m c, .int .i64 (at2 : Nat)] 55 (0, 0)) := by rw [hW7]; exact blk2_set j8 _ _
        have lA : W7.heap[w5.heap.size]? = some (.cells #[strV k1, .int .u64 (c1 : Nat)] 44 (0, 0)) := by rw [hW7]; exact (off_set2 _ _ n53).trans jA
        have l14 : W7.heap[w6.heap.size + 1]? = some (.cells #[strV k1, .int .u64 (c1 : Nat)] 44 (0, 0)) := by rw [hW7]; exact (off_set2 _ _ n63).trans j14
        have hat7 : RdAt w2.heap.size W7 rb (L.drop at2) := by
          rw [hW7]
          refine ((hat6.later hG6).later hG6').by_block (off_set2 _ _ hrx) fun k cur _ hc => off_set2 _ _ ?_
          rintro rfl
          rw [j8] at hc; simp at hc
        have hre6' := (hre6.later hG6 (Nat.le_refl _)).later hG6' (Nat.le_refl _)
        have og2 := off_rd2 hre6' j8
        have hre7 : ReadsE W7 ag m c (cellsE L) := by rw [hW7]; exact readsE_type hre6' fun a ha' hp => off_set2 _ _ (og2 a ha' hp)
        have hB7 : Below w.heap.size w W7 := by rw [hW7]; exact below_set2 (hB6.trans ((Grow.trans hG6 hG6').mono hB6.size)) hs3 _ _
        have c8 := blk2 j8
        have c13 := blk2 j13
        have cA := blk2 lA
        have c14 := blk2 l14
        rw [hW7] at cA c14
        rw [hW6] at cA c14 c8 c13
        have HW6 : Hid _ := hW6
        have HW7 : Hid _ := hW7
        have hsm := en_diff k1 c1
        clear hG6 hG6' j8 jA j13 j14 hW6 hW7 lA l14 hre6' og2 hre6 hat6 hB6 k8 kA
        go_wp2_with fail
        go_meet
        case rel => rw [← HW6.out, ← HW7.out]; exact ⟨at2, F4.out, hat7, l8, hre7, hB7⟩
    case rest =>
      obtain ⟨at2, ha2, hat, kx, hre, hB⟩ := hcut
      obtain ⟨k1, c1, b1, hpk⟩ := peek_form (L.drop at2)
      have pp := peek_any hat
      rw [hpk] at pp
      go_wp2_with fail
      refine pp.mono ?_
      rintro e w5 ⟨rfl, hG5⟩
      obtain ⟨W5, hW5⟩ : ∃ W5, W5 = w5.alloc (.cells #[strV k1, .int .u64 (c1 : Nat)] 44) := ⟨_, rfl⟩
      have hG5' : Grow w5 W5 := by rw [hW5]; exact (Below.refl _ _).alloc (Nat.le_refl _) _
      have hat6 := (hat.later hG5).later hG5'
      have kx6 := cells_later (cells_later kx hG5) hG5'
      have kA : W5.heap[w5.heap.size]? = some (.cells #[strV k1, .int .u64 (c1 : Nat)] 44 (0, 0)) := by rw [hW5]; exact Array.getElem?_push_size
      have hre6 := (hre.later hG5 (Nat.le_refl _)).later hG5' (Nat.le_refl _)
      have hB6 := hB.trans ((Grow.trans hG5 hG5').mono hB.size)
      have pm := rpeek_any hre6 ha2 HLl.out
      rw [hpk] at pm
      have cx := blk2 kx6
      rw [hW5] at cx
      have HW5 : Hid _ := hW5
      clear pp hat kx hre hB hG5 hG5' hW5 hpk
      go_wp2_with fail
      rw [← HW5.out]
      refine pm.mono ?_
      rintro e w6 ⟨rfl, hG6⟩
      clear pm cx
      obtain ⟨W6, hW6⟩ : ∃ W6, W6 = w6.alloc (.cells #[strV k1, .int .u64 (c1 : Nat)] 44) := ⟨_, rfl⟩
      have hG6' : Grow w6 W6 := by rw [hW6]; exact (Below.refl _ _).alloc (Nat.le_refl _) _
      have hat7 := (hat6.later hG6).later hG6'
      have kx7 := cells_later (cells_later kx6 hG6) hG6'
      have kA7 := cells_later (cells_later kA hG6) hG6'
      have kB : W6.heap[w6.heap.size]? = some (.cells #[strV k1, .int .u64 (c1 : Nat)] 44 (0, 0)) := by rw [hW6]; exact Array.getElem?_push_size
      have hre7 := (hre6.later hG6 (Nat.le_refl _)).later hG6' (Nat.le_refl _)
      have hB7 := hB6.trans ((Grow.trans hG6 hG6').mono hB6.size)
      have hdd : ∀ q, Grow W6 (W6.drewN q) := fun q => below_drewN (Below.refl _ _) q
      have hlen : (L.drop at2).length = m - at2 := by rw [List.length_drop, HmL.out]
      have pl := fun q => left_any (hat7.later (hdd q))
      rw [hlen] at pl
      have hsub : (m : Int) - at2 = ((m - at2 : Nat) : Int) := by omega
      have hml : m - at2 ≤ 1000000000 := by have := HLl.out; omega
      have hwr : IntKind.i64.wrap ((m - at2 : Nat) : Int) = ((m - at2 : Nat) : Int) := by simp [IntKind.wrap, IntKind.bits, IntKind.signed]; omega
      have cx := blk2 kx7
      have cA := blk2 kA7
      have cB := blk2 kB
      have HA : Hid (at2 ≤ m) := ha2
      rw [hW6] at cx cA cB pl
      have HW6 : Hid _ := hW6
      have hsm := en_diff k1 c1
      clear hG6 hG6' hW6 hat6 kx6 kA hre6 hB6 kA7 kB hlen ha2
      generalize m - at2 = M at *
      go_wp2_with fail
      cases b1
      all_goals go_quiet (exact Calls.quiet_of_same (pl _))
      all_goals go_wp2
      all_goals go_roundw
      case rel => exact ⟨i + 1, at2, by go_num, by omega, HA.out, by rw [← HW6.out]; exact hat7.later (hdd _), by rw [← HW6.out]; exact cells_later kx7 (hdd _), by rw [← HW6.out]; exact hre7.later (hdd _) (Nat.le_refl _), by rw [← HW6.out]; exact below_drewN hB7 _⟩
      case measure => simp [intOf]; omega
      case rel => exact ⟨i + 1, at2, by go_num, by omega, HA.out, by rw [← HW6.out]; exact hat7.later (hdd _), by rw [← HW6.out]; exact cells_later kx7 (hdd _), by rw [← HW6.out]; exact hre7.later (hdd _) (Nat.le_refl _), by rw [← HW6.out]; exact below_drewN hB7 _⟩
      case measure => simp [intOf]; omega

set_option maxRecDepth 100000 in
theorem lifted (os : Os) (started : os.Started) (H : Type) (enc : TypeId × Value → H) :
    ReturnsInHanded {} Try.checked os 9 .any (Rows.readerPlaysSpec.pre6 enc Try.prog Try.f9 Rows.readerPlaysRow.domain false) (Rows.readerPlaysSpec.post enc Try.prog Try.f9 false true false false) := by
  refine returnsInHanded_of_change_sized (C := Try.checked) own started (by kernel_rfl) Try.func9
    (ChangeSpec.witness6 (enc := enc) (C := Try.checked) false ⟨#[], #[.slice none 0 0, .slice none 0 0], []⟩ 8 (by kernel_rfl) (by kernel_rfl) (by kernel_rfl) (by kernel_rfl)) ?_
  intro W base args ds gs before hval0 hW hcnd hsz0 _
  have hsz : (DataW.weightsEach Try.prog (Try.f9.params.toList ++ Rows.readerPlaysSpec.plain.varTypes Try.prog) (ds ++ gs)).all (· ≤ reachBytes) = true := hsz0
  clear hsz0
  have hval : ∀ (j : Nat) t v, Try.f9.params[j]? = some t → args[j]? = some v → Value.okWide Try.prog W .any base t v := hval0
  have hW' := hW
  obtain ⟨p, q, hA0, hV, rfl, hfz, hnd⟩ := hW
  have hA : DataW.TrodAll enc Try.prog W 0 (fun _ => true) true Try.f9.params.toList args.toList ds p := hA0
  rw [Try.params9] at hA hval hsz
  obtain ⟨v0, vs0, d0, ds0, p0, q0, hargs, rfl, rfl, h0, rr0⟩ := trodAll_cons hA
  obtain ⟨v1, vs1, d1, ds1, p1, q1, rfl, rfl, rfl, h1, rr1⟩ := trodAll_cons rr0
  obtain ⟨rfl, rfl, rfl⟩ := trodAll_nil rr1
  obtain rfl : args = #[v0, v1] := by cases args; simp_all
  obtain ⟨rfl, rfl⟩ := trodVars_none hV
  obtain ⟨a0, len0, cap0, rfl⟩ := okWide_slice Try.underlying23 (hval 0 23 v0 rfl rfl)
  have k0 := h0
  have lt0 : ∀ x ∈ p0, x.block < W.heap.size := by obtain ⟨m, hm⟩ := k0; exact DataW.trod_lt m _ _ _ hm
  obtain ⟨z0, r0, f0, b0⟩ := slice_in Try.underlying23 Try.underlying5 (by kernel_rfl) (B := 1) (by kernel_rfl) hsz (j := 0) rfl rfl h0
  obtain ⟨a1, len1, cap1, rfl⟩ := okWide_slice Try.underlying50 (hval 1 50 v1 rfl rfl)
  have k1 := h1
  have lt1 : ∀ x ∈ p1, x.block < W.heap.size := by obtain ⟨m, hm⟩ := k1; exact DataW.trod_lt m _ _ _ hm
  obtain ⟨z1, r1, b1⟩ := bools_in Try.underlying50 Try.underlying4 (by kernel_rfl) (B := 1) (by kernel_rfl) hsz (j := 1) rfl rfl h1
  clear hA0 hval0
  refine (walk W a0 len0 cap0 z0 r0 f0 b0 a1 len1 cap1 z1 r1 b1).mono fun e W' ⟨he, bel⟩ => ?_
  subst he
  exact ⟨_, rfl, _, _, _, [], _, [], hW', trodAll_mk1 (shut_bool Try.underlying4 _), (trodAll_cons_mk (Below.trod laidOut (by kernel_rfl) (of_decide_eq_true (by kernel_rfl)) k0 bel lt0) (trodAll_cons_mk (Below.trod laidOut (by kernel_rfl) (of_decide_eq_true (by kernel_rfl)) k1 bel lt1) trodAll_mk0)), rfl, bel.frame _, fun h => by cases h⟩

theorem over : Rows.readerPlaysRow.holds Try.pinned (OpenSpec.ofChange Rows.readerPlaysSpec) :=
  OpenClaim.holds_of_wide 9 Try.f9 rfl rfl rfl rfl rfl rfl rfl ⟨rfl, rfl, rfl, rfl, rfl⟩ rfl rfl rfl rfl rfl (by kernel_rfl) Try.func9 (by kernel_rfl)
    (of_decide_eq_true (by kernel_rfl)) (by unfold Func.isWrapper; first | (rw [if_pos (by decide +kernel)]; kernel_rfl) | (rw [if_neg (by decide +kernel)]; exact ⟨rfl, rfl⟩))
    (fun os started H enc _ => lifted os started H enc)
end Go.Proofs.Ytabecgeemhkkmaa.readerPlays
namespace Go.Proofs.Ytabecgeemhkkmaa
theorem readerPlays_holds : Rows.ReaderPlaysSaid := readerPlays.over
#print axioms readerPlays_holds
end Go.Proofs.Ytabecgeemhkkmaa
