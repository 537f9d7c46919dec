/- The landed run.unpack: a block's entries. -/
import Derived.Test.YtgnhnhachhfafaaRunEntry
namespace Go.Proofs.Ytgnhnhachhfafaa
open Go.RowKit
set_option linter.unusedVariables false
set_option linter.unusedSimpArgs false

def takesS : Nat → Wd → List Int → Option (List En)
  | 0, _, _ => some []
  | k + 1, was, b => match takeS was b with
    | none => none
    | some (e, n) => (takesS k e.1 (b.drop n)).map (e :: ·)
def unpackS (r : List Int) : Option (List En) := if (getL r).2.2 = 0 ∧ (getL r).1 ≤ 255 then takesS (getL r).1 [] (r.drop (getL r).2.1) else none
theorem takesS_next {k n : Nat} {was : Wd} {b : List Int} {e : En} (h : takeS was b = some (e, n)) : takesS (k + 1) was b = (takesS k e.1 (b.drop n)).map (e :: ·) := by
  rw [takesS, h]
theorem takesS_none {k : Nat} {was : Wd} {b : List Int} (h : takeS was b = none) : takesS (k + 1) was b = none := by
  rw [takesS, h]
theorem takeS_len {was : Wd} {b : List Int} {e : En} {n : Nat} (h : takeS was b = some (e, n)) : e.1.length ≤ 255 := by
  unfold takeS at h
  split at h
  · cases h
  · split at h
    · cases h; assumption
    · cases h
theorem take_u64 {was : Wd} {b : List Int} (h8 : isBytes b) {e : En} {n : Nat} (h : takeE was b = some (e, n)) : e.2 ≤ 18446744073709551615 := by
  unfold takeE at h
  split at h
  · split at h
    · split at h
      · rename_i h3
        simp only [Option.some.injEq, Prod.mk.injEq] at h
        obtain ⟨he, _⟩ := h
        rw [← he]
        simp only
        rcases hg : getL (b.drop ((getL b).2.1 + (getL (b.drop (getL b).2.1)).2.1 + (getL (b.drop (getL b).2.1)).1)) with ⟨c, j, f⟩
        rw [hg] at h3
        simp only at h3 ⊢
        subst h3
        have := get_ok _ (fun z hz => h8 z (List.mem_of_mem_drop hz)) c j hg
        omega
      · cases h
    · cases h
  · cases h
theorem takeS_u64 {was : Wd} {b : List Int} (h8 : isBytes b) {e : En} {n : Nat} (h : takeS was b = some (e, n)) : e.2 ≤ 18446744073709551615 := by
  unfold takeS at h
  split at h
  · cases h
  · rename_i e' n' he
    split at h
    · cases h; exact take_u64 h8 he
    · cases h

theorem reads_en (W : World) (k : Wd) (n : Nat) : ReadsE (W.alloc (.cells #[strV k, .int .u64 n] 44)) (some ⟨W.heap.size, 0, none⟩) 1 1 (cellsE [(k, n)]) :=
  ⟨rfl, Nat.le_refl _, by decide, fun h => (by cases h), fun a ha j u hu => by cases ha; exact news_one W _ _ _ j u hu⟩
/-- A row of entries lies on behind stores into another block. -/
theorem own2_sets {w : World} {base e n b : Nat} {v : Value} {xs : List Value} (h : w.ownsRow base e 2 v n xs) (hb : ∀ k, v.ownBlock = some k → k ≠ b) (x y : Value) : ((w.setCell ⟨b, 0, none⟩ x).setCell ⟨b, 1, none⟩ y).ownsRow base e 2 v n xs :=
  own2_block (own2_block h fun k hk => Below.heap_setCell _ _ _ _ (hb k hk)) fun k hk => Below.heap_setCell _ _ _ _ (hb k hk)

/-- What unpack tells. -/
def UnpOut (w : World) (r : Option (List En)) (e : Ending) (w' : World) : Prop := Below w.heap.size w w' ∧ match r with
  | none => e = .returned (.tuple #[.slice none 0 0, .bool false])
  | some l => ∃ ag c m, e = .returned (.tuple #[.slice ag m c, .bool true]) ∧ m = l.length ∧ w'.ownsRow w.heap.size 44 2 (.slice ag m c) m (cellsE l)

set_option maxRecDepth 100000 in
set_option maxHeartbeats 4000000 in
theorem unpack_any {w : World} {ao : Option Addr} {len cap : Nat} {zs : List Int} (h : Reads w ao len cap (zs.map (.int .u8))) (h8 : isBytes zs) (hl : len ≤ 1000000000000) :
    Calls Try.prog 59 #[.slice ao len cap] w fun e w' => UnpOut w (unpackS zs) e w' := by
  have p1 := number_any h h8 hl
  unfold NumOut at p1
  rcases g1 : getL zs with ⟨n, i, f⟩
  have hi := get_len_le h8 g1
  have hlx : zs.length = len := by simpa using h.length
  rw [g1] at p1
  have HU : Hid (unpackS zs = if f = 0 ∧ n ≤ 255 then takesS n [] (zs.drop i) else none) := by show _ = _; unfold unpackS; rw [g1]
  have d8 : isBytes (zs.drop i) := fun z hz => h8 z (List.mem_of_mem_drop hz)
  clear g1
  go_enter Try.func59, Try.ntmps59
  go_wp2_with fail
  refine p1.mono ?_
  rintro e w1 ⟨x1, c1, rfl, hG1, hd1⟩
  have Hd1 : Hid _ := hd1
  clear p1 hd1
  by_cases hf : f = 0
  case neg =>
    have hE : Hid (unpackS zs = none) := by show _ = _; rw [HU.out, if_neg (fun hh => hf hh.1)]
    have hfi : decide (f = 0) = false := by simp [hf]
    clear hf
    go_wp2
    go_ret2
    rw [hE.out]
    exact ⟨hG1, rfl⟩
  subst hf
  by_cases hn : n ≤ 255
  case neg =>
    have hE : Hid (unpackS zs = none) := by show _ = _; rw [HU.out, if_neg (fun hh => hn hh.2)]
    have hni : (255 : Int) < n := by omega
    clear hn
    go_wp2
    go_ret2
    rw [hE.out]
    exact ⟨hG1, rfl⟩
  have hni : ¬ (255 : Int) < n := by omega
  have HV : Hid (unpackS zs = takesS n [] (zs.drop i)) := by show _ = _; rw [HU.out, if_pos ⟨rfl, hn⟩]
  have hil : len - i ≤ 1000000000000 := by omega
  clear HU
  have hst : Hid (unpackS zs = (takesS n [] (zs.drop i)).map ([] ++ ·)) := by show _ = _; rw [HV.out]; simp
  generalize len - i = li at *
  generalize zs.drop i = Z at *
  clear HV hi
  go_wp2_with fail
  go_loopw [5, 7, 8, 23] (fun bv lv sv iv wr => ∃ (j : Nat) (x : Option Addr) (l c : Nat) (z : List Int) (ag : Option Addr) (cg : Nat) (was : Wd) (es : List En), iv = .int .u64 (j : Nat) ∧ bv = .slice x l c ∧ lv = .slice ag j cg ∧ sv = strV was ∧ j ≤ n ∧ l ≤ 1000000000000 ∧ was.length ≤ 255 ∧ isBytes z ∧ Hid (es.length = j) ∧
      Hid (∀ W, Reads W ao len cap (zs.map (.int .u8)) → Reads W x l c (z.map (.int .u8))) ∧ wr.ownsRow w.heap.size 44 2 (.slice ag j cg) j (cellsE es) ∧ Hid (unpackS zs = (takesS (n - j) was z).map (es ++ ·)) ∧ Below w.heap.size w wr) (fun _ _ _ iv _ => (n - intOf iv).toNat)
  case atStart => exact ⟨0, x1, _, c1, _, none, 0, [], [], rfl, rfl, rfl, rfl, Nat.zero_le _, hil, by simp, d8, rfl, Hd1.out, World.ownsRow_nil _ _ _ _, hst.out, hG1⟩
  case round =>
    obtain ⟨j, x, l, c, z, ag, cg, was, es, rfl, rfl, rfl, rfl, hj, hll, hwl, z8, hes, hrd, hrow, hT, hB⟩ := hrel
    clear hst Hd1 hil hG1
    by_cases hjn : j < n
    case neg =>
      have hje : n - j = 0 := by omega
      have hE : Hid (unpackS zs = some es) := by show _ = _; rw [hT.out, hje]; simp [takesS]
      have hlt : ¬ (j : Int) < n := by omega
      clear hT hjn hje
      go_wp2
      go_ret2
      rw [hE.out]
      exact ⟨hB, ag, cg, j, rfl, hes.out.symm, hrow⟩
    have hji : (j : Int) < n := by omega
    obtain ⟨W1, hW1⟩ : ∃ W1, W1 = wr.alloc (.cells #[.string ⟨#[]⟩, .int .u64 0] 44) := ⟨_, rfl⟩
    have hG0 : Grow wr W1 := by rw [hW1]; exact (Below.refl _ _).alloc (Nat.le_refl _) _
    have k1 : W1.heap[wr.heap.size]? = some (.cells #[.string ⟨#[]⟩, .int .u64 0] 44 (0, 0)) := by rw [hW1]; exact Array.getElem?_push_size
    have HW1 : Hid _ := hW1
    have hB1 := hB.trans (hG0.mono hB.size)
    have pe := entry_any hwl (hrd.out _ (h.later hB1 (Nat.le_refl _))) z8 hll
    have hrow1 := own2_later hrow hG0 (Nat.le_refl _)
    obtain ⟨j', hj'⟩ : ∃ j', n - j = j' + 1 := ⟨n - j - 1, by omega⟩
    have Hj' : Hid _ := hj'
    have hnb : ∀ k, (Value.slice ag j cg).ownBlock = some k → k ≠ wr.heap.size := fun k hk => by have := (hrow.lt k hk).2; omega
    clear hW1 hj' hrow hG0
    rcases ht : takeS was z with _ | ⟨⟨ek, en⟩, sz⟩
    · rw [ht] at pe
      have hE : Hid (unpackS zs = none) := by show _ = _; rw [hT.out, Hj'.out, takesS_none ht]; rfl
      clear ht hT
      go_wp2_with fail
      rw [← HW1.out]
      refine pe.mono ?_
      rintro e w2 ⟨hG2, ex, ey, ev, rfl⟩
      have k2 := cells_later k1 hG2
      have cz := blk2 k2
      have hB2 := hB1.trans (hG2.mono hB1.size)
      have hBz := below_set2 (b := wr.heap.size) hB2 hB.size (strV ex) (.int .u64 ey)
      clear pe hG2
      go_wp2
      go_ret2
      rw [hE.out]
      exact ⟨hBz, rfl⟩
    · rw [ht] at pe
      have hE : Hid (unpackS zs = (takesS (n - (j + 1)) ek (z.drop sz)).map ((es ++ [(ek, en)]) ++ ·)) := by
        show _ = _
        rw [hT.out, Hj'.out, takesS_next ht, show n - (j + 1) = j' by have := Hj'.out; omega, Option.map_map]
        congr 1
        funext l
        simp
      have hkl := takeS_len ht
      simp only at hkl
      have hen := takeS_u64 z8 ht
      simp only at hen
      have hes2 : Hid ((es ++ [(ek, en)]).length = j + 1) := by show _ = _; rw [List.length_append, hes.out]; rfl
      clear ht hT
      go_wp2_with fail
      rw [← HW1.out]
      refine pe.mono ?_
      rintro e w2 ⟨hG2, x2, c2, rfl, hsl, hd2⟩
      have k2 := cells_later k1 hG2
      have cz := blk2 k2
      have hB2 := hB1.trans (hG2.mono hB1.size)
      have k3 := blk2_set k2 (strV ek) (.int .u64 en)
      have hrow2 := own2_sets (own2_later hrow1 hG2 (Nat.le_refl _)) hnb (strV ek) (.int .u64 en)
      have hB3 := below_set2 (b := wr.heap.size) hB2 hB.size (strV ek) (.int .u64 en)
      have hd3 : Hid (∀ W, Reads W ao len cap (zs.map (.int .u8)) → Reads W x2 (l - sz) c2 ((z.drop sz).map (.int .u8))) := fun W hW => hd2 W (hrd.out W hW)
      have z8' : isBytes (z.drop sz) := fun y hy => z8 y (List.mem_of_mem_drop hy)
      have ck := blk2 k3
      have hlk := load_en k3
      clear pe hd2 hG2 hrow1 k1 hB1 k2
      have hs3 : w.heap.size ≤ ((w2.setCell ⟨wr.heap.size, 0, none⟩ (strV ek)).setCell ⟨wr.heap.size, 1, none⟩ (.int .u64 (en : Nat))).heap.size := hB3.size
      have k3a := cells_later k3 ((Below.refl _ _).alloc (Nat.le_refl _) (.cells #[strV ek, .int .u64 (en : Nat)] 44))
      have hBa := hB3.alloc hs3 (.cells #[strV ek, .int .u64 (en : Nat)] 44)
      have hrowa := own2_later hrow2 ((Below.refl _ _).alloc (Nat.le_refl _) (.cells #[strV ek, .int .u64 (en : Nat)] 44)) (Nat.le_refl _)
      have hsa := hBa.size
      have hre := reads_en ((w2.setCell ⟨wr.heap.size, 0, none⟩ (strV ek)).setCell ⟨wr.heap.size, 1, none⟩ (.int .u64 (en : Nat))) ek en
      rw [show ((w2.setCell ⟨wr.heap.size, 0, none⟩ (strV ek)).setCell ⟨wr.heap.size, 1, none⟩ (.int .u64 (en : Nat))).heap.size = w2.heap.size by simp [World.setCell]] at hre
      have hkz : l - sz ≤ 1000000000000 := by omega
      clear hB3 hrow2 k3 hB2
      go_wp2_with (at_builtin; go_loud (refine wpList_append_en rfl _ _ rfl w.heap.size _ _ _ _ rfl hrowa _ _ _ _ rfl hre (cells_one _) (by unfold maxLen; omega) (by omega) hsa ?_); intro ag4 c4 w4 hrow4 hg4 hb4 hwh4; have k4 := (hg4.block _ (Array.getElem?_eq_some_iff.1 k3a).1 (fun e' => hnb _ e'.symm rfl)).trans k3a; have cz4 := (blk2 k4).1; have hB4 := hBa.trans hb4)
      rw [← cells_app] at hrow4
      clear hwh4 hg4 hb4 k3a hBa hrowa k4 cz hsa hs3
      go_roundw
      case rel => exact ⟨j + 1, x2, _, c2, _, ag4, c4, ek, _, by go_num, rfl, rfl, rfl, by omega, hkz, hkl, z8', hes2, hd3, hrow4, hE, hB4⟩
      case measure => simp [intOf]; omega
#print axioms unpack_any
end Go.Proofs.Ytgnhnhachhfafaa
