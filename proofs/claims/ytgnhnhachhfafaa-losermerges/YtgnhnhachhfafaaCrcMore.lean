/- The contracts of crc.More and crc.Of. -/
import Derived.Test.YtgnhnhachhfafaaCrcTable
namespace Go.Proofs.Ytgnhnhachhfafaa
open Go.RowKit
set_option linter.unusedVariables false

theorem zero33 : ∃ Z : Array Value, (∀ w, (zeroValue 111).run Try.prog w = .ok (.agg Z) w) ∧ Hid (Z.size = 256) ∧ Hid ((Try.prog.info? 111).map (·.size) = some 256) := by
  obtain ⟨hz, hi⟩ := zero_of_info Try.info111
  exact ⟨_, hz, (by rw [cellsOf_size, (stK_ok 0).1] : (cellsOf (stK 0)).size = 256), hi⟩

theorem sums_any2 (w : World) :
    Calls Try.prog 66 #[] w fun e w' => ∃ C : Array Value, e = .returned (.agg C) ∧ Hid (C.size = 256) ∧ Hid (C.all (·.oneCell') = true) ∧ Hid (∀ v : Nat, v < 256 → C.toList[v]? = some (.int .u32 (half8 v : Nat))) ∧ Below w.heap.size w w' := by
  refine (sums_any w).mono ?_
  rintro e w' ⟨rfl, hb⟩
  refine ⟨cellsOf table, rfl, ?_, cellsOf_one _, ?_, hb⟩
  · unfold Hid; rw [cellsOf_size]; simp [table]
  · intro v hv; simp [cellsOf, cellsL, table, hv]

theorem not_u32 (c : Nat) (h : c < 4294967296) : bits BinOp.xor IntKind.u32 IntKind.u32.max (c : Int) = ((flip32 c : Nat) : Int) := by
  have := u32_xor_nat 4294967295 c (by decide) h
  rw [← flip_xor h] at this
  exact this

set_option maxRecDepth 100000 in
set_option maxHeartbeats 4000000 in
theorem more_any (c : Nat) (ao : Option Addr) (len cap : Nat) (zs : List Int) (w : World) (hc0 : c < 4294967296) (hr : Reads w ao len cap (zs.map (.int .u8))) (h8 : isBytes zs) :
    Calls Try.prog 65 #[.int .u32 c, .slice ao len cap] w fun e w' => e = .returned (.int .u32 (moreL c zs : Nat)) ∧ Below w.heap.size w w' := by
  have Hr : Hid _ := hr
  have hz : zs.length = len := by simpa using hr.length
  have hlen : len ≤ 9223372036854775807 := by have := hr.le; have := hr.most; unfold maxLen at this; omega
  clear hr
  obtain ⟨Z, hz0, HZ, Hi⟩ := zero33
  go_enter Try.func65, Try.ntmps65
  go_wp2_with fail
  refine (sums_any2 w).mono ?_
  rintro e w1 ⟨C, rfl, HC, HO, HV, hb1⟩
  have HT : Hid ((w1.alloc (.cells Z 111)).there w1.heap.size 0 C.size) := by
    unfold Hid
    have := there_new w1 Z 111
    rw [HZ.out] at this
    rw [HC.out]
    exact this
  have HI2 : Hid ((Try.prog.info? 111).map (·.size) = some C.size) := by
    unfold Hid
    rw [Hi.out, HC.out]
  go_wp2_with (refine wpList_store_mid rfl 111 (.tmp 5) (.tmp 8) rfl _ 0 C rfl rfl HT.out HI2.out HO.out ?_)
  have hbW : Below w.heap.size w ((w1.alloc (Obj.cells Z 111)).setCells w1.heap.size 0 C.toList) :=
    Below.setCells' _ hb1.size _ _ _ (hb1.alloc hb1.size _)
  have HR : Hid (((w1.alloc (Obj.cells Z 111)).setCells w1.heap.size 0 C.toList).rangeAt w1.heap.size 0 C.toList) :=
    World.rangeAt_setCells_same _ _ _ _ (by simpa using HT.out)
  generalize ((w1.alloc (Obj.cells Z 111)).setCells w1.heap.size 0 C.toList) = W at hbW HR
  have HG : Hid (∀ v : Nat, v < 256 → W.cell? ⟨w1.heap.size, v, none⟩ = some (.int .u32 (half8 v : Nat))) := fun v hv => by
    have := HR.out v _ (HV.out v hv)
    simpa using this
  have HB : Hid (Reads W ao len cap (zs.map (.int .u8))) := Hr.out.later hbW (Nat.le_refl _)
  rw [not_u32 c hc0]
  have hfl := flip_lt c
  have HM : Hid (moreL c zs = flip32 (crcL (flip32 c) zs)) := rfl
  generalize flip32 c = c1 at hfl HM
  clear HR HT HI2 HO HV Hr hb1 hz0 HZ Hi
  generalize w1.heap.size = g at HG
  go_loop [0, 13] (fun x i => ∃ j s : Nat, j ≤ len ∧ i = .int .i64 j ∧ x = .int .u32 s ∧ s < 4294967296 ∧ Hid (crcL s (zs.drop j) = crcL c1 zs)) (fun _ i => len - (intOf i).toNat)
  case atStart => exact ⟨0, c1, by omega, rfl, rfl, hfl, rfl⟩
  case round =>
    obtain ⟨j, s, hj, rfl, rfl, hs, HS⟩ := hrel
    by_cases hlt : (j : Int) < (len : Int)
    · obtain ⟨x, hx0, hx8⟩ := h8.get j
      obtain ⟨b, off, rfl, hbl, hcell⟩ := HB.out.at (by omega)
      have hcj := hcell j (by omega)
      rw [hx0] at hcj
      clear hcell hbl
      have hx1 := u8_xor_nat (s % 256) x (by omega) (by omega)
      have hv : s % 256 ^^^ x < 256 := Nat.xor_lt_two_pow (n := 8) (by omega) (by omega)
      have hcv := HG.out _ hv
      have hl8 := half8_lt (c := s % 256 ^^^ x) (by omega)
      have hx2 := u32_xor_nat (s / 256) (half8 (s % 256 ^^^ x)) (by omega) hl8
      have HN : Hid (crcL (s / 256 ^^^ half8 (s % 256 ^^^ x)) (zs.drop (j + 1)) = crcL c1 zs) := by
        unfold Hid
        rw [← HS.out, drop_at zs j (by omega), crc_cons, hx0, Int.toNat_natCast, step_table]
      have hn : s / 256 ^^^ half8 (s % 256 ^^^ x) < 4294967296 := Nat.xor_lt_two_pow (n := 32) (by omega) hl8
      generalize s / 256 ^^^ half8 (s % 256 ^^^ x) = s' at hx2 HN hn
      generalize half8 (s % 256 ^^^ x) = y at hcv hx2 hl8
      generalize s % 256 ^^^ x = v at hx1 hcv hv
      have Hx0 : Hid _ := hx0
      clear hx0
      simp only [Int.natCast_ediv, Int.natCast_emod, Int.cast_ofNat_Int] at hx1 hx2
      have hv2 : (v : Int) ≤ 255 := by omega
      have hs2 : (s : Int) ≤ 4294967295 := by omega
      have hx82 : (x : Int) ≤ 255 := by omega
      go_wp2_with fail
      go_round
      case rel => exact ⟨j + 1, s', by omega, by go_num, rfl, hn, HN⟩
      case measure => simp [intOf]; omega
    · have HE : Hid (s = crcL c1 zs) := by
        unfold Hid
        rw [← HS.out, List.drop_eq_nil_of_le (by omega)]; rfl
      have hnot := not_u32 s hs
      go_wp2
      go_ret
      exact ⟨by rw [HM.out, ← HE.out]; rfl, hbW⟩
#print axioms more_any

set_option maxRecDepth 100000 in
theorem of_any (ao : Option Addr) (len cap : Nat) (zs : List Int) (w : World) (hr : Reads w ao len cap (zs.map (.int .u8))) (h8 : isBytes zs) :
    Calls Try.prog 61 #[.slice ao len cap] w fun e w' => e = .returned (.int .u32 (ofL zs : Nat)) ∧ Below w.heap.size w w' := by
  go_enter Try.func61, Try.ntmps61
  go_wp2_with fail
  refine (more_any 0 ao len cap zs w (by decide) hr h8).mono ?_
  rintro e w1 ⟨rfl, hb⟩
  go_wp2
  go_ret
  exact ⟨rfl, hb⟩
#print axioms of_any
end Go.Proofs.Ytgnhnhachhfafaa
