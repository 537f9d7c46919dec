/- For every input RankMoves answers true, and leaves its arguments as they were. Conditions: none. -/
import Derived.Test.YtnojjipoppemcaaRows
import Derived.Test.YtnojjipoppemcaaThree
import Derived.Test.YtnojjipoppemcaaShown13
import Derived.Test.YtnojjipoppemcaaFound
import Derived.ProofKit
import Derived.OpenShut
import Derived.ShutString
import Derived.ChangeOld
import Derived.SizedLaws
import Derived.Deep.RegionHeld
import Derived.Deep.RegionHeld3
import Derived.Deep.QuietTactic
import Derived.BigQuiet
import Derived.Deep.Cut
import Derived.Deep.CutBlock
namespace Go.Proofs.Ytnojjipoppemcaa.rankMoves
open Go.ChangeShapes Go.WideShapes Go.ChangeAt Go.RowKit
open Go.ChangeMaps (open_string shut_string)
set_option linter.unusedVariables false

theorem own : ownKnob Try.prog.godebug = none := by kernel_rfl
theorem laidOut : laidOutB Try.prog = true := by kernel_rfl

def rotZ (z : List Int) (k : Nat) : List Int := (List.range z.length).map fun i => z.getD ((i + k) % z.length) 0
theorem rotZ_len (z : List Int) (k : Nat) : (rotZ z k).length = z.length := by simp [rotZ]
theorem rotZ_at {z : List Int} {k i : Nat} (h : i < z.length) : (rotZ z k)[i]? = some (z.getD ((i + k) % z.length) 0) := by simp [rotZ, h]
theorem getD_mem {z : List Int} {i : Nat} (h : i < z.length) : z.getD i 0 ∈ z := by
  rw [List.getD_eq_getElem?_getD, List.getElem?_eq_getElem h]; exact List.getElem_mem h
theorem rotZ_mem {z : List Int} {k : Nat} (hz : 0 < z.length) (x : Int) : x ∈ rotZ z k ↔ x ∈ z := by
  constructor
  · intro h
    obtain ⟨i, hi, rfl⟩ := List.mem_map.1 h
    exact getD_mem (Nat.mod_lt _ hz)
  · intro h
    obtain ⟨i, hi, rfl⟩ := List.getElem_of_mem h
    refine List.mem_map.2 ⟨(i + (z.length - k % z.length)) % z.length, List.mem_range.2 (Nat.mod_lt _ hz), ?_⟩
    have h1 := Nat.mod_lt k hz
    have : ((i + (z.length - k % z.length)) % z.length + k) % z.length = i := by
      have e1 : ((i + (z.length - k % z.length)) % z.length + k) % z.length = (i + (z.length - k % z.length) + k) % z.length := by rw [Nat.mod_add_mod]
      have e2 : (i + (z.length - k % z.length) + k) % z.length = (i + (z.length - k % z.length) + k % z.length) % z.length := by rw [Nat.add_mod_mod]
      rw [e1, e2, show i + (z.length - k % z.length) + k % z.length = i + z.length by omega, Nat.add_mod_right, Nat.mod_eq_of_lt hi]
    rw [this, List.getD_eq_getElem?_getD, List.getElem?_eq_getElem hi]; rfl
theorem map_toNat_mul {z : List Int} (h : ∀ x ∈ z, 0 ≤ x) (m : Nat) : (z.map fun x => x * (m : Int)).map Int.toNat = (z.map Int.toNat).map (· * m) := by
  rw [List.map_map, List.map_map]
  apply List.map_congr_left
  intro x hx
  obtain ⟨n, rfl⟩ := Int.eq_ofNat_of_zero_le (h x hx)
  show ((n : Int) * (m : Int)).toNat = (n : Int).toNat * m
  rw [← Int.natCast_mul, Int.toNat_natCast, Int.toNat_natCast]
theorem toNat_mem {z : List Int} {k : Nat} (hz : 0 < z.length) (x : Nat) : x ∈ (rotZ z k).map Int.toNat ↔ x ∈ z.map Int.toNat := by
  simp only [List.mem_map]
  constructor
  · rintro ⟨y, hy, rfl⟩; exact ⟨y, (rotZ_mem hz y).1 hy, rfl⟩
  · rintro ⟨y, hy, rfl⟩; exact ⟨y, (rotZ_mem hz y).2 hy, rfl⟩

set_option maxRecDepth 100000 in
set_option maxHeartbeats 4000000 in
theorem walk (w : World) (a0 : Option Addr) (len0 cap0 : Nat) (z0 : List Int) (r0 : Reads w a0 len0 cap0 (z0.map (.int .u16))) (f0 : ∀ z ∈ z0, (Lit.int .u16 z).wf = true) (b0 : len0 * 2 ≤ 140737488351232) (a1 : Int) (w1 : (Lit.int .u8 a1).wf = true) (a2 : Int) (w2 : (Lit.int .u8 a2).wf = true) :
    Calls Try.prog 7 #[.slice a0 len0 cap0, .int .u8 a1, .int .u8 a2] w fun e w' => e = .returned (.bool true) ∧ Below w.heap.size w w' := by
  have hnn : ∀ z ∈ z0, 0 ≤ z ∧ z ≤ 65535 := fun z hz => by have := bounds_u16 (f0 z hz); omega
  have hx := bounds_u8 w1
  have hy := bounds_u8 w2
  obtain ⟨by1, rfl⟩ := Int.eq_ofNat_of_zero_le (show 0 ≤ a1 by omega)
  obtain ⟨tm, rfl⟩ := Int.eq_ofNat_of_zero_le (show 0 ≤ a2 by omega)
  have hlx : z0.length = len0 := by have := r0.length; simpa using this
  have Hlx : Hid _ := hlx
  have Hnn : Hid _ := hnn
  have hml : len0 ≤ 9223372036854775807 := by omega
  have hby : by1 ≤ 255 := by omega
  have htm : tm ≤ 255 := by omega
  have S0 : Hid _ := fun wa (h : Below w.heap.size w wa) => r0.later h (Nat.le_refl _)
  clear f0 hnn w1 w2 hx hy hlx r0 b0
  go_enter Try.func7, Try.ntmps7
  go_wp2_with fail
  refine (shown_any w).mono ?_
  rintro e wa ⟨rfl, hB1⟩
  have HB1 : Hid _ := hB1
  clear hB1
  by_cases h300 : len0 ≤ 300 ∧ 1 ≤ len0
  case neg =>
    have hsp : (300 : Int) < len0 ∨ (¬ (300 : Int) < len0 ∧ len0 = 0) := by omega
    clear h300
    rcases hsp with i1 | ⟨i1, rfl⟩
    · go_wp2
      go_ret
      exact ⟨rfl, HB1.out⟩
    · go_wp2
      go_ret
      exact ⟨rfl, HB1.out⟩
  obtain ⟨h3, h1⟩ := h300
  have i1 : ¬ (300 : Int) < len0 := by omega
  have i2 : ((len0 : Int) == 0) = false := by rw [beq_eq_false_iff_ne]; omega
  have i3 : ¬ (len0 : Int) = 0 := by omega
  obtain ⟨k, hk⟩ : ∃ k, k = by1 % len0 := ⟨_, rfl⟩
  have e1 : (by1 : Int) % len0 = (k : Nat) := by rw [hk]; exact (Int.natCast_emod _ _).symm
  have hkl : k < len0 := by rw [hk]; exact Nat.mod_lt _ (by omega)
  have hra := S0.out wa HB1.out
  have HA : Hid _ := hra
  clear hk hra S0 hml
  go_wp2_with fail
  rw [e1]
  clear e1 hby
  go_loopw [9, 10, 11, 12] (fun va vb vc i wr => ∃ (j : Nat) (ag : Option Addr) (ca : Nat) (bg : Option Addr) (cb : Nat) (cg : Option Addr) (cc : Nat), va = .slice ag j ca ∧ vb = .slice bg j cb ∧ vc = .slice cg j cc ∧ i = .int .i64 (j : Nat) ∧ j ≤ len0 ∧
    Hid (Three 23 wr wa.heap.size (.slice ag j ca) (.slice bg j cb) (.slice cg j cc) j j j ((z0.take j).map (.int .u64)) (((rotZ z0 k).take j).map (.int .u64)) (((z0.map fun x => x * ((1 + tm : Nat) : Int)).take j).map (.int .u64))) ∧ Hid (Below wa.heap.size wa wr)) (fun _ _ _ i _ => (len0 - intOf i).toNat)
  case atStart => exact ⟨0, none, 0, none, 0, none, 0, rfl, rfl, rfl, rfl, Nat.zero_le _, ⟨World.ownsRow_nil _ _ _ _, World.ownsRow_nil _ _ _ _, World.ownsRow_nil _ _ _ _, Off.nil _, Off.nil _, Off.nil _⟩, Below.refl _ _⟩
  case round =>
    obtain ⟨j, ag, ca, bg, cb, cg, cc, rfl, rfl, rfl, rfl, hj, hT, hB⟩ := hrel
    by_cases hjl : j < len0
    · have q1 : (j : Int) < len0 := by omega
      obtain ⟨bx, ox, hao, hbl, hc⟩ := HA.out.at13 (by omega)
      subst hao
      obtain ⟨x, hx⟩ : ∃ x, z0[j]? = some x := ⟨_, List.getElem?_eq_getElem (by rw [Hlx.out]; exact hjl)⟩
      obtain ⟨p, hp⟩ : ∃ p, p = (j + k) % len0 := ⟨_, rfl⟩
      have hpl : p < len0 := by rw [hp]; exact Nat.mod_lt _ (by omega)
      obtain ⟨y, hy⟩ : ∃ y, z0[p]? = some y := ⟨_, List.getElem?_eq_getElem (by rw [Hlx.out]; exact hpl)⟩
      have hx2 := Hnn.out x (List.mem_of_getElem? hx)
      have hy2 := Hnn.out y (List.mem_of_getElem? hy)
      have dx : ∀ W, Below wa.heap.size wa W → W.cell? ⟨bx, ox + j, none⟩ = some (.int .u16 x) := fun W hW => (hW.cell (p := ⟨bx, ox + j, none⟩) hbl).trans (hc j _ (by rw [List.getElem?_map, hx]; rfl))
      have dy : ∀ W, Below wa.heap.size wa W → W.cell? ⟨bx, ox + p, none⟩ = some (.int .u16 y) := fun W hW => (hW.cell (p := ⟨bx, ox + p, none⟩) hbl).trans (hc p _ (by rw [List.getElem?_map, hy]; rfl))
      have hm1 : j + 1 ≤ maxLen := by unfold maxLen; omega
      have hm2 : (j + 1) * 8 ≤ 140737488355328 := by omega
      have eA : (z0.take (j + 1)).map (Value.int .u64) = (z0.take j).map (.int .u64) ++ [.int .u64 x] := by rw [List.take_add_one, hx, List.map_append]; rfl
      have eB : ((rotZ z0 k).take (j + 1)).map (Value.int .u64) = ((rotZ z0 k).take j).map (.int .u64) ++ [.int .u64 y] := by
        rw [List.take_add_one, rotZ_at (by rw [Hlx.out]; exact hjl), Hlx.out, ← hp, List.getD_eq_getElem?_getD, hy, List.map_append]; rfl
      have eC : ((z0.map fun x => x * ((1 + tm : Nat) : Int)).take (j + 1)).map (Value.int .u64) = ((z0.map fun x => x * ((1 + tm : Nat) : Int)).take j).map (.int .u64) ++ [.int .u64 (x * ((1 + tm : Nat) : Int))] := by
        rw [List.take_add_one, List.getElem?_map, hx, List.map_append]; rfl
      have EA : Hid _ := eA
      have EB : Hid _ := eB
      have EC : Hid _ := eC
      have hsz := hB.out.size
      have ek : ((j : Int) + k) % len0 = (p : Nat) := by rw [hp, Int.natCast_emod]; rfl
      have ewr : (j : Int) + k ≤ 100000 := by omega
      have Hp : Hid _ := hp
      have hone : ∀ v : Int, ∀ u ∈ [Value.int .u64 v], u.oneCell' = true := by simp [Value.oneCell']
      have c1 := dx wr hB.out
      have ht3 := hT.out.alloc (.cells #[.int .u64 x] 23)
      have HB : Hid _ := hB.out
      have hmul : x * (1 + (tm : Int)) = x * ((1 + tm : Nat) : Int) := by push_cast; rfl
      have htb : 1 + (tm : Int) = ((1 + tm : Nat) : Int) := by push_cast; rfl
      obtain ⟨m1, hm1'⟩ : ∃ m1, m1 = 1 + tm := ⟨_, rfl⟩
      rw [← hm1'] at hmul htb EC ht3
      have hm256 : m1 ≤ 256 := by omega
      have HM1 : Hid _ := hm1'
      have hxm : x * (m1 : Int) ≤ 65535 * 256 := Int.mul_le_mul hx2.2 (by omega) (by omega) (by omega)
      have hxm0 : 0 ≤ x * (m1 : Int) := Int.mul_nonneg hx2.1 (by omega)
      obtain ⟨xm, hxm'⟩ : ∃ xm, xm = x * (m1 : Int) := ⟨_, rfl⟩
      rw [← hxm'] at hxm hxm0 EC
      have hxm2 : x * (m1 : Int) = xm := hxm'.symm
      obtain ⟨LA, hLA⟩ : ∃ L, L = (z0.take j).map (Value.int .u64) := ⟨_, rfl⟩
      obtain ⟨LB, hLB⟩ : ∃ L, L = ((rotZ z0 k).take j).map (Value.int .u64) := ⟨_, rfl⟩
      obtain ⟨LC, hLC⟩ : ∃ L, L = ((z0.map fun x => x * (m1 : Int)).take j).map (Value.int .u64) := ⟨_, rfl⟩
      rw [← hLA, ← hLB, ← hLC] at ht3
      rw [← hLA] at EA
      rw [← hLB] at EB
      rw [← hLC] at EC
      clear hc hx hy eA eB eC hp hT hjl hmul hxm' hB hLA hLB hLC hm1'
      go_wp2_with (at_builtin; refine wpList_append_two rfl _ _ 32 rfl wa.heap.size 23 Try.infoU64 rfl Try.underlying32 _ _ _ _ rfl ht3.a _ _ _ _ rfl (reads_one _ _ _) (hone _) hm1 hm2 (Nat.le_trans hsz (by simp)) ?_)
      intro ag2 ca2 w2 hr2 hg2 hb2 hw2
      rw [← EA.out] at hr2
      have hB2 := (HB.out.alloc hsz _).trans hb2
      have hs2 := hB2.size
      have c2 := dy w2 hB2
      have ht4 := (((ht3.put hr2 hg2 hw2 (by simp)).rot).alloc (.cells #[.int .u64 y] 23))
      have HB2 : Hid _ := hB2
      clear hr2 hg2 hb2 hw2 ht3 hB2 c1 hsz HB EA
      go_wp2_with (at_builtin; refine wpList_append_two rfl _ _ 32 rfl wa.heap.size 23 Try.infoU64 rfl Try.underlying32 _ _ _ _ rfl ht4.a _ _ _ _ rfl (reads_one _ _ _) (hone _) hm1 hm2 (Nat.le_trans hs2 (by simp)) ?_)
      intro bg2 cb2 w3 hr2 hg2 hb2 hw2
      rw [← EB.out] at hr2
      have hB3 := (HB2.out.alloc hs2 _).trans hb2
      have hs3 := hB3.size
      have c3 := dx w3 hB3
      have ht5 := (((ht4.put hr2 hg2 hw2 (by simp)).rot).alloc (.cells #[.int .u64 xm] 23))
      have HB3 : Hid _ := hB3
      clear hr2 hg2 hb2 hw2 ht4 hB3 c2 hs2 HB2 EB
      go_wp2_with (at_builtin; refine wpList_append_two rfl _ _ 32 rfl wa.heap.size 23 Try.infoU64 rfl Try.underlying32 _ _ _ _ rfl ht5.a _ _ _ _ rfl (reads_one _ _ _) (hone _) hm1 hm2 (Nat.le_trans hs3 (by simp)) ?_)
      intro cg2 cc2 w4 hr2 hg2 hb2 hw2
      rw [← EC.out] at hr2
      have HB4 : Hid _ := (HB3.out.alloc hs3 _).trans hb2
      have HT4 : Hid _ := (ht5.put hr2 hg2 hw2 (by simp)).rot
      clear hr2 hg2 hb2 hw2 ht5 c3 hs3 HB3 EC dx dy
      go_wp2
      go_roundw
      case rel => exact ⟨j + 1, ag2, ca2, bg2, cb2, cg2, cc2, rfl, rfl, rfl, by go_num, by omega, by show Three _ _ _ _ _ _ _ _ _ _ _ _; rw [← HM1.out]; exact HT4.out, HB4.out⟩
      case measure => simp [intOf]; omega
    · have q1 : ¬ (j : Int) < len0 := by omega
      have hje : j = len0 := by omega
      subst hje
      have ht := hT.out
      have tk1 : z0.take j = z0 := List.take_of_length_le (by rw [Hlx.out]; omega)
      have tk2 : (rotZ z0 k).take j = rotZ z0 k := List.take_of_length_le (by rw [rotZ_len, Hlx.out]; omega)
      have tk3 : (z0.map fun x => x * ((1 + tm : Nat) : Int)).take j = z0.map fun x => x * ((1 + tm : Nat) : Int) := List.take_of_length_le (by rw [List.length_map, Hlx.out]; omega)
      rw [tk1, tk2, tk3] at ht
      obtain ⟨m1, hm1⟩ : ∃ m1, m1 = 1 + tm := ⟨_, rfl⟩
      rw [← hm1] at ht
      have hm256 : m1 ≤ 256 := by omega
      have hm0 : 1 ≤ m1 := by omega
      obtain ⟨zB, hzB⟩ : ∃ z, z = rotZ z0 k := ⟨_, rfl⟩
      obtain ⟨zC, hzC⟩ : ∃ z, z = z0.map fun x => x * (m1 : Int) := ⟨_, rfl⟩
      rw [← hzB, ← hzC] at ht
      have lB : zB.length = j := by rw [hzB, rotZ_len, Hlx.out]
      have lC : zC.length = j := by rw [hzC, List.length_map, Hlx.out]
      have nB : ∀ x ∈ zB, 0 ≤ x ∧ x ≤ 65535 := fun x hx => Hnn.out x ((rotZ_mem (by rw [Hlx.out]; omega) x).1 (by rw [← hzB]; exact hx))
      have nC : ∀ x ∈ zC, 0 ≤ x ∧ x ≤ 65535 * 256 := fun x hx => by
        rw [hzC] at hx
        obtain ⟨y, hy, rfl⟩ := List.mem_map.1 hx
        have h2 := Hnn.out y hy
        exact ⟨Int.mul_nonneg h2.1 (by omega), Int.mul_le_mul h2.2 (by omega) (by omega) (by omega)⟩
      have tA : z0.take 400 = z0 := List.take_of_length_le (by rw [Hlx.out]; omega)
      have tB : zB.take 400 = zB := List.take_of_length_le (by omega)
      have tC : zC.take 400 = zC := List.take_of_length_le (by omega)
      have FA : Hid (∀ e ∈ entsL z0, e.2 ≤ 18446744073709551615) := ents_fit fun z hz => by have := (Hnn.out z hz).2; omega
      have FB : Hid (∀ e ∈ entsL zB, e.2 ≤ 18446744073709551615) := ents_fit fun z hz => by have := (nB z hz).2; omega
      have FC : Hid (∀ e ∈ entsL zC, e.2 ≤ 18446744073709551615) := ents_fit fun z hz => by have := (nC z hz).2; omega
      have pA := counts_any (Reads.own ht.a) fun z hz => (Hnn.out z hz).1
      have PB : Hid _ := fun W (h : Below wr.heap.size wr W) => counts_any ((Reads.own ht.b).later h (Nat.le_refl _)) fun z hz => (nB z hz).1
      have PC : Hid _ := fun W (h : Below wr.heap.size wr W) => counts_any ((Reads.own ht.c).later h (Nat.le_refl _)) fun z hz => (nC z hz).1
      rw [tA, Hlx.out] at pA
      rw [tB, lB] at PB
      rw [tC, lC] at PC
      -- what the classes are
      have KB : Hid (∀ i, i < j → ∃ d : Nat, (classesI ((entsL zB).map (·.2)))[i]? = some (d : Int) ∧ (classesI ((entsL z0).map (·.2)))[(i + k) % j]? = some (d : Int)) := by
        intro i hi
        have hp : (i + k) % j < j := Nat.mod_lt _ (by omega)
        obtain ⟨y, hy⟩ : ∃ y, z0[(i + k) % j]? = some y := ⟨_, List.getElem?_eq_getElem (by rw [Hlx.out]; exact hp)⟩
        have h1 : ((entsL zB).map (·.2))[i]? = some y.toNat := by
          rw [ents_counts, List.getElem?_map, hzB, rotZ_at (by rw [Hlx.out]; exact hi), Hlx.out, List.getD_eq_getElem?_getD, hy]; rfl
        have h2 : ((entsL z0).map (·.2))[(i + k) % j]? = some y.toNat := by rw [ents_counts, List.getElem?_map, hy]; rfl
        refine ⟨classN ((entsL z0).map (·.2)) y.toNat, ?_, classesI_at h2⟩
        rw [classesI_at h1, ents_counts, ents_counts, hzB, class_same (fun x => toNat_mem (by rw [Hlx.out]; omega) x)]
      have KC : Hid (∀ i, i < j → ∃ d : Nat, (classesI ((entsL zC).map (·.2)))[i]? = some (d : Int) ∧ (classesI ((entsL z0).map (·.2)))[i]? = some (d : Int)) := by
        intro i hi
        obtain ⟨y, hy⟩ : ∃ y, z0[i]? = some y := ⟨_, List.getElem?_eq_getElem (by rw [Hlx.out]; exact hi)⟩
        have h2 : ((entsL z0).map (·.2))[i]? = some y.toNat := by rw [ents_counts, List.getElem?_map, hy]; rfl
        have e3 : (entsL zC).map (·.2) = ((entsL z0).map (·.2)).map (· * m1) := by rw [ents_counts, ents_counts, hzC, map_toNat_mul (fun x hx => (Hnn.out x hx).1)]
        have h1 : ((entsL zC).map (·.2))[i]? = some (y.toNat * m1) := by rw [e3, List.getElem?_map, h2]; rfl
        refine ⟨classN ((entsL z0).map (·.2)) y.toNat, ?_, classesI_at h2⟩
        rw [classesI_at h1, e3, class_times hm0]
      have HBr : Hid _ := HB1.out.trans (hB.out.mono HB1.out.size)
      clear hT hB ht tk1 tk2 tk3 hm1 hm256 hm0 hzB hzC lB lC nB nC tA tB tC hj hjl htm Hlx Hnn HA HB1
      generalize entsL z0 = eA at *
      generalize entsL zB = eB at *
      generalize entsL zC = eC at *
      have hj4 : j ≤ 1000000 := by omega
      go_wp2_with fail
      refine pA.mono ?_
      rintro e w1 ⟨g1, d1, n1, rfl, hn1, ho1, hC1⟩
      obtain rfl := hn1.symm
      have q2 := classes_any (ReadsE.own ho1) hj4 FA.out
      have HC1 : Hid _ := hC1
      clear pA ho1 hC1
      go_wp2_with fail
      refine q2.mono ?_
      rintro e w2 ⟨g2, d2, n2, rfl, hn2, ho2, hC2⟩
      obtain rfl := hn2.symm
      have RA : Hid _ := Reads.own ho2
      have HC2 : Hid _ := HC1.out.trans (hC2.mono HC1.out.size)
      clear q2 ho2 hC2 HC1
      go_wp2_with fail
      refine (PB.out _ HC2.out).mono ?_
      rintro e w3 ⟨g3, d3, n3, rfl, hn3, ho3, hC3⟩
      obtain rfl := hn3.symm
      have q4 := classes_any (ReadsE.own ho3) hj4 FB.out
      have RA3 : Hid _ := RA.out.later hC3 (Nat.le_refl _)
      have HC3 : Hid _ := HC2.out.trans (hC3.mono HC2.out.size)
      clear ho3 hC3 HC2 PB RA
      go_wp2_with fail
      refine q4.mono ?_
      rintro e w4 ⟨g4, d4, n4, rfl, hn4, ho4, hC4⟩
      obtain rfl := hn4.symm
      have RB : Hid _ := Reads.own ho4
      have RA4 : Hid _ := RA3.out.later hC4 (Nat.le_refl _)
      have HC4 : Hid _ := HC3.out.trans (hC4.mono HC3.out.size)
      clear q4 ho4 hC4 HC3 RA3
      go_wp2_with fail
      refine (PC.out _ HC4.out).mono ?_
      rintro e w5 ⟨g5, d5, n5, rfl, hn5, ho5, hC5⟩
      obtain rfl := hn5.symm
      have q6 := classes_any (ReadsE.own ho5) hj4 FC.out
      have RA5 : Hid _ := RA4.out.later hC5 (Nat.le_refl _)
      have RB5 : Hid _ := RB.out.later hC5 (Nat.le_refl _)
      have HC5 : Hid _ := HC4.out.trans (hC5.mono HC4.out.size)
      clear ho5 hC5 HC4 PC RA4 RB
      go_wp2_with fail
      refine q6.mono ?_
      rintro e w6 ⟨g6, d6, n6, rfl, hn6, ho6, hC6⟩
      obtain rfl := hn6.symm
      have RC6 : Hid _ := Reads.own ho6
      have RA6 : Hid _ := RA5.out.later hC6 (Nat.le_refl _)
      have RB6 : Hid _ := RB5.out.later hC6 (Nat.le_refl _)
      have HC6 : Hid _ := HBr.out.trans ((HC5.out.trans (hC6.mono HC5.out.size)).mono HBr.out.size)
      clear q6 ho6 hC6 HC5 RA5 RB5 FA FB FC HBr
      have hnn : ((j : Int) == j) = true := by simp
      go_wp2_with fail
      go_loopw [16] (fun i wq => ∃ t : Nat, i = .int .i64 (t : Nat) ∧ t ≤ j ∧ ∃ q, wq = w6.drewN q) (fun i _ => (j - intOf i).toNat)
      case atStart => exact ⟨0, rfl, Nat.zero_le _, 0, rfl⟩
      case round =>
        obtain ⟨t, rfl, htj, q, hw⟩ := hrel
        have Hw : Hid _ := hw
        clear hw
        by_cases htl : t < j
        · have s1 : (t : Int) < j := by omega
          obtain ⟨b1, o1, hg1, _, hc1⟩ := RA6.out.at13 (by omega)
          obtain ⟨b2, o2, hg2, _, hc2⟩ := RB6.out.at13 (by omega)
          obtain ⟨b3, o3, hg3, _, hc3⟩ := RC6.out.at13 (by omega)
          subst hg1 hg2 hg3
          obtain ⟨x, kb1, kb2⟩ := KB.out t htl
          obtain ⟨y, kc1, kc2⟩ := KC.out t htl
          obtain ⟨p, hp⟩ : ∃ p, p = (t + k) % j := ⟨_, rfl⟩
          rw [← hp] at kb2
          have hpl : p < j := by rw [hp]; exact Nat.mod_lt _ (by omega)
          have ek : ((t : Int) + k) % j = (p : Nat) := by rw [hp, Int.natCast_emod]; rfl
          have ew : IntKind.i64.wrap ((t : Int) + k) = (t : Int) + k := by simp [IntKind.wrap, IntKind.bits, IntKind.signed]; omega
          have a1 : wr.cell? ⟨b1, o1 + p, none⟩ = some (.int .i64 (x : Nat)) := by rw [Hw.out]; exact hc1 p _ (by rw [List.getElem?_map, kb2]; rfl)
          have a2 : wr.cell? ⟨b2, o2 + t, none⟩ = some (.int .i64 (x : Nat)) := by rw [Hw.out]; exact hc2 t _ (by rw [List.getElem?_map, kb1]; rfl)
          have a3 : wr.cell? ⟨b1, o1 + t, none⟩ = some (.int .i64 (y : Nat)) := by rw [Hw.out]; exact hc1 t _ (by rw [List.getElem?_map, kc2]; rfl)
          have a4 : wr.cell? ⟨b3, o3 + t, none⟩ = some (.int .i64 (y : Nat)) := by rw [Hw.out]; exact hc3 t _ (by rw [List.getElem?_map, kc1]; rfl)
          have f1 : ((x : Int) == x) = true := by simp
          have f2 : ((y : Int) == y) = true := by simp
          have hpi : (p : Int) < j := by omega
          clear hc1 hc2 hc3 kb1 kb2 kc1 kc2 hp htl
          go_wp2_with fail
          go_quiet (fail)
          go_wp2
          go_roundw
          case rel => exact ⟨t + 1, by go_num, by omega, _, by rw [Hw.out]; simp only [World.drewN_drewN]; rfl⟩
          case measure => simp [intOf]; omega
        · have s1 : ¬ (t : Int) < j := by omega
          have HBz : Hid (Below w.heap.size w wr) := by show Below _ _ _; rw [Hw.out]; exact below_drewN HC6.out q
          clear Hw htl
          go_wp2
          go_ret
          exact ⟨rfl, HBz.out⟩

set_option maxRecDepth 100000 in
theorem lifted (os : Os) (started : os.Started) (H : Type) (enc : TypeId × Value → H) :
    ReturnsInHanded {} Try.checked os 7 .any (Rows.rankMovesSpec.pre6 enc Try.prog Try.f7 Rows.rankMovesRow.domain false) (Rows.rankMovesSpec.post enc Try.prog Try.f7 false true false false) := by
  refine returnsInHanded_of_change_sized (C := Try.checked) own started (by kernel_rfl) Try.func7
    (ChangeSpec.witness6 (enc := enc) (C := Try.checked) false ⟨#[], #[.slice none 0 0, .int .u8 0, .int .u8 0], []⟩ 8 (by kernel_rfl) (by kernel_rfl) (by kernel_rfl) (by kernel_rfl)) ?_
  intro W base args ds gs before hval0 hW hcnd hsz0 _
  have hsz : (DataW.weightsEach Try.prog (Try.f7.params.toList ++ Rows.rankMovesSpec.plain.varTypes Try.prog) (ds ++ gs)).all (· ≤ reachBytes) = true := hsz0
  clear hsz0
  have hval : ∀ (j : Nat) t v, Try.f7.params[j]? = some t → args[j]? = some v → Value.okWide Try.prog W .any base t v := hval0
  have hW' := hW
  obtain ⟨p, q, hA0, hV, rfl, hfz, hnd⟩ := hW
  have hA : DataW.TrodAll enc Try.prog W 0 (fun _ => true) true Try.f7.params.toList args.toList ds p := hA0
  rw [Try.params7] at hA hval hsz
  obtain ⟨v0, vs0, d0, ds0, p0, q0, hargs, rfl, rfl, h0, rr0⟩ := trodAll_cons hA
  obtain ⟨v1, vs1, d1, ds1, p1, q1, rfl, rfl, rfl, h1, rr1⟩ := trodAll_cons rr0
  obtain ⟨v2, vs2, d2, ds2, p2, q2, rfl, rfl, rfl, h2, rr2⟩ := trodAll_cons rr1
  obtain ⟨rfl, rfl, rfl⟩ := trodAll_nil rr2
  obtain rfl : args = #[v0, v1, v2] := by cases args; simp_all
  obtain ⟨rfl, rfl⟩ := trodVars_none hV
  obtain ⟨a0, len0, cap0, rfl⟩ := okWide_slice Try.underlying39 (hval 0 39 v0 rfl rfl)
  have k0 := h0
  have lt0 : ∀ x ∈ p0, x.block < W.heap.size := by obtain ⟨m, hm⟩ := k0; exact DataW.trod_lt m _ _ _ hm
  obtain ⟨z0, r0, f0, b0⟩ := slice_in Try.underlying39 Try.underlying40 (by kernel_rfl) (B := 2) (by kernel_rfl) hsz (j := 0) rfl rfl h0
  obtain ⟨a1, rfl, rfl, rfl, w1⟩ := open_int Try.underlying5 (hval 1 5 v1 rfl rfl) h1
  obtain ⟨a2, rfl, rfl, rfl, w2⟩ := open_int Try.underlying5 (hval 2 5 v2 rfl rfl) h2
  clear hA0 hval0
  refine (walk W a0 len0 cap0 z0 r0 f0 b0 a1 w1 a2 w2).mono fun e W' ⟨he, bel⟩ => ?_
  subst he
  exact ⟨_, rfl, _, _, _, [], _, [], hW', trodAll_mk1 (shut_bool Try.underlying4 _), (trodAll_cons_mk (Below.trod laidOut (by kernel_rfl) (of_decide_eq_true (by kernel_rfl)) k0 bel lt0) (trodAll_cons_mk (shut_int Try.underlying5 w1) (trodAll_cons_mk (shut_int Try.underlying5 w2) trodAll_mk0))), rfl, bel.frame _, fun h => by cases h⟩

theorem over : Rows.rankMovesRow.holds Try.pinned (OpenSpec.ofChange Rows.rankMovesSpec) :=
  OpenClaim.holds_of_wide 7 Try.f7 rfl rfl rfl rfl rfl rfl rfl ⟨rfl, rfl, rfl, rfl, rfl⟩ rfl rfl rfl rfl rfl (by kernel_rfl) Try.func7 (by kernel_rfl)
    (of_decide_eq_true (by kernel_rfl)) (by unfold Func.isWrapper; first | (rw [if_pos (by decide +kernel)]; kernel_rfl) | (rw [if_neg (by decide +kernel)]; exact ⟨rfl, rfl⟩))
    (fun os started H enc _ => lifted os started H enc)
end Go.Proofs.Ytnojjipoppemcaa.rankMoves
namespace Go.Proofs.Ytnojjipoppemcaa
theorem rankMoves_holds : Rows.RankMovesSaid := rankMoves.over
#print axioms rankMoves_holds
end Go.Proofs.Ytnojjipoppemcaa
