/- For every input DawEnds answers true, and leaves its arguments as they were. Conditions: none. -/
import Derived.Test.YtmcpiikcgimhpaaRows
import Derived.Test.YtmcpiikcgimhpaaDawLaw
import Derived.Test.YtmcpiikcgimhpaaFound
import Derived.ProofKit
import Derived.OpenShut
import Derived.ShutString
import Derived.ChangeOld
import Derived.SizedLaws
import Derived.Deep.RegionHeld
import Derived.Deep.RegionHeld3
import Derived.Deep.QuietTactic
import Derived.BigQuiet
import Derived.Deep.Cut
import Derived.Deep.CutBlock
namespace Go.Proofs.Ytmcpiikcgimhpaa.dawEnds
open Go.ChangeShapes Go.WideShapes Go.ChangeAt Go.RowKit
open Go.ChangeMaps (open_string shut_string)
set_option linter.unusedVariables false

theorem own : ownKnob Try.prog.godebug = none := by kernel_rfl
theorem laidOut : laidOutB Try.prog = true := by kernel_rfl

theorem fan_rise (t : Wd) (n : Nat) (h : n ≤ 26) : RiseW ((List.range n).map fun i => UInt8.ofNat (97 + i) :: t) := by
  unfold RiseW
  rw [List.pairwise_map]
  refine (List.pairwise_lt_range (n := n)).imp_of_mem fun {a b} ha hb hab => ?_
  have h1 := List.mem_range.1 ha
  have h2 := List.mem_range.1 hb
  rw [less_cons]
  have : UInt8.ofNat (97 + a) < UInt8.ofNat (97 + b) := by
    rw [UInt8.lt_iff_toNat_lt, UInt8.toNat_ofNat', UInt8.toNat_ofNat']; omega
  rw [decide_eq_true this]; rfl
theorem fan_sum (t : Wd) : ∀ n, (((List.range n).map fun i => UInt8.ofNat (97 + i) :: t).map List.length).sum = n * (t.length + 1)
  | 0 => by simp
  | n + 1 => by
    have := fan_sum t n
    rw [List.range_succ, List.map_append, List.map_append, List.sum_append, this, Nat.add_mul]
    show _ + (t.length + 1 + 0) = _
    omega
theorem nums_one (j : Nat) : strOfNums [((97 + j : Nat) : Int)] = ⟨[UInt8.ofNat (97 + j)].toArray⟩ := by simp only [strOfNums, List.map_cons, List.map_nil, Int.toNat_natCast]
theorem fan_build (t : Wd) (n : Nat) (h : n ≤ 26) : buildR ((List.range n).map fun i => UInt8.ofNat (97 + i) :: t) = (zA (buildL ((List.range n).map fun i => UInt8.ofNat (97 + i) :: t)), 0) := by
  unfold buildR
  rw [if_neg (fun hm => by obtain ⟨i, _, hi⟩ := List.mem_map.1 hm; cases hi), if_pos (fan_rise t n h)]
theorem fan_step (t : Wd) (j : Nat) : ((List.range (j + 1)).map fun i => UInt8.ofNat (97 + i) :: t) = ((List.range j).map fun i => UInt8.ofNat (97 + i) :: t) ++ [UInt8.ofNat (97 + j) :: t] := by rw [List.range_succ, List.map_append]; rfl

set_option maxRecDepth 100000 in
set_option maxHeartbeats 4000000 in
theorem walk (w : World) (a0 : ByteArray) (b0 : a0.size ≤ 140737488351232) (a1 : Int) (w1 : (Lit.int .u8 a1).wf = true) :
    Calls Try.prog 6 #[.string a0, .int .u8 a1] w fun e w' => e = .returned (.bool true) ∧ Below w.heap.size w w' := by
  obtain ⟨t, rfl⟩ := str_list a0
  have ht : t.length ≤ 140737488351232 := by simpa [ByteArray.size] using b0
  have hy := bounds_u8 w1
  obtain ⟨n0, rfl⟩ := Int.eq_ofNat_of_zero_le (show 0 ≤ a1 by omega)
  have hn0 : n0 ≤ 255 := by omega
  clear w1 hy b0
  go_enter Try.func6, Try.ntmps6
  go_wp2_with fail
  refine (shown_any w).mono ?_
  rintro e wa ⟨rfl, hB1⟩
  have HB1 : Hid _ := hB1
  clear hB1
  by_cases h20 : t.length ≤ 20
  case neg =>
    have i1 : (20 : Int) < t.length := by omega
    clear h20
    go_wp2
    go_ret
    exact ⟨rfl, HB1.out⟩
  have i1 : ¬ (20 : Int) < t.length := by omega
  obtain ⟨n, hn⟩ : ∃ n, n = 1 + n0 % 26 := ⟨_, rfl⟩
  have hn1 : 1 ≤ n := by omega
  have hn2 : n ≤ 26 := by omega
  obtain ⟨m, hm⟩ : ∃ m, m = n0 % 26 := ⟨_, rfl⟩
  have em : (n0 : Int) % 26 = (m : Nat) := by rw [hm]; omega
  have en : 1 + (m : Int) = (n : Nat) := by omega
  have hmb : m ≤ 25 := by omega
  clear hn hm ht
  go_wp2_with fail
  clear em en
  go_loopw [7, 8] (fun v i wr => ∃ (j : Nat) (ag : Option Addr) (cc : Nat), v = .slice ag j cc ∧ i = .int .i64 (j : Nat) ∧ j ≤ n ∧ Hid (wr.ownsRow wa.heap.size 9 1 (.slice ag j cc) j (((List.range j).map fun i => UInt8.ofNat (97 + i) :: t).map strV)) ∧ Hid (Below wa.heap.size wa wr)) (fun _ i _ => (n - intOf i).toNat)
  case atStart => exact ⟨0, none, 0, rfl, rfl, Nat.zero_le _, World.ownsRow_nil _ _ _ _, Below.refl _ _⟩
  case round =>
    obtain ⟨j, ag, cc, rfl, rfl, hj, hrow, hB⟩ := hrel
    have hsz := hB.out.size
    by_cases hjl : j < n
    · have q1 : (j : Int) < n := by omega
      obtain ⟨cj, hcj⟩ : ∃ cj : Nat, cj = 97 + j := ⟨_, rfl⟩
      have e1 : 97 + (j : Int) = (cj : Nat) := by omega
      have e2 : (cj : Int) % 256 = cj := by omega
      have hcv : ∀ W : World, (convert 42 9 (.slice (some ⟨W.heap.size, 0, none⟩) 1 1)).run Try.prog (W.alloc (.cells #[.int .u8 (cj : Nat)] 5)) = .ok (strV [UInt8.ofNat cj]) (W.alloc (.cells #[.int .u8 (cj : Nat)] 5)) := fun W => by
        have := conv_of (P := Try.prog) (zs := [(cj : Int)]) Try.underlying42 Try.underlying5 Try.underlying9 (reads_one W (.int .u8 (cj : Nat)) 5)
        rw [this, hcj, nums_one]
      have hcat : ∀ W, (Op.stringOp .add ⟨[UInt8.ofNat cj].toArray⟩ ⟨t.toArray⟩).run Try.prog W = .ok (strV (UInt8.ofNat cj :: t)) W := fun W => by
        rw [run_string_add_sum W _ _ (by simp [ByteArray.size]; omega), ByteArray.mk_append_mk]; rfl
      have hS : Hid (((List.range (j + 1)).map fun i => UInt8.ofNat (97 + i) :: t).map strV = ((List.range j).map fun i => UInt8.ofNat (97 + i) :: t).map strV ++ [strV (UInt8.ofNat cj :: t)]) := by show _ = _; rw [fan_step, List.map_append, hcj]; rfl
      have hone : ∀ u ∈ [strV (UInt8.ofNat cj :: t)], u.oneCell' = true := fun u hu => by simp at hu; subst hu; rfl
      have hm1 : j + 1 ≤ maxLen := by unfold maxLen; omega
      have hm2 : (j + 1) * 16 ≤ 140737488355328 := by omega
      have hc5 : cj ≤ 122 := by omega
      have hrw := (hrow.out.alloc (.cells #[.int .u8 (cj : Nat)] 5)).alloc (.cells #[strV (UInt8.ofNat cj :: t)] 9)
      have hB2 := (hB.out.alloc hsz (.cells #[.int .u8 (cj : Nat)] 5))
      have hB3 := hB2.alloc hB2.size (.cells #[strV (UInt8.ofNat cj :: t)] 9)
      have hs3 := hB3.size
      have hrd : Reads ((wr.alloc (.cells #[.int .u8 (cj : Nat)] 5)).alloc (.cells #[strV (UInt8.ofNat cj :: t)] 9)) (some ⟨wr.heap.size + 1, 0, none⟩) 1 1 [strV (UInt8.ofNat cj :: t)] := by
        have h := reads_one (wr.alloc (.cells #[.int .u8 (cj : Nat)] 5)) (strV (UInt8.ofNat cj :: t)) 9
        rwa [show (wr.alloc (.cells #[.int .u8 (cj : Nat)] 5)).heap.size = wr.heap.size + 1 by simp] at h
      have HB3 : Hid _ := hB3
      obtain ⟨L, hL⟩ : ∃ L, L = ((List.range j).map fun i => UInt8.ofNat (97 + i) :: t).map strV := ⟨_, rfl⟩
      rw [← hL] at hrw hS
      clear hcj hrow hB hB2 hB3 hjl hL
      go_wp2_with (at_builtin; refine wpList_append_reads rfl _ _ 22 rfl wa.heap.size 9 Try.infoStr rfl Try.underlying22 _ _ _ _ rfl hrw _ _ _ _ rfl hrd hone hm1 hm2 hs3 ?_; intro ag2 c2 w2 hr2 hb2)
      rw [← hS.out] at hr2
      have HR2 : Hid _ := hr2
      have HB4 : Hid _ := HB3.out.trans hb2
      clear hr2 hb2 hrw HB3 hs3 hcv hcat hrd
      go_wp2
      go_roundw
      case rel => exact ⟨j + 1, ag2, c2, rfl, by go_num, by omega, HR2, HB4⟩
      case measure => simp [intOf]; omega
    · have q1 : ¬ (j : Int) < n := by omega
      obtain rfl : n = j := by omega
      have pb := build_any (Reads.own hrow.out) (by omega) (by rw [fan_sum]; have := Nat.mul_le_mul hn2 (show t.length + 1 ≤ 21 by omega); omega)
      rw [fan_build t n hn2] at pb
      obtain ⟨l1, s, l2, l3⟩ := ends_len t n hn1 hn2
      have HBr : Hid _ := HB1.out.trans (hB.out.mono HB1.out.size)
      have Hl1 : Hid _ := l1
      have Hl2 : Hid _ := zA_at l2
      have Hl3 : Hid _ := l3
      generalize buildL ((List.range n).map fun i => UInt8.ofNat (97 + i) :: t) = A at *
      clear hrow hB HB1 l1 l2 l3 hjl hj hsz
      go_wp2_with fail
      refine pb.mono ?_
      rintro e wk ⟨ag2, m2, c2, rfl, hr, hB2⟩
      have HB2 : Hid _ := HBr.out.trans (hB2.mono HBr.out.size)
      have hm2 : m2 = t.length + 2 := by rw [← hr.count, zA_len]; exact Hl1.out
      obtain ⟨bx, ox, hax, _, hcx⟩ := hr.at (by omega)
      obtain ⟨eg, ec, c3, c4, _⟩ := hcx _ _ Hl2.out
      simp only [zE_len] at c3 c4
      rw [Hl3.out] at c4
      subst hax
      obtain ⟨tl, htl⟩ : ∃ tl, tl = t.length + 1 := ⟨_, rfl⟩
      rw [← htl] at c4
      have k1 : ((m2 : Int) == (t.length : Int) + 2) = true := by rw [beq_iff_eq]; omega
      have k2 : (m2 : Int) - 1 = (tl : Nat) := by omega
      have k3 : (tl : Int) < m2 := by omega
      have k4 : ((n : Int) == n) = true := by simp
      have k5 : m2 ≤ 100 := by omega
      have k6 : (t.length : Int) + 2 ≤ 100 := by omega
      clear pb hr hB2 HBr hm2 hcx c3 Hl1 Hl2 Hl3 htl
      go_wp2
      go_ret
      exact ⟨rfl, HB2.out⟩

set_option maxRecDepth 100000 in
theorem lifted (os : Os) (started : os.Started) (H : Type) (enc : TypeId × Value → H) :
    ReturnsInHanded {} Try.checked os 6 .any (Rows.dawEndsSpec.pre6 enc Try.prog Try.f6 Rows.dawEndsRow.domain false) (Rows.dawEndsSpec.post enc Try.prog Try.f6 false true false false) := by
  refine returnsInHanded_of_change_sized (C := Try.checked) own started (by kernel_rfl) Try.func6
    (ChangeSpec.witness6 (enc := enc) (C := Try.checked) false ⟨#[], #[.string ByteArray.empty, .int .u8 0], []⟩ 8 (by kernel_rfl) (by kernel_rfl) (by kernel_rfl) (by kernel_rfl)) ?_
  intro W base args ds gs before hval0 hW hcnd hsz0 _
  have hsz : (DataW.weightsEach Try.prog (Try.f6.params.toList ++ Rows.dawEndsSpec.plain.varTypes Try.prog) (ds ++ gs)).all (· ≤ reachBytes) = true := hsz0
  clear hsz0
  have hval : ∀ (j : Nat) t v, Try.f6.params[j]? = some t → args[j]? = some v → Value.okWide Try.prog W .any base t v := hval0
  have hW' := hW
  obtain ⟨p, q, hA0, hV, rfl, hfz, hnd⟩ := hW
  have hA : DataW.TrodAll enc Try.prog W 0 (fun _ => true) true Try.f6.params.toList args.toList ds p := hA0
  rw [Try.params6] at hA hval hsz
  obtain ⟨v0, vs0, d0, ds0, p0, q0, hargs, rfl, rfl, h0, rr0⟩ := trodAll_cons hA
  obtain ⟨v1, vs1, d1, ds1, p1, q1, rfl, rfl, rfl, h1, rr1⟩ := trodAll_cons rr0
  obtain ⟨rfl, rfl, rfl⟩ := trodAll_nil rr1
  obtain rfl : args = #[v0, v1] := by cases args; simp_all
  obtain ⟨rfl, rfl⟩ := trodVars_none hV
  obtain ⟨a0, rfl, rfl, rfl, w0⟩ := open_string Try.underlying9 (hval 0 9 v0 rfl rfl) h0
  have b0 : a0.size ≤ 140737488351232 := by have := sized_string hsz (j := 0) (t := 9) rfl rfl; simpa [reachBytes] using this
  obtain ⟨a1, rfl, rfl, rfl, w1⟩ := open_int Try.underlying5 (hval 1 5 v1 rfl rfl) h1
  clear hA0 hval0
  refine (walk W a0 b0 a1 w1).mono fun e W' ⟨he, bel⟩ => ?_
  subst he
  exact ⟨_, rfl, _, _, _, [], _, [], hW', trodAll_mk1 (shut_bool Try.underlying4 _), (trodAll_cons_mk (shut_string Try.underlying9 w0) (trodAll_cons_mk (shut_int Try.underlying5 w1) trodAll_mk0)), rfl, bel.frame _, fun h => by cases h⟩

theorem over : Rows.dawEndsRow.holds Try.pinned (OpenSpec.ofChange Rows.dawEndsSpec) :=
  OpenClaim.holds_of_wide 6 Try.f6 rfl rfl rfl rfl rfl rfl rfl ⟨rfl, rfl, rfl, rfl, rfl⟩ rfl rfl rfl rfl rfl (by kernel_rfl) Try.func6 (by kernel_rfl)
    (of_decide_eq_true (by kernel_rfl)) (by unfold Func.isWrapper; first | (rw [if_pos (by decide +kernel)]; kernel_rfl) | (rw [if_neg (by decide +kernel)]; exact ⟨rfl, rfl⟩))
    (fun os started H enc _ => lifted os started H enc)
end Go.Proofs.Ytmcpiikcgimhpaa.dawEnds
namespace Go.Proofs.Ytmcpiikcgimhpaa
theorem dawEnds_holds : Rows.DawEndsSaid := dawEnds.over
#print axioms dawEnds_holds
end Go.Proofs.Ytmcpiikcgimhpaa
