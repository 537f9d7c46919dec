/- The document's own counts. -/
import Derived.Test.YtkcledkfgmdcgaaRef15
namespace Go.Proofs.Ytkcledkfgmdcgaa
open Go.RowKit
set_option linter.unusedVariables false
set_option linter.unusedSimpArgs false

theorem Try.infoU15 : (Try.prog.info? 42).map (fun i => (i.zero, i.size, i.bytes)) = some (some (.int .u64 0), 1, 8) := by kernel_rfl
def countsL (S : List Stt) : List Nat := (List.range S.length).map fun i => (langS S i).length
theorem counts_len (S : List Stt) : (countsL S).length = S.length := by simp [countsL]
theorem counts_at {S : List Stt} {i : Nat} (h : i < S.length) : (countsL S)[i]? = some (langS S i).length := by simp [countsL, h]
def zN (l : List Nat) : List Value := l.map fun (n : Nat) => Value.int .u64 (n : Int)

set_option maxRecDepth 100000 in
set_option maxHeartbeats 4000000 in
theorem rcounts_any {S : List Stt} (hS : GoodS S) (hl : S.length ≤ 1000000000) (hc : ∀ i, i < S.length → (langS S i).length ≤ 1000000000) {w : World} {ao : Option Addr} {len cap : Nat} (hr : ReadsA w ao len cap (zA S)) :
    Calls Try.prog 13 #[.slice ao len cap] w fun e w' => ∃ ag c m, e = .returned (.tuple #[.slice ag m c, .int .i64 0]) ∧ m = S.length ∧ w'.ownsRow w.heap.size 42 1 (.slice ag m c) m (zN (countsL S)) ∧ Below w.heap.size w w' := by
  have hlen : len = S.length := by rw [← hr.count, zA_len]
  have HR : Hid _ := hr
  have Hlen : Hid _ := hlen
  have Hc : Hid _ := hc
  have HS : Hid _ := hS
  rw [← hlen] at hl
  clear hr hlen hc hS
  go_enter Try.func13, Try.ntmps13
  go_wp2_with fail
  go_loopw [4, 5] (fun v i wr => ∃ (j : Nat) (ag : Option Addr) (cc : Nat), v = .slice ag j cc ∧ i = .int .i64 (j : Nat) ∧ j ≤ len ∧ Hid (wr.ownsRow w.heap.size 42 1 (.slice ag j cc) j (zN ((countsL S).take j))) ∧ Hid (Below w.heap.size w wr)) (fun _ i _ => (len - intOf i).toNat)
  case atStart => exact ⟨0, none, 0, rfl, rfl, Nat.zero_le _, World.ownsRow_nil _ _ _ _, Below.refl _ _⟩
  case round =>
    obtain ⟨j, ag, cc, rfl, rfl, hj, hrow, hB⟩ := hrel
    by_cases hjl : j < len
    · have q1 : (j : Int) < len := by omega
      obtain ⟨bx, ox, hax, hbx, hcx⟩ := HR.out.at (by omega)
      obtain ⟨⟨f, es⟩, hs⟩ : ∃ s, S[j]? = some s := ⟨_, List.getElem?_eq_getElem (by rw [← Hlen.out]; exact hjl)⟩
      obtain ⟨eg, ec, c1, c2, er⟩ := hcx j _ (zA_at hs)
      simp only [zE_len] at c1 c2 er
      subst hax
      have hlow := HS.out.low j _ hs
      have hlang := lang_at HS.out hs
      have hcj := Hc.out j (by rw [← Hlen.out]; exact hjl)
      obtain ⟨k, hk⟩ : ∃ k, k = es.length := ⟨_, rfl⟩
      rw [← hk] at c2 er
      have hkm : k ≤ 9223372036854775807 := by have := Nat.le_trans er.le er.most; unfold maxLen at this; omega
      obtain ⟨b0, hb0⟩ : ∃ b0 : Nat, b0 = if f then 1 else 0 := ⟨_, rfl⟩
      have hsum : ∀ t, b0 + (flatS S (es.take t)).length ≤ (langS S j).length := fun t => by
        have h1 := flat_take_len S es t
        rw [hlang]
        unfold wordsOf
        rw [List.length_append, hb0]
        split <;> simp_all
      have hall : (langS S j).length = b0 + (flatS S es).length := by
        rw [hlang]; unfold wordsOf
        rw [List.length_append, hb0]
        split <;> simp_all
      have C1 : Hid _ := c1
      have C2 : Hid _ := c2
      have ER : Hid _ := er
      have Hk : Hid (es.length = k) := hk.symm
      have Hlow : Hid _ := hlow
      have Hsum : Hid _ := hsum
      have Hall : Hid _ := hall
      have Hcj : Hid _ := hcj
      have HB0 : Hid _ := hb0
      have hb01 : b0 ≤ 1 := by rw [hb0]; split <;> omega
      have Hrow : Hid (wr.ownsRow w.heap.size 42 1 (.slice ag j cc) j (zN ((countsL S).take j))) := hrow.out
      have HBr : Hid _ := hB.out
      have d1 : wr.cell? ⟨bx, ox + j * 2, none⟩ = some (.bool f) := (hB.out.cell (p := ⟨bx, ox + j * 2, none⟩) hbx).trans C1.out
      have d2 : wr.cell? ⟨bx, ox + j * 2 + 1, none⟩ = some (.slice eg k ec) := (hB.out.cell (p := ⟨bx, ox + j * 2 + 1, none⟩) hbx).trans C2.out
      clear hcx hs hlow hlang hcj hk c1 c2 er hsum hall hb0 hrow hB hjl
      go_upto_if 20 with (fail)
      go_cut [6] from 16 to 20 (fun v wq => v = .int .u64 (b0 : Nat) ∧ wq = wr)
      case first =>
        cases f with
        | false =>
          have h0 := HB0.out
          rw [if_neg (by simp)] at h0
          clear HB0
          go_wp2_with fail
          go_meet
          case rel => rw [h0]; exact ⟨rfl, rfl⟩
        | true =>
          have h0 := HB0.out
          rw [if_pos rfl] at h0
          clear HB0
          go_wp2_with fail
          go_meet
          case rel => rw [h0]; exact ⟨rfl, rfl⟩
      case rest =>
        obtain ⟨rfl, hwq⟩ := hcut
        have Hwq : Hid _ := hwq
        have d2 : wc.cell? ⟨bx, ox + j * 2 + 1, none⟩ = some (.slice eg k ec) := by rw [hwq]; exact d2
        clear hwq
        go_wp2_with fail
        go_loopw [6, 7] (fun v i w2 => ∃ n t : Nat, v = .int .u64 (n : Nat) ∧ i = .int .i64 (t : Nat) ∧ t ≤ k ∧ n ≤ 1000000000 ∧ Hid (n = b0 + (flatS S (es.take t)).length) ∧ Hid (w2 = wc)) (fun _ i _ => (k - intOf i).toNat)
        case atStart => exact ⟨b0, 0, rfl, rfl, Nat.zero_le _, by omega, (by simp [flatS] : b0 = b0 + (flatS S (es.take 0)).length), rfl⟩
        case round =>
          obtain ⟨n, t, rfl, rfl, ht, hn, hnt, hw⟩ := hrel
          have HW : Hid (wr = wc) := hw.out
          have d3 : wr.cell? ⟨bx, ox + j * 2 + 1, none⟩ = some (.slice eg k ec) := by rw [hw.out]; exact d2
          by_cases htk : t < k
          · have q2 : (t : Int) < k := by omega
            obtain ⟨bE, oE, hae, hbE, hce⟩ := ER.out.edge (by omega)
            subst hae
            obtain ⟨⟨cb, ct⟩, he⟩ : ∃ e, es[t]? = some e := ⟨_, List.getElem?_eq_getElem (by rw [Hk.out]; exact htk)⟩
            have hcc := hce t _ (zE_at he)
            simp only at hcc
            have hwb : Below w.heap.size w wr := by rw [hw.out, Hwq.out]; exact HBr.out
            have x2 : wr.cell? ⟨bE, oE + t * 2 + 1, none⟩ = some (.int .i64 (ct : Nat)) := (hwb.cell (p := ⟨bE, oE + t * 2 + 1, none⟩) hbE).trans hcc.2
            have hctj := Hlow.out _ (List.mem_of_getElem? he)
            simp only at hctj
            have hrow2 : wr.ownsRow w.heap.size 42 1 (.slice ag j cc) j (zN ((countsL S).take j)) := by rw [hw.out, Hwq.out]; exact Hrow.out
            obtain ⟨bo, oo, hao, _, hco⟩ := (Reads.own hrow2).at15 (by omega)
            have hcs : ((countsL S).take j)[ct]? = some (langS S ct).length := by
              rw [List.getElem?_take_of_lt hctj]; exact counts_at (by rw [← Hlen.out]; omega)
            have y := hco ct (.int .u64 ((langS S ct).length : Nat)) (by unfold zN; rw [List.getElem?_map, hcs]; rfl)
            have hao2 : Hid _ := hao
            obtain ⟨p, hp⟩ : ∃ p, p = (langS S ct).length := ⟨_, rfl⟩
            rw [← hp] at y
            have hst := flat_take_step (S := S) he
            have hs1 := Hsum.out (t + 1)
            have Hst : Hid (n + p = b0 + (flatS S (es.take (t + 1))).length) := by show _ = _; rw [hst, List.length_append, List.length_map, hnt.out]; simp only; omega
            have hnp : n + p ≤ 1000000000 := by have := Hst.out; have := Hcj.out; omega
            have hp9 : p ≤ 1000000000 := by omega
            have pa := fun W => radd_any (n : Nat) (p : Nat) W (by omega) (by omega) (by omega) (by omega)
            rw [show addN (n : Nat) (p : Nat) = ((n + p : Nat) : Int) by unfold addN; rw [if_pos (by omega)]; omega, show addB (n : Nat) (p : Nat) = true from decide_eq_true (by omega)] at pa
            have hcti : (ct : Int) < j := by omega
            subst hao
            obtain ⟨np, hnp2⟩ : ∃ np, np = n + p := ⟨_, rfl⟩
            rw [← hnp2] at pa Hst hnp
            clear hce hcc he hctj hrow2 hco hcs hp hst hs1 hnt hw hwb htk hnp2 hao2 hbE
            go_wp2_with fail
            refine (pa _).mono ?_
            rintro e w3 ⟨rfl, hw3⟩
            have HW3 : Hid (w3 = wc) := hw3.trans HW.out
            clear hw3 pa
            go_wp2
            go_roundw
            case rel => exact ⟨np, t + 1, rfl, by go_num, by omega, hnp, Hst, HW3⟩
            case measure => simp [intOf]; omega
          · have q2 : ¬ (t : Int) < k := by omega
            have hfin : n = (langS S j).length := by
              have h1 := hnt.out
              rw [List.take_of_length_le (by rw [Hk.out]; omega)] at h1
              rw [Hall.out]; exact h1
            have hBw : Below w.heap.size w wr := by rw [hw.out, Hwq.out]; exact HBr.out
            have hrow2 : wr.ownsRow w.heap.size 42 1 (.slice ag j cc) j (zN ((countsL S).take j)) := by rw [hw.out, Hwq.out]; exact Hrow.out
            have hstep : zN ((countsL S).take (j + 1)) = zN ((countsL S).take j) ++ [.int .u64 (n : Nat)] := by
              unfold zN
              rw [List.take_add_one, counts_at (by rw [← Hlen.out]; omega), List.map_append, hfin]; rfl
            have HSt : Hid _ := hstep
            have hone : ∀ u ∈ [Value.int .u64 (n : Nat)], u.oneCell' = true := by simp [Value.oneCell']
            have hm1 : j + 1 ≤ maxLen := by unfold maxLen; omega
            have hm2 : (j + 1) * 8 ≤ 140737488355328 := by omega
            have hsz := hBw.size
            have HBw : Hid _ := hBw
            obtain ⟨LL, hLL⟩ : ∃ LL, LL = zN ((countsL S).take j) := ⟨_, rfl⟩
            rw [← hLL] at hrow2 HSt
            clear hfin hnt hw hstep htk hBw hLL Hsum Hall
            go_wp2_with (at_builtin; refine wpList_append_reads rfl _ _ 28 rfl w.heap.size 42 Try.infoU15 rfl Try.underlying28 _ _ _ _ rfl (hrow2.alloc _) _ _ _ _ rfl (reads_one _ _ _) hone hm1 hm2 (Nat.le_trans hsz (by simp)) ?_; intro ag2 c2 w4 hr2 hb2)
            rw [← HSt.out] at hr2
            have HR2 : Hid _ := hr2
            have HB2 : Hid _ := (HBw.out.alloc hsz _).trans hb2
            clear hr2 hb2 hrow2
            go_wp2
            go_roundw
            case rel => exact ⟨j + 1, ag2, c2, rfl, by go_num, by omega, HR2, HB2⟩
            case measure => simp [intOf]; omega
    · have q1 : ¬ (j : Int) < len := by omega
      have hje : j = len := by omega
      have htk : (countsL S).take j = countsL S := List.take_of_length_le (by rw [counts_len, ← Hlen.out]; omega)
      rw [htk] at hrow
      have HJ : Hid (j = S.length) := by show _ = _; rw [hje, Hlen.out]
      clear htk hje hjl
      go_wp2
      go_ret2
      exact ⟨ag, cc, j, rfl, HJ.out, hrow.out, hB.out⟩
#print axioms rcounts_any
end Go.Proofs.Ytkcledkfgmdcgaa
