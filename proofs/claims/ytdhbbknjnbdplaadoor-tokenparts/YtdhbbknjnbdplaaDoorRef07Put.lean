/- The contract of the document's own Put of a State. -/
import Derived.Test.YtdhbbknjnbdplaaDoorRef07
import Derived.Test.YtdhbbknjnbdplaaDoorWordsCode
import Derived.Test.YtdhbbknjnbdplaaDoorOwn
namespace Go.Proofs.YtdhbbknjnbdplaaDoor
open Go.RowKit
set_option linter.unusedVariables false
set_option linter.unusedSimpArgs false

theorem rcell4 {w : World} {b : Nat} {x y z v : Value} {t : TypeId} (h : w.heap[b]? = some (.cells #[x, y, z, v] t (0, 0))) :
    w.cell? ⟨b, 0, none⟩ = some x ∧ w.cell? ⟨b, 1, none⟩ = some y ∧ w.cell? ⟨b, 2, none⟩ = some z ∧ w.cell? ⟨b, 3, none⟩ = some v := by
  refine ⟨?_, ?_, ?_, ?_⟩ <;> simp [World.cell?, h]
theorem runesP_snoc (ws : List Int) (j : Nat) (h : j < ws.length) : runesP (ws.take (j + 1)) = runesP (ws.take j) ++ encode (runeN (ws.getD j 0)) := by
  have : ws.take (j + 1) = ws.take j ++ [ws.getD j 0] := by rw [List.take_add_one, List.getD, List.getElem?_eq_getElem h]; rfl
  rw [this]; simp [runesP]
theorem runesP_len : ∀ ws : List Int, (runesP ws).length ≤ 10 * ws.length
  | [] => by simp [runesP]
  | c :: ws => by
    have h1 := encode_len (runeN c)
    have h2 := runesP_len ws
    have : runesP (c :: ws) = encode (runeN c) ++ runesP ws := by simp [runesP]
    rw [this]; simp; omega

set_option maxRecDepth 100000 in
set_option maxHeartbeats 4000000 in
theorem rtput_any (po : Option Addr) (plen pcap : Nat) (ps : List Int) (ao : Option Addr) (len cap : Nat) (ws : List Int) (mk lg : Bool) (w : World)
    (hp : Reads w po plen pcap (ps.map (.int .u8))) (hr : Reads w ao len cap (ws.map (.int .i32))) (hw : ∀ z ∈ ws, -2147483648 ≤ z ∧ z ≤ 2147483647) (hplen : plen ≤ 100000) (hlen : len ≤ 100000) :
    Calls Tryd.prog 17 #[.agg #[.slice po plen pcap, .slice ao len cap, .bool mk, .bool lg]] w fun e w' => ∃ ag c m, e = .returned (.slice ag m c) ∧ m = (putT ps ws mk lg).length ∧
      w'.ownsRow w.heap.size 5 1 (.slice ag m c) m ((putT ps ws mk lg).map (.int .u8)) ∧ Below w.heap.size w w' := by
  have hl : ps.length = plen := by simpa using hp.length
  have hl2 : ws.length = len := by simpa using hr.length
  have hB1 : Below w.heap.size w (w.alloc (.cells #[.slice po plen pcap, .slice ao len cap, .bool mk, .bool lg] 30)) := (Below.refl _ _).alloc (Nat.le_refl _) _
  have k1 := heap_alloc_new w (.cells #[.slice po plen pcap, .slice ao len cap, .bool mk, .bool lg] 30)
  generalize hw1 : w.alloc (.cells #[.slice po plen pcap, .slice ao len cap, .bool mk, .bool lg] 30) = w1 at hB1 k1
  have Hw1 : Hid _ := hw1
  have hp1 := hp.later hB1 (Nat.le_refl _)
  have hr1 := hr.later hB1 (Nat.le_refl _)
  have c1 := rcell4 k1
  clear hp hr
  have hlp : (0 : Int) ≤ plen := by omega
  go_enter Tryd.func17, Tryd.ntmps17
  go_wp2_with fail
  refine (rput_any none 0 0 [] plen w1 (Reads.nil w1) (by omega) (by omega)).mono ?_
  rintro e wa ⟨ag, c, m, hm, rfl, hoa, hba⟩
  have ka := (hba.block _ (lt_of_block k1)).trans k1
  have ca := rcell4 ka
  have hpa := hp1.later hba (Nat.le_refl _)
  have hml : m ≤ 10 := by have := encode_len plen; omega
  have hBa : Below w1.heap.size w1 wa := hba
  have mx : m + plen + 20 ≤ maxLen := by unfold maxLen; omega
  rw [List.nil_append] at hoa
  have Hm : Hid _ := hm
  clear hm hba hw1
  go_wp2_with (at_builtin; refine wpList_append_reads rfl (.tmp 12) (.tmp 14) 22 rfl w1.heap.size 5 Tryd.infoByte rfl Tryd.underlying22 _ _ _ _ rfl hoa _ _ _ _ rfl hpa (ints_oneCell _ _) (by omega) (by omega) (hBa.size) ?_)
  intro ag2 c2 wb hob hbb
  have hBb : Below w1.heap.size w1 wb := Below.trans hBa hbb
  have kb := (hBb.block _ (lt_of_block k1)).trans k1
  have cb := rcell4 kb
  clear hoa ca ka hpa hbb hBa
  go_wp2_with fail
  rw [← List.map_append] at hob
  refine (rput_any _ _ _ (encode plen ++ ps) len wb (Reads.own hob) (by omega) (by omega)).mono ?_
  rintro e wc ⟨ag3, c3, m3, hm3, rfl, hoc, hbc⟩
  have hm3l : m3 ≤ 100020 := by have := encode_len len; omega
  have hBc : Below w1.heap.size w1 wc := Below.trans hBb (hbc.mono hBb.size)
  have hoc' := own_mono hoc hBb.size
  generalize hP0 : encode plen ++ ps ++ encode len = P0 at hoc'
  have HP0 : Hid _ := hP0
  have hE0 : Hid (∀ a b, putT ps ws a b = P0 ++ runesP ws ++ [flagB a b]) := by show ∀ a b, _; intro a b; unfold putT; rw [hl, hl2, ← hP0]
  clear hm3 hbc hoc hBb hob kb cb hP0 hml mx
  go_wp2_with fail
  go_loopw [3, 4] (fun v i wr => ∃ (j : Nat) (ag : Option Addr) (c m : Nat), v = .slice ag m c ∧ i = .int .i64 j ∧ j ≤ len ∧ m ≤ 100020 + 10 * j ∧ wr.ownsRow w1.heap.size 5 1 (.slice ag m c) m ((P0 ++ runesP (ws.take j)).map (.int .u8)) ∧ Below w1.heap.size w1 wr) (fun _ i _ => (len - intOf i).toNat)
  case atStart => exact ⟨0, ag3, c3, m3, rfl, rfl, by omega, by omega, by simpa [runesP] using hoc', hBc⟩
  case round =>
    obtain ⟨j, ag4, c4, m4, rfl, rfl, hj, hm4, hown, hb⟩ := hrel
    have kr := (hb.block _ (lt_of_block k1)).trans k1
    have cr := rcell4 kr
    have mx : m4 + 20 ≤ maxLen := by unfold maxLen; omega
    have hszr := hb.size
    clear hoc' hBc c1 k1
    by_cases hjl : j = len
    · subst hjl
      rw [List.take_of_length_le (by omega)] at hown
      have hjj : decide ((j : Int) < j) = false := by simp
      have hBw : ∀ wz, Below w1.heap.size wr wz → Below w.heap.size w wz := fun wz h => Below.trans hB1 ((Below.trans hb h).mono hB1.size)
      cases mk <;> cases lg <;>
      · go_wp2_with (at_builtin; refine wpList_append_reads rfl (.tmp 50) (.tmp 52) 22 rfl w1.heap.size 5 Tryd.infoByte rfl Tryd.underlying22 _ _ _ _ rfl (hown.alloc _) _ _ _ _ rfl (reads_one _ _ _) (ints_oneCell .u8 [_]) (by omega) (by omega) (by simp; omega) ?_)
        intro ag5 c5 wz hoz hbz
        have hB := hBw wz (Below.trans ((Below.refl _ _).alloc hszr _) hbz)
        have hml2 : m4 = (P0 ++ runesP ws).length := by have := hown.1; simpa using this.symm
        have hoz' := own_mono hoz hB1.size
        clear hoz hbz hBw hown hb kr cr hr1 hp1 hB1
        go_wp2
        go_ret
        rw [hE0.out]
        exact ⟨ag5, c5, m4 + 1, rfl, by rw [List.length_append, ← hml2]; rfl, by simpa [flagB] using hoz', hB⟩
    · have hjN : j < len := by omega
      have hji : (j : Int) < len := by omega
      have rq := hr1.later hb (Nat.le_refl _)
      obtain ⟨b1, o1, rfl, hb1, hat1⟩ := rq.at (by omega)
      have hcj := hat1 j hjN
      have hxr := hw (ws.getD j 0) (by rw [List.getD, List.getElem?_eq_getElem (by omega)]; exact List.getElem_mem _)
      have hS : Hid _ := runesP_snoc ws j (by omega)
      clear hat1 rq hjl
      generalize ws.getD j 0 = x at hcj hxr hS
      by_cases hx : 0 < x
      · obtain ⟨n, rfl⟩ : ∃ n : Nat, x = (n : Int) := ⟨x.toNat, by omega⟩
        have hn1 : (0 : Int) < n := hx
        have hn2 : (n : Int) ≤ 2147483647 := hxr.2
        go_wp2_with fail
        refine (rput_any _ _ _ (P0 ++ runesP (ws.take j)) n wr (Reads.own hown) (by omega) (by omega)).mono ?_
        rintro e wy ⟨ag5, c5, m5, hm5, rfl, hoy, hby⟩
        have hm5l : m5 ≤ 100020 + 10 * (j + 1) := by have := encode_len n; omega
        have hBy : Below w1.heap.size w1 wy := Below.trans hb (hby.mono hszr)
        have hoy' := own_mono hoy hszr
        clear hm5 hby hoy hown hb kr cr hcj hxr hx
        go_wp2
        go_roundw
        case rel => exact ⟨j + 1, ag5, c5, m5, rfl, by go_num, by omega, hm5l, by rw [hS.out, ← List.append_assoc]; exact hoy', hBy⟩
        case measure => simp [intOf]; omega
      · have hx0 : x ≤ 0 := by omega
        have hrn : Hid (runeN x = 0) := by show _ = _; unfold runeN; omega
        clear hx
        go_wp2_with fail
        refine (rput_any _ _ _ (P0 ++ runesP (ws.take j)) 0 wr (Reads.own hown) (by omega) (by omega)).mono ?_
        rintro e wy ⟨ag5, c5, m5, hm5, rfl, hoy, hby⟩
        have hm5l : m5 ≤ 100020 + 10 * (j + 1) := by have := encode_len 0; omega
        have hBy : Below w1.heap.size w1 wy := Below.trans hb (hby.mono hszr)
        have hoy' := own_mono hoy hszr
        clear hm5 hby hoy hown hb kr cr hcj hxr hx0
        go_wp2
        go_roundw
        case rel => exact ⟨j + 1, ag5, c5, m5, rfl, by go_num, by omega, hm5l, by rw [hS.out, hrn.out, ← List.append_assoc]; exact hoy', hBy⟩
        case measure => simp [intOf]; omega
#print axioms rtput_any
end Go.Proofs.YtdhbbknjnbdplaaDoor
