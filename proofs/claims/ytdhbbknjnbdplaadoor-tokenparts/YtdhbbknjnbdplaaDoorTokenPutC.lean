/- token.Put and token.flags. -/
import Derived.Test.YtdhbbknjnbdplaaDoorRef07Put
import Derived.Test.YtdhbbknjnbdplaaDoorTokenCode
namespace Go.Proofs.YtdhbbknjnbdplaaDoor
open Go.RowKit
set_option linter.unusedVariables false
set_option linter.unusedSimpArgs false

theorem or01 : bits BinOp.or IntKind.u8 0 1 = 1 := by decide
theorem or02 : bits BinOp.or IntKind.u8 0 2 = 2 := by decide
theorem or12 : bits BinOp.or IntKind.u8 1 2 = 3 := by decide

theorem tflags_any (ao : Option Addr) (len cap : Nat) (mk lg : Bool) (w : World) :
    Calls Tryd.prog 34 #[.agg #[.slice ao len cap, .bool mk, .bool lg]] w fun e w' => e = .returned (.int .u8 (flagB mk lg)) ∧ Below w.heap.size w w' := by
  have h1 := or01
  have h2 := or02
  have h3 := or12
  have hB : Below w.heap.size w (w.alloc (.cells #[.slice ao len cap, .bool mk, .bool lg] 32)) := (Below.refl _ _).alloc (Nat.le_refl _) _
  cases mk <;> cases lg <;>
  · go_enter Tryd.func34, Tryd.ntmps34
    go_wp2
    go_ret
    exact ⟨by simp [flagB], hB⟩
#print axioms tflags_any

set_option maxRecDepth 100000 in
set_option maxHeartbeats 4000000 in
theorem tput_own (po : Option Addr) (plen pcap : Nat) (ps : List Int) (ao : Option Addr) (len cap : Nat) (ws : List Int) (mk lg : Bool) (w : World)
    (hp : Reads w po plen pcap (ps.map (.int .u8))) (hr : Reads w ao len cap (ws.map (.int .i32))) (hw : ∀ z ∈ ws, -2147483648 ≤ z ∧ z ≤ 2147483647) (hplen : plen ≤ 100000) (hlen : len ≤ 100000) :
    Calls Tryd.prog 15 #[.agg #[.slice po plen pcap, .slice ao len cap, .bool mk, .bool lg]] w fun e w' => ∃ ag c m, e = .returned (.slice ag m c) ∧ m = (putT ps ws mk lg).length ∧
      w'.ownsRow w.heap.size 5 1 (.slice ag m c) m ((putT ps ws mk lg).map (.int .u8)) ∧ Below w.heap.size w w' := by
  have hl : ps.length = plen := by simpa using hp.length
  have hl2 : ws.length = len := by simpa using hr.length
  have hB1 : Below w.heap.size w (w.alloc (.cells #[.slice po plen pcap, .slice ao len cap, .bool mk, .bool lg] 34)) := (Below.refl _ _).alloc (Nat.le_refl _) _
  have k1 := heap_alloc_new w (.cells #[.slice po plen pcap, .slice ao len cap, .bool mk, .bool lg] 34)
  generalize hw1 : w.alloc (.cells #[.slice po plen pcap, .slice ao len cap, .bool mk, .bool lg] 34) = w1 at hB1 k1
  have Hw1 : Hid _ := hw1
  have hp1 := hp.later hB1 (Nat.le_refl _)
  have hr1 := hr.later hB1 (Nat.le_refl _)
  have c1 := rcell4 k1
  clear hp hr
  have hlp : (0 : Int) ≤ plen := by omega
  go_enter Tryd.func15, Tryd.ntmps15
  go_wp2_with fail
  refine (put_any none 0 0 [] plen w1 (Reads.nil w1) (by omega) (by omega)).mono ?_
  rintro e wa ⟨ag, c, m, hm, rfl, hoa, hba⟩
  have ka := (hba.block _ (lt_of_block k1)).trans k1
  have ca := rcell4 ka
  have hpa := hp1.later hba (Nat.le_refl _)
  have hml : m ≤ 10 := by have := encode_len plen; omega
  have hBa : Below w1.heap.size w1 wa := hba
  have mx : m + plen + 20 ≤ maxLen := by unfold maxLen; omega
  rw [List.nil_append] at hoa
  have Hm : Hid _ := hm
  clear hm hba hw1
  go_wp2_with (at_builtin; refine wpList_append_reads rfl (.tmp 11) (.tmp 13) 22 rfl w1.heap.size 5 Tryd.infoByte rfl Tryd.underlying22 _ _ _ _ rfl hoa _ _ _ _ rfl hpa (ints_oneCell _ _) (by omega) (by omega) (hBa.size) ?_)
  intro ag2 c2 wb hob hbb
  have hBb : Below w1.heap.size w1 wb := Below.trans hBa hbb
  have kb := (hBb.block _ (lt_of_block k1)).trans k1
  have cb := rcell4 kb
  clear hoa ca ka hpa hbb hBa
  go_wp2_with fail
  rw [← List.map_append] at hob
  refine (put_any none 0 0 [] len wb (Reads.nil wb) (by omega) (by omega)).mono ?_
  rintro e wx ⟨agx, cx, mx', hmx, rfl, hox, hbx⟩
  rw [List.nil_append] at hox
  have hmxl : mx' ≤ 10 := by have := encode_len len; omega
  have hobx := own_later hob hbx (Nat.le_refl _)
  have hBx : Below w1.heap.size w1 wx := Below.trans hBb (hbx.mono hBb.size)
  have Hmx : Hid _ := hmx
  clear hmx hbx hob kb cb hBb
  go_wp2_with (at_builtin; refine wpList_append_reads rfl (.tmp 15) (.tmp 21) 22 rfl w1.heap.size 5 Tryd.infoByte rfl Tryd.underlying22 _ _ _ _ rfl hobx _ _ _ _ rfl (Reads.own hox) (ints_oneCell _ _) (by unfold maxLen; omega) (by omega) (hBx.size) ?_)
  intro ag3 c3 wc hoc hbc
  have hm3l : m + plen + mx' ≤ 100020 := by omega
  have hBc : Below w1.heap.size w1 wc := Below.trans hBx hbc
  have kc := (hBc.block _ (lt_of_block k1)).trans k1
  have cc := rcell4 kc
  have hoc' : wc.ownsRow w1.heap.size 5 1 (.slice ag3 (m + plen + mx') c3) (m + plen + mx') ((encode plen ++ ps ++ encode len).map (.int .u8)) := by simpa using hoc
  generalize hP0 : encode plen ++ ps ++ encode len = P0 at hoc'
  have HP0 : Hid _ := hP0
  have hE0 : Hid (∀ a b, putT ps ws a b = P0 ++ runesP ws ++ [flagB a b]) := by show ∀ a b, _; intro a b; unfold putT; rw [hl, hl2, ← hP0]
  clear hbc hoc hobx hox hBx hP0 hml mx
  generalize hm3 : m + plen + mx' = m3 at hoc' hm3l ⊢
  clear hm3 hmxl
  go_wp2_with fail
  go_loopw [3, 27] (fun v i wr => ∃ (j : Nat) (ag : Option Addr) (c m : Nat), v = .slice ag m c ∧ i = .int .i64 j ∧ j ≤ len ∧ m ≤ 100020 + 10 * j ∧ wr.ownsRow w1.heap.size 5 1 (.slice ag m c) m ((P0 ++ runesP (ws.take j)).map (.int .u8)) ∧ Below w1.heap.size w1 wr) (fun _ i _ => (len - intOf i).toNat)
  case atStart => exact ⟨0, ag3, c3, m3, rfl, rfl, by omega, by omega, by simpa [runesP] using hoc', hBc⟩
  case round =>
    obtain ⟨j, ag4, c4, m4, rfl, rfl, hj, hm4, hown, hb⟩ := hrel
    have kr := (hb.block _ (lt_of_block k1)).trans k1
    have cr := rcell4 kr
    have mx : m4 + 20 ≤ maxLen := by unfold maxLen; omega
    have hszr := hb.size
    clear hoc' hBc c1 k1 kc cc
    by_cases hjl : j = len
    · subst hjl
      rw [List.take_of_length_le (by omega)] at hown
      have hjj : decide ((j : Int) < j) = false := by simp
      go_wp2_with fail
      refine (tflags_any _ _ _ mk lg wr).mono ?_
      rintro e wf ⟨rfl, hbf⟩
      have hownf := own_later hown hbf (Nat.le_refl _)
      have hbF : Below w1.heap.size w1 wf := Below.trans hb (hbf.mono hszr)
      have hszf := hbF.size
      have hBw : ∀ wz, Below w1.heap.size wf wz → Below w.heap.size w wz := fun wz h => Below.trans hB1 ((Below.trans hbF h).mono hB1.size)
      generalize hfl : flagB mk lg = fl
      have Hfl : Hid _ := hfl
      clear hfl hown hb hbf kr cr hbF
      go_wp2_with (at_builtin; refine wpList_append_reads rfl (.tmp 38) (.tmp 42) 22 rfl w1.heap.size 5 Tryd.infoByte rfl Tryd.underlying22 _ _ _ _ rfl (hownf.alloc _) _ _ _ _ rfl (reads_one _ _ _) (ints_oneCell .u8 [fl]) (by omega) (by omega) (by simp; omega) ?_)
      intro ag5 c5 wz hoz hbz
      have hB := hBw wz (Below.trans ((Below.refl _ _).alloc hszf _) hbz)
      have hml2 : m4 = (P0 ++ runesP ws).length := by have := hownf.1; simpa using this.symm
      have hoz' := own_mono hoz hB1.size
      clear hoz hbz hBw hownf hr1 hp1 hB1
      go_wp2
      go_ret
      rw [hE0.out, Hfl.out]
      exact ⟨ag5, c5, m4 + 1, rfl, by rw [List.length_append, ← hml2]; rfl, by simpa using hoz', hB⟩
    · have hjN : j < len := by omega
      have hji : (j : Int) < len := by omega
      have rq := hr1.later hb (Nat.le_refl _)
      obtain ⟨b1, o1, rfl, hb1, hat1⟩ := rq.at (by omega)
      have hcj := hat1 j hjN
      have hxr := hw (ws.getD j 0) (by rw [List.getD, List.getElem?_eq_getElem (by omega)]; exact List.getElem_mem _)
      have hS : Hid _ := runesP_snoc ws j (by omega)
      clear hat1 rq hjl
      generalize ws.getD j 0 = x at hcj hxr hS
      obtain ⟨n, hmax, hn2, hrn⟩ : ∃ n : Nat, max x 0 = (n : Int) ∧ (n : Int) ≤ 2147483647 ∧ Hid (runeN x = n) := ⟨x.toNat, by omega, by omega, by show _ = _; unfold runeN; omega⟩
      have hn0 : (0 : Int) ≤ n := by omega
      go_wp2_with fail
      all_goals
        refine (put_any none 0 0 [] n wr (Reads.nil wr) (by omega) (by omega)).mono ?_
        rintro e wy ⟨agy, cy, my, hmy, rfl, hoy, hby⟩
        rw [List.nil_append] at hoy
        have hmyl : my ≤ 10 := by have := encode_len n; omega
        have howny := own_later hown hby (Nat.le_refl _)
        have hBy : Below w1.heap.size w1 wy := Below.trans hb (hby.mono hszr)
        clear hmy hby hown hb kr cr hcj hxr hmax
        go_wp2_with (at_builtin; refine wpList_append_reads rfl (.tmp 31) (.tmp 35) 22 rfl w1.heap.size 5 Tryd.infoByte rfl Tryd.underlying22 _ _ _ _ rfl howny _ _ _ _ rfl (Reads.own hoy) (ints_oneCell _ _) (by omega) (by omega) (hBy.size) ?_)
        intro ag5 c5 wz hoz hbz
        have hBz : Below w1.heap.size w1 wz := Below.trans hBy hbz
        clear howny hoy hbz hBy
        go_wp2
        go_roundw
        case rel => exact ⟨j + 1, ag5, c5, m4 + my, rfl, by go_num, by omega, by omega, by rw [hS.out, hrn.out]; simpa using hoz, hBz⟩
        case measure => simp [intOf]; omega
#print axioms tput_own
theorem tput_any (po : Option Addr) (plen pcap : Nat) (ps : List Int) (ao : Option Addr) (len cap : Nat) (ws : List Int) (mk lg : Bool) (w : World)
    (hp : Reads w po plen pcap (ps.map (.int .u8))) (hr : Reads w ao len cap (ws.map (.int .i32))) (hw : ∀ z ∈ ws, -2147483648 ≤ z ∧ z ≤ 2147483647) (hplen : plen ≤ 100000) (hlen : len ≤ 100000) :
    Calls Tryd.prog 15 #[.agg #[.slice po plen pcap, .slice ao len cap, .bool mk, .bool lg]] w fun e w' => ∃ ag c m, e = .returned (.slice ag m c) ∧ m = (putT ps ws mk lg).length ∧
      Reads w' ag m c ((putT ps ws mk lg).map (.int .u8)) ∧ Below w.heap.size w w' :=
  (tput_own po plen pcap ps ao len cap ws mk lg w hp hr hw hplen hlen).mono fun e w' ⟨a, b, c, h1, h2, h3, h4⟩ => ⟨a, b, c, h1, h2, Reads.own h3, h4⟩
#print axioms tput_any
end Go.Proofs.YtdhbbknjnbdplaaDoor
