/- The contracts of the document's own answers for token: All, Same, Put. -/
import Derived.Test.YtdhbbknjnbdplaaDoorRef06All
import Derived.Test.YtdhbbknjnbdplaaDoorRef04All
import Derived.Test.YtdhbbknjnbdplaaDoorRef01
import Derived.Test.YtdhbbknjnbdplaaDoorTokenPut
namespace Go.Proofs.YtdhbbknjnbdplaaDoor
open Go.RowKit
set_option linter.unusedVariables false
set_option linter.unusedSimpArgs false

set_option maxRecDepth 100000 in
set_option maxHeartbeats 1000000 in
theorem rtall_any (bo : Option Addr) (blen bcap : Nat) (zs : List Int) (w : World) (hk : Reads w bo blen bcap (zs.map (.int .u8))) (h8 : isBytes zs) (hblen : blen ≤ 100000000) :
    Calls Tryd.prog 12 #[.slice bo blen bcap] w fun e w' => ∃ ag c m, e = .returned (.slice ag m c) ∧ m = (wordsW (allU zs)).length ∧
      w'.ownsRow w.heap.size 9 1 (.slice ag m c) m ((wordsW (allU zs)).map wordV) ∧ Below w.heap.size w w' := by
  have hl : zs.length = blen := by simpa using hk.length
  have hle := all_leT zs
  go_enter Tryd.func12, Tryd.ntmps12
  go_wp2_with fail
  refine (rall_any _ _ _ zs w hk h8 (by omega)).mono ?_
  rintro e wa ⟨ag, c, m, rfl, hm, hra, hba⟩
  have hml : m ≤ 1000000000000 := by omega
  clear hm
  go_wp2_with fail
  refine (rwords_any _ _ _ (allU zs) wa (Reads.own hra) hml).mono ?_
  rintro e wb ⟨ag2, c2, m2, rfl, hm2, hob, hbb⟩
  have hB : Below w.heap.size w wb := Below.trans hba (hbb.mono hba.size)
  have ho := own_mono hob hba.size
  have Hm2 : Hid _ := hm2
  clear hm2 hob hbb hba hra
  go_wp2
  go_ret
  exact ⟨ag2, c2, m2, rfl, Hm2.out, ho, hB⟩
#print axioms rtall_any

set_option maxRecDepth 100000 in
set_option maxHeartbeats 2000000 in
theorem rtsame_any (po : Option Addr) (plen pcap : Nat) (ps : List Int) (ao : Option Addr) (len cap : Nat) (ws : List Int) (mk lg : Bool) (qo : Option Addr) (qlen qcap : Nat) (qs : List Int) (bo : Option Addr) (blen bcap : Nat) (vs : List Int) (mk2 lg2 : Bool) (w : World)
    (hp : Reads w po plen pcap (ps.map (.int .u8))) (p8 : isBytes ps) (hr : Reads w ao len cap (ws.map (.int .i32))) (hq : Reads w qo qlen qcap (qs.map (.int .u8))) (q8 : isBytes qs) (hr2 : Reads w bo blen bcap (vs.map (.int .i32))) :
    Calls Tryd.prog 18 #[.agg #[.slice po plen pcap, .slice ao len cap, .bool mk, .bool lg], .agg #[.slice qo qlen qcap, .slice bo blen bcap, .bool mk2, .bool lg2]] w fun e w' =>
      e = .returned (.bool (decide (ps = qs) && decide (ws = vs) && (mk == mk2) && (lg == lg2))) ∧ Below w.heap.size w w' := by
  have hB2 : Below w.heap.size w ((w.alloc (.cells #[.slice po plen pcap, .slice ao len cap, .bool mk, .bool lg] 30)).alloc (.cells #[.slice qo qlen qcap, .slice bo blen bcap, .bool mk2, .bool lg2] 30)) := ((Below.refl _ _).alloc (Nat.le_refl _) _).alloc (by simp) _
  have v1 := conv_of Tryd.underlying22 Tryd.underlying5 Tryd.underlying9 (hp.later hB2 (Nat.le_refl _))
  have v2 := conv_of Tryd.underlying22 Tryd.underlying5 Tryd.underlying9 (hq.later hB2 (Nat.le_refl _))
  have hs := str_beq p8 q8
  have ra := hr.later hB2 (Nat.le_refl _)
  have rb := hr2.later hB2 (Nat.le_refl _)
  by_cases h1 : ps = qs
  · have d1 : Hid (decide (ps = qs) = true) := by show _ = _; simpa using h1
    rw [d1.out] at hs
    clear h1 hp hq hr hr2
    go_enter Tryd.func18, Tryd.ntmps18
    go_wp2_with fail
    refine (same_any _ _ _ ws _ _ _ vs _ ra rb).mono ?_
    rintro e wa ⟨rfl, nn, rfl⟩
    have hBa := below_drewN hB2 nn
    by_cases h2 : ws = vs
    · have d2 : Hid (decide (ws = vs) = true) := by show _ = _; simpa using h2
      rw [d2.out]
      clear h2 v1 v2 hs ra rb hB2
      cases mk <;> cases mk2 <;> cases lg <;> cases lg2 <;>
      · go_wp2
        go_ret
        exact ⟨by rw [d1.out, d2.out]; rfl, hBa⟩
    · have d2 : Hid (decide (ws = vs) = false) := by show _ = _; simpa using h2
      rw [d2.out]
      clear h2 v1 v2 hs ra rb hB2
      go_wp2
      go_ret
      exact ⟨by rw [d1.out, d2.out]; rfl, hBa⟩
  · have d1 : Hid (decide (ps = qs) = false) := by show _ = _; simpa using h1
    rw [d1.out] at hs
    clear h1 hp hq hr hr2 ra rb
    go_enter Tryd.func18, Tryd.ntmps18
    go_wp2
    go_ret
    exact ⟨by rw [d1.out]; rfl, hB2⟩
#print axioms rtsame_any
end Go.Proofs.YtdhbbknjnbdplaaDoor
