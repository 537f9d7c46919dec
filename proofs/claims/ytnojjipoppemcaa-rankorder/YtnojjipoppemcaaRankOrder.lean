/- For every input RankOrder answers true, and leaves its arguments as they were. Conditions: none. -/
import Derived.Test.YtnojjipoppemcaaRows
import Derived.Test.YtnojjipoppemcaaShown13
import Derived.Test.YtnojjipoppemcaaFound
import Derived.ProofKit
import Derived.OpenShut
import Derived.ShutString
import Derived.ChangeOld
import Derived.SizedLaws
import Derived.Deep.RegionHeld
import Derived.Deep.RegionHeld3
import Derived.Deep.QuietTactic
import Derived.BigQuiet
import Derived.Deep.Cut
import Derived.Deep.CutBlock
namespace Go.Proofs.Ytnojjipoppemcaa.rankOrder
open Go.ChangeShapes Go.WideShapes Go.ChangeAt Go.RowKit
open Go.ChangeMaps (open_string shut_string)
set_option linter.unusedVariables false

theorem own : ownKnob Try.prog.godebug = none := by kernel_rfl
theorem laidOut : laidOutB Try.prog = true := by kernel_rfl


set_option maxRecDepth 100000 in
set_option maxHeartbeats 4000000 in
theorem walk (w : World) (a0 : Option Addr) (len0 cap0 : Nat) (z0 : List Int) (r0 : Reads w a0 len0 cap0 (z0.map (.int .u64))) (f0 : ∀ z ∈ z0, (Lit.int .u64 z).wf = true) (b0 : len0 * 8 ≤ 140737488351232) :
    Calls Try.prog 4 #[.slice a0 len0 cap0] w fun e w' => e = .returned (.bool true) ∧ Below w.heap.size w w' := by
  have hnn : ∀ z ∈ z0, 0 ≤ z ∧ z ≤ 18446744073709551615 := fun z hz => by have := bounds_u64 (f0 z hz); omega
  have p1 := fun wa (h : Below w.heap.size w wa) => counts_any (r0.later h (Nat.le_refl _)) (fun z hz => (hnn z hz).1)
  have hfit : ∀ e ∈ entsL (z0.take 400), e.2 ≤ 18446744073709551615 := ents_fit fun z hz => (hnn z (List.mem_of_mem_take hz)).2
  have hle : (z0.take 400).length ≤ 400 := by rw [List.length_take]; omega
  rw [← ents_len] at hle
  have hel : (z0.take 400).length = (entsL (z0.take 400)).length := (ents_len _).symm
  rw [hel] at p1
  generalize entsL (z0.take 400) = es at *
  have P1 : Hid _ := p1
  have Hfit : Hid _ := hfit
  have Hle : Hid _ := hle
  clear p1 hnn hfit r0 f0 b0 hel hle
  go_enter Try.func4, Try.ntmps4
  go_wp2_with fail
  refine (shown_any w).mono ?_
  rintro e wa ⟨rfl, hB1⟩
  have HB1 : Hid _ := hB1
  clear hB1
  go_wp2_with fail
  refine (P1.out _ HB1.out).mono ?_
  rintro e wb ⟨ag, c, n, rfl, hm, ho, hB2⟩
  have HB2 : Hid _ := HB1.out.trans (hB2.mono HB1.out.size)
  have hn4 : n ≤ 400 := by rw [hm]; exact Hle.out
  have hrx := ReadsE.own ho
  have p2 := classes_any hrx (by omega) Hfit.out
  have Hx : Hid _ := hrx
  clear hB2 ho hrx hm HB1 P1 Hle Hfit
  go_wp2_with fail
  refine p2.mono ?_
  rintro e wk ⟨ag2, c2, m2, rfl, hm2, ho2, hB3⟩
  subst hm2
  have RX : Hid _ := Hx.out.later hB3 (Nat.le_refl _)
  have RC : Hid _ := Reads.own ho2
  have HB3 : Hid _ := HB2.out.trans (hB3.mono HB2.out.size)
  have Hlx : Hid _ := Hx.out.count
  obtain ⟨cs, hcs⟩ : ∃ cs, cs = es.map (·.2) := ⟨_, rfl⟩
  rw [← hcs] at RC
  have Hcs : Hid _ := hcs
  have Hcl : Hid (cs.length = m2) := by show _ = _; rw [hcs, List.length_map]; exact Hlx.out
  clear p2 ho2 hB3 HB2 Hx hcs
  go_wp2_with fail
  go_loopw [6, 7] (fun z i wr => ∃ (zb : Bool) (j : Nat), z = .bool zb ∧ i = .int .i64 (j : Nat) ∧ j ≤ m2 ∧ Hid (m2 = 0 → zb = true) ∧ Hid (∀ t, t < j → ∀ x, cs[t]? = some x → classN cs x = 0 → zb = true) ∧ ∃ q, wr = wk.drewN q) (fun _ i _ => (m2 - intOf i).toNat)
  case atStart => exact ⟨((m2 : Int) == 0), 0, rfl, rfl, Nat.zero_le _, (fun h => by subst h; rfl), (fun t ht => by omega), 0, rfl⟩
  case round =>
    obtain ⟨zb, j, rfl, rfl, hj, hz0, hzj, q, hw⟩ := hrel
    have Hw : Hid _ := hw
    clear hw
    by_cases hjl : j < m2
    case neg =>
      have q1 : ¬ (j : Int) < m2 := by omega
      have hzt : zb = true := by
        by_cases h0 : m2 = 0
        · exact hz0.out h0
        · obtain ⟨x, hx, hx0⟩ := class_top (l := cs) (fun h => h0 (by rw [← Hcl.out, h]; rfl))
          obtain ⟨t, ht⟩ := List.getElem?_of_mem hx
          have htl := (List.getElem?_eq_some_iff.1 ht).1
          exact hzj.out t (by have := Hcl.out; omega) x ht hx0
      subst hzt
      have HBw : Hid _ := HB3.out.trans (by rw [Hw.out]; exact below_drewN (Below.refl _ _) q : Below w.heap.size wk wr)
      clear hjl hz0 hzj
      go_wp2
      go_ret
      exact ⟨rfl, HBw.out⟩
    have q1 : (j : Int) < m2 := by omega
    obtain ⟨bx, ox, hagx, _, hcx⟩ := RX.out.at (by omega)
    obtain ⟨bc, oc, hagc, _, hcc⟩ := RC.out.at13 (by omega)
    subst hagx hagc
    obtain ⟨ej, hej⟩ : ∃ e, es[j]? = some e := ⟨_, List.getElem?_eq_getElem (by rw [Hlx.out]; exact hjl)⟩
    obtain ⟨ci, hci⟩ : ∃ x, x = ej.2 := ⟨_, rfl⟩
    have hcsj : cs[j]? = some ci := by rw [Hcs.out, hci]; simp [hej]
    have hcI := classesI_at hcsj
    have x1 : wk.cell? ⟨bx, ox + j * 2 + 1, none⟩ = some (.int .u64 (ci : Nat)) := by rw [hci]; exact (hcx j ej hej).2
    have y1 : wk.cell? ⟨bc, oc + j, none⟩ = some (.int .i64 (classN cs ci : Nat)) := hcc j _ (by rw [List.getElem?_map, hcI]; rfl)
    have hmem : ci ∈ cs := List.mem_of_getElem? hcsj
    have X1 : Hid _ := x1
    have Y1 : Hid _ := y1
    have Hcx : Hid _ := hcx
    have Hcc : Hid _ := hcc
    have Hmem : Hid _ := hmem
    obtain ⟨di, hdi⟩ : ∃ d, d = classN cs ci := ⟨_, rfl⟩
    have Hdi : Hid _ := hdi
    have hd5 : di ≤ 255 := by rw [hdi]; exact class_most _ _
    have hst : Hid (∀ b : Bool, ((zb = true ∨ di = 0) → b = true) → (m2 = 0 → b = true) ∧ (∀ t, t < j + 1 → ∀ x, cs[t]? = some x → classN cs x = 0 → b = true)) := by
      intro b hb
      refine ⟨fun h => by omega, fun t ht x hx h0 => ?_⟩
      by_cases htj : t = j
      · subst htj
        rw [hcsj] at hx
        cases hx
        exact hb (.inr (by rw [hdi]; exact h0))
      · exact hb (.inl (hzj.out t (by omega) x hx h0))
    have yr : wr.cell? ⟨bc, oc + j, none⟩ = some (.int .i64 (di : Nat)) := by rw [Hw.out, hdi]; exact y1
    have k5 : ¬ (255 : Int) < di := by omega
    have k0 : ¬ (di : Int) < 0 := by omega
    clear hcx hcc hcsj hcI x1 y1 hmem hej hci hdi hz0 hzj
    have hlow : ∃ b : Bool, ((zb = true ∨ di = 0) → b = true) ∧ ((zb = true ∧ b = true) ∨ (zb = false ∧ ((di : Int) == 0) = b)) := by
      cases zb with
      | true => exact ⟨true, fun _ => rfl, .inl ⟨rfl, rfl⟩⟩
      | false =>
        refine ⟨((di : Int) == 0), fun h => ?_, .inr ⟨rfl, rfl⟩⟩
        rcases h with h | h
        · cases h
        · subst h; rfl
    obtain ⟨b, hb, hlow⟩ := hlow
    have HS : Hid _ := hst.out b hb
    clear hst hb
    have HZ : Hid _ := hlow
    have HR : Hid (wr = wr) := rfl
    clear hlow
    go_upto_region 10 with (fail)
    go_cut [6] from 29 to 36 (fun v wq => v = .bool b ∧ wq = wr)
    case first =>
      rcases HZ.out with ⟨hz, hb⟩ | ⟨hz, hb⟩
      · subst hz hb
        clear HZ HS Hw
        go_wp2_with fail
        go_meet
        case rel => exact ⟨rfl, rfl⟩
      · subst hz hb
        clear HZ HS Hw
        go_wp2_with fail
        go_meet
        case rel => exact ⟨rfl, rfl⟩
    case rest =>
      obtain ⟨rfl, hwq⟩ := hcut
      have Hw2 : Hid (wc = wk.drewN q) := hwq.trans Hw.out
      clear hwq HZ Hw HR yr
      go_wp2_with fail
      go_loopw [8] (fun i w2 => ∃ k : Nat, i = .int .i64 (k : Nat) ∧ k ≤ m2 ∧ ∃ q2, w2 = wk.drewN q2) (fun i _ => (m2 - intOf i).toNat)
      case atStart => exact ⟨0, rfl, Nat.zero_le _, q, Hw2.out⟩
      case round =>
        obtain ⟨k, rfl, hk, q2, hw3⟩ := hrel
        have Hw3 : Hid _ := hw3
        clear hw3
        by_cases hkl : k < m2
        · have i1 : (k : Int) < m2 := by omega
          obtain ⟨ek, hek⟩ : ∃ e, es[k]? = some e := ⟨_, List.getElem?_eq_getElem (by rw [Hlx.out]; exact hkl)⟩
          obtain ⟨ck, hck⟩ : ∃ x, x = ek.2 := ⟨_, rfl⟩
          have hcsk : cs[k]? = some ck := by rw [Hcs.out, hck]; simp [hek]
          have hcK := classesI_at hcsk
          obtain ⟨dk, hdk⟩ : ∃ d, d = classN cs ck := ⟨_, rfl⟩
          have xi : wr.cell? ⟨bx, ox + j * 2 + 1, none⟩ = some (.int .u64 (ci : Nat)) := by rw [Hw3.out]; exact X1.out
          have yi : wr.cell? ⟨bc, oc + j, none⟩ = some (.int .i64 (di : Nat)) := by rw [Hw3.out, Hdi.out]; exact Y1.out
          have xk : wr.cell? ⟨bx, ox + k * 2 + 1, none⟩ = some (.int .u64 (ck : Nat)) := by rw [Hw3.out, hck]; exact (Hcx.out k ek hek).2
          have yk : wr.cell? ⟨bc, oc + k, none⟩ = some (.int .i64 (dk : Nat)) := by rw [Hw3.out, hdk]; exact Hcc.out k _ (by rw [List.getElem?_map, hcK]; rfl)
          have hmk : ck ∈ cs := List.mem_of_getElem? hcsk
          by_cases hab : ck < ci
          · have f1 : decide ((ck : Int) < ci) = true := decide_eq_true (by omega)
            have f2 : decide (ck < ci) = true := decide_eq_true hab
            have hle : di ≤ dk := by rw [Hdi.out, hdk]; exact class_le (by omega)
            have f3 : decide ((dk : Int) < di) = false := decide_eq_false (by omega)
            have f4 : decide (dk < di) = false := decide_eq_false (by omega)
            have f5 : ((ci : Int) == ck) = false := by rw [beq_eq_false_iff_ne]; omega
            have hlt : m2 ≤ 256 → di < dk := fun h => by rw [Hdi.out, hdk]; exact class_lt hab Hmem.out hmk (by rw [Hcl.out]; exact h)
            clear hek hck hcsk hcK hdk hmk hab
            by_cases h256 : m2 ≤ 256
            · have f6 : decide ((m2 : Int) ≤ 256) = true := decide_eq_true (by omega)
              have f7 : decide (m2 ≤ 256) = true := decide_eq_true h256
              have f8 : ((di : Int) == dk) = false := by rw [beq_eq_false_iff_ne]; have := hlt h256; omega
              clear hlt h256 hle
              go_wp2_with fail
              go_quiet (fail)
              go_wp2_with fail
              go_quiet (fail)
              go_wp2
              go_roundw
              case rel => exact ⟨k + 1, by go_num, by omega, _, by rw [Hw3.out]; simp only [World.drewN_drewN]; rfl⟩
              case measure => simp [intOf]; omega
            · have f6 : decide ((m2 : Int) ≤ 256) = false := decide_eq_false (by omega)
              have f7 : decide (m2 ≤ 256) = false := decide_eq_false h256
              clear hlt h256 hle
              go_wp2_with fail
              go_quiet (fail)
              go_wp2_with fail
              go_quiet (fail)
              go_wp2
              go_roundw
              case rel => exact ⟨k + 1, by go_num, by omega, _, by rw [Hw3.out]; simp only [World.drewN_drewN]; rfl⟩
              case measure => simp [intOf]; omega
          · have f1 : decide ((ck : Int) < ci) = false := decide_eq_false (by omega)
            have f2 : decide (ck < ci) = false := decide_eq_false hab
            by_cases heq : ci = ck
            · have hdd : di = dk := by rw [Hdi.out, hdk, heq]
              subst heq hdd
              have f5 : ((ci : Int) == ci) = true := by simp
              have f6 : ((di : Int) == di) = true := by simp
              clear hek hck hcsk hcK hdk hmk hab
              go_wp2_with fail
              go_quiet (fail)
              go_wp2_with fail
              go_quiet (fail)
              go_wp2
              go_roundw
              case rel => exact ⟨k + 1, by go_num, by omega, _, by rw [Hw3.out]; simp only [World.drewN_drewN]; rfl⟩
              case measure => simp [intOf]; omega
            · have f5 : ((ci : Int) == ck) = false := by rw [beq_eq_false_iff_ne]; omega
              clear hek hck hcsk hcK hdk hmk hab heq
              go_wp2_with fail
              go_quiet (fail)
              go_wp2_with fail
              go_quiet (fail)
              go_wp2
              go_roundw
              case rel => exact ⟨k + 1, by go_num, by omega, _, by rw [Hw3.out]; simp only [World.drewN_drewN]; rfl⟩
              case measure => simp [intOf]; omega
        · have i1 : ¬ (k : Int) < m2 := by omega
          have yr : wr.cell? ⟨bc, oc + j, none⟩ = some (.int .i64 (di : Nat)) := by rw [Hw3.out, Hdi.out]; exact Y1.out
          have Hs1 : Hid _ := HS.out.1
          have Hs2 : Hid _ := HS.out.2
          clear HS Hw2 X1 Y1 Hcx Hcc Hmem Hdi hkl hk
          go_wp2
          go_roundw
          case rel => exact ⟨b, j + 1, rfl, by go_num, by omega, Hs1, Hs2, q2, Hw3.out⟩
          case measure => simp [intOf]; omega

set_option maxRecDepth 100000 in
theorem lifted (os : Os) (started : os.Started) (H : Type) (enc : TypeId × Value → H) :
    ReturnsInHanded {} Try.checked os 4 .any (Rows.rankOrderSpec.pre6 enc Try.prog Try.f4 Rows.rankOrderRow.domain false) (Rows.rankOrderSpec.post enc Try.prog Try.f4 false true false false) := by
  refine returnsInHanded_of_change_sized (C := Try.checked) own started (by kernel_rfl) Try.func4
    (ChangeSpec.witness6 (enc := enc) (C := Try.checked) false ⟨#[], #[.slice none 0 0], []⟩ 8 (by kernel_rfl) (by kernel_rfl) (by kernel_rfl) (by kernel_rfl)) ?_
  intro W base args ds gs before hval0 hW hcnd hsz0 _
  have hsz : (DataW.weightsEach Try.prog (Try.f4.params.toList ++ Rows.rankOrderSpec.plain.varTypes Try.prog) (ds ++ gs)).all (· ≤ reachBytes) = true := hsz0
  clear hsz0
  have hval : ∀ (j : Nat) t v, Try.f4.params[j]? = some t → args[j]? = some v → Value.okWide Try.prog W .any base t v := hval0
  have hW' := hW
  obtain ⟨p, q, hA0, hV, rfl, hfz, hnd⟩ := hW
  have hA : DataW.TrodAll enc Try.prog W 0 (fun _ => true) true Try.f4.params.toList args.toList ds p := hA0
  rw [Try.params4] at hA hval hsz
  obtain ⟨v0, vs0, d0, ds0, p0, q0, hargs, rfl, rfl, h0, rr0⟩ := trodAll_cons hA
  obtain ⟨rfl, rfl, rfl⟩ := trodAll_nil rr0
  obtain rfl : args = #[v0] := by cases args; simp_all
  obtain ⟨rfl, rfl⟩ := trodVars_none hV
  obtain ⟨a0, len0, cap0, rfl⟩ := okWide_slice Try.underlying32 (hval 0 32 v0 rfl rfl)
  have k0 := h0
  have lt0 : ∀ x ∈ p0, x.block < W.heap.size := by obtain ⟨m, hm⟩ := k0; exact DataW.trod_lt m _ _ _ hm
  obtain ⟨z0, r0, f0, b0⟩ := slice_in Try.underlying32 Try.underlying23 (by kernel_rfl) (B := 8) (by kernel_rfl) hsz (j := 0) rfl rfl h0
  clear hA0 hval0
  refine (walk W a0 len0 cap0 z0 r0 f0 b0).mono fun e W' ⟨he, bel⟩ => ?_
  subst he
  exact ⟨_, rfl, _, _, _, [], _, [], hW', trodAll_mk1 (shut_bool Try.underlying4 _), (trodAll_cons_mk (Below.trod laidOut (by kernel_rfl) (of_decide_eq_true (by kernel_rfl)) k0 bel lt0) trodAll_mk0), rfl, bel.frame _, fun h => by cases h⟩

theorem over : Rows.rankOrderRow.holds Try.pinned (OpenSpec.ofChange Rows.rankOrderSpec) :=
  OpenClaim.holds_of_wide 4 Try.f4 rfl rfl rfl rfl rfl rfl rfl ⟨rfl, rfl, rfl, rfl, rfl⟩ rfl rfl rfl rfl rfl (by kernel_rfl) Try.func4 (by kernel_rfl)
    (of_decide_eq_true (by kernel_rfl)) (by unfold Func.isWrapper; first | (rw [if_pos (by decide +kernel)]; kernel_rfl) | (rw [if_neg (by decide +kernel)]; exact ⟨rfl, rfl⟩))
    (fun os started H enc _ => lifted os started H enc)
end Go.Proofs.Ytnojjipoppemcaa.rankOrder
namespace Go.Proofs.Ytnojjipoppemcaa
theorem rankOrder_holds : Rows.RankOrderSaid := rankOrder.over
#print axioms rankOrder_holds
end Go.Proofs.Ytnojjipoppemcaa
