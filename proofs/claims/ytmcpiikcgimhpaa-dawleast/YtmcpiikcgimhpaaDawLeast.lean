/- For every input DawLeast answers true, and leaves its arguments as they were. Conditions: none. -/
import Derived.Test.YtmcpiikcgimhpaaRows
import Derived.Test.YtmcpiikcgimhpaaDawLaw
import Derived.Test.YtmcpiikcgimhpaaFound
import Derived.ProofKit
import Derived.OpenShut
import Derived.ShutString
import Derived.ChangeOld
import Derived.SizedLaws
import Derived.Deep.RegionHeld
import Derived.Deep.RegionHeld3
import Derived.Deep.QuietTactic
import Derived.BigQuiet
import Derived.Deep.Cut
import Derived.Deep.CutBlock
namespace Go.Proofs.Ytmcpiikcgimhpaa.dawLeast
open Go.ChangeShapes Go.WideShapes Go.ChangeAt Go.RowKit
open Go.ChangeMaps (open_string shut_string)
set_option linter.unusedVariables false

theorem own : ownKnob Try.prog.godebug = none := by kernel_rfl
theorem laidOut : laidOutB Try.prog = true := by kernel_rfl

theorem sum_take {x : List Wd} {j : Nat} {p : Wd} (h : x[j]? = some p) : ((x.take (j + 1)).map List.length).sum = ((x.take j).map List.length).sum + p.length := by
  rw [List.take_add_one, h, List.map_append, List.sum_append]; simp
theorem sum_take_le (x : List Wd) (j : Nat) : ((x.take j).map List.length).sum ≤ (x.map List.length).sum := by
  conv => rhs; rw [← List.take_append_drop j x, List.map_append, List.sum_append]
  omega

set_option maxRecDepth 100000 in
set_option maxHeartbeats 4000000 in
theorem walk (w : World) (a0 : Option Addr) (len0 cap0 : Nat) (z0 : List Wd) (r0 : Reads w a0 len0 cap0 (z0.map strV)) (f0 : ∀ z ∈ z0, z.length ≤ 140737488351232) (b0 : len0 * 16 ≤ 140737488351232) :
    Calls Try.prog 4 #[.slice a0 len0 cap0] w fun e w' => e = .returned (.bool true) ∧ Below w.heap.size w w' := by
  have hml : len0 ≤ 9223372036854775807 := by have := Nat.le_trans r0.le r0.most; unfold maxLen at this; omega
  have Hlx : Hid _ := strs_len r0
  have S0 : Hid _ := fun wa (h : Below w.heap.size w wa) => r0.later h (Nat.le_refl _)
  clear f0 r0 b0
  go_enter Try.func4, Try.ntmps4
  go_wp2_with fail
  refine (shown_any w).mono ?_
  rintro e wa ⟨rfl, hB1⟩
  have pf := few14_any (S0.out wa hB1)
  have HB1 : Hid _ := hB1
  clear hB1
  cases hfew : fewS z0 with
  | false =>
    rw [hfew] at pf
    clear hfew
    go_wp2_with fail
    refine pf.mono ?_
    rintro e wb ⟨rfl, hw⟩
    obtain rfl := hw.symm
    clear pf
    go_wp2
    go_ret
    exact ⟨rfl, HB1.out⟩
  | true =>
    rw [hfew] at pf
    obtain ⟨hn6, hsum⟩ := few_sum hfew
    rw [Hlx.out] at hn6
    have pb := build_any (S0.out wa HB1.out) (by omega) (by omega)
    have Hsum : Hid _ := hsum
    clear hfew hsum
    go_wp2_with fail
    refine pf.mono ?_
    rintro e wb ⟨rfl, hw⟩
    obtain rfl := hw.symm
    clear pf
    rcases build_cases z0 with ⟨d, hd1, hd2, hq⟩ | ⟨hne, hri, hq⟩
    · rw [hq] at pb
      clear hq
      go_wp2_with fail
      refine pb.mono ?_
      rintro e wc ⟨ag, m, c, rfl, hr, hB2⟩
      have HB2 : Hid _ := HB1.out.trans (hB2.mono HB1.out.size)
      have hdn : ¬ (d : Int) = 0 := by omega
      clear pb hr hB2 HB1
      go_wp2
      go_ret
      exact ⟨rfl, HB2.out⟩
    · rw [hq] at pb
      have Hne : Hid (∀ p ∈ z0, p ≠ []) := fun p hp h => hne (h ▸ hp)
      clear hq hne hri
      go_wp2_with fail
      refine pb.mono ?_
      rintro e wk ⟨ag, m, c, rfl, hr, hB2⟩
      have HB2 : Hid _ := HB1.out.trans (hB2.mono HB1.out.size)
      have HR : Hid _ := hr
      have HWS : Hid _ := S0.out wk HB2.out
      have hmA : (buildL z0).length = m := by rw [← hr.count, zA_len]
      have HmA : Hid _ := hmA
      have hm1 : 1 ≤ m := by have := (build_len z0).1; omega
      have hm2 : m ≤ 1201 := by have := (build_len z0).2; have := Hsum.out; omega
      have Hms : Hid (m ≤ 1 + (z0.map List.length).sum) := by have := (build_len z0).2; show _ ≤ _; omega
      clear pb hr hB2 HB1 S0 hmA
      go_wp2_with fail
      go_loop [6, 7] (fun v i => ∃ s j : Nat, v = .int .i64 (s : Nat) ∧ i = .int .i64 (j : Nat) ∧ j ≤ len0 ∧ s ≤ 1201 ∧ Hid (s = 1 + ((z0.take j).map List.length).sum)) (fun _ i => (len0 - intOf i).toNat)
      case atStart => exact ⟨1, 0, rfl, rfl, Nat.zero_le _, by omega, (by simp : 1 = 1 + ((z0.take 0).map List.length).sum)⟩
      case round =>
        obtain ⟨s, j, rfl, rfl, hj, hs, hse⟩ := hrel
        by_cases hjl : j < len0
        · have q1 : (j : Int) < len0 := by omega
          obtain ⟨bb, off, hao, hbl, hc⟩ := HWS.out.atW (by omega)
          subst hao
          obtain ⟨p, hp⟩ : ∃ p, z0[j]? = some p := ⟨_, List.getElem?_eq_getElem (by rw [Hlx.out]; exact hjl)⟩
          have d2 := hc j p hp
          have hst := sum_take hp
          have hle := sum_take_le z0 (j + 1)
          have Hst : Hid (s + p.length = 1 + ((z0.take (j + 1)).map List.length).sum) := by show _ = _; rw [hst, hse.out]; omega
          have hsl : s + p.length ≤ 1201 := by have := Hst.out; have := Hsum.out; omega
          obtain ⟨s2, hs2⟩ : ∃ s2, s2 = s + p.length := ⟨_, rfl⟩
          rw [← hs2] at Hst hsl
          have es : (s : Int) + p.length = (s2 : Nat) := by omega
          clear hc hp hst hle hse hbl hs2 hjl
          go_wp2
          go_round
          case rel => exact ⟨s2, j + 1, rfl, by go_num, by omega, hsl, Hst⟩
          case measure => simp [intOf]; omega
        · have q1 : ¬ (j : Int) < len0 := by omega
          have hms : (m : Int) ≤ s := by
            have h1 := hse.out
            rw [List.take_of_length_le (by rw [Hlx.out]; omega)] at h1
            have := Hms.out
            omega
          have hm1i : (1 : Int) ≤ m := by omega
          clear hse hj hjl Hms
          go_wp2_with fail
          go_loopw [8] (fun i wr => ∃ t : Nat, i = .int .i64 (t : Nat) ∧ t ≤ m ∧ ∃ q, wr = wk.drewN q) (fun i _ => (m - intOf i).toNat)
          case atStart => exact ⟨0, rfl, Nat.zero_le _, 0, rfl⟩
          case round =>
            obtain ⟨t, rfl, htm, q, hw⟩ := hrel
            have Hw : Hid _ := hw
            clear hw
            by_cases htl : t < m
            case neg =>
              have q2 : ¬ (t : Int) < m := by omega
              have HBz : Hid (Below w.heap.size w wr) := by show Below _ _ _; rw [Hw.out]; exact below_drewN HB2.out q
              clear Hw htl
              go_wp2
              go_ret
              exact ⟨rfl, HBz.out⟩
            have q2 : (t : Int) < m := by omega
            obtain ⟨⟨f, es⟩, hst⟩ : ∃ s, (buildL z0)[t]? = some s := ⟨_, List.getElem?_eq_getElem (by rw [HmA.out]; exact htl)⟩
            obtain ⟨hrise, huse⟩ := build_use Hne.out _ (List.mem_of_getElem? hst)
            have hlow := (build_good z0).low t _ hst
            simp only at hrise huse hlow
            obtain ⟨bx, ox, hax, hbx, hcx⟩ := HR.out.at (by omega)
            obtain ⟨eg, ec, c1, c2, er⟩ := hcx t _ (zA_at hst)
            subst hax
            simp only [zE_len] at c1 c2 er
            have C1 : Hid _ := c1
            have C2 : Hid _ := c2
            have ER : Hid _ := er
            have Hst : Hid _ := hst
            have Hri : Hid _ := hrise
            have Hlo : Hid _ := hlow
            obtain ⟨n, hn⟩ : ∃ n, n = es.length := ⟨_, rfl⟩
            have d1 : wr.cell? ⟨bx, ox + t * 2, none⟩ = some (.bool f) := by rw [Hw.out]; exact C1.out
            have d2 : wr.cell? ⟨bx, ox + t * 2 + 1, none⟩ = some (.slice eg n ec) := by rw [Hw.out, hn]; exact C2.out
            have hn3 : n ≤ 9223372036854775807 := by have := Nat.le_trans er.le er.most; unfold maxLen at this; omega
            have hcs : f = true ∨ (f = false ∧ (((n : Int) == 0) = false)) ∨ (f = false ∧ n = 0 ∧ len0 = 0) := by
              cases f with
              | true => exact .inl rfl
              | false =>
                by_cases h0 : n = 0
                · refine .inr (.inr ⟨rfl, h0, ?_⟩)
                  by_cases hz : z0 = []
                  · rw [← Hlx.out, hz]; rfl
                  · rcases huse hz with h | h
                    · cases h
                    · exact absurd (List.eq_nil_of_length_eq_zero (by omega)) h
                · exact .inr (.inl ⟨rfl, by rw [beq_eq_false_iff_ne]; omega⟩)
            have Hcs : Hid _ := hcs
            have Hn : Hid (es.length = n) := hn.symm
            clear hst hrise huse hlow hcx c1 c2 er hn hcs hbx htl
            go_upto_region 15 with (fail)
            go_cut [62] from 43 to 62 (fun v wq => v = .bool false ∧ wq = wr)
            case first =>
              rcases Hcs.out with rfl | ⟨rfl, h0⟩ | ⟨rfl, rfl, hl0⟩
              · clear Hcs
                go_wp2_with fail
                go_meet
                case rel => exact ⟨rfl, rfl⟩
              · clear Hcs
                go_wp2_with fail
                go_meet
                case rel => exact ⟨rfl, rfl⟩
              · have HL0 : Hid (¬ 0 < len0) := (by omega : ¬ 0 < len0)
                clear Hcs hl0
                go_wp2_with fail
                go_meet
                case rel => exact ⟨congrArg Value.bool (decide_eq_false HL0.out), rfl⟩
            case rest =>
              obtain ⟨rfl, hwq⟩ := hcut
              have Hw2 : Hid (wc = wk.drewN q) := hwq.trans Hw.out
              clear hwq Hcs Hw d1 d2
              go_wp2_with fail
              go_loopw [9] (fun i wr => ∃ u : Nat, i = .int .i64 (u : Nat) ∧ u ≤ n ∧ ∃ q, wr = wk.drewN q) (fun i _ => (n - intOf i).toNat)
              case atStart => exact ⟨0, rfl, Nat.zero_le _, q, Hw2.out⟩
              case round =>
                obtain ⟨u, rfl, hun, q3, hw⟩ := hrel
                have Hw : Hid _ := hw
                clear hw Hw2
                have d2 : wr.cell? ⟨bx, ox + t * 2 + 1, none⟩ = some (.slice eg n ec) := by rw [Hw.out]; have := C2.out; rw [Hn.out] at this; exact this
                by_cases hul : u < n
                · have q4 : (u : Int) < n := by omega
                  obtain ⟨bE, oE, hae, _, hce⟩ := ER.out.edge (by rw [Hn.out]; omega)
                  subst hae
                  obtain ⟨⟨cb, ct⟩, hu⟩ : ∃ e, es[u]? = some e := ⟨_, List.getElem?_eq_getElem (by rw [Hn.out]; exact hul)⟩
                  have hce1 := hce u _ (zE_at hu)
                  simp only at hce1
                  have x1 : wr.cell? ⟨bE, oE + u * 2, none⟩ = some (.int .u8 (cb.toNat : Nat)) := by rw [Hw.out]; exact hce1.1
                  have x2 : wr.cell? ⟨bE, oE + u * 2 + 1, none⟩ = some (.int .i64 (ct : Nat)) := by rw [Hw.out]; exact hce1.2
                  have hlt := Hlo.out _ (List.mem_of_getElem? hu)
                  simp only at hlt
                  have f1 : decide ((t : Int) ≤ ct) = false := decide_eq_false (by omega)
                  have f2 : decide (t ≤ ct) = false := decide_eq_false (by omega)
                  have f3 : decide ((ct : Int) < 0) = false := decide_eq_false (by omega)
                  by_cases hu0 : u = 0
                  · have f4 : decide ((0 : Int) < u) = false := decide_eq_false (by omega)
                    have f5 : decide (0 < u) = false := decide_eq_false (by omega)
                    clear hce hce1 hu hlt hul hu0
                    go_wp2_with fail
                    go_quiet (fail)
                    go_wp2
                    go_roundw
                    case rel => exact ⟨u + 1, by go_num, by omega, _, by rw [Hw.out]; simp only [World.drewN_drewN]; rfl⟩
                    case measure => simp [intOf]; omega
                  · obtain ⟨v, hv⟩ : ∃ v, u = v + 1 := ⟨u - 1, by omega⟩
                    obtain ⟨⟨pb, pt⟩, hpv⟩ : ∃ e, es[v]? = some e := ⟨_, List.getElem?_eq_getElem (by rw [Hn.out]; omega)⟩
                    have hce2 := hce v _ (zE_at hpv)
                    simp only at hce2
                    have y1 : wr.cell? ⟨bE, oE + v * 2, none⟩ = some (.int .u8 (pb.toNat : Nat)) := by rw [Hw.out]; exact hce2.1
                    have hrs : pb < cb := by
                      have h1 := List.pairwise_iff_getElem.1 Hri.out v u (by rw [Hn.out]; omega) (by rw [Hn.out]; omega) (by omega)
                      have g1 := (List.getElem?_eq_some_iff.1 hpv).2
                      have g2 := (List.getElem?_eq_some_iff.1 hu).2
                      rw [g1, g2] at h1
                      exact h1
                    have hrn : pb.toNat < cb.toNat := UInt8.lt_iff_toNat_lt.1 hrs
                    have f4 : decide ((0 : Int) < u) = true := decide_eq_true (by omega)
                    have f5 : decide (0 < u) = true := decide_eq_true (by omega)
                    have f6 : decide ((cb.toNat : Int) ≤ pb.toNat) = false := decide_eq_false (by omega)
                    have f7 : decide (cb.toNat ≤ pb.toNat) = false := decide_eq_false (by omega)
                    have f8 : decide (cb ≤ pb) = false := decide_eq_false (by rw [UInt8.le_iff_toNat_le]; omega)
                    have e1 : (u : Int) - 1 = (v : Nat) := by omega
                    have e2 : IntKind.i64.wrap ((u : Int) - 1) = (v : Nat) := by simp [IntKind.wrap, IntKind.bits, IntKind.signed]; omega
                    have q5 : (v : Int) < n := by omega
                    clear hce hce1 hce2 hu hpv hlt hul hu0 hv hrs hrn
                    go_wp2_with fail
                    go_quiet (fail)
                    go_wp2
                    go_roundw
                    case rel => exact ⟨u + 1, by go_num, by omega, _, by rw [Hw.out]; simp only [World.drewN_drewN]; rfl⟩
                    case measure => simp [intOf]; omega
                · have q4 : ¬ (u : Int) < n := by omega
                  have Hw5 : Hid (wr = wk.drewN q3) := Hw.out
                  clear hul Hw
                  obtain ⟨xt, hs1, hd1⟩ := ReadsA.mid (P := Try.prog) Try.underlying25 Try.sizeOf37 (ao := some ⟨bx, ox, none⟩) (len := m) (cap := c) HR.out.le.1 t (t + 1) (by omega) (by omega)
                  rw [show t + 1 - t = 1 by omega] at hs1 hd1
                  obtain ⟨t1, ht1⟩ : ∃ t1, t1 = t + 1 := ⟨_, rfl⟩
                  rw [← ht1] at hs1
                  have e1 : (t : Int) + 1 = (t1 : Nat) := by omega
                  have e2 : IntKind.i64.wrap ((t : Int) + 1) = (t1 : Nat) := by simp [IntKind.wrap, IntKind.bits, IntKind.signed]; omega
                  have HX : Hid (∀ W, Below wk.heap.size wk W → ReadsA W xt 1 (c - t) [(f, zE es)]) := by
                    intro W hW
                    have h1 := hd1 W _ (HR.out.later hW (Nat.le_refl _))
                    have h2 : ((zA (buildL z0)).drop t).take 1 = [(f, zE es)] := by
                      have h3 := zA_at Hst.out
                      rw [List.take_one, List.head?_drop, h3]; rfl
                    rwa [h2] at h1
                  have hcm : t1 ≤ c := by have := HR.out.le.1; omega
                  have HT1 : Hid _ := ht1
                  clear hd1 ht1 hun
                  go_wp2_with fail
                  go_loopw [10] (fun i wr => ∃ u : Nat, i = .int .i64 (u : Nat) ∧ u ≤ t ∧ ∃ q, wr = wk.drewN q) (fun i _ => (t - intOf i).toNat)
                  case atStart => exact ⟨0, rfl, Nat.zero_le _, q3, Hw5.out⟩
                  case round =>
                    obtain ⟨k, rfl, hkt, q6, hw⟩ := hrel
                    have Hw : Hid _ := hw
                    clear hw Hw5
                    by_cases hkl : k < t
                    · have q7 : (k : Int) < t := by omega
                      obtain ⟨yt, hs2, hd2⟩ := ReadsA.mid (P := Try.prog) Try.underlying25 Try.sizeOf37 (ao := some ⟨bx, ox, none⟩) (len := m) (cap := c) HR.out.le.1 k (k + 1) (by omega) (by omega)
                      rw [show k + 1 - k = 1 by omega] at hs2 hd2
                      obtain ⟨⟨f2, es2⟩, hk2⟩ : ∃ s, (buildL z0)[k]? = some s := ⟨_, List.getElem?_eq_getElem (by rw [HmA.out]; omega)⟩
                      have hdif : decide (([(f, zE es)] : List StZ) = [(f2, zE es2)]) = false := by
                        rw [decide_eq_false_iff_not]
                        intro h
                        simp only [List.cons.injEq, and_true] at h
                        have h3 := zS_inj (a := (f, es)) (b := (f2, es2)) h
                        have g1 := List.getElem?_eq_some_iff.1 Hst.out
                        have g2 := List.getElem?_eq_some_iff.1 hk2
                        have hij : (buildL z0)[t]'g1.1 = (buildL z0)[k]'g2.1 := by rw [g1.2, g2.2, h3]
                        have := (List.getElem_inj (build_good z0).nodup).1 hij
                        omega
                      have hrd2 : ∀ W, Below wk.heap.size wk W → ReadsA W yt 1 (c - k) [(f2, zE es2)] := by
                        intro W hW
                        have h1 := hd2 W _ (HR.out.later hW (Nat.le_refl _))
                        have h2 : ((zA (buildL z0)).drop k).take 1 = [(f2, zE es2)] := by
                          have h3 := zA_at hk2
                          rw [List.take_one, List.head?_drop, h3]; rfl
                        rwa [h2] at h1
                      have ps : ∀ qn, Calls Try.prog 14 #[.slice xt 1 (c - t), .slice yt 1 (c - k)] (wr.drewN qn) fun e w' => e = .returned (.bool false) ∧ ∃ m, w' = (wr.drewN qn).drewN m := by
                        intro qn
                        have hb : Below wk.heap.size wk (wr.drewN qn) := by rw [Hw.out]; exact below_drewN (below_drewN (Below.refl _ _) _) _
                        have := rsameA_any (HX.out _ hb) (hrd2 _ hb)
                        rwa [hdif] at this
                      obtain ⟨k1, hk1⟩ : ∃ k1, k1 = k + 1 := ⟨_, rfl⟩
                      rw [← hk1] at hs2
                      have e3 : (k : Int) + 1 = (k1 : Nat) := by omega
                      have e4 : IntKind.i64.wrap ((k : Int) + 1) = (k1 : Nat) := by simp [IntKind.wrap, IntKind.bits, IntKind.signed]; omega
                      have HK1 : Hid _ := hk1
                      clear hd2 hk2 hdif hrd2 hk1 hkl
                      go_wp2_with fail
                      go_quiet (exact Calls.quiet_of (ps _))
                      clear ps hs2
                      go_wp2
                      go_roundw
                      case rel => exact ⟨k1, rfl, by have := HK1.out; omega, _, by rw [Hw.out]; simp only [World.drewN_drewN]; rfl⟩
                      case measure => have := HK1.out; simp [intOf]; omega
                    · have q7 : ¬ (k : Int) < t := by omega
                      have Hw6 : Hid (wr = wk.drewN q6) := Hw.out
                      clear hkl Hw hs1
                      go_wp2
                      go_roundw
                      case rel => exact ⟨t1, rfl, by have := HT1.out; omega, q6, Hw6.out⟩
                      case measure => have := HT1.out; simp [intOf]; omega

set_option maxRecDepth 100000 in
theorem lifted (os : Os) (started : os.Started) (H : Type) (enc : TypeId × Value → H) :
    ReturnsInHanded {} Try.checked os 4 .any (Rows.dawLeastSpec.pre6 enc Try.prog Try.f4 Rows.dawLeastRow.domain false) (Rows.dawLeastSpec.post enc Try.prog Try.f4 false true false false) := by
  refine returnsInHanded_of_change_sized (C := Try.checked) own started (by kernel_rfl) Try.func4
    (ChangeSpec.witness6 (enc := enc) (C := Try.checked) false ⟨#[], #[.slice none 0 0], []⟩ 8 (by kernel_rfl) (by kernel_rfl) (by kernel_rfl) (by kernel_rfl)) ?_
  intro W base args ds gs before hval0 hW hcnd hsz0 _
  have hsz : (DataW.weightsEach Try.prog (Try.f4.params.toList ++ Rows.dawLeastSpec.plain.varTypes Try.prog) (ds ++ gs)).all (· ≤ reachBytes) = true := hsz0
  clear hsz0
  have hval : ∀ (j : Nat) t v, Try.f4.params[j]? = some t → args[j]? = some v → Value.okWide Try.prog W .any base t v := hval0
  have hW' := hW
  obtain ⟨p, q, hA0, hV, rfl, hfz, hnd⟩ := hW
  have hA : DataW.TrodAll enc Try.prog W 0 (fun _ => true) true Try.f4.params.toList args.toList ds p := hA0
  rw [Try.params4] at hA hval hsz
  obtain ⟨v0, vs0, d0, ds0, p0, q0, hargs, rfl, rfl, h0, rr0⟩ := trodAll_cons hA
  obtain ⟨rfl, rfl, rfl⟩ := trodAll_nil rr0
  obtain rfl : args = #[v0] := by cases args; simp_all
  obtain ⟨rfl, rfl⟩ := trodVars_none hV
  obtain ⟨a0, len0, cap0, rfl⟩ := okWide_slice Try.underlying22 (hval 0 22 v0 rfl rfl)
  have k0 := h0
  have lt0 : ∀ x ∈ p0, x.block < W.heap.size := by obtain ⟨m, hm⟩ := k0; exact DataW.trod_lt m _ _ _ hm
  obtain ⟨z0, r0, f0, b0⟩ := strs_in Try.underlying22 Try.underlying9 (by kernel_rfl) (B := 16) (by kernel_rfl) hsz (j := 0) rfl rfl h0
  clear hA0 hval0
  refine (walk W a0 len0 cap0 z0 r0 f0 b0).mono fun e W' ⟨he, bel⟩ => ?_
  subst he
  exact ⟨_, rfl, _, _, _, [], _, [], hW', trodAll_mk1 (shut_bool Try.underlying4 _), (trodAll_cons_mk (Below.trod laidOut (by kernel_rfl) (of_decide_eq_true (by kernel_rfl)) k0 bel lt0) trodAll_mk0), rfl, bel.frame _, fun h => by cases h⟩

theorem over : Rows.dawLeastRow.holds Try.pinned (OpenSpec.ofChange Rows.dawLeastSpec) :=
  OpenClaim.holds_of_wide 4 Try.f4 rfl rfl rfl rfl rfl rfl rfl ⟨rfl, rfl, rfl, rfl, rfl⟩ rfl rfl rfl rfl rfl (by kernel_rfl) Try.func4 (by kernel_rfl)
    (of_decide_eq_true (by kernel_rfl)) (by unfold Func.isWrapper; first | (rw [if_pos (by decide +kernel)]; kernel_rfl) | (rw [if_neg (by decide +kernel)]; exact ⟨rfl, rfl⟩))
    (fun os started H enc _ => lifted os started H enc)
end Go.Proofs.Ytmcpiikcgimhpaa.dawLeast
namespace Go.Proofs.Ytmcpiikcgimhpaa
theorem dawLeast_holds : Rows.DawLeastSaid := dawLeast.over
#print axioms dawLeast_holds
end Go.Proofs.Ytmcpiikcgimhpaa
