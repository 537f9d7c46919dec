/- For every input UtfSplit answers true, and leaves its arguments as they were. Conditions: none. -/
import Derived.Test.YtchafajebkfieaaDoorRows
import Derived.Test.YtchafajebkfieaaDoorCards
import Derived.Test.YtchafajebkfieaaDoorTie
import Derived.Test.YtchafajebkfieaaDoorUtfConv
import Derived.Test.YtchafajebkfieaaDoorStepRow
import Derived.Test.YtchafajebkfieaaDoorUtfCode
import Derived.Test.YtchafajebkfieaaDoorShown04
import Derived.Test.YtchafajebkfieaaDoorOpen
import Derived.ProofKit
import Derived.OpenShut
import Derived.ShutString
import Derived.ChangeOld
import Derived.SizedLaws
import Derived.Deep.RegionHeld
import Derived.Deep.QuietTactic
import Derived.BigQuiet
import Derived.Deep.Cut
import Derived.Deep.CutBlock
import Derived.Lay
import Derived.LaidOnce
import Derived.SevenTiedAt
namespace Go.Proofs.YtchafajebkfieaaDoor.utfSplit
open Go.ChangeShapes Go.WideShapes Go.ChangeAt Go.RowKit
open Go.ChangeMaps (open_string shut_string)
set_option linter.unusedVariables false

theorem own : ownKnob Tryd.prog.godebug = none := by kernel_rfl
theorem laidOut : laidOutB Tryd.prog = true := by kernel_rfl

theorem bytes_of {z : List Int} (f : ∀ x ∈ z, (Lit.int .u8 x).wf = true) : isBytes z := fun x hx => bounds_u8 (f x hx)
theorem feed_bytes {z : List Int} (h : isBytes z) : isBytes (feedU z).2 := fun x hx => by
  obtain ⟨a, ha⟩ := feed_end z
  exact h x (by rw [ha]; exact List.mem_append_right _ hx)

set_option maxRecDepth 100000 in
set_option maxHeartbeats 4000000 in
theorem walk (w : World) (a0 : Option Addr) (len0 cap0 : Nat) (z0 : List Int) (r0 : Reads w a0 len0 cap0 (z0.map (.int .u8))) (f0 : ∀ z ∈ z0, (Lit.int .u8 z).wf = true) (b0 : len0 * 1 ≤ 140737488351232) (a1 : Int) (w1 : (Lit.int .u16 a1).wf = true) (ht : Tabs w) :
    Calls Tryd.prog 6 #[.slice a0 len0 cap0, .int .u16 a1] w fun e w' => e = .returned (.bool true) ∧ Below w.heap.size w w' := by
  have h8 := bytes_of f0
  clear f0
  have g1 := bounds_u16 w1
  obtain ⟨cut, rfl⟩ := Int.eq_ofNat_of_zero_le g1.1
  have g1' : (cut : Int) ≤ 65535 := g1.2
  clear g1 w1
  have hl0 : z0.length = len0 := by simpa using r0.length
  have hlc0 := r0.le
  go_enter Tryd.func6, Tryd.ntmps6
  go_wp2_with fail
  refine (shown_any _).mono ?_
  rintro e wa ⟨rfl, hb1⟩
  by_cases hbig : len0 ≤ 20000
  case neg =>
    have g1 : (20001 : Int) ≤ len0 := by omega
    clear hbig
    go_wp2
    go_ret
    exact ⟨rfl, hb1⟩
  have g0 : (len0 : Int) ≤ 20000 := by omega
  have hmod : Hid (cut % (len0 + 1) ≤ len0) := by show _ ≤ _; have := Nat.mod_lt cut (show len0 + 1 > 0 by omega); omega
  have hK : Int.tmod (cut : Int) ((len0 : Int) + 1) = ((cut % (len0 + 1) : Nat) : Int) := by rw [Int.tmod_eq_emod_of_nonneg (by omega)]; simp
  generalize cut % (len0 + 1) = k at hmod hK
  have hkl : k ≤ len0 := hmod.out
  have hkl' : (k : Int) ≤ len0 := by omega
  clear hmod
  have ra := r0.later hb1 (Nat.le_refl _)
  obtain ⟨x1, hs1, hd1⟩ := Reads.to (P := Tryd.prog) Tryd.underlying22 (size_of Tryd.infoByte) (ao := a0) (len := len0) (cap := cap0) hlc0 k hkl
  obtain ⟨x2, hs2, hd2⟩ := Reads.from (P := Tryd.prog) Tryd.underlying22 (size_of Tryd.infoByte) (ao := a0) (len := len0) (cap := cap0) k hkl
  have rx1 := hd1 wa _ ra
  rw [← List.map_take] at rx1
  have t8 : isBytes (z0.take k) := fun z hz => h8 z (List.mem_of_mem_take hz)
  have d8 : isBytes (z0.drop k) := fun z hz => h8 z (List.mem_of_mem_drop hz)
  rcases hF1 : feedU (z0.take k) with ⟨A, P⟩
  rcases hF2 : feedU (P ++ z0.drop k) with ⟨B, Q⟩
  have hF3 : feedU z0 = (A ++ B, Q) := by
    have := feed_parts (z0.take k) (z0.drop k)
    rw [List.take_append_drop, hF1] at this
    simp only [hF2] at this
    exact this
  have P8 : isBytes P := by have := feed_bytes t8; rw [hF1] at this; exact this
  have Q8 : isBytes Q := by have := feed_bytes h8; rw [hF3] at this; exact this
  have hPs : P.length ≤ k ∧ (z0.drop (k - P.length)).take P.length = P := by
    obtain ⟨a, ha⟩ := feed_end (z0.take k)
    rw [hF1] at ha
    simp only at ha
    have hlen : (z0.take k).length = k := by simp; omega
    have h1 : a.length + P.length = k := by rw [← List.length_append, ← ha]; exact hlen
    refine ⟨by omega, ?_⟩
    have e : z0 = a ++ (P ++ z0.drop k) := by rw [← List.append_assoc, ← ha, List.take_append_drop]
    have hk2 : k - P.length = a.length := by omega
    rw [hk2]
    conv => lhs; rw [e]
    rw [List.drop_left, List.take_left]
  have HF1 : Hid _ := hF1
  have HF2 : Hid _ := hF2
  have HF3 : Hid _ := hF3
  clear hF1 hF2 hF3
  go_wp2_with fail
  refine (ufeed_any none 0 0 [] _ _ _ _ _ (Reads.nil _) rx1 (by simp [isBytes]) t8 (by omega) (by omega)).mono ?_
  rintro e wb ⟨ag1, c1, m1, bg1, d1, k1, rfl, hm1, hk1, hown1, rp1, tp1, -, hb2⟩
  simp only [List.nil_append, HF1.out] at hm1 hk1 hown1 rp1
  have Hk1 : Hid (k1 = P.length) := hk1
  have hm1' : m1 ≤ 20000 := by
    have h1 := feed_all (z0.take k)
    have h2 := all_le (z0.take k)
    rw [HF1.out] at h1
    simp only at h1
    have h3 := congrArg List.length h1
    rw [List.length_append] at h3
    simp at h2
    omega
  have hk1' : k1 ≤ k := by have := Hk1.out; omega
  clear hm1 hk1 rx1
  have hlt := hown1.lt
  have rb := ra.later hb2 (Nat.le_refl _)
  have hB2 := Grow.trans hb1 hb2
  have rx2 := hd2 wb _ rb
  rw [← List.map_drop] at rx2
  go_wp2_with fail
  refine (ufeed_any _ _ _ _ _ _ _ _ _ rp1 rx2 P8 d8 (by omega) (by omega)).mono ?_
  rintro e wc ⟨ag2, c2, m2, bg2, d2, k2, rfl, hm2, hk2, hown2, rp2, tp2, -, hb3⟩
  simp only [HF2.out] at hm2 hk2 hown2 rp2
  have Hm2 : Hid (m2 = B.length) := hm2
  have Hk2 : Hid (k2 = Q.length) := hk2
  clear hm2 hk2 rx2
  have rc := rb.later hb3 (Nat.le_refl _)
  have hB3 := Grow.trans hB2 hb3
  have hsb3 := hb3.size
  have hown1c := own_later hown1 hb3 (Nat.le_refl _)
  have rp1c := rp1.later hb3 (Nat.le_refl _)
  have tp1c := tp1.later hb3 (Nat.le_refl _)
  clear hown1 rp1 tp1 rb
  have hBa3 : Below wa.heap.size wa wc := hb2.trans (hb3.mono hb2.size)
  clear hb2 hb3
  have ht3 := Tabs.grow hB3 ht
  go_wp2_with fail
  refine (ufeed_any none 0 0 [] _ _ _ _ _ (Reads.nil _) rc (by simp [isBytes]) h8 (by omega) (by omega)).mono ?_
  rintro e wd ⟨ag3, c3, m3, bg3, d3, k3, rfl, hm3, hk3, hown3, rp3, tp3, -, hb4⟩
  simp only [List.nil_append, HF3.out] at hm3 hk3 hown3 rp3
  have hm3' : m3 ≤ 20000 := by
    have h1 := feed_all z0
    have h2 := all_le z0
    rw [HF3.out] at h1
    simp only at h1
    have h3 := congrArg List.length h1
    rw [List.length_append] at h3
    try simp only at hm3
    omega
  have hm12 : m1 + m2 ≤ 20000 := by
    have h1 : A.length = m1 := by have := hown1c.1; simpa using this
    have h2 := Hm2.out
    simp only [List.length_append] at hm3
    omega
  have Hk3 : Hid (k3 = Q.length) := hk3
  clear hm3 hk3
  have rd := rc.later hb4 (Nat.le_refl _)
  have hB4 := Grow.trans hB3 hb4
  have hBa4 : Below wa.heap.size wa wd := hBa3.trans (hb4.mono hBa3.size)
  have hown1d := own_later hown1c hb4 (Nat.le_refl _)
  have rp1d := rp1c.later hb4 (Nat.le_refl _)
  have tp1d := tp1c.later hb4 (Nat.le_refl _)
  have rm := (Reads.own hown2).later hb4 (Nat.le_refl _)
  have rp2d := rp2.later hb4 (Nat.le_refl _)
  have tp2d := tp2.later hb4 (Nat.le_refl _)
  have hszd := hBa4.size
  have hlt' : ∀ j, (Value.slice ag1 m1 c1).ownBlock = some j → j < wc.heap.size := fun j hj => by have := (hlt j hj).2; omega
  clear hlt hb4 hown1c rp1c tp1c hown2 rp2 tp2 hBa3 hB3 rc ra hB2
  have mx : m1 + m2 + 20 ≤ maxLen := by unfold maxLen; omega
  -- what is held
  obtain ⟨S, hS⟩ : ∃ S : World → Prop, ∀ W, S W ↔ (Reads W bg1 k1 d1 (P.map (.int .u8)) ∧ Reads W bg2 k2 d2 (Q.map (.int .u8)) ∧ Reads W bg3 k3 d3 (Q.map (.int .u8)) ∧ Below w.heap.size w W) := ⟨_, fun W => Iff.rfl⟩
  have HS : Hid _ := hS
  clear hS
  have HSl : Hid (∀ W W', S W → Below W.heap.size W W' → S W') := by
    show ∀ W W', _
    intro W W' h hb
    obtain ⟨h1, h2, h3, h4⟩ := (HS.out W).1 h
    exact (HS.out W').2 ⟨h1.later hb (Nat.le_refl _), h2.later hb (Nat.le_refl _), h3.later hb (Nat.le_refl _), Grow.trans h4 hb⟩
  have S0 : S wd := (HS.out wd).2 ⟨rp1d, rp2d, rp3, hB4⟩
  obtain ⟨x3, hs3, hd3⟩ := Reads.mid (P := Tryd.prog) Tryd.underlying22 (size_of Tryd.infoByte) (ao := a0) (len := len0) (cap := cap0) hlc0 (k - k1) k (by omega) hkl
  have e3 : k - (k - k1) = k1 := by omega
  rw [e3] at hs3 hd3
  have cst : ((k - k1 : Nat) : Int) = (k : Int) - k1 := by omega
  simp only [cst] at hs3
  have hwr : IntKind.i64.wrap ((k : Int) - k1) = (k : Int) - k1 := by rw [IntKind.wrap_i64]; omega
  have v1 : ∀ W, S W → (convert 22 9 (.slice bg1 k1 d1)).run Tryd.prog W = .ok (.string (strOfNums P)) W := fun W h => conv_of Tryd.underlying22 Tryd.underlying5 Tryd.underlying9 ((HS.out W).1 h).1
  have v2 : ∀ W, S W → (convert 22 9 (.slice bg2 k2 d2)).run Tryd.prog W = .ok (.string (strOfNums Q)) W := fun W h => conv_of Tryd.underlying22 Tryd.underlying5 Tryd.underlying9 ((HS.out W).1 h).2.1
  have v3 : ∀ W, S W → (convert 22 9 (.slice bg3 k3 d3)).run Tryd.prog W = .ok (.string (strOfNums Q)) W := fun W h => conv_of Tryd.underlying22 Tryd.underlying5 Tryd.underlying9 ((HS.out W).1 h).2.2.1
  have v4 : ∀ W, S W → (convert 22 9 (.slice x3 k1 (cap0 - (k - k1)))).run Tryd.prog W = .ok (.string (strOfNums P)) W := fun W h => by
    have h1 := hd3 W _ (r0.later ((HS.out W).1 h).2.2.2 (Nat.le_refl _))
    rw [← List.map_drop, ← List.map_take, Hk1.out, hPs.2] at h1
    rw [Hk1.out]
    exact conv_of Tryd.underlying22 Tryd.underlying5 Tryd.underlying9 h1
  have hk1i : (k1 : Int) ≤ k := by omega
  clear hd1 hd2 hd3 e3 cst hPs r0 HF1 HF2 HF3 t8 d8 P8 Q8 hK
  go_wp2_with fail
  refine wp_region_held_drew (S := S) (by kernel_rfl) (HSl.out _ _ S0 (Below.drew (Below.refl _ _))) (fun hHeld => ?_)
  refine held_take 0 44 (v := ?_) rfl rfl (by kernel_rfl) (by kernel_rfl) (by kernel_rfl) (fun _ _ _ h => h) (Or.inl ⟨by rfl, ?_⟩) (by assumption) ?_
  rotate_left 1
  · (intro w hSw; (try dsimp only at hSw); go_simp; try with_reducible rfl)
  simp only [List.set_cons_zero, List.set_cons_succ]
  refine held_take 1 45 (v := ?_) rfl rfl (by kernel_rfl) (by kernel_rfl) (by kernel_rfl) (fun _ _ _ h => h) (Or.inl ⟨by rfl, ?_⟩) (by assumption) ?_
  rotate_left 1
  · (intro w hSw; (try dsimp only at hSw); go_simp; try with_reducible rfl)
  simp only [List.set_cons_zero, List.set_cons_succ]
  refine held_take 2 46 (v := ?_) rfl rfl (by kernel_rfl) (by kernel_rfl) (by kernel_rfl) (fun _ _ _ h => h) (Or.inl ⟨by rfl, ?_⟩) (by assumption) ?_
  rotate_left 1
  · (intro w hSw; (try dsimp only at hSw); go_simp; try with_reducible rfl)
  simp only [List.set_cons_zero, List.set_cons_succ]
  refine held_take 3 47 (v := ?_) rfl rfl (by kernel_rfl) (by kernel_rfl) (by kernel_rfl) (fun _ _ _ h => h) (Or.inl ⟨by rfl, ?_⟩) (by assumption) ?_
  rotate_left 1
  · (intro w hSw; (try dsimp only at hSw); go_simp; try with_reducible rfl)
  simp only [List.set_cons_zero, List.set_cons_succ]
  refine held_take 5 49 (v := ?_) rfl rfl (by kernel_rfl) (by kernel_rfl) (by kernel_rfl) (fun _ _ _ h => h) (Or.inl ⟨by rfl, ?_⟩) (by assumption) ?_
  rotate_left 1
  · (intro w hSw; (try dsimp only at hSw); go_simp; try with_reducible rfl)
  simp only [List.set_cons_zero, List.set_cons_succ]
  refine wpAnyH_ready (rs := [4]) (by kernel_rfl) (by simp) ?_
  refine AllReadyH.cons rfl (fun K hK => ?_) AllReadyH.nil
  refine step_append_grown (by rfl) (.tmp 46) (.tmp 47) 24 rfl wa.heap.size 21 Tryd.infoRune rfl Tryd.underlying24 _ _ _ _ rfl (World.ownsRow.drew hown1d) _ _ _ _ rfl (rm.later (Below.drew (Below.refl _ _)) (Nat.le_refl _)) (ints_oneCell _ _) (by omega) (by omega) hszd ?_
  intro ag5 c5 w5 hown5 hg5 hb5
  have S5 : S w5 := (HS.out w5).2 ⟨reads_apart (rp1d.later (Below.drew (Below.refl _ _)) (Nat.le_refl _)) (tp1d.later (Below.drew (Below.refl _ _)) (Nat.le_refl _)) (World.ownsRow.drew hown1d) (by decide) hg5,
    reads_apart (rp2d.later (Below.drew (Below.refl _ _)) (Nat.le_refl _)) (tp2d.later (Below.drew (Below.refl _ _)) (Nat.le_refl _)) (World.ownsRow.drew hown1d) (by decide) hg5,
    reads_apart (rp3.later (Below.drew (Below.refl _ _)) (Nat.le_refl _)) (tp3.later (Below.drew (Below.refl _ _)) (Nat.le_refl _)) (World.ownsRow.drew hown1d) (by decide) hg5,
    Below.trans (Below.drew hB4) (hb5.mono hb1.size)⟩
  have hn5 := own_young (base' := 0) (World.ownsRow.drew hown3) hlt' (Nat.zero_le _) hg5
  have ry5 := Reads.own hown5
  have rn5 := Reads.own hn5
  rw [← List.map_append] at ry5
  clear hown5 hg5 hb5 hn5
  refine hK.out _ _ (S5) (fun hHeld => ?_)
  clear hK K
  try simp only [Act.put]
  try simp only [List.setIfInBounds_toArray]
  try simp only [List.set_cons_zero, List.set_cons_succ]
  refine wpAnyH_ready (rs := [6]) (by kernel_rfl) (by simp) ?_
  refine AllReadyH.cons rfl (fun K hK => ?_) AllReadyH.nil
  go_simp
  go_wp2_with (go_at_call 12; refine (same_any _ _ _ _ _ _ _ _ _ ry5 rn5).mono ?_; rintro e w6 ⟨rfl, q6, rfl⟩; rw [decide_eq_true rfl])
  refine hK.out _ _ (HSl.out _ _ S5 (grow_drewN w5 q6)) (fun hHeld => ?_)
  clear hK K
  try simp only [Act.put]
  try simp only [List.setIfInBounds_toArray]
  try simp only [List.set_cons_zero, List.set_cons_succ]
  refine held_take 7 51 (v := ?_) rfl rfl (by kernel_rfl) (by kernel_rfl) (by kernel_rfl) (fun _ _ _ h => h) (Or.inl ⟨by rfl, ?_⟩) (by assumption) ?_
  rotate_left 1
  · (intro w hSw; (try dsimp only at hSw); go_simp; try with_reducible rfl)
  simp only [List.set_cons_zero, List.set_cons_succ]
  refine held_take 8 52 (v := ?_) rfl rfl (by kernel_rfl) (by kernel_rfl) (by kernel_rfl) (fun _ _ _ h => h) (Or.inl ⟨by rfl, ?_⟩) (by assumption) ?_
  rotate_left 1
  · (intro w hSw; (try dsimp only at hSw); go_simp; try with_reducible rfl)
  simp only [List.set_cons_zero, List.set_cons_succ]
  refine held_take 9 53 (v := ?_) rfl rfl (by kernel_rfl) (by kernel_rfl) (by kernel_rfl) (fun _ _ _ h => h) (Or.inl ⟨by rfl, ?_⟩) (by assumption) ?_
  rotate_left 1
  · (intro w hSw; (try dsimp only at hSw); go_simp; try with_reducible rfl)
  simp only [List.set_cons_zero, List.set_cons_succ]
  refine held_take 10 54 (v := ?_) rfl rfl (by kernel_rfl) (by kernel_rfl) (by kernel_rfl) (fun _ _ _ h => h) (Or.inl ⟨by rfl, ?_⟩) (by assumption) ?_
  rotate_left 1
  · (intro w hSw; (try dsimp only at hSw); have hx := v2 w hSw; go_simp; try with_reducible rfl)
  simp only [List.set_cons_zero, List.set_cons_succ]
  refine held_take 11 55 (v := ?_) rfl rfl (by kernel_rfl) (by kernel_rfl) (by kernel_rfl) (fun _ _ _ h => h) (Or.inl ⟨by rfl, ?_⟩) (by assumption) ?_
  rotate_left 1
  · (intro w hSw; (try dsimp only at hSw); go_simp; try with_reducible rfl)
  simp only [List.set_cons_zero, List.set_cons_succ]
  refine held_take 12 56 (v := ?_) rfl rfl (by kernel_rfl) (by kernel_rfl) (by kernel_rfl) (fun _ _ _ h => h) (Or.inl ⟨by rfl, ?_⟩) (by assumption) ?_
  rotate_left 1
  · (intro w hSw; (try dsimp only at hSw); have hx := v3 w hSw; go_simp; try with_reducible rfl)
  simp only [List.set_cons_zero, List.set_cons_succ]
  refine held_take 13 57 (v := ?_) rfl rfl (by kernel_rfl) (by kernel_rfl) (by kernel_rfl) (fun _ _ _ h => h) (Or.inl ⟨by rfl, ?_⟩) (by assumption) ?_
  rotate_left 1
  · (intro w hSw; (try dsimp only at hSw); go_simp; try with_reducible rfl)
  simp only [List.set_cons_zero, List.set_cons_succ]
  refine held_take 14 58 (v := ?_) rfl rfl (by kernel_rfl) (by kernel_rfl) (by kernel_rfl) (fun _ _ _ h => h) (Or.inl ⟨by rfl, ?_⟩) (by assumption) ?_
  rotate_left 1
  · (intro w hSw; (try dsimp only at hSw); go_simp; try with_reducible rfl)
  simp only [List.set_cons_zero, List.set_cons_succ]
  refine held_take 15 59 (v := ?_) rfl rfl (by kernel_rfl) (by kernel_rfl) (by kernel_rfl) (fun _ _ _ h => h) (Or.inl ⟨by rfl, ?_⟩) (by assumption) ?_
  rotate_left 1
  · (intro w hSw; (try dsimp only at hSw); go_simp; try with_reducible rfl)
  simp only [List.set_cons_zero, List.set_cons_succ]
  refine held_take 16 60 (v := ?_) rfl rfl (by kernel_rfl) (by kernel_rfl) (by kernel_rfl) (fun _ _ _ h => h) (Or.inl ⟨by rfl, ?_⟩) (by assumption) ?_
  rotate_left 1
  · (intro w hSw; (try dsimp only at hSw); go_simp; try with_reducible rfl)
  simp only [List.set_cons_zero, List.set_cons_succ]
  refine held_take 17 61 (v := ?_) rfl rfl (by kernel_rfl) (by kernel_rfl) (by kernel_rfl) (fun _ _ _ h => h) (Or.inl ⟨by rfl, ?_⟩) (by assumption) ?_
  rotate_left 1
  · (intro w hSw; (try dsimp only at hSw); go_simp; try with_reducible rfl)
  simp only [List.set_cons_zero, List.set_cons_succ]
  refine held_take 18 62 (v := ?_) rfl rfl (by kernel_rfl) (by kernel_rfl) (by kernel_rfl) (fun _ _ _ h => h) (Or.inl ⟨by rfl, ?_⟩) (by assumption) ?_
  rotate_left 1
  · (intro w hSw; (try dsimp only at hSw); go_simp; try with_reducible rfl)
  simp only [List.set_cons_zero, List.set_cons_succ]
  refine held_take 19 63 (v := ?_) rfl rfl (by kernel_rfl) (by kernel_rfl) (by kernel_rfl) (fun _ _ _ h => h) (Or.inl ⟨by rfl, ?_⟩) (by assumption) ?_
  rotate_left 1
  · (intro w hSw; (try dsimp only at hSw); go_simp; try with_reducible rfl)
  simp only [List.set_cons_zero, List.set_cons_succ]
  refine held_take 20 64 (v := ?_) rfl rfl (by kernel_rfl) (by kernel_rfl) (by kernel_rfl) (fun _ _ _ h => h) (Or.inl ⟨by rfl, ?_⟩) (by assumption) ?_
  rotate_left 1
  · (intro w hSw; (try dsimp only at hSw); go_simp; try with_reducible rfl)
  simp only [List.set_cons_zero, List.set_cons_succ]
  refine held_take 21 65 (v := ?_) rfl rfl (by kernel_rfl) (by kernel_rfl) (by kernel_rfl) (fun _ _ _ h => h) (Or.inl ⟨by rfl, ?_⟩) (by assumption) ?_
  rotate_left 1
  · (intro w hSw; (try dsimp only at hSw); go_simp; try with_reducible rfl)
  simp only [List.set_cons_zero, List.set_cons_succ]
  refine held_take 22 66 (v := ?_) rfl rfl (by kernel_rfl) (by kernel_rfl) (by kernel_rfl) (fun _ _ _ h => h) (Or.inl ⟨by rfl, ?_⟩) (by assumption) ?_
  rotate_left 1
  · (intro w hSw; (try dsimp only at hSw); go_simp; try with_reducible rfl)
  simp only [List.set_cons_zero, List.set_cons_succ]
  refine held_take 23 67 (v := ?_) rfl rfl (by kernel_rfl) (by kernel_rfl) (by kernel_rfl) (fun _ _ _ h => h) (Or.inl ⟨by rfl, ?_⟩) (by assumption) ?_
  rotate_left 1
  · (intro w hSw; (try dsimp only at hSw); have hx := v1 w hSw; go_simp; try with_reducible rfl)
  simp only [List.set_cons_zero, List.set_cons_succ]
  refine held_take 24 68 (v := ?_) rfl rfl (by kernel_rfl) (by kernel_rfl) (by kernel_rfl) (fun _ _ _ h => h) (Or.inl ⟨by rfl, ?_⟩) (by assumption) ?_
  rotate_left 1
  · (intro w hSw; (try dsimp only at hSw); go_simp; try with_reducible rfl)
  simp only [List.set_cons_zero, List.set_cons_succ]
  refine held_take 25 69 (v := ?_) rfl rfl (by kernel_rfl) (by kernel_rfl) (by kernel_rfl) (fun _ _ _ h => h) (Or.inl ⟨by rfl, ?_⟩) (by assumption) ?_
  rotate_left 1
  · (intro w hSw; (try dsimp only at hSw); go_simp; try with_reducible rfl)
  simp only [List.set_cons_zero, List.set_cons_succ]
  refine held_take 26 70 (v := ?_) rfl rfl (by kernel_rfl) (by kernel_rfl) (by kernel_rfl) (fun _ _ _ h => h) (Or.inl ⟨by rfl, ?_⟩) (by assumption) ?_
  rotate_left 1
  · (intro w hSw; (try dsimp only at hSw); go_simp; try with_reducible rfl)
  simp only [List.set_cons_zero, List.set_cons_succ]
  refine held_take 27 71 (v := ?_) rfl rfl (by kernel_rfl) (by kernel_rfl) (by kernel_rfl) (fun _ _ _ h => h) (Or.inl ⟨by rfl, ?_⟩) (by assumption) ?_
  rotate_left 1
  · (intro w hSw; (try dsimp only at hSw); go_simp; try with_reducible rfl)
  simp only [List.set_cons_zero, List.set_cons_succ]
  refine held_take 28 72 (v := ?_) rfl rfl (by kernel_rfl) (by kernel_rfl) (by kernel_rfl) (fun _ _ _ h => h) (Or.inl ⟨by rfl, ?_⟩) (by assumption) ?_
  rotate_left 1
  · (intro w hSw; (try dsimp only at hSw); go_simp; try with_reducible rfl)
  simp only [List.set_cons_zero, List.set_cons_succ]
  refine held_take 29 73 (v := ?_) rfl rfl (by kernel_rfl) (by kernel_rfl) (by kernel_rfl) (fun _ _ _ h => h) (Or.inl ⟨by rfl, ?_⟩) (by assumption) ?_
  rotate_left 1
  · (intro w hSw; (try dsimp only at hSw); go_simp; try with_reducible rfl)
  simp only [List.set_cons_zero, List.set_cons_succ]
  refine held_take 30 74 (v := ?_) rfl rfl (by kernel_rfl) (by kernel_rfl) (by kernel_rfl) (fun _ _ _ h => h) (Or.inl ⟨by rfl, ?_⟩) (by assumption) ?_
  rotate_left 1
  · (intro w hSw; (try dsimp only at hSw); go_simp; try with_reducible rfl)
  simp only [List.set_cons_zero, List.set_cons_succ]
  refine held_take 31 75 (v := ?_) rfl rfl (by kernel_rfl) (by kernel_rfl) (by kernel_rfl) (fun _ _ _ h => h) (Or.inl ⟨by rfl, ?_⟩) (by assumption) ?_
  rotate_left 1
  · (intro w hSw; (try dsimp only at hSw); have hx := v4 w hSw; go_simp; try with_reducible rfl)
  simp only [List.set_cons_zero, List.set_cons_succ]
  refine held_take 32 76 (v := ?_) rfl rfl (by kernel_rfl) (by kernel_rfl) (by kernel_rfl) (fun _ _ _ h => h) (Or.inl ⟨by rfl, ?_⟩) (by assumption) ?_
  rotate_left 1
  · (intro w hSw; (try dsimp only at hSw); go_simp; try with_reducible rfl)
  simp only [List.set_cons_zero, List.set_cons_succ]
  refine held_take 33 77 (v := ?_) rfl rfl (by kernel_rfl) (by kernel_rfl) (by kernel_rfl) (fun _ _ _ h => h) (Or.inl ⟨by rfl, ?_⟩) (by assumption) ?_
  rotate_left 1
  · (intro w hSw; (try dsimp only at hSw); go_simp; try with_reducible rfl)
  simp only [List.set_cons_zero, List.set_cons_succ]
  refine held_take 34 4 (v := ?_) rfl rfl (by kernel_rfl) (by kernel_rfl) (by kernel_rfl) (fun _ _ _ h => h) (Or.inl ⟨by rfl, ?_⟩) (by assumption) ?_
  rotate_left 1
  · (intro w hSw; (try dsimp only at hSw); go_simp; try with_reducible rfl)
  simp only [List.set_cons_zero, List.set_cons_succ]
  refine wpAnyH_done (by kernel_rfl) ?_ _
  have hfin : Below w.heap.size w (w5.drewN q6) := ((HS.out _).1 hHeld).2.2.2
  go_wp2
  go_ret
  exact ⟨rfl, hfin⟩

set_option maxRecDepth 100000 in
theorem lifted (os : Os) (started : os.Started) (H : Type) (enc : TypeId × Value → H) :
    ReturnsInHanded {} Tryd.checked os 6 .any (fun w args => (Rows.utfSplitSpec.pre enc Tryd.prog Tryd.f6 [] false w args ∧ laidMetH Tryd.prog tabLaid w) ∧ sizedMet enc Tryd.prog Tryd.f6 (OpenSpec.ofChange Rows.utfSplitSpec) false w args) (Rows.utfSplitSpec.post enc Tryd.prog Tryd.f6 false true false false) := by
  refine returnsInHanded_of_change_and (C := Tryd.checked) (X := fun w _ => laidMetH Tryd.prog tabLaid w) (fun _ _ _ hh h => h.of_heap hh) own started (by kernel_rfl) Tryd.func6
    (ChangeSpec.witness_shaped (enc := enc) (C := Tryd.checked) (os := os) (X := fun w _ => laidMetH Tryd.prog tabLaid w) false (World.laidAll Tryd.prog os tabLaid) #[.slice none 0 0, .int .u16 0] 8 (World.laidAll_os _ _ _)
      (World.shaped_of_ZipB (by kernel_rfl) (by kernel_rfl)) (by kernel_rfl) (by kernel_rfl) (by kernel_rfl)
      (by rw [MakeChecks.laidMetH_plain _ _ _ (by kernel_rfl)]; exact laidMet_laidAll _ (by kernel_rfl) (by kernel_rfl))) ?_
  intro W base args ds gs before hval0 hW hcnd hsz0 hL _
  rw [MakeChecks.laidMetH_plain _ _ _ (by kernel_rfl)] at hL
  have ht : Tabs W := tabs_of hL
  clear hL
  have hsz : (DataW.weightsEach Tryd.prog (Tryd.f6.params.toList ++ Rows.utfSplitSpec.plain.varTypes Tryd.prog) (ds ++ gs)).all (· ≤ reachBytes) = true := hsz0
  clear hsz0
  have hval : ∀ (j : Nat) t v, Tryd.f6.params[j]? = some t → args[j]? = some v → Value.okWide Tryd.prog W .any base t v := hval0
  have hW' := hW
  obtain ⟨p, q, hA0, hV, rfl, hfz, hnd⟩ := hW
  have hA : DataW.TrodAll enc Tryd.prog W 0 (fun _ => true) true Tryd.f6.params.toList args.toList ds p := hA0
  rw [Tryd.params6] at hA hval hsz
  obtain ⟨v0, vs0, d0, ds0, p0, q0, hargs, rfl, rfl, h0, rr0⟩ := trodAll_cons hA
  obtain ⟨v1, vs1, d1, ds1, p1, q1, rfl, rfl, rfl, h1, rr1⟩ := trodAll_cons rr0
  obtain ⟨rfl, rfl, rfl⟩ := trodAll_nil rr1
  obtain rfl : args = #[v0, v1] := by cases args; simp_all
  obtain ⟨rfl, rfl⟩ := trodVars_none hV
  obtain ⟨a0, len0, cap0, rfl⟩ := okWide_slice Tryd.underlying22 (hval 0 22 v0 rfl rfl)
  have k0 := h0
  have lt0 : ∀ x ∈ p0, x.block < W.heap.size := by obtain ⟨m, hm⟩ := k0; exact DataW.trod_lt m _ _ _ hm
  obtain ⟨z0, r0, f0, b0⟩ := slice_in Tryd.underlying22 Tryd.underlying5 (by kernel_rfl) (B := 1) (by kernel_rfl) hsz (j := 0) rfl rfl h0
  obtain ⟨a1, rfl, rfl, rfl, w1⟩ := open_int Tryd.underlying34 (hval 1 34 v1 rfl rfl) h1
  clear hA0 hval0
  refine (walk W a0 len0 cap0 z0 r0 f0 b0 a1 w1 ht).mono fun e W' ⟨he, bel⟩ => ?_
  subst he
  exact ⟨_, rfl, _, _, _, [], _, [], hW', trodAll_mk1 (shut_bool Tryd.underlying4 _), (trodAll_cons_mk (Below.trod laidOut (by kernel_rfl) (of_decide_eq_true (by kernel_rfl)) k0 bel lt0) (trodAll_cons_mk (shut_int Tryd.underlying34 w1) trodAll_mk0)), rfl, bel.frame _, fun h => by cases h⟩

theorem over : Rows.utfSplitRow.holds Tryd.pinned (OpenSpec.ofChange Rows.utfSplitSpec) :=
  OpenClaim.holds_of_wide 6 Tryd.f6 rfl rfl rfl rfl rfl rfl rfl ⟨rfl, rfl, rfl, rfl, rfl⟩ rfl rfl rfl rfl rfl (by kernel_rfl) Tryd.func6 (by kernel_rfl)
    (of_decide_eq_true (by kernel_rfl)) (by unfold Func.isWrapper; first | (rw [if_pos (by decide +kernel)]; kernel_rfl) | (rw [if_neg (by decide +kernel)]; exact ⟨rfl, rfl⟩))
    (fun os started H enc _ => lifted os started H enc)
end Go.Proofs.YtchafajebkfieaaDoor.utfSplit
namespace Go.Proofs.YtchafajebkfieaaDoor
theorem utfSplit_holds : Rows.UtfSplitCardSaid :=
  Claim7.holds_tied_plain_at .later [] [.data, .pinned] true (true, "34594bd829618d443fc004d0488f0d7e5db30fb524e68a9fca37628f9cfa13e2") false utfSplit.over (fun _ h => by cases h) (by kernel_rfl) (fun _ h => by cases h) utfSplit_row_tie rfl ⟨rfl, rfl⟩ (by kernel_rfl) rfl
    (fun f fn hf hfn => by
      obtain rfl : f = 6 := Option.some.inj ((show Tryd.prog.funcNamed "mantelet/manteletlaw04.UtfSplit" = some 6 by kernel_rfl).symm.trans hf) |>.symm
      obtain rfl : fn = Tryd.f6 := (Option.some.inj (Tryd.func6.symm.trans hfn)).symm
      exact ⟨by kernel_rfl, fun j t ht => by
        rw [Tryd.params6] at ht
        have hm : t ∈ [22, 34] := by simpa using Array.mem_of_getElem? ht
        have hall : ([22, 34].all fun u => !Tryd.prog.wantsStandIn u) = true := by kernel_rfl
        exact (show Tryd.prog.wantsStandIn t = false by simpa using List.all_eq_true.1 hall t hm)⟩)
    (by kernel_rfl)
#print axioms utfSplit_holds
end Go.Proofs.YtchafajebkfieaaDoor
