/- The document's own Taken: the words of a state. -/
import Derived.Test.YtkcledkfgmdcgaaRestMath
import Derived.Test.YtkcledkfgmdcgaaDawZ
import Derived.Test.YtkcledkfgmdcgaaStepTwo
import Derived.Test.YtkcledkfgmdcgaaKept
import Derived.Deep.CutRange
namespace Go.Proofs.Ytkcledkfgmdcgaa
open Go.RowKit
set_option linter.unusedVariables false
set_option linter.unusedSimpArgs false

theorem words_len {S : List Stt} (h : GoodS S) : ∀ n, n < S.length → ∀ v ∈ langS S n, v.length ≤ n := by
  intro n
  induction n using Nat.strongRecOn with
  | ind n ih =>
    intro hn v hv
    have h1 := List.getElem?_eq_getElem hn
    rw [lang_at h h1] at hv
    unfold wordsOf flatS at hv
    rcases List.mem_append.1 hv with hv | hv
    · split at hv
      · simp at hv; subst hv; exact Nat.zero_le _
      · simp at hv
    · obtain ⟨e, he, hv⟩ := List.mem_flatMap.1 hv
      obtain ⟨u, hu, rfl⟩ := List.mem_map.1 hv
      have hl := h.low n _ h1 e he
      have := ih e.2 hl (by omega) u hu
      simp; omega
theorem flat_take_step {S : List Stt} {es : List (UInt8 × Nat)} {j : Nat} {e : UInt8 × Nat} (he : es[j]? = some e) : flatS S (es.take (j + 1)) = flatS S (es.take j) ++ (langS S e.2).map (e.1 :: ·) := by
  unfold flatS
  rw [List.take_add_one, he, List.flatMap_append]
  simp
theorem flat_take_len (S : List Stt) (es : List (UInt8 × Nat)) (j : Nat) : (flatS S (es.take j)).length ≤ (flatS S es).length := by
  have : flatS S es = flatS S (es.take j) ++ flatS S (es.drop j) := by unfold flatS; rw [← List.flatMap_append, List.take_append_drop]
  rw [this, List.length_append]; omega
theorem nums_byte (c : UInt8) : strOfNums [((c.toNat : Nat) : Int)] = ⟨[c].toArray⟩ := by
  simp only [strOfNums, List.map_cons, List.map_nil, Int.toNat_natCast, UInt8.ofNat_toNat]

set_option maxRecDepth 100000 in
set_option maxHeartbeats 4000000 in
theorem rtaken_any {S : List Stt} (hS : GoodS S) (hl : S.length ≤ 1000000000) (mo : Nat) (hmo : mo ≤ 1000000000) : ∀ (n : Nat) (w : World) (ao : Option Addr) (len cap : Nat), ReadsA w ao len cap (zA S) → n < S.length → (langS S n).length ≤ mo →
    Calls Try.prog 24 #[.slice ao len cap, .int .i64 (n : Nat), .int .i64 (mo : Nat)] w fun e w' => ∃ ag c m, e = .returned (.slice ag m c) ∧ m = (langS S n).length ∧ w'.ownsRow w.heap.size 9 1 (.slice ag m c) m ((langS S n).map strV) ∧ Below w.heap.size w w' := by
  intro n
  induction n using Nat.strongRecOn with
  | ind n ih =>
    intro w ao len cap hr hn hle
    have hlen : len = S.length := by rw [← hr.count, zA_len]
    subst hlen
    obtain ⟨⟨f, es⟩, hs⟩ : ∃ s, S[n]? = some s := ⟨_, List.getElem?_eq_getElem hn⟩
    have hlow := hS.low n _ hs
    have hwl := words_len hS
    have hlang := lang_at hS hs
    rw [hlang] at hle ⊢
    obtain ⟨L0, hL0⟩ : ∃ L0 : List Wd, L0 = if f then [[]] else [] := ⟨_, rfl⟩
    have hsplit : wordsOf S (f, es) = L0 ++ flatS S es := by rw [hL0]; rfl
    rw [hsplit] at hle ⊢
    obtain ⟨bx, ox, hax, hbx, hcx⟩ := hr.at (by omega)
    obtain ⟨eg, ec, c1, c2, er⟩ := hcx n _ (zA_at hs)
    simp only [zE_len] at c1 c2 er
    subst hax
    obtain ⟨k, hk⟩ : ∃ k, k = es.length := ⟨_, rfl⟩
    rw [← hk] at c2 er
    have hkm : k ≤ 9223372036854775807 := by have := Nat.le_trans er.le er.most; unfold maxLen at this; omega
    have hni : (n : Int) < S.length := by omega
    have C2 : Hid _ := c2
    have ER : Hid _ := er
    have Hk : Hid (es.length = k) := hk.symm
    have Hle : Hid _ := hle
    have Hlow : Hid _ := hlow
    have Hwl : Hid _ := hwl
    have HR : Hid _ := hr
    have Hs : Hid _ := hs
    have IH : Hid _ := ih
    have HL0 : Hid _ := hL0
    have hl0 : L0.length ≤ 1 := by rw [hL0]; split <;> simp
    obtain ⟨sl, hsl⟩ : ∃ sl, sl = S.length := ⟨_, rfl⟩
    have Hsl : Hid _ := hsl
    rw [← hsl] at hni hl hn HR
    rw [← hsl]
    clear ih hr hs hlow hwl hlang hsplit hle hk er hcx hL0 hsl
    go_enter Try.func24, Try.ntmps24
    go_upto_if 16 with (fail)
    go_cut [7] from 17 to 19 (fun v wq => ∃ ag c, v = .slice ag L0.length c ∧ wq.ownsRow w.heap.size 9 1 (.slice ag L0.length c) L0.length (L0.map strV) ∧ Below w.heap.size w wq)
    case first =>
      cases f with
      | false =>
        have h0 := HL0.out
        rw [if_neg (by simp)] at h0
        clear HL0 c1 c2
        go_wp2_with fail
        go_meet
        case rel => rw [h0]; exact ⟨none, 0, rfl, World.ownsRow_nil _ _ _ _, Below.refl _ _⟩
      | true =>
        have h0 := HL0.out
        rw [if_pos rfl] at h0
        have H0 : Hid _ := h0
        have hone : ∀ u ∈ [strV []], u.oneCell' = true := fun u hu => by simp at hu; subst hu; rfl
        clear HL0 c1 c2 h0
        go_wp2_with (at_builtin; refine wpList_append_reads rfl _ _ 22 rfl w.heap.size 9 Try.infoStr rfl Try.underlying22 _ _ _ _ rfl (World.ownsRow_nil _ _ _ _) _ _ _ _ rfl (reads_one _ _ _) hone (by decide) (by decide) (by simp) ?_; intro ag2 c2 w2 hr2 hb2)
        have HB2 : Hid (Below w.heap.size w w2) := ((Below.refl _ _).alloc (Nat.le_refl _) _).trans hb2
        have HR2 : Hid _ := hr2
        clear hr2 hb2
        go_wp2
        go_meet
        case rel => rw [H0.out]; exact ⟨ag2, c2, rfl, HR2.out, HB2.out⟩
    case rest =>
      obtain ⟨ag0, c0, rfl, hro, hbo⟩ := hcut
      have HO : Hid _ := hro
      have HB0 : Hid _ := hbo
      clear hro hbo c1 c2 HL0
      go_wp2_with fail
      go_loopw [7, 8] (fun v i wr => ∃ (j m : Nat) (ag : Option Addr) (cc : Nat) (L : List Wd), v = .slice ag m cc ∧ i = .int .i64 (j : Nat) ∧ j ≤ k ∧ m ≤ mo ∧ Hid (m = L.length) ∧ Hid (L = L0 ++ flatS S (es.take j)) ∧ Hid (wr.ownsRow w.heap.size 9 1 (.slice ag m cc) m (L.map strV)) ∧ Hid (Below w.heap.size w wr)) (fun _ i _ => (k - intOf i).toNat)
      case atStart => exact ⟨0, L0.length, ag0, c0, L0, rfl, rfl, Nat.zero_le _, by have := Hle.out; rw [List.length_append] at this; omega, rfl, (by simp [flatS] : L0 = L0 ++ flatS S (es.take 0)), HO.out, HB0.out⟩
      case round =>
        obtain ⟨j, m, ag, cc, L, rfl, rfl, hj, hmm, hmL, hL, hrow, hB⟩ := hrel
        have d2 : wr.cell? ⟨bx, ox + n * 2 + 1, none⟩ = some (.slice eg k ec) := (hB.out.cell (p := ⟨bx, ox + n * 2 + 1, none⟩) hbx).trans C2.out
        clear HO HB0
        by_cases hjk : j < k
        · have q1 : (j : Int) < k := by omega
          have q2 : (m : Int) ≤ mo := by omega
          obtain ⟨bE, oE, hae, hbE, hce⟩ := ER.out.edge (by omega)
          subst hae
          obtain ⟨⟨cb, ct⟩, he⟩ : ∃ e, es[j]? = some e := ⟨_, List.getElem?_eq_getElem (by rw [Hk.out]; exact hjk)⟩
          have hc := hce j _ (zE_at he)
          simp only at hc
          have x1 : wr.cell? ⟨bE, oE + j * 2, none⟩ = some (.int .u8 (cb.toNat : Nat)) := (hB.out.cell (p := ⟨bE, oE + j * 2, none⟩) hbE).trans hc.1
          have x2 : wr.cell? ⟨bE, oE + j * 2 + 1, none⟩ = some (.int .i64 (ct : Nat)) := (hB.out.cell (p := ⟨bE, oE + j * 2 + 1, none⟩) hbE).trans hc.2
          have hctn := Hlow.out _ (List.mem_of_getElem? he)
          simp only at hctn
          have hst := flat_take_step (S := S) he
          have hle2 : (L ++ (langS S ct).map (cb :: ·)).length ≤ mo := by
            have h1 := Hle.out
            have h2 := flat_take_len S es (j + 1)
            rw [hst] at h2
            rw [hL.out]
            simp only [List.length_append, List.length_map] at h1 h2 ⊢
            omega
          have Hst : Hid (L ++ (langS S ct).map (cb :: ·) = L0 ++ flatS S (es.take (j + 1))) := by show _ = _; rw [hst, hL.out, List.append_assoc]
          have hlt : (langS S ct).length ≤ mo := by rw [List.length_append, List.length_map] at hle2; omega
          have Hwc : Hid (∀ v ∈ langS S ct, v.length ≤ 1000000000) := fun v hv => by have := Hwl.out ct (by rw [← Hsl.out]; omega) v hv; omega
          have hW : Below wr.heap.size wr (wr.alloc (.cells #[.int .u8 (cb.toNat : Nat), .int .i64 (ct : Nat)] 47)) := (Below.refl _ _).alloc (Nat.le_refl _) _
          have pt := IH.out ct hctn (wr.alloc (.cells #[.int .u8 (cb.toNat : Nat), .int .i64 (ct : Nat)] 47)) _ _ _ (HR.out.later (hB.out.trans (hW.mono hB.out.size)) (Nat.le_refl _)) (by rw [← Hsl.out]; omega) hlt
          have HmoL : Hid _ := hle2
          clear hce hc he hst hle2 hlt hctn hL hjk
          go_wp2_with fail
          refine pt.mono ?_
          rintro e w1 ⟨ag1, c1, m1, rfl, hm1, ho1, hb1⟩
          have hB1 : Below wr.heap.size wr w1 := hW.trans (hb1.mono hW.size)
          obtain ⟨bw, hbw⟩ : ∃ bw, bw = wr.heap.size := ⟨_, rfl⟩
          have EB : w1.heap[bw]? = some (.cells #[.int .u8 (cb.toNat : Nat), .int .i64 (ct : Nat)] 47 (0, 0)) := by
            rw [hb1.block bw (by rw [hbw]; simp), hbw]; exact heap_alloc_new _ _
          rw [← hbw]
          have hO1 := own_later hrow.out hB1 (Nat.le_refl _)
          have hHB1 := hB.out.trans (hB1.mono hB.out.size)
          obtain ⟨X, hX⟩ : ∃ X, X = langS S ct := ⟨_, rfl⟩
          rw [← hX] at Hst HmoL Hwc ho1 hm1
          obtain ⟨b1, hb1e⟩ : ∃ b1, b1 = (wr.alloc (.cells #[.int .u8 (cb.toNat : Nat), .int .i64 (ct : Nat)] 47)).heap.size := ⟨_, rfl⟩
          rw [← hb1e] at ho1
          have hoff : ∀ kk, (Value.slice ag m cc).ownBlock = some kk → kk < b1 ∨ w1.heap.size ≤ kk := fun kk hkk => .inl (by have := (hrow.out.lt kk hkk).2; rw [hb1e]; simp; omega)
          have hb1l : w.heap.size ≤ b1 := by have := hB.out.size; rw [hb1e]; simp; omega
          have h1l : b1 ≤ w1.heap.size := by rw [hb1e]; exact hb1.size
          have Hb1 : Hid _ := hb1l
          have H1l : Hid _ := h1l
          have EBH : Hid _ := EB
          have HO1 : Hid _ := hO1
          have HHB : Hid _ := hHB1
          have HOff : Hid _ := hoff
          have HL1 : Hid (w1.ownsRow b1 9 1 (.slice ag1 m1 c1) m1 (X.map strV)) := ho1
          have HW1 : Hid (w.heap.size ≤ w1.heap.size) := hHB1.size
          have HmX : Hid (m1 = X.length) := hm1
          have hmX1 : m1 ≤ mo := by have := HmoL.out; rw [List.length_append, List.length_map] at this; omega
          clear pt hb1 ho1 hB1 hW hbw EB hO1 hHB1 hX hb1e hoff hb1l h1l hrow hB x1 x2 d2 hm1
          go_wp2_with fail
          go_loopw [7, 11] (fun v i wr => ∃ (t m' : Nat) (ag' : Option Addr) (cc' : Nat) (L' : List Wd), v = .slice ag' m' cc' ∧ i = .int .i64 (t : Nat) ∧ t ≤ m1 ∧ m' ≤ mo ∧ Hid (m' = L'.length) ∧ Hid (L' = L ++ (X.take t).map (cb :: ·)) ∧ Hid (wr.ownsRow w.heap.size 9 1 (.slice ag' m' cc') m' (L'.map strV)) ∧ Hid (Below w.heap.size w wr) ∧
            Hid (KeptBut 9 w1 wr) ∧ Hid (wr.ownsRow b1 9 1 (.slice ag1 m1 c1) m1 (X.map strV)) ∧ Hid (∀ kk, (Value.slice ag' m' cc').ownBlock = some kk → kk < b1 ∨ w1.heap.size ≤ kk)) (fun _ i _ => (m1 - intOf i).toNat)
          case atStart => exact ⟨0, m, ag, cc, L, rfl, rfl, Nat.zero_le _, hmm, hmL.out, (by simp : L = L ++ (X.take 0).map (cb :: ·)), HO1.out, HHB.out, KeptBut.refl _ _, HL1.out, HOff.out⟩
          case round =>
            obtain ⟨t, m', ag', cc', L', rfl, rfl, ht, hm', hmL', hL', hrow, hB, hK, hl, hoff⟩ := hrel
            by_cases htm : t < m1
            · have s1 : (t : Int) < m1 := by omega
              have hbl := hK.out.kept _ _ _ _ EBH.out (by decide)
              have y1 : wr.cell? ⟨bw, 0, none⟩ = some (.int .u8 (cb.toNat : Nat)) := by simp [World.cell?, hbl]
              obtain ⟨bl, ol, hal, _, hcl⟩ := (Reads.own hl.out).atW (by omega)
              subst hal
              obtain ⟨v, hv⟩ : ∃ v, X[t]? = some v := ⟨_, List.getElem?_eq_getElem (by rw [← HmX.out]; exact htm)⟩
              have y2 := hcl t v hv
              have hvl := Hwc.out v (List.mem_of_getElem? hv)
              have hcv : (convert 62 9 (.slice (some ⟨wr.heap.size, 0, none⟩) 1 1)).run Try.prog (wr.alloc (.cells #[.int .u8 (cb.toNat : Nat)] 5)).drew = .ok (strV [cb]) (wr.alloc (.cells #[.int .u8 (cb.toNat : Nat)] 5)).drew := by
                have := conv_of (P := Try.prog) (zs := [((cb.toNat : Nat) : Int)]) Try.underlying62 Try.underlying5 Try.underlying9 ((reads_one wr (.int .u8 (cb.toNat : Nat)) 5).later (Below.drew (Below.refl _ _)) (Nat.le_refl _))
                rw [this, nums_byte]
              have hcat : ∀ W, (Op.stringOp .add ⟨[cb].toArray⟩ ⟨v.toArray⟩).run Try.prog W = .ok (strV (cb :: v)) W := fun W => by
                rw [run_string_add_sum W _ _ (by simp [ByteArray.size]; omega), ByteArray.mk_append_mk]; rfl
              have hlp : (L' ++ [cb :: v]).length ≤ mo ∧ L' ++ [cb :: v] = L ++ (X.take (t + 1)).map (cb :: ·) := by
                have e1 : L' ++ [cb :: v] = L ++ (X.take (t + 1)).map (cb :: ·) := by rw [hL'.out, List.take_add_one, hv, List.map_append, List.append_assoc]; rfl
                refine ⟨?_, e1⟩
                have := HmoL.out
                rw [e1]
                simp only [List.length_append, List.length_map, List.length_take] at this ⊢
                omega
              have HLP : Hid _ := hlp.2
              have hmo1 : m' + 1 ≤ mo := by have := hlp.1; rw [List.length_append, ← hmL'.out] at this; simpa using this
              have HmL2 : Hid (m' + 1 = (L' ++ [cb :: v]).length) := by show _ = _; rw [List.length_append, ← hmL'.out]; rfl
              have h63 : m' + 1 ≤ maxLen := by unfold maxLen; omega
              have hby : (m' + 1) * 16 ≤ 140737488355328 := by omega
              have hone : ∀ u ∈ [strV (cb :: v)], u.oneCell' = true := fun u hu => by simp at hu; subst hu; rfl
              obtain ⟨W2, hW2⟩ : ∃ W2, W2 = ((wr.alloc (.cells #[.int .u8 (cb.toNat : Nat)] 5)).alloc (.cells #[strV (cb :: v)] 9)).drew := ⟨_, rfl⟩
              have hbw2 : Below wr.heap.size wr W2 := by rw [hW2]; exact Below.drew ((((Below.refl _ _).alloc (Nat.le_refl _) _).alloc (by simp) _))
              have ho2 : W2.ownsRow w.heap.size 9 1 (.slice ag' m' cc') m' (L'.map strV) := own_later hrow.out hbw2 (Nat.le_refl _)
              have hl2 : W2.ownsRow b1 9 1 (.slice (some ⟨bl, ol, none⟩) m1 c1) m1 (X.map strV) := own_later hl.out hbw2 (Nat.le_refl _)
              have hrd : Reads W2 (some ⟨wr.heap.size + 1, 0, none⟩) 1 1 [strV (cb :: v)] := by
                have h := reads_one (wr.alloc (.cells #[.int .u8 (cb.toNat : Nat)] 5)) (strV (cb :: v)) 9
                rw [show (wr.alloc (.cells #[.int .u8 (cb.toNat : Nat)] 5)).heap.size = wr.heap.size + 1 by simp] at h
                rw [hW2]
                exact h.later (Below.drew (Below.refl _ _)) (Nat.le_refl _)
              have hbs : w.heap.size ≤ W2.heap.size := Nat.le_trans hB.out.size hbw2.size
              have HK2 : Hid (KeptBut 9 w1 W2) := hK.out.trans (KeptBut.below hbw2)
              have HB2 : Hid (Below w.heap.size w W2) := hB.out.trans (hbw2.mono hB.out.size)
              have HO2 : Hid (W2.ownsRow w.heap.size 9 1 (.slice ag' m' cc') m' (L'.map strV)) := ho2
              have HLr : Hid (W2.ownsRow b1 9 1 (.slice (some ⟨bl, ol, none⟩) m1 c1) m1 (X.map strV)) := hl2
              have HOf : Hid _ := hoff.out
              have H1W : Hid (w1.heap.size ≤ W2.heap.size) := HK2.out.size
              have HRD : Hid _ := hrd
              have HBS : Hid _ := hbs
              have HW2 : Hid _ := hW2
              clear hcl hv htm hlp ho2 hl2 hrd hbs hbw2 hW2 hrow hB hK hl hoff hL' hmL' hbl
              go_wp2_with fail
              go_region_law (rw [← HW2.out]; refine step_append_two rfl (.tmp 55) (.tmp 65) 22 rfl w.heap.size 9 Try.infoStr rfl Try.underlying22 _ _ _ _ rfl HO2.out ⟨wr.heap.size + 1, 0, none⟩ 1 1 [strV (cb :: v)] rfl HRD.out hone h63 hby HBS.out ?_; intro ag2 c2 w2 hr2 hg2 hb2 hw2)
              all_goals
                have HR2 : Hid (w2.ownsRow w.heap.size 9 1 (.slice ag2 (m' + 1) c2) (m' + 1) ((L' ++ [cb :: v]).map strV)) := by show World.ownsRow _ _ _ _ _ _ _; rw [List.map_append]; exact hr2
                have HB3 : Hid (Below w.heap.size w w2) := HB2.out.trans hb2
                have HK3 : Hid (KeptBut 9 w1 w2) := HK2.out.trans (KeptBut.grown HO2.out hg2)
                have HL3 : Hid (w2.ownsRow b1 9 1 (.slice (some ⟨bl, ol, none⟩) m1 c1) m1 (X.map strV)) := own_off HLr.out (fun kk h1 h2 => by
                  have g1 := (HL1.out.lt kk h1)
                  have g2 := HOf.out kk h2
                  omega) hg2
                have HOf3 : Hid (∀ kk, (Value.slice ag2 (m' + 1) c2).ownBlock = some kk → kk < b1 ∨ w1.heap.size ≤ kk) := fun kk hkk => by
                  rcases hw2 with h | ⟨k2, h, hk2⟩
                  · exact HOf.out kk (by rw [← h]; exact hkk)
                  · rw [h] at hkk; cases hkk; exact .inr (Nat.le_trans H1W.out hk2)
                clear hr2 hg2 hb2 hw2 HO2 HLr HRD HK2 HB2 HOf
                go_wp2
                go_roundw
                case rel => exact ⟨t + 1, m' + 1, ag2, c2, L' ++ [cb :: v], rfl, by go_num, by omega, hmo1, HmL2.out, HLP.out, HR2, HB3, HK3, HL3, HOf3⟩
                case measure => simp [intOf]; omega
            · have s1 : ¬ (t : Int) < m1 := by omega
              have hte : t = m1 := by omega
              have hfl : L' = L0 ++ flatS S (es.take (j + 1)) := by rw [hL'.out, hte, HmX.out, List.take_length]; exact Hst.out
              have HF : Hid _ := hfl
              have HR2 : Hid _ := hrow.out
              have HB3 : Hid _ := hB.out
              have HM : Hid _ := hmL'.out
              clear hte hfl hrow hB hK hl hoff hL' htm hmL'
              go_wp2
              go_roundw
              case rel => exact ⟨j + 1, m', ag', cc', L', rfl, by go_num, by omega, hm', HM, HF, HR2, HB3⟩
              case measure => simp [intOf]; omega
        · have q1 : ¬ (j : Int) < k := by omega
          have hfin : L = L0 ++ flatS S es := by rw [hL.out, List.take_of_length_le (by rw [Hk.out]; omega)]
          have HF : Hid _ := hfin
          clear hfin hjk hL
          go_wp2
          go_ret
          refine ⟨ag, cc, m, rfl, ?_, ?_, hB.out⟩
          · have h := hmL.out
            rw [HF.out, List.length_append] at h; exact h
          · have h := hrow.out
            rw [HF.out, List.map_append] at h; exact h
#print axioms rtaken_any
end Go.Proofs.Ytkcledkfgmdcgaa
