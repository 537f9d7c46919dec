/- The document's own Encode. -/
import Derived.Test.YtgnhnhachhfafaaRef09Block
import Derived.Test.YtgnhnhachhfafaaRef03
import Derived.Test.YtgnhnhachhfafaaRunDec
namespace Go.Proofs.Ytgnhnhachhfafaa
open Go.RowKit
set_option linter.unusedVariables false
set_option linter.unusedSimpArgs false

theorem Try.sizeEn2 : ∀ W, (sizeOf 44).run Try.prog W = .ok 2 W := Try.sizeOf44
theorem ReadsE.mid {P : Program} {t e : TypeId} (ht : P.underlying t = some (.slice e)) (hs : ∀ W, (sizeOf e).run P W = .ok 2 W) {ao : Option Addr} {len cap : Nat} (hc : len ≤ cap) (l h : Nat) (hl : l ≤ h) (hh : h ≤ len) :
    ∃ ao', (∀ W, (Instr.slice t (.slice ao len cap) (some (.int .i64 (l : Int))) (some (.int .i64 (h : Int))) none).run P W = .ok (.slice ao' (h - l) (cap - l)) W) ∧ (∀ W xs, ReadsE W ao len cap xs → ReadsE W ao' (h - l) (cap - l) ((xs.drop (l * 2)).take ((h - l) * 2))) := by
  have ht' : P.underlying t = some (.slice (P.elem t)) := by simp [Program.elem, ht]
  have he : P.elem t = e := by simp [Program.elem, ht]
  refine ⟨if cap = l then ao else ao.map (·.add (l * 2)), fun W => ?_, fun W xs hr => ⟨?_, ?_, ?_, ?_, ?_⟩⟩
  · rw [run_slice_lh (P := P) W t ao len cap ht' .i64 .i64 l h (by omega) (by omega) (by omega), he, hs]
    simp [Result.andThen, sliced]
  · have := hr.length; simp; omega
  · omega
  · have := hr.most; omega
  · intro hn
    split at hn
    · have := hr.bare hn; omega
    · simp only [Option.map_eq_none_iff] at hn
      have := hr.bare hn; omega
  · intro a ha j u hu
    have hj : j < (h - l) * 2 ∧ l * 2 + j < xs.length := by
      have := (List.getElem?_eq_some_iff.1 hu).1
      simp at this; omega
    have := hr.length
    rw [if_neg (by omega)] at ha
    cases ao with
    | none => simp at ha
    | some x =>
      simp only [Option.map_some, Option.some.injEq] at ha
      subst ha
      obtain ⟨b, off, rfl⟩ := hr.plain (by omega)
      have hcc := hr.cell _ rfl (l * 2 + j) u (by rw [List.getElem?_take_of_lt hj.1] at hu; simpa using hu)
      rw [Addr.add_lit, Addr.add_lit, Nat.add_assoc]
      rw [Addr.add_lit] at hcc
      exact hcc

theorem chunks_fuel : ∀ (f g s : Nat) (l : List En), 1 ≤ s → l.length ≤ f → l.length ≤ g → chunksF f s l = chunksF g s l
  | 0, g, s, l, hs, h1, h2 => by
    have h0 : l = [] := List.length_eq_zero_iff.1 (by omega)
    subst h0
    cases g <;> simp [chunksF]
  | f + 1, 0, s, l, hs, h1, h2 => by
    have h0 : l = [] := List.length_eq_zero_iff.1 (by omega)
    subst h0; simp [chunksF]
  | f + 1, g + 1, s, l, hs, h1, h2 => by
    unfold chunksF
    by_cases h : l = []
    · simp [h]
    · rw [if_neg h, if_neg h, chunks_fuel f g s (l.drop s) hs (by rw [List.length_drop]; omega) (by rw [List.length_drop]; omega)]
/-- What is left to do behind 'at'. -/
def leftE (es : List En) (s at' : Nat) : List Int := recs ((chunksE s (es.drop at')).map blockL ++ [encode 0 ++ encode es.length])
theorem left_start (es : List En) (s : Nat) : runL es s = recL (encode s) ++ leftE es s 0 := by
  unfold runL runRows leftE
  rw [recs, List.drop_zero]
theorem left_step {es : List En} {s at' : Nat} (hs : 1 ≤ s) (h : at' < es.length) : leftE es s at' = recL (blockL ((es.drop at').take s)) ++ leftE es s (at' + s) := by
  unfold leftE chunksE
  have hl : (es.drop at').length = es.length - at' := by simp
  have hne : es.drop at' ≠ [] := fun e => by rw [e] at hl; simp at hl; omega
  obtain ⟨f, hf⟩ : ∃ f, (es.drop at').length = f + 1 := ⟨es.length - at' - 1, by omega⟩
  rw [hf, chunksF, if_neg hne, List.map_cons, List.cons_append, recs, List.drop_drop]
  congr 3
  rw [chunks_fuel f (es.drop (at' + s)).length s _ hs (by simp; omega) (Nat.le_refl _)]
theorem left_end {es : List En} {s at' : Nat} (h : es.length ≤ at') : leftE es s at' = recL (encode 0 ++ encode es.length) := by
  unfold leftE chunksE
  rw [List.drop_of_length_le h]
  simp [chunksF, recs]
theorem blocks_len : ∀ (cs : List (List En)), (∀ c ∈ cs, c ≠ [] ∧ c.length ≤ 255 ∧ ∀ e ∈ c, oneE e = true) → (recs (cs.map blockL)).length ≤ 309 * cs.flatten.length
  | [], _ => by simp [recs]
  | c :: cs, h => by
    obtain ⟨h1, h2, h3⟩ := h c (by simp)
    have i1 := blocks_len cs fun x hx => h x (by simp [hx])
    have i2 := ents_len c [] h3
    have i3 := encode_len c.length
    have i4 := rec_len (blockL c)
    have i5 := encode_len (blockL c).length
    have i6 : (blockL c).length = (encode c.length).length + (entsL [] c).length := by simp [blockL]
    have i7 : 1 ≤ c.length := List.length_pos_iff.2 h1
    simp only [List.map_cons, recs, List.flatten_cons, List.length_append]
    omega
theorem run_len_le {l : List En} {s : Nat} (h : RunOk l s) : (runL l s).length ≤ 309 * l.length + 100 := by
  have h1 := blocks_len (chunksE s l) fun c hc => chunks_blocks _ s l h.1 h.2.1 h.2.2.1 c hc
  have j1 := chunks_join l.length s l h.1 (Nat.le_refl _)
  unfold chunksE at h1
  rw [j1] at h1
  have a1 := encode_len s
  have a2 := rec_len (encode s)
  have a3 := encode_len (encode s).length
  have a4 := encode_len 0
  have a5 := encode_len l.length
  have a6 := rec_len (encode 0 ++ encode l.length)
  have a7 := encode_len (encode 0 ++ encode l.length).length
  unfold runL runRows chunksE
  rw [recs, recs_append, recs, recs]
  simp only [List.length_append, List.length_nil] at *
  omega
/-- What Encode tells. -/
def EncOut (w : World) (y : List Int × Nat) (e : Ending) (w' : World) : Prop := ∃ ag c m, e = .returned (.tuple #[.slice ag m c, .int .i64 (y.2 : Nat)]) ∧ m = y.1.length ∧ w'.ownsRow w.heap.size 5 1 (.slice ag m c) m (y.1.map (.int .u8)) ∧ Below w.heap.size w w'
theorem EncOut.bad {w w' : World} {c : Nat} (h : Below w.heap.size w w') : EncOut w ([], c) (.returned (.tuple #[.slice none 0 0, .int .i64 (c : Nat)])) w' := ⟨none, 0, 0, rfl, rfl, World.ownsRow_nil _ _ _ _, h⟩

set_option maxRecDepth 100000 in
set_option maxHeartbeats 2000000 in
theorem rencode_any {w : World} {ao : Option Addr} {len cap : Nat} {es : List En} (h : ReadsE w ao len cap (cellsE es)) (hb : ∀ e ∈ es, e.2 ≤ 18446744073709551615) (hw : ∀ e ∈ es, e.1.length ≤ 140737488355328) (hl : len ≤ 10000000) (sz : Int) (s : Nat) (hs : sz = s ∨ (sz < 0 ∧ s = 0)) (hsz : sz ≤ 9223372036854775807) :
    Calls Try.prog 27 #[.slice ao len cap, .int .i64 sz] w fun e w' => EncOut w (encR es s) e w' := by
  have hlx := h.count
  subst hlx
  by_cases hr : 1 ≤ s ∧ s ≤ 255
  case neg =>
    have hE : Hid (encR es s = ([], 1)) := by show _ = _; unfold encR; rw [if_neg hr]
    have hsp : sz < 1 ∨ (1 ≤ sz ∧ 255 < sz) := by omega
    clear hr hs
    rcases hsp with i1 | ⟨i1, i2⟩
    all_goals
      go_enter Try.func27, Try.ntmps27
      go_wp2
      go_ret2
      rw [hE.out]
      exact EncOut.bad (Below.refl _ _)
  obtain rfl : sz = s := by omega
  have i1 : ¬ (s : Int) < 1 := by omega
  have i2 : ¬ (255 : Int) < s := by omega
  have pm := rmay_any h hb hw
  by_cases hm : mayE es = 0
  case neg =>
    have hE : Hid (encR es s = ([], mayE es)) := by show _ = _; unfold encR; rw [if_pos hr, if_neg hm]
    generalize mayE es = c at pm hE hm
    have hmi : ((c : Int) != 0) = true := by rw [bne_iff_ne]; omega
    have hmi2 : ¬ (c : Int) = 0 := by omega
    clear hm
    go_enter Try.func27, Try.ntmps27
    go_wp2_with (go_at_call 21; refine pm.mono ?_; rintro e w' ⟨rfl, m, rfl⟩)
    go_ret2
    rw [hE.out]
    exact EncOut.bad (below_drewN (Below.refl _ _) _)
  have hok := run_ok (l := es) (s := s) ⟨hr.1, hr.2, hm⟩ (by omega)
  have hE : Hid (encR es s = (runL es s, 0)) := enc_is ⟨hr.1, hr.2, hm⟩
  have hmax := run_len_le hok
  rw [hm] at pm
  go_enter Try.func27, Try.ntmps27
  go_wp2_with fail
  refine pm.mono ?_
  rintro e w0 ⟨rfl, m0, hw0⟩
  have hB0 : Below w.heap.size w w0 := by rw [hw0]; exact below_drewN (Below.refl _ _) _
  clear hw0 pm
  have p1 := rput_any none 0 0 [] s w0 (Reads.nil w0) (by omega) (by omega)
  rw [List.nil_append] at p1
  go_wp2_with fail
  refine p1.mono ?_
  rintro e w1 ⟨ag1, c1, m1, hm1, rfl, hr1, hb1⟩
  have hel := encode_len s
  have hB1 := Below.trans hB0 (hb1.mono hB0.size)
  have p2 := rfput_ok none 0 0 [] ag1 m1 c1 (encode s) w1 (Reads.nil w1) (Reads.own hr1) (encode_bytes s (by omega)) (by omega) (by omega)
  rw [List.nil_append] at p2
  clear p1 hm1 hb1 hB0
  go_wp2_with fail
  refine p2.mono ?_
  rintro e w2 ⟨ag2, c2, m2, hm2, rfl, hr2, hb2⟩
  have hB2 := Below.trans hB1 (hb2.mono hB1.size)
  have hr2' := own_mono hr2 hB1.size
  clear p2 hr2 hb2 hB1 hr1 hm2
  go_wp2_with fail
  go_loopw [7, 9] (fun bv i wr => ∃ (at' : Nat) (ag : Option Addr) (c m : Nat) (zs : List Int), i = .int .i64 at' ∧ bv = .slice ag m c ∧ at' ≤ es.length + 255 ∧ wr.ownsRow w.heap.size 5 1 (.slice ag m c) m (zs.map (.int .u8)) ∧ Hid (runL es s = zs ++ leftE es s at') ∧ Below w.heap.size w wr) (fun _ i _ => (es.length + 255 - intOf i).toNat)
  case atStart => exact ⟨0, ag2, c2, m2, _, rfl, rfl, by omega, hr2', left_start es s, hB2⟩
  case round =>
    obtain ⟨at', ag, c, m, zs, rfl, rfl, hat0, hro, HI, hBr⟩ := hrel
    clear hr2' hB2
    have hmz : m ≤ 4000000000 := by
      have h1 : m = zs.length := by have := hro.1; simpa using this.symm
      have h2 := congrArg List.length HI.out
      rw [List.length_append] at h2
      omega
    by_cases hat : at' < es.length
    · have hati : (at' : Int) < es.length := by omega
      have hat00 : (0 : Int) ≤ at' := by omega
      rcases Nat.lt_or_ge es.length (at' + s) with hgt | hle
      · have hgi : (es.length : Int) < (at' : Int) + s := by omega
        obtain ⟨xo, hsl, hrd⟩ := ReadsE.mid (P := Try.prog) Try.underlying25 Try.sizeEn2 (ao := ao) (len := es.length) (cap := cap) h.le at' es.length (by omega) (by omega)
        have hrd1 := hrd _ _ (h.later hBr (Nat.le_refl _))
        rw [cells_drop, cells_take] at hrd1
        have hch : (es.drop at').take (es.length - at') = (es.drop at').take s := by
          first | rfl | (rw [List.take_of_length_le (by simp), List.take_of_length_le (by simp; omega)]) | (congr 1; omega)
        rw [hch] at hrd1
        have hbo : ∀ e ∈ (es.drop at').take s, oneE e = true := fun e he => may_all hm e (List.mem_of_mem_drop (List.mem_of_mem_take he))
        have pb := rblock_any hrd1 hbo (by omega)
        have hbk := block_ok (l := (es.drop at').take s) (by rw [List.length_take]; omega) hbo
        have HI2 : Hid (runL es s = (zs ++ recL (blockL ((es.drop at').take s))) ++ leftE es s (at' + s)) := by show _ = _; rw [HI.out, left_step hr.1 hat, List.append_assoc]
        generalize blockL ((es.drop at').take s) = bk at pb hbk HI2
        clear hrd hrd1 hch hbo
        go_wp2_with fail
        refine pb.mono ?_
        intro e w3 hO
        unfold BytesOut at hO
        obtain ⟨ag3, c3, m3, rfl, hm3, hr3, hb3⟩ := hO
        have hB3 := Below.trans hBr (hb3.mono hBr.size)
        have hro3 := own_later hro hb3 (Nat.le_refl _)
        have hm3' : m3 ≤ 1048576 := by omega
        have pf := rfput_ok ag m c zs ag3 m3 c3 bk w3 (Reads.own hro3) (Reads.own hr3) hbk.1 (by omega) hm3'
        clear pb hb3 hro hm3
        go_wp2_with fail
        refine pf.mono ?_
        rintro e w4 ⟨ag4, c4, m4, hm4, rfl, hr4, hb4⟩
        have hB4 := Below.trans hB3 (hb4.mono hB3.size)
        have hr4' := own_mono hr4 hB3.size
        clear pf hr4 hb4 hr3 hro3 hm4 hsl
        go_wp2
        go_roundw
        case rel => exact ⟨at' + s, ag4, c4, m4, _, by go_num, rfl, by omega, hr4', HI2, hB4⟩
        case measure => simp [intOf]; omega
      · have hgi : ¬ (es.length : Int) < (at' : Int) + s := by omega
        obtain ⟨T, hT⟩ : ∃ T, T = at' + s := ⟨_, rfl⟩
        have hTi : (at' : Int) + s = T := by omega
        have hT2 : (T : Int) ≤ es.length := by omega
        have hT3 : (at' : Int) ≤ T := by omega
        have hgi2 : ¬ (es.length : Int) < T := by omega
        have hT4 : T - at' ≤ 255 := by omega
        have hT5 : T ≤ es.length := by omega
        have hT6 : at' ≤ T := by omega
        have hch : (es.drop at').take (T - at') = (es.drop at').take s := by congr 1; omega
        have hTi2 : (T : Int) ≤ 9223372036854775807 := by omega
        clear hT
        obtain ⟨xo, hsl, hrd⟩ := ReadsE.mid (P := Try.prog) Try.underlying25 Try.sizeEn2 (ao := ao) (len := es.length) (cap := cap) h.le at' T (by omega) (by omega)
        have hrd1 := hrd _ _ (h.later hBr (Nat.le_refl _))
        rw [cells_drop, cells_take] at hrd1
        rw [hch] at hrd1
        have hbo : ∀ e ∈ (es.drop at').take s, oneE e = true := fun e he => may_all hm e (List.mem_of_mem_drop (List.mem_of_mem_take he))
        have pb := rblock_any hrd1 hbo (by omega)
        have hbk := block_ok (l := (es.drop at').take s) (by rw [List.length_take]; omega) hbo
        have HI2 : Hid (runL es s = (zs ++ recL (blockL ((es.drop at').take s))) ++ leftE es s (at' + s)) := by show _ = _; rw [HI.out, left_step hr.1 hat, List.append_assoc]
        generalize blockL ((es.drop at').take s) = bk at pb hbk HI2
        clear hrd hrd1 hch hbo
        go_wp2_with fail
        refine pb.mono ?_
        intro e w3 hO
        unfold BytesOut at hO
        obtain ⟨ag3, c3, m3, rfl, hm3, hr3, hb3⟩ := hO
        have hB3 := Below.trans hBr (hb3.mono hBr.size)
        have hro3 := own_later hro hb3 (Nat.le_refl _)
        have hm3' : m3 ≤ 1048576 := by omega
        have pf := rfput_ok ag m c zs ag3 m3 c3 bk w3 (Reads.own hro3) (Reads.own hr3) hbk.1 (by omega) hm3'
        clear pb hb3 hro hm3
        go_wp2_with fail
        refine pf.mono ?_
        rintro e w4 ⟨ag4, c4, m4, hm4, rfl, hr4, hb4⟩
        have hB4 := Below.trans hB3 (hb4.mono hB3.size)
        have hr4' := own_mono hr4 hB3.size
        clear pf hr4 hb4 hr3 hro3 hm4 hsl hTi
        go_wp2
        go_roundw
        case rel => exact ⟨at' + s, ag4, c4, m4, _, by go_num, rfl, by omega, hr4', HI2, hB4⟩
        case measure => simp [intOf]; omega
    · have hati : ¬ (at' : Int) < es.length := by omega
      have HI2 : Hid (runL es s = zs ++ recL (encode 0 ++ encode es.length)) := by show _ = _; rw [HI.out, left_end (by omega)]
      clear HI
      generalize hn : es.length = n at *
      have q1 := rput_any none 0 0 [] 0 _ (Reads.nil wr) (by omega) (by omega)
      rw [List.nil_append] at q1
      go_wp2_with fail
      refine q1.mono ?_
      rintro e w3 ⟨ag3, c3, m3, hm3, rfl, hr3, hb3⟩
      have e3 := encode_len 0
      have hB3 := Below.trans hBr (hb3.mono hBr.size)
      have hro3 := own_later hro hb3 (Nat.le_refl _)
      have q2 := rput_any ag3 m3 c3 (encode 0) n w3 (Reads.own hr3) (by omega) (by omega)
      have hm3' : m3 ≤ 10 := by omega
      clear q1 hb3 hro hm3
      go_wp2_with fail
      refine q2.mono ?_
      rintro e w4 ⟨ag4, c4, m4, hm4, rfl, hr4, hb4⟩
      have e4 := encode_len n
      have hB4 := Below.trans hB3 (hb4.mono hB3.size)
      have hro4 := own_later hro3 hb4 (Nat.le_refl _)
      have hbb : ∀ x ∈ encode 0 ++ encode n, 0 ≤ x ∧ x ≤ 255 := by
        intro x hx
        rcases List.mem_append.1 hx with hx | hx
        · exact encode_bytes 0 (by omega) x hx
        · exact encode_bytes n (by omega) x hx
      have hm4' : m4 ≤ 1048576 := by omega
      have pf := rfput_ok ag m c zs ag4 m4 c4 (encode 0 ++ encode n) w4 (Reads.own hro4) (Reads.own hr4) hbb (by omega) hm4'
      clear q2 hb4 hro3 hm4
      go_wp2_with fail
      refine pf.mono ?_
      rintro e w5 ⟨ag5, c5, m5, hm5, rfl, hr5, hb5⟩
      have hB5 := Below.trans hB4 (hb5.mono hB4.size)
      have hr5' := own_mono hr5 hB4.size
      clear pf hr5 hb5 hm5
      go_wp2
      go_ret2
      rw [hE.out]
      rw [HI2.out]
      exact ⟨ag5, c5, m5, rfl, by simpa using hr5'.1.symm, hr5', hB5⟩
#print axioms rencode_any
end Go.Proofs.Ytgnhnhachhfafaa
