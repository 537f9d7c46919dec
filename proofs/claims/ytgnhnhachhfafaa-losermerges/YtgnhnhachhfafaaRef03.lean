/- The contracts of the document's own answers for records: Put, Get, Scan. -/
import Derived.Test.YtgnhnhachhfafaaFrameScan
import Derived.Test.YtgnhnhachhfafaaRef01
import Derived.Test.YtgnhnhachhfafaaRef02
import Derived.Test.YtgnhnhachhfafaaArr
import Derived.Deep.QuietTactic
import Derived.BigQuiet
namespace Go.Proofs.Ytgnhnhachhfafaa
open Go.RowKit

set_option maxRecDepth 100000 in
set_option maxHeartbeats 400000 in
theorem rfput_ok (ao : Option Addr) (len cap : Nat) (zs : List Int) (bo : Option Addr) (blen bcap : Nat) (ps : List Int) (w : World) (hr : Reads w ao len cap (zs.map (.int .u8))) (hp : Reads w bo blen bcap (ps.map (.int .u8))) (h8 : isBytes ps)
    (hlen : len ≤ 100000000000000) (hbl : blen ≤ 1048576) :
    Calls Try.prog 41 #[.slice ao len cap, .slice bo blen bcap] w fun e w' => ∃ ag c m, m = len + (recL ps).length ∧ e = .returned (.tuple #[.slice ag m c, .int .i64 0]) ∧
      w'.ownsRow w.heap.size 5 1 (.slice ag m c) m ((zs ++ recL ps).map (.int .u8)) ∧ Below w.heap.size w w' := by
  have hbl' : (blen : Int) ≤ 1048576 := by omega
  have hpl : ps.length = blen := by simpa using hp.length
  have hel := encode_len blen
  have hs32 : ofL ps < 4294967296 := more_lt 0 ps
  have Hrec : Hid (∀ s, ofL ps = s → recL ps = encode blen ++ (ps ++ sum4 s)) := by show ∀ s, _; intro s hs; rw [recL, hpl, hs]
  generalize hS : ofL ps = s at hs32
  replace Hrec : Hid (recL ps = encode blen ++ (ps ++ sum4 s)) := Hrec.out s hS
  have HS : Hid _ := hS
  clear hS
  go_enter Try.func41, Try.ntmps41
  go_wp2_with fail
  refine (rput_any ao len cap zs blen w hr (by omega) (by omega)).mono ?_
  rintro e w1 ⟨g, c1, m1, hm1, rfl, hown1, hb1⟩
  have hp1 := hp.later hb1 (Nat.le_refl _)
  have mx : m1 + blen + 20 ≤ maxLen := by unfold maxLen; omega
  have hm1' : m1 ≤ len + 10 := by omega
  have Hm1 : Hid _ := hm1
  clear hm1
  have hs1 := hb1.size
  go_wp2_with (at_builtin; refine wpList_append_reads rfl (.tmp 16) (.tmp 17) 33 rfl w.heap.size 5 Try.info5 rfl Try.underlying33 _ _ _ _ rfl hown1 _ _ _ _ rfl hp1 (ints_oneCell _ _) (by omega) (by omega) hs1 ?_)
  intro ag2 c2 w2 hown2 hb2'
  have hb2 := hb1.trans hb2'
  have hp2 := hp.later hb2 (Nat.le_refl _)
  clear hb2' hb1
  have hs2 := hb2.size
  simp only [← List.map_append, ← List.append_assoc] at hown2
  go_wp2_with fail
  refine (rof_any bo blen bcap ps w2 hp2 h8).mono ?_
  rintro e w3 ⟨rfl, rfl⟩
  rw [HS.out]
  go_wp2_with (at_builtin; refine wpList_append_reads rfl (.tmp 21) (.tmp 36) 33 rfl w.heap.size 5 Try.info5 rfl Try.underlying33 _ _ _ _ rfl (hown2.alloc _) _ _ _ _ rfl (reads_new _ [.int .u8 ((s : Int) % 256), .int .u8 ((s : Int) / 256 % 256), .int .u8 ((s : Int) / 65536 % 256), .int .u8 ((s : Int) / 16777216)] _ (by simp [maxLen])) (ints_oneCell .u8 [(s : Int) % 256, (s : Int) / 256 % 256, (s : Int) / 65536 % 256, (s : Int) / 16777216]) (by show m1 + blen + 4 ≤ _; omega) (by show (m1 + blen + 4) * 1 ≤ _; omega) (by simp; omega) ?_)
  intro ag3 c3 w4 hown3 hb3
  have hb3' : Below w.heap.size w w4 := (hb2.alloc hs2 _).trans hb3
  clear hb3
  go_wp2
  go_ret2
  refine ⟨ag3, c3, m1 + blen + 4, by rw [rec_len, hpl, Hm1.out]; omega, rfl, ?_, hb3'⟩
  rw [Hrec.out]
  have e24 : (s : Int) / 16777216 % 256 = (s : Int) / 16777216 := by omega
  simpa [sum4, e24] using hown3
#print axioms rfput_ok

theorem rec_iff {zs : List Int} {n k : Nat} (h8 : isBytes zs) (hg : getL zs = (n, k, 0)) (hl : k + n + 4 ≤ zs.length) :
    (recL ((zs.drop k).take n) = zs.take (k + n + 4)) ↔ (zs.drop (k + n)).take 4 = sum4 (ofL ((zs.drop k).take n)) := by
  obtain ⟨k1, k2, k3, k4⟩ := get_ok zs h8 n k hg
  have hlen : ((zs.drop k).take n).length = n := by simp; omega
  have e1 : zs.take (k + n + 4) = zs.take k ++ ((zs.drop k).take n ++ (zs.drop (k + n)).take 4) := by
    rw [Nat.add_assoc, List.take_add, List.take_add, List.drop_drop]
  rw [recL, hlen, k3, e1]
  constructor
  · intro h
    exact (List.append_cancel_left (List.append_cancel_left h)).symm
  · intro h; rw [h]

set_option maxRecDepth 100000 in
set_option maxHeartbeats 400000 in
/-- The document's Get of whatever bytes. -/
theorem rfget_any (ao : Option Addr) (len cap : Nat) (zs : List Int) (w : World) (hr : Reads w ao len cap (zs.map (.int .u8))) (h8 : isBytes zs) (hlen : len ≤ 140737488351232) :
    Calls Try.prog 53 #[.slice ao len cap] w fun e w' => ∃ ag c, e = .returned (getRV ag c (getR zs)) ∧
      w'.ownsRow w.heap.size 5 1 (.slice ag (getR zs).1.length c) (getR zs).1.length ((getR zs).1.map (.int .u8)) ∧ Below w.heap.size w w' := by
  have hl : zs.length = len := by simpa using hr.length
  have hlc := hr.le
  rcases hgl : getL zs with ⟨n, k, f⟩
  have Hgl : Hid _ := hgl
  clear hgl
  have hferr := scan_err zs 0 0 n k f Hgl.out
  go_enter Try.func53, Try.ntmps53
  go_wp2_with fail
  refine (rget_any ao len cap zs w hr h8).mono ?_
  rintro e wa ⟨rfl, rfl⟩
  rw [Hgl.out]
  unfold getV
  by_cases hf : f = 0
  case neg =>
    have hR : Hid (getR zs = ([], 0, f)) := by show _ = _; unfold getR; rw [Hgl.out]; simp [hf]
    have hf2 : f = 2 ∨ f = 3 := by omega
    clear hferr hf
    have hfb : ((f : Int) == 0) = false := by rcases hf2 with rfl | rfl <;> rfl
    go_wp2
    go_ret3
    rw [hR.out]
    exact ⟨none, 0, rfl, World.ownsRow_nil _ _ _ _, Below.refl _ _⟩
  subst hf
  clear hferr
  obtain ⟨k1, k2, -, k4⟩ := get_ok zs h8 n k Hgl.out
  by_cases hn : n ≤ 1048576
  case neg =>
    have hR : Hid (getR zs = ([], 0, 2)) := by show _ = _; rw [getR_at Hgl.out, if_pos (by omega)]
    have hn' : (1048577 : Int) ≤ n := by omega
    have hn2 : (n : Int) ≤ 18446744073709551615 := by omega
    clear k4
    go_wp2
    go_ret3
    rw [hR.out]
    exact ⟨none, 0, rfl, World.ownsRow_nil _ _ _ _, Below.refl _ _⟩
  have hn' : (n : Int) ≤ 1048576 := by omega
  clear k4
  by_cases hsh : len < k + n + 4
  · have hR : Hid (getR zs = ([], 0, 3)) := by show _ = _; rw [getR_at Hgl.out, if_neg (by omega), if_pos (by omega)]
    have hsh' : (len : Int) < k + n + 4 := by omega
    have hk' : (k : Int) ≤ 140737488351232 := by omega
    have hk0 : (0 : Int) ≤ k := by omega
    go_wp2
    go_ret3
    rw [hR.out]
    exact ⟨none, 0, rfl, World.ownsRow_nil _ _ _ _, Below.refl _ _⟩
  · have hsh' : (k : Int) + n + 4 ≤ len := by omega
    have hk' : (k : Int) ≤ 140737488351232 := by omega
    have hk0 : (0 : Int) ≤ k := by omega
    obtain ⟨a1, hs1, hd1⟩ := Reads.mid (P := Try.prog) Try.underlying33 (size_of Try.info5) (ao := ao) hlc k (k + n) (by omega) (by omega)
    obtain ⟨a2, hs2, hd2⟩ := Reads.to (P := Try.prog) Try.underlying33 (size_of Try.info5) (ao := ao) hlc (k + n + 4) (by omega)
    have e1 : k + n - k = n := by omega
    rw [e1] at hs1 hd1
    clear e1
    have rd1 : ∀ W, Below wa.heap.size wa W → Reads W a1 n (cap - k) (((zs.drop k).take n).map (.int .u8)) := fun W hW => by
      have := hd1 W _ (hr.later hW (Nat.le_refl _)); simpa using this
    have rd2 : ∀ W, Below wa.heap.size wa W → Reads W a2 (k + n + 4) cap ((zs.take (k + n + 4)).map (.int .u8)) := fun W hW => by
      have := hd2 W _ (hr.later hW (Nat.le_refl _)); simpa using this
    have b1 : isBytes ((zs.drop k).take n) := fun z hz => h8 z (List.mem_of_mem_drop (List.mem_of_mem_take hz))
    have b2 : isBytes (zs.take (k + n + 4)) := fun z hz => h8 z (List.mem_of_mem_take hz)
    have hR : Hid (getR zs = if recL ((zs.drop k).take n) = zs.take (k + n + 4) then ((zs.drop k).take n, k + n + 4, 0) else ([], 0, 4)) := by
      show _ = _
      rw [getR_at Hgl.out, if_neg (by omega), if_neg (by omega)]
      by_cases hc : (zs.drop (k + n)).take 4 = sum4 (ofL ((zs.drop k).take n))
      · rw [if_pos hc, if_pos ((rec_iff h8 Hgl.out (by omega)).2 hc)]
      · rw [if_neg hc, if_neg (fun h => hc ((rec_iff h8 Hgl.out (by omega)).1 h))]
    clear hd1 hd2
    have hpl : Hid (((zs.drop k).take n).length = n) := by show _ = _; simp; omega
    generalize hP : (zs.drop k).take n = p at rd1 b1 hR hpl
    generalize hS : zs.take (k + n + 4) = q at rd2 b2 hR
    clear hP hS
    have c1 : ((k + n : Nat) : Int) = (k : Int) + n := by omega
    have c2 : ((k + n + 4 : Nat) : Int) = (k : Int) + n + 4 := by omega
    simp only [c1, c2] at hs1 hs2
    clear c1 c2
    have hwr : IntKind.i64.wrap ((k : Int) + n + 4) = (k : Int) + n + 4 := by rw [IntKind.wrap_i64]; omega
    have mx : n + 20 ≤ maxLen := by unfold maxLen; omega
    go_wp2_with (at_builtin; refine wpList_append_reads rfl (.tmp 32) (.tmp 37) 33 rfl wa.heap.size 5 Try.info5 rfl Try.underlying33 _ _ _ _ rfl (ownsRow_empty wa 5) _ _ _ _ rfl (rd1 _ ((Below.refl wa.heap.size wa).alloc (Nat.le_refl _) _)) (ints_oneCell _ _) (by omega) (by omega) (by simp) ?_)
    intro ag2 c2 w2 hown2 hb3
    have hb2 : Below wa.heap.size wa w2 := Below.trans ((Below.refl wa.heap.size wa).alloc (Nat.le_refl _) _) hb3
    clear hb3
    try simp only [Nat.zero_add, List.nil_append] at hown2
    have hs2' := hb2.size
    have hpl' := hpl.out
    go_wp2_with fail
    refine (rfput_ok none 0 0 [] ag2 n c2 p w2 (Reads.nil _) (Reads.own hown2) b1 (by omega) (by omega)).mono ?_
    rintro e w3 ⟨ag3, c3, m3, hm3, rfl, hown3, hb3⟩
    have Hm3 : Hid _ := hm3
    clear hm3
    have hB3 : Below wa.heap.size wa w3 := hb2.trans (hb3.mono hs2')
    have hown2' := own_later hown2 hb3 (Nat.le_refl _)
    have q1 : ∀ W, Below w3.heap.size w3 W → (convert 33 9 (.slice ag3 m3 c3)).run Try.prog W = .ok (.string (strOfNums (recL p))) W := fun W hW =>
      conv_of Try.underlying33 Try.underlying5 Try.underlying9 ((Reads.own hown3).later hW (Nat.le_refl _))
    have q2 : ∀ W, Below w3.heap.size w3 W → (convert 33 9 (.slice a2 (k + n + 4) cap)).run Try.prog W = .ok (.string (strOfNums q)) W := fun W hW =>
      conv_of Try.underlying33 Try.underlying5 Try.underlying9 (rd2 W (Grow.trans hB3 hW))
    have b3 := rec_bytes b1 (by omega)
    clear hown2 hown3 hb3 hb2 hs2' rd1 rd2
    by_cases hq : recL p = q
    · have hR' : Hid (getR zs = (p, k + n + 4, 0)) := by show _ = _; rw [hR.out, if_pos hq]
      have hqd : ((strOfNums (recL p)).toList == (strOfNums q).toList) = true := by rw [str_beq b3 b2]; simp [hq]
      clear hR hq b3 b2 b1 hpl'
      go_wp2_with fail
      go_region_held (fun W => Below w3.heap.size w3 W) (first | exact Below.refl _ _ | exact Below.drew (Below.refl _ _) | assumption | exact Below.drew (by assumption)) (fail)
      go_wp2
      go_ret3
      rw [hR'.out]
      refine ⟨ag2, c2, ?_, ?_, ?_⟩
      · unfold getRV; simp only [hpl.out]; rfl
      · simp only [hpl.out]; exact own_later hown2' (by assumption) (Nat.le_refl _)
      · exact Grow.trans hB3 (by assumption)
    · have hR' : Hid (getR zs = ([], 0, 4)) := by show _ = _; rw [hR.out, if_neg hq]
      have hqd : ((strOfNums (recL p)).toList == (strOfNums q).toList) = false := by rw [str_beq b3 b2]; simp [hq]
      clear hR hq b3 b2 b1 hpl'
      go_wp2_with fail
      go_region_held (fun W => Below w3.heap.size w3 W) (first | exact Below.refl _ _ | exact Below.drew (Below.refl _ _) | assumption | exact Below.drew (by assumption)) (fail)
      go_wp2
      go_ret3
      rw [hR'.out]
      exact ⟨none, 0, rfl, World.ownsRow_nil _ _ _ _, Grow.trans hB3 (by assumption)⟩
#print axioms rfget_any

set_option maxRecDepth 100000 in
set_option maxHeartbeats 400000 in
theorem rfscan_any (ao : Option Addr) (len cap : Nat) (zs : List Int) (w : World) (hr : Reads w ao len cap (zs.map (.int .u8))) (h8 : isBytes zs) (hlen : len ≤ 1000000000000) :
    Calls Try.prog 38 #[.slice ao len cap] w fun e w' => ∃ ag c m, e = .returned (.tuple #[.slice ag m c, .int .i64 ((scanR zs).2 : Nat)]) ∧
      ReadsRows w' ag m c (scanR zs).1 ∧ Below w.heap.size w w' := by
  have hl : zs.length = len := by simpa using hr.length
  go_enter Try.func38, Try.ntmps38
  go_wp2_with fail
  refine (rfget_any ao len cap zs w hr h8 (by omega)).mono ?_
  rintro e wa ⟨ag0, c0, rfl, hown0, hb0⟩
  unfold getRV
  go_wp2_with fail
  go_loopw [4, 5, 6, 7, 8] (fun vp vn vb i v wr => ∃ (t : Nat) (ag : Option Addr) (c m : Nat) (vs : List Value) (ls : List (List Int)) (ap : Option Addr) (cp : Nat) (p : List Int) (k f : Nat), vp = .slice ap p.length cp ∧ vn = .int .i64 k ∧ vb = .int .i64 f ∧ i = .int .i64 t ∧ v = .slice ag m c ∧
      Hid (getR (zs.drop t) = (p, k, f)) ∧ wr.ownsRow w.heap.size 5 1 (.slice ap p.length cp) p.length (p.map (.int .u8)) ∧ t ≤ len ∧ 4 * m ≤ t ∧
      wr.ownsRow w.heap.size 33 1 (.slice ag m c) m vs ∧ RowOwns wr w.heap.size vs ls ∧ Hid (scanR zs = (ls ++ (scanR (zs.drop t)).1, t + (scanR (zs.drop t)).2)) ∧ Below w.heap.size w wr) (fun _ _ _ i _ _ => (len - intOf i).toNat)
  case atStart => exact ⟨0, none, 0, 0, [], [], ag0, c0, _, _, _, rfl, rfl, rfl, rfl, rfl, rfl, hown0, by omega, by omega, World.ownsRow_nil _ _ _ _, RowOwns.nil _ _, by show _ = _; simp, hb0⟩
  case round =>
    obtain ⟨t, ag, c, m, vs, ls, ap, cp, p, k, f, rfl, rfl, rfl, rfl, rfl, Hg, hownp, ht, hm, hown, hrow, hS, hb⟩ := hrel
    have hsz := hb.size
    by_cases hf : f = 0
    · subst hf
      obtain ⟨g4, gl⟩ := get_len Hg.out
      have gl' : t + k ≤ len := by simp at gl; omega
      clear gl
      have hrowb := hrow.snoc rfl hownp
      have mx : m + 20 ≤ maxLen := by unfold maxLen; omega
      have hkk : (t : Int) + k ≤ 1000000000000 := by omega
      obtain ⟨a1, hs1, hd1⟩ := Reads.from (P := Try.prog) Try.underlying33 (size_of Try.info5) (ao := ao) (len := len) (cap := cap) (t + k) gl'
      have c1 : ((t + k : Nat) : Int) = (t : Int) + k := by omega
      simp only [c1] at hs1
      clear c1
      clear hrow hownp
      go_wp2_with (at_builtin; refine wpList_append_grown rfl (.tmp 17) (.tmp 19) 32 rfl w.heap.size 33 Try.infoRow rfl Try.underlying32 _ _ _ _ rfl (hown.alloc _) _ _ _ _ rfl (reads_one _ _ _) (slice_oneCell _ _ _) (by omega) (by omega) (by simp; omega) ?_)
      intro ag3 c3 w3 hown3 hg3 hb3
      have hb3' : Below w.heap.size w w3 := (hb.alloc hsz _).trans hb3
      have hrow3 := (hrowb.later ((Below.refl _ wr).alloc (Nat.le_refl _) _) (Nat.le_refl _)).apart (hown.alloc _) (by decide) hg3
      have hS' : Hid (scanR zs = ((ls ++ [p]) ++ (scanR (zs.drop (t + k))).1, (t + k) + (scanR (zs.drop (t + k))).2)) := by
        show _ = _
        rw [hS.out, scan_step Hg.out, List.drop_drop]; simp; omega
      have rd1 : Reads w3 a1 (len - (t + k)) (cap - (t + k)) ((zs.drop (t + k)).map (.int .u8)) := by have := hd1 w3 _ (hr.later hb3' (Nat.le_refl _)); simpa using this
      have b1 : isBytes (zs.drop (t + k)) := fun z hz => h8 z (List.mem_of_mem_drop hz)
      clear hd1
      have hsz3 := hb3'.size
      clear hb3 hg3 hrowb hown hS hb hsz Hg
      go_wp2_with fail
      refine (rfget_any a1 (len - (t + k)) (cap - (t + k)) (zs.drop (t + k)) w3 rd1 b1 (by omega)).mono ?_
      rintro e wb ⟨ag5, c5, rfl, hown5, hb5⟩
      clear rd1 b1
      have hB5 : Below w.heap.size w wb := hb3'.trans (hb5.mono hsz3)
      have hownb := own_later hown3 hb5 (Nat.le_refl _)
      have hrowb := hrow3.later hb5 (Nat.le_refl _)
      have hown5' := own_mono hown5 hsz3
      clear hown5 hown3 hrow3 hb5 hb3' hsz3
      unfold getRV
      go_wp2
      go_roundw
      case rel => exact ⟨t + k, ag3, c3, m + 1, _, _, ag5, c5, _, _, _, rfl, rfl, rfl, by go_num, rfl, rfl, hown5', by omega, by omega, hownb, hrowb, hS', hB5⟩
      case measure => simp [intOf]; omega
    · have hfb : ((f : Int) == 0) = false := by simp; omega
      have hE : Hid (scanR zs = (ls, t)) := by show _ = _; rw [hS.out, scan_stop (by rw [Hg.out]; exact hf)]; simp
      clear hf
      go_wp2
      go_ret2
      rw [hE.out]
      exact ⟨ag, c, m, rfl, ReadsRows.of (Reads.own hown) hrow.vals, hb⟩
#print axioms rfscan_any

end Go.Proofs.Ytgnhnhachhfafaa
