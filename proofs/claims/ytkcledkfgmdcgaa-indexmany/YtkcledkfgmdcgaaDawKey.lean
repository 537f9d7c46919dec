/- What a state is, as a text; only those that are alike have the same. -/
import Derived.Test.YtkcledkfgmdcgaaDawZ
import Derived.Test.YtkcledkfgmdcgaaPutAll
import Derived.Test.YtkcledkfgmdcgaaOwnMore
import Derived.Deep.CutRange
namespace Go.Proofs.Ytkcledkfgmdcgaa
open Go.RowKit
set_option linter.unusedVariables false
set_option linter.unusedSimpArgs false

def keyE (es : List (UInt8 × Nat)) : List Int := es.flatMap fun e => (e.1.toNat : Int) :: encode e.2
def keyL (s : Stt) : List Int := (if s.1 then 1 else 0) :: keyE s.2
def keyW (s : Stt) : Wd := (keyL s).map fun z => UInt8.ofNat z.toNat
theorem keyE_app (a b : List (UInt8 × Nat)) : keyE (a ++ b) = keyE a ++ keyE b := List.flatMap_append
theorem keyE_one (e : UInt8 × Nat) : keyE [e] = (e.1.toNat : Int) :: encode e.2 := by simp [keyE]
theorem keyE_len (es : List (UInt8 × Nat)) : (keyE es).length ≤ es.length * 11 := by
  induction es with
  | nil => simp [keyE]
  | cons e es ih =>
    have h := (encode_len e.2).2
    show ((_ :: encode e.2) ++ keyE es).length ≤ _
    rw [List.length_append, List.length_cons, List.length_cons]
    omega
theorem keyW_len (s : Stt) : (keyW s).length = (keyL s).length := by simp [keyW]
theorem keyL_len (s : Stt) : (keyL s).length ≤ s.2.length * 11 + 1 := by
  have := keyE_len s.2
  simp [keyL]; omega
theorem byte_int (c : UInt8) : 0 ≤ (c.toNat : Int) ∧ (c.toNat : Int) ≤ 255 := by have := c.toNat_lt; omega
theorem keyE_bytes {es : List (UInt8 × Nat)} (h : ∀ e ∈ es, e.2 < 18446744073709551616) : isBytes (keyE es) := by
  intro z hz
  obtain ⟨e, he, hz⟩ := List.mem_flatMap.1 hz
  rcases List.mem_cons.1 hz with rfl | hz
  · exact byte_int e.1
  · exact encode_bytes e.2 (h e he) z hz
theorem encode_front {a b : Nat} {x y : List Int} (ha : a < 18446744073709551616) (hb : b < 18446744073709551616) (h : encode a ++ x = encode b ++ y) : a = b ∧ x = y := by
  have h1 := get_back a x ha
  rw [h, get_back b y hb] at h1
  simp only [Prod.mk.injEq] at h1
  obtain ⟨e1, _⟩ := h1
  subst e1
  exact ⟨rfl, List.append_cancel_left h⟩
theorem keyE_inj : ∀ {x y : List (UInt8 × Nat)}, (∀ e ∈ x, e.2 < 18446744073709551616) → (∀ e ∈ y, e.2 < 18446744073709551616) → keyE x = keyE y → x = y
  | [], [], _, _, _ => rfl
  | [], e :: y, _, _, h => by
    have h' : ([] : List Int) = ((e.1.toNat : Int) :: encode e.2) ++ keyE y := h
    simp at h'
  | e :: x, [], _, _, h => by
    have h' : ((e.1.toNat : Int) :: encode e.2) ++ keyE x = [] := h
    simp at h'
  | (c, m) :: x, (d, n) :: y, hx, hy, h => by
    have h' : ((c.toNat : Int) :: encode m) ++ keyE x = ((d.toNat : Int) :: encode n) ++ keyE y := h
    simp only [List.cons_append, List.cons.injEq] at h'
    obtain ⟨h1, h2⟩ := h'
    obtain ⟨h3, h4⟩ := encode_front (hx _ List.mem_cons_self) (hy _ List.mem_cons_self) h2
    have h5 := keyE_inj (fun e he => hx e (List.mem_cons_of_mem _ he)) (fun e he => hy e (List.mem_cons_of_mem _ he)) h4
    have h6 : c = d := UInt8.toNat_inj.1 (by omega)
    simp only at h3
    rw [h3, h5, h6]
theorem keyL_bytes {s : Stt} (h : ∀ e ∈ s.2, e.2 < 18446744073709551616) : isBytes (keyL s) := by
  intro z hz
  rcases List.mem_cons.1 hz with rfl | hz
  · split <;> decide
  · exact keyE_bytes h z hz
theorem keyW_inj {s t : Stt} (hs : ∀ e ∈ s.2, e.2 < 18446744073709551616) (ht : ∀ e ∈ t.2, e.2 < 18446744073709551616) (h : keyW s = keyW t) : s = t := by
  have h1 : strOfNums (keyL s) = strOfNums (keyL t) := by
    show (⟨(keyW s).toArray⟩ : ByteArray) = ⟨(keyW t).toArray⟩
    rw [h]
  have h2 := str_inj (keyL_bytes hs) (keyL_bytes ht) h1
  simp only [keyL, List.cons.injEq] at h2
  refine Prod.ext ?_ (keyE_inj hs ht h2.2)
  have h3 := h2.1
  cases hs1 : s.1 <;> cases ht1 : t.1 <;> simp [hs1, ht1] at h3 ⊢
set_option maxRecDepth 100000 in
set_option maxHeartbeats 4000000 in
theorem key_any (s : Stt) {w : World} {eg : Option Addr} {n c : Nat} (h : ReadsE w eg n c (cellsEd (zE s.2))) (hn : s.2.length = n) (hl : n ≤ 1000000000000) (hz : ∀ e ∈ s.2, e.2 ≤ 9223372036854775807) :
    Calls Try.prog 33 #[.agg #[.bool s.1, .slice eg n c]] w fun e w' => e = .returned (strV (keyW s)) ∧ Below w.heap.size w w' := by
  obtain ⟨f, es⟩ := s
  simp only at h hn hz ⊢
  have HR : Hid _ := h
  have Hn : Hid _ := hn
  have Hz : Hid _ := hz
  clear h hn hz
  obtain ⟨b0, hb0⟩ : ∃ b0 : Int, b0 = if f then 1 else 0 := ⟨_, rfl⟩
  have Hb0 : Hid _ := hb0
  go_enter Try.func33, Try.ntmps33
  go_upto_if 8 with (fail)
  go_cut [3] from 9 to 10 (fun v wq => ∃ g, v = .slice (some ⟨g, 0, none⟩) 1 1 ∧ wq.ownsRow w.heap.size 5 1 v 1 [.int .u8 b0] ∧ wq.cell? ⟨w.heap.size, 1, none⟩ = some (.slice eg n c) ∧ Below w.heap.size w wq)
  case first =>
    cases f with
    | false =>
      rw [if_neg (by simp)] at hb0
      go_wp2_with fail
      go_meet
      case rel =>
        subst hb0
        obtain ⟨k1, k2⟩ := two_new w (.cells #[.bool false, .slice eg n c] 45) (.cells #[.int .u8 0] 5)
        exact ⟨_, rfl, own_block (by omega) k2 (Nat.le_refl _) (by decide) rfl rfl rfl, by rw [cell_of k1]; rfl, ((Below.refl _ _).alloc (Nat.le_refl _) _).alloc (by simp) _⟩
    | true =>
      rw [if_pos rfl] at hb0
      go_wp2_with fail
      go_meet
      case rel =>
        subst hb0
        obtain ⟨k1, k2⟩ := two_new w (.cells #[.bool true, .slice eg n c] 45) (.cells #[.int .u8 1] 5)
        exact ⟨_, rfl, own_block (by omega) k2 (Nat.le_refl _) (by decide) rfl rfl rfl, by rw [cell_of k1]; rfl, ((Below.refl _ _).alloc (Nat.le_refl _) _).alloc (by simp) _⟩
  case rest =>
    obtain ⟨g, rfl, hrow, hcb, hB⟩ := hcut
    have HB : Hid _ := hB
    have HRow : Hid _ := hrow
    clear hB hrow hb0
    have hmi : n ≤ 9223372036854775807 := by omega
    go_wp2_with fail
    go_loopw [3, 14] (fun v i wr => ∃ (j m cc : Nat) (ag : Option Addr), v = .slice ag m cc ∧ i = .int .i64 (j : Nat) ∧ j ≤ n ∧ m ≤ j * 11 + 1 ∧ Hid (wr.ownsRow w.heap.size 5 1 (.slice ag m cc) m ((b0 :: keyE (es.take j)).map (.int .u8))) ∧ Hid (Below w.heap.size w wr)) (fun _ i _ => (n - intOf i).toNat)
    case atStart => exact ⟨0, 1, 1, _, rfl, rfl, Nat.zero_le _, by omega, HRow.out, HB.out⟩
    case round =>
      obtain ⟨j, m, cc, ag, rfl, rfl, hj, hm, hrow, hB⟩ := hrel
      by_cases hjl : j < n
      · have q1 : (j : Int) < n := by omega
        obtain ⟨b, off, hao, hb, hcl⟩ := HR.out.edge (by omega)
        obtain ⟨⟨cb, ct⟩, he⟩ : ∃ e, es[j]? = some e := ⟨_, List.getElem?_eq_getElem (by rw [Hn.out]; exact hjl)⟩
        have hcc := hcl j _ (zE_at he)
        simp only at hcc
        subst hao
        have hct := Hz.out _ (List.mem_of_getElem? he)
        simp only at hct
        have x1 : wr.cell? ⟨b, off + j * 2, none⟩ = some (.int .u8 (cb.toNat : Nat)) := (hB.out.cell (p := ⟨b, off + j * 2, none⟩) hb).trans hcc.1
        have x2 : wr.cell? ⟨b, off + j * 2 + 1, none⟩ = some (.int .i64 (ct : Nat)) := (hB.out.cell (p := ⟨b, off + j * 2 + 1, none⟩) hb).trans hcc.2
        have hst : es.take (j + 1) = es.take j ++ [(cb, ct)] := by rw [List.take_add_one, he]; rfl
        have hsz := hB.out.size
        have HB : Hid _ := hB.out
        have HSt : Hid _ := hst
        have HRow : Hid (wr.ownsRow w.heap.size 5 1 (.slice ag m cc) m ((b0 :: keyE (es.take j)).map (.int .u8))) := hrow.out
        clear hcl hcc he hst hB hb hrow HR
        go_upto_region 7 with (fail)
        obtain ⟨W1, hW1⟩ : ∃ W1, W1 = wr.alloc (.cells #[.int .u8 (cb.toNat : Nat), .int .i64 (ct : Nat)] 47) := ⟨_, rfl⟩
        rw [← hW1]
        have e1 : W1.heap[wr.heap.size]? = some (.cells #[.int .u8 (cb.toNat : Nat), .int .i64 (ct : Nat)] 47 (0, 0)) := by rw [hW1]; exact heap_alloc_new _ _
        have r1 : W1.ownsRow w.heap.size 5 1 (.slice ag m cc) m ((b0 :: keyE (es.take j)).map (.int .u8)) := by rw [hW1]; exact HRow.out.alloc _
        have b1 : Below w.heap.size w W1 := by rw [hW1]; exact HB.out.alloc hsz _
        have s1 : W1.heap.size = wr.heap.size + 1 := by rw [hW1]; simp
        have c1 : W1.cell? ⟨wr.heap.size, 0, none⟩ = some (.int .u8 (cb.toNat : Nat)) := cell_of e1 0
        have hne : ∀ k, (Value.slice ag m cc).ownBlock = some k → k < wr.heap.size := fun k hk => (HRow.out.lt k hk).2
        have R1 : Hid (W1.ownsRow w.heap.size 5 1 (.slice ag m cc) m ((b0 :: keyE (es.take j)).map (.int .u8))) := r1
        have B1 : Hid _ := b1
        have E1 : Hid _ := e1
        have HNe : Hid _ := hne
        have hone : ∀ u ∈ [Value.int .u8 (cb.toNat : Nat)], u.oneCell' = true := by simp [Value.oneCell']
        have hm1 : m + 1 ≤ maxLen := by unfold maxLen; omega
        have hm2 : (m + 1) * 1 ≤ 140737488355328 := by omega
        have hsz1 : w.heap.size ≤ W1.heap.size := by omega
        have HSz1 : Hid _ := hsz1
        have S1 : Hid (W1.heap.size = wr.heap.size + 1) := s1
        clear hW1 r1 b1 e1 hne x1 x2 s1
        have hcti : (ct : Int) ≤ 9223372036854775807 := by omega
        go_wp2_with (at_builtin; refine wpList_append_grown rfl _ _ 62 rfl w.heap.size 5 Try.info5 rfl Try.underlying62 _ _ _ _ rfl (R1.out.alloc _) _ _ _ _ rfl (reads_one _ _ _) hone hm1 hm2 (Nat.le_trans HSz1.out (by simp)) ?_; intro ag2 c2 w2 hr2 hg2 hb2; have d1 : w2.cell? ⟨wr.heap.size, 1, none⟩ = some (.int .i64 (ct : Nat)) := keep_two E1.out hg2 (fun h => by have := HNe.out _ h; omega) 1)
        have b2 : Below w.heap.size w w2 := (B1.out.alloc HSz1.out _).trans hb2
        have p2 := put_any none 0 0 [] ct w2 (Reads.nil _) (by omega) (by omega)
        have hr2' : w2.ownsRow w.heap.size 5 1 (.slice ag2 (m + 1) c2) (m + 1) ((b0 :: (keyE (es.take j) ++ [(cb.toNat : Int)])).map (.int .u8)) := by simpa using hr2
        have R2 : Hid (w2.ownsRow w.heap.size 5 1 (.slice ag2 (m + 1) c2) (m + 1) ((b0 :: (keyE (es.take j) ++ [(cb.toNat : Int)])).map (.int .u8))) := hr2'
        have B2 : Hid _ := b2
        clear hr2 hr2' hg2 hb2 b2 hone hm1 hm2 R1 B1 E1
        go_wp2_with fail
        refine p2.mono ?_
        rintro e w3 ⟨g3, c3, m3, hm3, rfl, hr3, hb3⟩
        have hl3 := (encode_len ct).2
        have hone : ∀ u ∈ ([] ++ encode ct).map (Value.int .u8), u.oneCell' = true := by simp [Value.oneCell']
        have hm1 : m + 1 + m3 ≤ maxLen := by unfold maxLen; omega
        have hm2 : (m + 1 + m3) * 1 ≤ 140737488355328 := by omega
        have R3 : Hid (w3.ownsRow w.heap.size 5 1 (.slice ag2 (m + 1) c2) (m + 1) ((b0 :: (keyE (es.take j) ++ [(cb.toNat : Int)])).map (.int .u8))) := own_later R2.out hb3 (Nat.le_refl _)
        have Q3 : Hid (Reads w3 (some ⟨g3, 0, none⟩) m3 c3 (([] ++ encode ct).map (.int .u8))) := Reads.own hr3
        have B3 : Hid (Below w.heap.size w w3) := B2.out.trans (hb3.mono B2.out.size)
        have hm4 : m + 1 + m3 ≤ (j + 1) * 11 + 1 := by omega
        clear hr3 hb3 R2 B2 p2 d1 hm3 hl3
        go_wp2_with (at_builtin; refine wpList_append_reads rfl _ _ 62 rfl w.heap.size 5 Try.info5 rfl Try.underlying62 _ _ _ _ rfl R3.out _ _ _ _ rfl Q3.out hone hm1 hm2 B3.out.size ?_; intro ag4 c4 w4 hr4 hb4)
        go_roundw
        case rel => exact ⟨j + 1, m + 1 + m3, c4, ag4, rfl, by go_num, by omega, hm4, (by show World.ownsRow _ _ _ _ _ _ _; rw [HSt.out, keyE_app, keyE_one]; simpa using hr4), B3.out.trans hb4⟩
        case measure => simp [intOf]; omega
      · have q1 : ¬ (j : Int) < n := by omega
        have hfin : es.take j = es := List.take_of_length_le (by rw [Hn.out]; omega)
        have hrow2 := hrow.out
        rw [hfin] at hrow2
        have hcv := conv_of (P := Try.prog) (t := 62) (e := 5) (s := 9) Try.underlying62 Try.underlying5 Try.underlying9 (W := wr) (Reads.own hrow2)
        have HB : Hid _ := hB.out
        have hE : Hid (strOfNums (b0 :: keyE es) = ⟨(keyW (f, es)).toArray⟩) := by show _ = _; rw [Hb0.out]; rfl
        clear hrow2 hfin hB hrow
        go_wp2
        go_ret
        rw [hE.out]
        exact ⟨rfl, HB.out⟩
#print axioms key_any
end Go.Proofs.Ytkcledkfgmdcgaa
