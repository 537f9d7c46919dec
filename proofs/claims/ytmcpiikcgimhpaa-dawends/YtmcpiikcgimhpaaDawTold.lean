/- daw.Words of what was built. -/
import Derived.Test.YtmcpiikcgimhpaaDawAll
import Derived.Laws.EntriesVeiled
namespace Go.Proofs.Ytmcpiikcgimhpaa
open Go.RowKit
set_option linter.unusedVariables false
set_option linter.unusedSimpArgs false

theorem four_new (w : World) (o1 o2 o3 o4 : Obj) : ((((w.alloc o1).alloc o2).alloc o3).alloc o4).heap[w.heap.size]? = some o1 ∧ ((((w.alloc o1).alloc o2).alloc o3).alloc o4).heap[w.heap.size + 1]? = some o2 ∧ ((((w.alloc o1).alloc o2).alloc o3).alloc o4).heap[w.heap.size + 2]? = some o3 ∧ ((((w.alloc o1).alloc o2).alloc o3).alloc o4).heap[w.heap.size + 3]? = some o4 := by
  obtain ⟨h1, h2, h3⟩ := two_new_old w o1 o2 o3
  refine ⟨?_, ?_, ?_, ?_⟩
  · rw [heap_alloc_old _ _ (by simp; omega)]; exact h1
  · rw [heap_alloc_old _ _ (by simp)]; exact h2
  · rw [heap_alloc_old _ _ (by simp)]; exact h3
  · rw [show w.heap.size + 3 = (((w.alloc o1).alloc o2).alloc o3).heap.size by simp]; exact heap_alloc_new _ _
set_option maxRecDepth 100000 in
set_option maxHeartbeats 4000000 in
theorem all_any {S : List Stt} (hS : GoodS S) {w : World} {ao : Option Addr} {m cap : Nat} (hr : ReadsA w ao (m + 1) cap (zA S)) (hl : m + 1 ≤ 100000000000) (hc : (langS S m).length ≤ 100000) :
    Calls Try.prog 21 #[.slice ao (m + 1) cap] w fun e w' => ∃ ag k c, e = .returned (.slice ag k c) ∧ Reads w' ag k c ((langS S m).map strV) ∧ Below w.heap.size w w' := by
  have hcall := fun W hT => all_gen hS hr hl (m + 1) m [] [] W (by omega) (by omega) (by simpa using hc) (by simp) hT
  have Hcall : Hid _ := hcall
  clear hcall hr hS hc
  have hmf : ∀ (fn : Fn) (first cap : Array Value) (w : World), (Instr.makeFunc fn first cap).run Try.prog w = .ok (.func fn first cap) w := fun _ _ _ _ => rfl
  go_enter Try.func21, Try.ntmps21
  go_wp2_with fail
  obtain ⟨k1, k2, k3, k4⟩ := four_new w (.cells #[.slice ao (m + 1) cap] 25) (.cells #[.slice none 0 0] 22) (.cells #[.slice none 0 0] 42) (.cells #[.func (.func 28) #[] #[.pointer (some ⟨w.heap.size, 0, none⟩), .pointer (some ⟨w.heap.size + 1, 0, none⟩), .pointer (some ⟨w.heap.size + 2, 0, none⟩), .pointer (some ⟨w.heap.size + 3, 0, none⟩)]] 50)
  refine (Hcall.out _ ⟨((((Below.refl _ _).alloc (Nat.le_refl _) _).alloc (by simp) _).alloc (by simp; omega) _).alloc (by simp; omega) _, k1, k4, none, 0, 0, none, 0, 0, k2, rfl, World.ownsRow_nil _ _ _ _, k3, rfl, World.ownsRow_nil _ _ _ _⟩).mono ?_
  rintro e wb ⟨rfl, hT⟩
  obtain ⟨ag, mm, c, bg, kk, d, h1, h2, h3, h4, h5, h6⟩ := hT.ex
  have d1 : wb.cell? ⟨w.heap.size + 1, 0, none⟩ = some (.slice ag mm c) := cell_of h1 0
  have hB : Hid (Below w.heap.size w wb) := hT.low
  have hR : Hid (Reads wb ag mm c ((langS S m).map strV)) := by
    have h7 := Reads.own h3
    rw [show ([] : List Wd) ++ (langS S m).map (fun x => [] ++ x) = langS S m by simp] at h7
    exact h7
  clear hT h1 h2 h3 h4 h5 h6 k1 k2 k3 k4 hmf
  go_wp2_with fail
  go_ret
  exact ⟨ag, mm, c, rfl, hR.out, hB.out⟩
#print axioms all_any
theorem told_more {zs : List Wd} (hr : RiseW zs) (most : Int) : (∃ i, i < (buildL zs).length ∧ most < (langS (buildL zs) i).length) ↔ most < zs.length := by
  constructor
  · rintro ⟨i, hi, hm⟩
    have := lang_all hr hi
    omega
  · intro h
    have h1 := (build_len zs).1
    exact ⟨(buildL zs).length - 1, by omega, by rw [lang_root hr]; exact h⟩
set_option maxRecDepth 100000 in
set_option maxHeartbeats 4000000 in
theorem words_any {w : World} {ao : Option Addr} {len cap : Nat} {zs : List Wd} (h : ReadsA w ao len cap (zA (buildL zs))) (hne : [] ∉ zs) (hr : RiseW zs) (hs : (zs.map List.length).sum ≤ 1000000000) (most : Int) (hm : most ≤ 9223372036854775807) (hm0 : -9223372036854775808 ≤ most) :
    Calls Try.prog 10 #[.slice ao len cap, .int .i64 most] w fun e w' => WordsOut w (wordsR zs most) e w' := by
  have hbl := build_len zs
  have hcount := h.count
  rw [zA_len] at hcount
  obtain ⟨m, rfl⟩ : ∃ m, len = m + 1 := ⟨len - 1, by omega⟩
  have hlen : m + 1 ≤ 100000000000 := by omega
  have hz : ∀ s ∈ zA (buildL zs), ∀ e ∈ s.2, -9223372036854775808 ≤ e.2 ∧ e.2 ≤ 9223372036854775807 := by
    intro s hs' e he
    obtain ⟨t, ht, rfl⟩ := List.mem_map.1 hs'
    obtain ⟨d, hd, rfl⟩ := List.mem_map.1 he
    obtain ⟨i, hi⟩ := List.getElem?_of_mem ht
    have h1 := (build_good zs).low i t hi d hd
    have h2 := (List.getElem?_eq_some_iff.1 hi).1
    simp only
    omega
  have h256 : ∀ s ∈ buildL zs, s.2.length ≤ 256 := fun s hs' => rise_256 (build_use (fun w hw e => hne (e ▸ hw)) s hs').1
  have Hmay : Hid (MayP (zA (buildL zs))) := build_may hne
  have Hmore : Hid _ := told_more hr most
  have Hroot : Hid (langS (buildL zs) m = zs) := by have := lang_root hr; rw [hcount, Nat.add_sub_cancel] at this; exact this
  have pm := may_any h hlen hz
  have HR : Hid _ := h
  have Hgood : Hid _ := build_good zs
  have Hc : Hid ((buildL zs).length = m + 1) := hcount
  have H256 : Hid _ := h256
  clear hbl hcount hz h256 h hr hs hne
  by_cases c1 : most < 0
  · have hE : Hid (wordsR zs most = ([], 1)) := by show _ = _; unfold wordsR; rw [if_pos (.inl c1)]
    clear pm
    go_enter Try.func10, Try.ntmps10
    go_wp2
    go_ret2
    rw [hE.out]
    exact ⟨none, 0, 0, rfl, Reads.nil _, Below.refl _ _⟩
  by_cases c2 : 100000 < most
  · have hE : Hid (wordsR zs most = ([], 1)) := by show _ = _; unfold wordsR; rw [if_pos (.inr c2)]
    clear pm
    go_enter Try.func10, Try.ntmps10
    go_wp2
    go_ret2
    rw [hE.out]
    exact ⟨none, 0, 0, rfl, Reads.nil _, Below.refl _ _⟩
  go_enter Try.func10, Try.ntmps10
  go_wp2_with fail
  refine pm.mono ?_
  rintro e w1 ⟨⟨bb, rfl, hbb⟩, hB1⟩
  have hb1 := hbb.2 Hmay.out
  subst hb1
  have B1 : Hid (Below w.heap.size w w1) := hB1
  have pt := more_any Hgood.out (by rw [Hc.out]; exact hlen) H256.out (HR.out.later hB1 (Nat.le_refl _)) most (by omega) (by omega)
  clear pm hbb hB1
  go_wp2_with fail
  refine pt.mono ?_
  rintro e w2 ⟨⟨bb, rfl, hbb⟩, hB2⟩
  have B2 : Hid (Below w.heap.size w w2) := B1.out.trans (hB2.mono B1.out.size)
  have Hbb : Hid _ := hbb.trans Hmore.out
  clear pt hbb hB2
  cases bb with
  | true =>
    have hE : Hid (wordsR zs most = ([], 6)) := by show _ = _; unfold wordsR; rw [if_neg (by omega), if_pos (Hbb.out.1 rfl)]
    go_wp2_with fail
    go_ret2
    rw [hE.out]
    exact ⟨none, 0, 0, rfl, Reads.nil _, B2.out⟩
  | false =>
    have hnot : ¬ most < zs.length := fun h => by have := Hbb.out.2 h; cases this
    have hE : Hid (wordsR zs most = (zs, 0)) := by show _ = _; unfold wordsR; rw [if_neg (by omega), if_neg hnot]
    have pa := all_any Hgood.out (HR.out.later B2.out (Nat.le_refl _)) hlen (by rw [Hroot.out]; omega)
    rw [Hroot.out] at pa
    clear hnot
    go_wp2_with fail
    refine pa.mono ?_
    rintro e w3 ⟨ag, k, c, rfl, hR3, hB3⟩
    have R3 : Hid _ := hR3
    have B3 : Hid (Below w.heap.size w w3) := B2.out.trans (hB3.mono B2.out.size)
    clear pa hR3 hB3
    go_wp2_with fail
    go_ret2
    rw [hE.out]
    exact ⟨ag, k, c, rfl, R3.out, B3.out⟩
#print axioms words_any
theorem dmay_any {w : World} {ao : Option Addr} {len cap : Nat} {zs : List Wd} (h : ReadsA w ao len cap (zA (buildL zs))) (hne : [] ∉ zs) (hr : RiseW zs) (hs : (zs.map List.length).sum ≤ 1000000000) :
    Calls Try.prog 12 #[.slice ao len cap] w fun e w' => e = .returned (.bool true) ∧ Below w.heap.size w w' := by
  have hbl := build_len zs
  have hcount := h.count
  rw [zA_len] at hcount
  refine (may_any h (by omega) ?_).mono ?_
  · intro s hs' e he
    obtain ⟨t, ht, rfl⟩ := List.mem_map.1 hs'
    obtain ⟨d, hd, rfl⟩ := List.mem_map.1 he
    obtain ⟨i, hi⟩ := List.getElem?_of_mem ht
    have h1 := (build_good zs).low i t hi d hd
    have h2 := (List.getElem?_eq_some_iff.1 hi).1
    simp only
    omega
  · rintro e w' ⟨⟨bb, rfl, hbb⟩, hB⟩
    rw [hbb.2 (build_may hne)]
    exact ⟨rfl, hB⟩
end Go.Proofs.Ytmcpiikcgimhpaa
