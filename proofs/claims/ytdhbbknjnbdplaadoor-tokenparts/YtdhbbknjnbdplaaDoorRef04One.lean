/- The contracts of the document's own answers for runes: Pending, one. -/
import Derived.Test.YtdhbbknjnbdplaaDoorRef04
namespace Go.Proofs.YtdhbbknjnbdplaaDoor
open Go.RowKit

theorem zs_cons {zs : List Int} {f : Nat} (h : 0 < zs.length) (hf : zs.getD 0 0 = (f : Int)) : headU zs = (f : Int) := by
  cases zs with
  | nil => simp at h
  | cons a l => simpa [headU, List.getD] using hf

set_option maxRecDepth 100000 in
set_option maxHeartbeats 400000 in
theorem rpending_any (ao : Option Addr) (len cap : Nat) (zs : List Int) (w : World) (hr : Reads w ao len cap (zs.map (.int .u8))) (h8 : isBytes zs) :
    Calls Tryd.prog 32 #[.slice ao len cap] w fun e w' => e = .returned (.bool (decide (pendU zs))) ∧ ∃ m, w' = w.drewN m := by
  have hl : zs.length = len := by simpa using hr.length
  have hnn := hr.nn
  by_cases h0 : len = 0
  · subst h0
    have hE : Hid (decide (pendU zs) = false) := by show _ = _; rw [decide_eq_false_iff_not]; unfold pendU; omega
    go_enter Tryd.func32, Tryd.ntmps32
    go_wp2
    go_ret
    exact ⟨by rw [hE.out]; rfl, 0, rfl⟩
  have h1 : (1 : Int) ≤ len := by omega
  by_cases h3 : len ≤ 3
  case neg =>
    have hE : Hid (decide (pendU zs) = false) := by show _ = _; rw [decide_eq_false_iff_not]; unfold pendU; omega
    have h3' : (3 : Int) < len := by omega
    go_enter Tryd.func32, Tryd.ntmps32
    go_wp2
    go_ret
    exact ⟨by rw [hE.out]; rfl, 0, rfl⟩
  have h3' : (len : Int) ≤ 3 := by omega
  have rg := rgood_any ao len cap zs w hr h8
  obtain ⟨b, off, rfl, hbb, hcell⟩ := hr.at (by omega)
  obtain ⟨f, hf, hf8⟩ := h8.get 0
  have c0 := hcell 0 (by omega)
  rw [hf] at c0
  have c0' : w.cell? ⟨b, off, none⟩ = some (.int .u8 (f : Int)) := c0
  have hh := zs_cons (by omega) hf
  have hP : Hid (pendU zs ↔ goodU zs = len ∧ len < sizeU (f : Int)) := by
    show _ ↔ _
    unfold pendU
    rw [hh, hl]
    constructor
    · intro ⟨_, _, a, b⟩; exact ⟨a, b⟩
    · intro ⟨a, b⟩; exact ⟨by omega, h3, a, b⟩
  clear c0 hcell hh
  have hp : (0 : Int) < len := by omega
  generalize goodU zs = g at rg hP
  by_cases hg : g = len
  case neg =>
    have hE : Hid (decide (pendU zs) = false) := by show _ = _; rw [decide_eq_false_iff_not, hP.out]; omega
    have hgb : ((g : Int) == len) = false := by simp; omega
    clear hg
    go_enter Tryd.func32, Tryd.ntmps32
    go_wp2_with fail
    refine rg.mono ?_
    rintro e wa ⟨rfl, m, rfl⟩
    go_wp2
    go_ret
    exact ⟨by rw [hE.out]; rfl, m, rfl⟩
  subst hg
  have hE : Hid (decide (pendU zs) = decide ((g : Int) < (sizeU (f : Int) : Nat))) := by
    show _ = _
    rw [decide_eq_decide, hP.out]
    omega
  go_enter Tryd.func32, Tryd.ntmps32
  go_wp2_with fail
  refine rg.mono ?_
  rintro e wa ⟨rfl, m, rfl⟩
  go_wp2_with fail
  refine (rsize_any f _ (by omega) (by omega)).mono ?_
  rintro e wb ⟨rfl, rfl⟩
  generalize sizeU (f : Int) = s at hE
  go_wp2
  go_ret
  exact ⟨by rw [hE.out]; first | rfl | (simp; done), m, rfl⟩
#print axioms rpending_any

def baseU (s : Nat) : Int := if s = 2 then 192 else if s = 3 then 224 else if s = 4 then 240 else 0
def accU (zs : List Int) (s : Nat) : Nat → Int
  | 0 => 0
  | 1 => zs.getD 0 0 - baseU s
  | j + 2 => accU zs s (j + 1) * 64 + zs.getD (j + 1) 0 - 128

theorem acc_val (zs : List Int) (s : Nat) (hs : sizeU (headU zs) = s) (h1 : 1 ≤ s) (h4 : s ≤ 4) : valU zs = accU zs s s := by
  have : s = 1 ∨ s = 2 ∨ s = 3 ∨ s = 4 := by omega
  unfold valU
  rw [hs]
  rcases this with rfl | rfl | rfl | rfl <;> simp [accU, baseU]

theorem acc_next (zs : List Int) (s j : Nat) (h : 1 ≤ j) : accU zs s (j + 1) = accU zs s j * 64 + zs.getD j 0 - 128 := by
  cases j with
  | zero => omega
  | succ j => rfl

set_option maxRecDepth 100000 in
set_option maxHeartbeats 400000 in
theorem rone_any (ao : Option Addr) (len cap : Nat) (zs : List Int) (w : World) (hr : Reads w ao len cap (zs.map (.int .u8))) (h8 : isBytes zs) (hpos : 0 < len) :
    Calls Tryd.prog 44 #[.slice ao len cap] w fun e w' => e = .returned (.tuple #[.int .i32 (oneU zs).1, .int .i64 ((oneU zs).2 : Nat)]) ∧ ∃ m, w' = w.drewN m := by
  have hl : zs.length = len := by simpa using hr.length
  have hnn := hr.nn
  have rg := rgood_any ao len cap zs w hr h8
  obtain ⟨b, off, rfl, hbb, hcell⟩ := hr.at (by omega)
  obtain ⟨f, hf, hf8⟩ := h8.get 0
  have c0 := hcell 0 (by omega)
  rw [hf] at c0
  have c0' : w.cell? ⟨b, off, none⟩ = some (.int .u8 (f : Int)) := c0
  have hh := zs_cons (by omega) hf
  have hp : (0 : Int) < len := by omega
  have hs4 := size_le (f : Int)
  have hgl := good_le zs
  rw [hh, hl] at hgl
  have hO : Hid (oneU zs = if sizeU (f : Int) = 0 ∨ goodU zs < sizeU (f : Int) then (65533, 1) else (valU zs, sizeU (f : Int))) := by show _ = _; unfold oneU; rw [hh]
  have hsz : ∀ W, Calls Tryd.prog 47 #[.int .u8 (f : Int)] W fun e w' => e = .returned (.int .i64 ((sizeU (f : Int) : Nat) : Int)) ∧ w' = W := fun W => rsize_any f W (by omega) (by omega)
  have hV : Hid (∀ s, sizeU (f : Int) = s → 1 ≤ s → s ≤ 4 → valU zs = accU zs s s) := by show ∀ s, _; intro s hs; exact acc_val zs s (by rw [hh]; exact hs)
  have hF : Hid ((sizeU (f : Int) = 1 → f < 128) ∧ (sizeU (f : Int) = 2 → 194 ≤ f ∧ f ≤ 223) ∧ (sizeU (f : Int) = 3 → 224 ≤ f ∧ f ≤ 239) ∧ (sizeU (f : Int) = 4 → 240 ≤ f ∧ f ≤ 244)) := by
    show _ ∧ _
    unfold sizeU
    refine ⟨?_, ?_, ?_, ?_⟩ <;> (repeat' split) <;> omega
  clear c0 hh
  generalize sizeU (f : Int) = s at hs4 hgl hO hsz hV hF
  generalize goodU zs = g at rg hgl hO
  by_cases hs0 : s = 0
  · subst hs0
    have hE : Hid (oneU zs = (65533, 1)) := by show _ = _; rw [hO.out, if_pos (.inl rfl)]
    go_enter Tryd.func44, Tryd.ntmps44
    go_wp2_with fail
    refine (hsz _).mono ?_
    rintro e wa ⟨rfl, rfl⟩
    go_wp2
    go_ret2
    exact ⟨by rw [hE.out]; rfl, 0, rfl⟩
  have hsb : ((s : Int) == 0) = false := by simp; omega
  by_cases hgs : g < s
  · have hE : Hid (oneU zs = (65533, 1)) := by show _ = _; rw [hO.out, if_pos (.inr hgs)]
    have hgs' : (g : Int) < s := by omega
    clear hs0
    go_enter Tryd.func44, Tryd.ntmps44
    go_wp2_with fail
    refine (hsz _).mono ?_
    rintro e wa ⟨rfl, rfl⟩
    go_wp2_with fail
    refine rg.mono ?_
    rintro e wb ⟨rfl, m, rfl⟩
    go_wp2
    go_ret2
    exact ⟨by rw [hE.out]; rfl, m, rfl⟩
  have hE : Hid (oneU zs = (valU zs, s)) := by show _ = _; rw [hO.out, if_neg (by omega)]
  have hgs' : (s : Int) ≤ g := by omega
  have hV' : Hid (valU zs = accU zs s s) := hV.out s rfl (by omega) hs4
  have hsl : s ≤ len := by omega
  have hA1 : accU zs s 1 = (f : Int) - baseU s := by show zs.getD 0 0 - baseU s = _; rw [hf]
  have hF' := hF.out
  have hcase : s = 1 ∨ s = 2 ∨ s = 3 ∨ s = 4 := by omega
  clear hO hV hF hs0
  rcases hcase with rfl | rfl | rfl | rfl
  · have hA1' : Hid (accU zs 1 1 = (f : Int)) := by show _ = _; rw [hA1]; simp [baseU]
    have hfr : Hid ((f : Int) ≤ 127 ∧ 0 ≤ (f : Int)) := by show _ ∧ _; omega
    have hfa := hfr.out.1
    have hfb := hfr.out.2
    clear hA1 hF'
    go_enter Tryd.func44, Tryd.ntmps44
    go_wp2_with fail
    refine (hsz _).mono ?_
    rintro e wa ⟨rfl, rfl⟩
    go_wp2_with fail
    refine rg.mono ?_
    rintro e wb ⟨rfl, m, hwb⟩
    have hcell' : ∀ j, j < len → wb.cell? ⟨b, off + j, none⟩ = some (.int .u8 (zs.getD j 0)) := fun j hj => by rw [hwb]; exact hcell j hj
    have c0b : wb.cell? ⟨b, off, none⟩ = some (.int .u8 (f : Int)) := by rw [hwb]; exact c0'
    have Hwb : Hid _ := hwb
    clear hwb
    go_wp2_with fail
    go_loop [5, 6] (fun c i => ∃ (j : Nat) (v : Int), i = .int .i64 j ∧ 1 ≤ j ∧ j ≤ 1 ∧ c = .int .i32 v ∧ Hid (accU zs 1 j = v) ∧ (-(33824896 : Int) ≤ v ∧ v ≤ 33824896) ∧ Hid ((j ≤ 1 → -(127 : Int) ≤ v ∧ v ≤ 127) ∧ (j ≤ 2 → -(8256 : Int) ≤ v ∧ v ≤ 8256) ∧ (j ≤ 3 → -(528512 : Int) ≤ v ∧ v ≤ 528512))) (fun _ i => (1 - intOf i).toNat)
    case atStart => exact ⟨1, _, rfl, by omega, by omega, rfl, hA1', by omega, by show _ ∧ _; omega⟩
    case round =>
      obtain ⟨j, v, rfl, hj1, hj2, rfl, hA, hv, hvb⟩ := hrel
      by_cases hjs : j = 1
      · subst hjs
        have hE' : Hid (oneU zs = (v, 1)) := by show _ = _; rw [hE.out, hV'.out, hA.out]
        go_wp2
        go_ret2
        exact ⟨by rw [hE'.out]; rfl, m, Hwb.out⟩
      · have hjl : (j : Int) < 1 := by omega
        have hjlen : (j : Int) < len := by omega
        have hcj := hcell' j (by omega)
        obtain ⟨x, hx, hx8⟩ := h8.get j
        rw [hx] at hcj
        have hA' : Hid (accU zs 1 (j + 1) = v * 64 + x - 128) := by show _ = _; rw [acc_next zs 1 j hj1, hA.out, hx]
        have hb3 := hvb.out
        have hv' : -(528512 : Int) ≤ v ∧ v ≤ 528512 := by omega
        have hn : Hid ((-(33824896 : Int) ≤ v * 64 + x - 128 ∧ v * 64 + x - 128 ≤ 33824896) ∧ ((j + 1 ≤ 1 → -(127 : Int) ≤ v * 64 + x - 128 ∧ v * 64 + x - 128 ≤ 127) ∧ (j + 1 ≤ 2 → -(8256 : Int) ≤ v * 64 + x - 128 ∧ v * 64 + x - 128 ≤ 8256) ∧ (j + 1 ≤ 3 → -(528512 : Int) ≤ v * 64 + x - 128 ∧ v * 64 + x - 128 ≤ 528512))) := by show _ ∧ _; omega
        clear hb3 hvb hv hA hx
        obtain ⟨hv1, hv2⟩ := hv'
        have hx0 : (0 : Int) ≤ x := by omega
        have hx1 : (x : Int) ≤ 255 := by omega
        go_wp2
        go_round
        case rel => exact ⟨j + 1, _, by go_num, by omega, by omega, rfl, hA', hn.out.1, hn.out.2⟩
        case measure => simp [intOf]; omega
  · have hA1' : Hid (accU zs 2 1 = (f : Int) - 192) := by show _ = _; rw [hA1]; simp [baseU]
    have hfr : Hid ((f : Int) - 192 ≤ 127 ∧ 0 ≤ (f : Int) - 192) := by show _ ∧ _; omega
    have hfa := hfr.out.1
    have hfb := hfr.out.2
    clear hA1 hF'
    go_enter Tryd.func44, Tryd.ntmps44
    go_wp2_with fail
    refine (hsz _).mono ?_
    rintro e wa ⟨rfl, rfl⟩
    go_wp2_with fail
    refine rg.mono ?_
    rintro e wb ⟨rfl, m, hwb⟩
    have hcell' : ∀ j, j < len → wb.cell? ⟨b, off + j, none⟩ = some (.int .u8 (zs.getD j 0)) := fun j hj => by rw [hwb]; exact hcell j hj
    have c0b : wb.cell? ⟨b, off, none⟩ = some (.int .u8 (f : Int)) := by rw [hwb]; exact c0'
    have Hwb : Hid _ := hwb
    clear hwb
    go_wp2_with fail
    go_loop [5, 6] (fun c i => ∃ (j : Nat) (v : Int), i = .int .i64 j ∧ 1 ≤ j ∧ j ≤ 2 ∧ c = .int .i32 v ∧ Hid (accU zs 2 j = v) ∧ (-(33824896 : Int) ≤ v ∧ v ≤ 33824896) ∧ Hid ((j ≤ 1 → -(127 : Int) ≤ v ∧ v ≤ 127) ∧ (j ≤ 2 → -(8256 : Int) ≤ v ∧ v ≤ 8256) ∧ (j ≤ 3 → -(528512 : Int) ≤ v ∧ v ≤ 528512))) (fun _ i => (2 - intOf i).toNat)
    case atStart => exact ⟨1, _, rfl, by omega, by omega, rfl, hA1', by omega, by show _ ∧ _; omega⟩
    case round =>
      obtain ⟨j, v, rfl, hj1, hj2, rfl, hA, hv, hvb⟩ := hrel
      by_cases hjs : j = 2
      · subst hjs
        have hE' : Hid (oneU zs = (v, 2)) := by show _ = _; rw [hE.out, hV'.out, hA.out]
        go_wp2
        go_ret2
        exact ⟨by rw [hE'.out]; rfl, m, Hwb.out⟩
      · have hjl : (j : Int) < 2 := by omega
        have hjlen : (j : Int) < len := by omega
        have hcj := hcell' j (by omega)
        obtain ⟨x, hx, hx8⟩ := h8.get j
        rw [hx] at hcj
        have hA' : Hid (accU zs 2 (j + 1) = v * 64 + x - 128) := by show _ = _; rw [acc_next zs 2 j hj1, hA.out, hx]
        have hb3 := hvb.out
        have hv' : -(528512 : Int) ≤ v ∧ v ≤ 528512 := by omega
        have hn : Hid ((-(33824896 : Int) ≤ v * 64 + x - 128 ∧ v * 64 + x - 128 ≤ 33824896) ∧ ((j + 1 ≤ 1 → -(127 : Int) ≤ v * 64 + x - 128 ∧ v * 64 + x - 128 ≤ 127) ∧ (j + 1 ≤ 2 → -(8256 : Int) ≤ v * 64 + x - 128 ∧ v * 64 + x - 128 ≤ 8256) ∧ (j + 1 ≤ 3 → -(528512 : Int) ≤ v * 64 + x - 128 ∧ v * 64 + x - 128 ≤ 528512))) := by show _ ∧ _; omega
        clear hb3 hvb hv hA hx
        obtain ⟨hv1, hv2⟩ := hv'
        have hx0 : (0 : Int) ≤ x := by omega
        have hx1 : (x : Int) ≤ 255 := by omega
        go_wp2
        go_round
        case rel => exact ⟨j + 1, _, by go_num, by omega, by omega, rfl, hA', hn.out.1, hn.out.2⟩
        case measure => simp [intOf]; omega
  · have hA1' : Hid (accU zs 3 1 = (f : Int) - 224) := by show _ = _; rw [hA1]; simp [baseU]
    have hfr : Hid ((f : Int) - 224 ≤ 127 ∧ 0 ≤ (f : Int) - 224) := by show _ ∧ _; omega
    have hfa := hfr.out.1
    have hfb := hfr.out.2
    clear hA1 hF'
    go_enter Tryd.func44, Tryd.ntmps44
    go_wp2_with fail
    refine (hsz _).mono ?_
    rintro e wa ⟨rfl, rfl⟩
    go_wp2_with fail
    refine rg.mono ?_
    rintro e wb ⟨rfl, m, hwb⟩
    have hcell' : ∀ j, j < len → wb.cell? ⟨b, off + j, none⟩ = some (.int .u8 (zs.getD j 0)) := fun j hj => by rw [hwb]; exact hcell j hj
    have c0b : wb.cell? ⟨b, off, none⟩ = some (.int .u8 (f : Int)) := by rw [hwb]; exact c0'
    have Hwb : Hid _ := hwb
    clear hwb
    go_wp2_with fail
    go_loop [5, 6] (fun c i => ∃ (j : Nat) (v : Int), i = .int .i64 j ∧ 1 ≤ j ∧ j ≤ 3 ∧ c = .int .i32 v ∧ Hid (accU zs 3 j = v) ∧ (-(33824896 : Int) ≤ v ∧ v ≤ 33824896) ∧ Hid ((j ≤ 1 → -(127 : Int) ≤ v ∧ v ≤ 127) ∧ (j ≤ 2 → -(8256 : Int) ≤ v ∧ v ≤ 8256) ∧ (j ≤ 3 → -(528512 : Int) ≤ v ∧ v ≤ 528512))) (fun _ i => (3 - intOf i).toNat)
    case atStart => exact ⟨1, _, rfl, by omega, by omega, rfl, hA1', by omega, by show _ ∧ _; omega⟩
    case round =>
      obtain ⟨j, v, rfl, hj1, hj2, rfl, hA, hv, hvb⟩ := hrel
      by_cases hjs : j = 3
      · subst hjs
        have hE' : Hid (oneU zs = (v, 3)) := by show _ = _; rw [hE.out, hV'.out, hA.out]
        go_wp2
        go_ret2
        exact ⟨by rw [hE'.out]; rfl, m, Hwb.out⟩
      · have hjl : (j : Int) < 3 := by omega
        have hjlen : (j : Int) < len := by omega
        have hcj := hcell' j (by omega)
        obtain ⟨x, hx, hx8⟩ := h8.get j
        rw [hx] at hcj
        have hA' : Hid (accU zs 3 (j + 1) = v * 64 + x - 128) := by show _ = _; rw [acc_next zs 3 j hj1, hA.out, hx]
        have hb3 := hvb.out
        have hv' : -(528512 : Int) ≤ v ∧ v ≤ 528512 := by omega
        have hn : Hid ((-(33824896 : Int) ≤ v * 64 + x - 128 ∧ v * 64 + x - 128 ≤ 33824896) ∧ ((j + 1 ≤ 1 → -(127 : Int) ≤ v * 64 + x - 128 ∧ v * 64 + x - 128 ≤ 127) ∧ (j + 1 ≤ 2 → -(8256 : Int) ≤ v * 64 + x - 128 ∧ v * 64 + x - 128 ≤ 8256) ∧ (j + 1 ≤ 3 → -(528512 : Int) ≤ v * 64 + x - 128 ∧ v * 64 + x - 128 ≤ 528512))) := by show _ ∧ _; omega
        clear hb3 hvb hv hA hx
        obtain ⟨hv1, hv2⟩ := hv'
        have hx0 : (0 : Int) ≤ x := by omega
        have hx1 : (x : Int) ≤ 255 := by omega
        go_wp2
        go_round
        case rel => exact ⟨j + 1, _, by go_num, by omega, by omega, rfl, hA', hn.out.1, hn.out.2⟩
        case measure => simp [intOf]; omega
  · have hA1' : Hid (accU zs 4 1 = (f : Int) - 240) := by show _ = _; rw [hA1]; simp [baseU]
    have hfr : Hid ((f : Int) - 240 ≤ 127 ∧ 0 ≤ (f : Int) - 240) := by show _ ∧ _; omega
    have hfa := hfr.out.1
    have hfb := hfr.out.2
    clear hA1 hF'
    go_enter Tryd.func44, Tryd.ntmps44
    go_wp2_with fail
    refine (hsz _).mono ?_
    rintro e wa ⟨rfl, rfl⟩
    go_wp2_with fail
    refine rg.mono ?_
    rintro e wb ⟨rfl, m, hwb⟩
    have hcell' : ∀ j, j < len → wb.cell? ⟨b, off + j, none⟩ = some (.int .u8 (zs.getD j 0)) := fun j hj => by rw [hwb]; exact hcell j hj
    have c0b : wb.cell? ⟨b, off, none⟩ = some (.int .u8 (f : Int)) := by rw [hwb]; exact c0'
    have Hwb : Hid _ := hwb
    clear hwb
    go_wp2_with fail
    go_loop [5, 6] (fun c i => ∃ (j : Nat) (v : Int), i = .int .i64 j ∧ 1 ≤ j ∧ j ≤ 4 ∧ c = .int .i32 v ∧ Hid (accU zs 4 j = v) ∧ (-(33824896 : Int) ≤ v ∧ v ≤ 33824896) ∧ Hid ((j ≤ 1 → -(127 : Int) ≤ v ∧ v ≤ 127) ∧ (j ≤ 2 → -(8256 : Int) ≤ v ∧ v ≤ 8256) ∧ (j ≤ 3 → -(528512 : Int) ≤ v ∧ v ≤ 528512))) (fun _ i => (4 - intOf i).toNat)
    case atStart => exact ⟨1, _, rfl, by omega, by omega, rfl, hA1', by omega, by show _ ∧ _; omega⟩
    case round =>
      obtain ⟨j, v, rfl, hj1, hj2, rfl, hA, hv, hvb⟩ := hrel
      by_cases hjs : j = 4
      · subst hjs
        have hE' : Hid (oneU zs = (v, 4)) := by show _ = _; rw [hE.out, hV'.out, hA.out]
        go_wp2
        go_ret2
        exact ⟨by rw [hE'.out]; rfl, m, Hwb.out⟩
      · have hjl : (j : Int) < 4 := by omega
        have hjlen : (j : Int) < len := by omega
        have hcj := hcell' j (by omega)
        obtain ⟨x, hx, hx8⟩ := h8.get j
        rw [hx] at hcj
        have hA' : Hid (accU zs 4 (j + 1) = v * 64 + x - 128) := by show _ = _; rw [acc_next zs 4 j hj1, hA.out, hx]
        have hb3 := hvb.out
        have hv' : -(528512 : Int) ≤ v ∧ v ≤ 528512 := by omega
        have hn : Hid ((-(33824896 : Int) ≤ v * 64 + x - 128 ∧ v * 64 + x - 128 ≤ 33824896) ∧ ((j + 1 ≤ 1 → -(127 : Int) ≤ v * 64 + x - 128 ∧ v * 64 + x - 128 ≤ 127) ∧ (j + 1 ≤ 2 → -(8256 : Int) ≤ v * 64 + x - 128 ∧ v * 64 + x - 128 ≤ 8256) ∧ (j + 1 ≤ 3 → -(528512 : Int) ≤ v * 64 + x - 128 ∧ v * 64 + x - 128 ≤ 528512))) := by show _ ∧ _; omega
        clear hb3 hvb hv hA hx
        obtain ⟨hv1, hv2⟩ := hv'
        have hx0 : (0 : Int) ≤ x := by omega
        have hx1 : (x : Int) ≤ 255 := by omega
        go_wp2
        go_round
        case rel => exact ⟨j + 1, _, by go_num, by omega, by omega, rfl, hA', hn.out.1, hn.out.2⟩
        case measure => simp [intOf]; omega
#print axioms rone_any
end Go.Proofs.YtdhbbknjnbdplaaDoor
