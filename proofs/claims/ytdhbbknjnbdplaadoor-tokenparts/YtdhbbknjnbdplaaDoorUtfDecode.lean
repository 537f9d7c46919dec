/- The model's own decoding of a text is the document's, byte by byte. -/
import Derived.Test.YtdhbbknjnbdplaaDoorUtfMath
import Derived.Test.YtdhbbknjnbdplaaDoorCuts
import Derived.Lib.DecodeN
namespace Go.Proofs.YtdhbbknjnbdplaaDoor
open Go.Lib
set_option linter.unusedVariables false

/-- May the second byte stand behind that first one? -/
def secN (b0 b1 : Nat) : Prop := 0x80 ≤ b1 ∧ b1 ≤ 0xBF ∧ (b0 = 0xE0 → 0xA0 ≤ b1) ∧ (b0 = 0xED → b1 ≤ 0x9F) ∧ (b0 = 0xF0 → 0x90 ≤ b1) ∧ (b0 = 0xF4 → b1 ≤ 0x8F)
instance (b0 b1 : Nat) : Decidable (secN b0 b1) := by unfold secN; infer_instance
def conN (b : Nat) : Prop := 0x80 ≤ b ∧ b ≤ 0xBF
instance (b : Nat) : Decidable (conN b) := by unfold conN; infer_instance

def oneN (n b0 b1 b2 b3 : Nat) : Nat × Nat :=
  if b0 < 128 then (b0, 1)
  else if 0xC2 ≤ b0 ∧ b0 ≤ 0xDF then (if 1 < n ∧ secN b0 b1 then ((b0 - 192) * 64 + b1 - 128, 2) else (65533, 1))
  else if 0xE0 ≤ b0 ∧ b0 ≤ 0xEF then (if 1 < n ∧ secN b0 b1 ∧ 2 < n ∧ conN b2 then (((b0 - 224) * 64 + b1 - 128) * 64 + b2 - 128, 3) else (65533, 1))
  else if 0xF0 ≤ b0 ∧ b0 ≤ 0xF4 then (if 1 < n ∧ secN b0 b1 ∧ 2 < n ∧ conN b2 ∧ 3 < n ∧ conN b3 then ((((b0 - 240) * 64 + b1 - 128) * 64 + b2 - 128) * 64 + b3 - 128, 4) else (65533, 1))
  else (65533, 1)

theorem decodeN_one (n b0 b1 b2 b3 : Nat) (h0 : b0 < 256) (h1 : b1 < 256) (h2 : b2 < 256) (h3 : b3 < 256) : decodeN n b0 b1 b2 b3 = oneN n b0 b1 b2 b3 := by
  unfold decodeN oneN
  by_cases c1 : b0 < 128
  · rw [if_pos c1, if_pos c1]
  rw [if_neg c1, if_neg c1]
  by_cases c2 : 0xC2 ≤ b0 ∧ b0 ≤ 0xDF
  · rw [if_pos c2]
    by_cases g : 1 < n ∧ secN b0 b1
    · rw [if_pos g]
      unfold secN at g
      rw [if_pos (by omega), if_pos (by omega)]
      apply Prod.ext <;> simp only <;> omega
    · rw [if_neg g]
      unfold secN at g
      rw [if_neg (by omega), if_neg (by omega), if_neg (by omega)]
  rw [if_neg c2]
  by_cases c3 : 0xE0 ≤ b0 ∧ b0 ≤ 0xEF
  · rw [if_pos c3, if_neg (by omega)]
    by_cases g : 1 < n ∧ secN b0 b1 ∧ 2 < n ∧ conN b2
    · rw [if_pos g]
      unfold secN conN at g
      rw [if_pos (by omega), if_pos (by omega)]
      apply Prod.ext <;> simp only <;> omega
    · rw [if_neg g]
      unfold secN conN at g
      by_cases k : b0 / 16 = 14 ∧ (1 < n ∧ b1 / 64 = 2) ∧ (2 < n ∧ b2 / 64 = 2)
      · rw [if_pos k, if_neg (by omega)]
      · rw [if_neg k, if_neg (by omega)]
  rw [if_neg c3]
  by_cases c4 : 0xF0 ≤ b0 ∧ b0 ≤ 0xF4
  · rw [if_pos c4, if_neg (by omega), if_neg (by omega)]
    by_cases g : 1 < n ∧ secN b0 b1 ∧ 2 < n ∧ conN b2 ∧ 3 < n ∧ conN b3
    · rw [if_pos g]
      unfold secN conN at g
      rw [if_pos (by omega), if_pos (by omega)]
      apply Prod.ext <;> simp only <;> omega
    · rw [if_neg g]
      unfold secN conN at g
      by_cases k : b0 / 8 = 30 ∧ (1 < n ∧ b1 / 64 = 2) ∧ (2 < n ∧ b2 / 64 = 2) ∧ (3 < n ∧ b3 / 64 = 2)
      · rw [if_pos k, if_neg (by omega)]
      · rw [if_neg k]
  rw [if_neg c4]
  by_cases k1 : b0 / 32 = 6 ∧ (1 < n ∧ b1 / 64 = 2)
  · rw [if_pos k1, if_neg (by omega)]
  rw [if_neg k1, if_neg (by omega)]
  by_cases k2 : b0 / 8 = 30 ∧ (1 < n ∧ b1 / 64 = 2) ∧ (2 < n ∧ b2 / 64 = 2) ∧ (3 < n ∧ b3 / 64 = 2)
  · rw [if_pos k2, if_neg (by omega)]
  · rw [if_neg k2]

theorem fits_sec (b0 b1 : Nat) : fitsU (b0 : Int) 1 (b1 : Int) = decide (secN b0 b1) := by
  unfold fitsU
  by_cases d1 : b0 = 0xE0
  · rw [if_pos ⟨rfl, by omega⟩, decide_eq_decide]; unfold secN; omega
  by_cases d2 : b0 = 0xED
  · rw [if_neg (by omega), if_pos ⟨rfl, by omega⟩, decide_eq_decide]; unfold secN; omega
  by_cases d3 : b0 = 0xF0
  · rw [if_neg (by omega), if_neg (by omega), if_pos ⟨rfl, by omega⟩, decide_eq_decide]; unfold secN; omega
  by_cases d4 : b0 = 0xF4
  · rw [if_neg (by omega), if_neg (by omega), if_neg (by omega), if_pos ⟨rfl, by omega⟩, decide_eq_decide]; unfold secN; omega
  rw [if_neg (by omega), if_neg (by omega), if_neg (by omega), if_neg (by omega), decide_eq_decide]
  unfold secN
  omega
theorem fits_con (f : Int) (k b : Nat) : fitsU f (k + 2) (b : Int) = decide (conN b) := by
  unfold fitsU
  rw [if_neg (by omega), if_neg (by omega), if_neg (by omega), if_neg (by omega), decide_eq_decide]
  unfold conN
  omega

theorem goodT_1 (f : Nat) (r : List Int) (b1 : Nat) (h1 : r.getD 0 0 = (b1 : Int)) : goodT f 1 1 r = if 0 < r.length ∧ secN f b1 then 1 else 0 := by
  cases r with
  | nil => simp [goodT]
  | cons x r =>
    have : x = (b1 : Int) := by simpa using h1
    subst this
    simp [goodT, fits_sec]
theorem goodT_2 (f : Nat) (r : List Int) (b1 b2 : Nat) (h1 : r.getD 0 0 = (b1 : Int)) (h2 : r.getD 1 0 = (b2 : Int)) : (goodT f 1 2 r = 2) ↔ 0 < r.length ∧ secN f b1 ∧ 1 < r.length ∧ conN b2 := by
  match r with
  | [] => simp [goodT]
  | [x] =>
    have : x = (b1 : Int) := by simpa using h1
    subst this
    simp only [goodT, fits_sec]
    by_cases s : secN f b1 <;> simp [s]
  | x :: y :: r =>
    have : x = (b1 : Int) := by simpa using h1
    subst this
    have : y = (b2 : Int) := by simpa using h2
    subst this
    have := fits_con f 0 b2
    simp only [Nat.zero_add] at this
    simp only [goodT, fits_sec, this, decide_eq_true_eq]
    by_cases s : secN f b1 <;> by_cases t : conN b2 <;> simp [s, t]
theorem goodT_3 (f : Nat) (r : List Int) (b1 b2 b3 : Nat) (h1 : r.getD 0 0 = (b1 : Int)) (h2 : r.getD 1 0 = (b2 : Int)) (h3 : r.getD 2 0 = (b3 : Int)) : (goodT f 1 3 r = 3) ↔ 0 < r.length ∧ secN f b1 ∧ 1 < r.length ∧ conN b2 ∧ 2 < r.length ∧ conN b3 := by
  match r with
  | [] => simp [goodT]
  | [x] =>
    have : x = (b1 : Int) := by simpa using h1
    subst this
    simp only [goodT, fits_sec]
    by_cases s : secN f b1 <;> simp [s]
  | [x, y] =>
    have : x = (b1 : Int) := by simpa using h1
    subst this
    have : y = (b2 : Int) := by simpa using h2
    subst this
    have := fits_con f 0 b2
    simp only [Nat.zero_add] at this
    simp only [goodT, fits_sec, this]
    by_cases s : secN f b1 <;> by_cases t : conN b2 <;> simp [s, t]
  | x :: y :: z :: r =>
    have : x = (b1 : Int) := by simpa using h1
    subst this
    have : y = (b2 : Int) := by simpa using h2
    subst this
    have : z = (b3 : Int) := by simpa using h3
    subst this
    have e2 := fits_con f 0 b2
    have e3 := fits_con f 1 b3
    simp only [Nat.zero_add] at e2
    simp only [goodT, fits_sec, e2, show (1 + 1 + 1 : Nat) = 1 + 2 from rfl, e3, decide_eq_true_eq]
    by_cases s : secN f b1 <;> by_cases t : conN b2 <;> by_cases u : conN b3 <;> simp [s, t, u]

theorem one_oneN {d : List Int} (hd : d ≠ []) (b0 b1 b2 b3 : Nat) (h0 : d.getD 0 0 = (b0 : Int)) (h1 : d.getD 1 0 = (b1 : Int)) (h2 : d.getD 2 0 = (b2 : Int)) (h3 : d.getD 3 0 = (b3 : Int)) :
    oneU d = ((((oneN d.length b0 b1 b2 b3).1 : Nat) : Int), (oneN d.length b0 b1 b2 b3).2) := by
  cases d with
  | nil => exact absurd rfl hd
  | cons c r =>
    have : c = (b0 : Int) := by simpa using h0
    subst this
    have h1' : r.getD 0 0 = (b1 : Int) := by simpa using h1
    have h2' : r.getD 1 0 = (b2 : Int) := by simpa using h2
    have h3' : r.getD 2 0 = (b3 : Int) := by simpa using h3
    have hsec : ∀ {k}, secN k b1 → 128 ≤ b1 := fun {k} h => h.1
    have ok : ∀ n, sizeU (b0 : Int) = n → n ≠ 0 → goodT b0 1 (n - 1) r = n - 1 → oneU ((b0 : Int) :: r) = (valU ((b0 : Int) :: r), n) := by
      intro n hs hn hg
      unfold oneU
      have e : n - 1 + 1 = n := by omega
      simp only [headU, List.headD_cons, goodU, hs, hn, if_false, hg, e, false_or, Nat.lt_irrefl]
    have bad : ∀ n, sizeU (b0 : Int) = n → (n = 0 ∨ goodT b0 1 (n - 1) r < n - 1) → oneU ((b0 : Int) :: r) = (65533, 1) := by
      intro n hs hg
      unfold oneU
      simp only [headU, List.headD_cons, goodU, hs]
      by_cases hn : n = 0
      · rw [if_pos (Or.inl hn)]
      · rw [if_neg hn, if_pos (by omega)]
    unfold oneN
    simp only [List.length_cons]
    by_cases c1 : b0 < 128
    · have hs : sizeU (b0 : Int) = 1 := by unfold sizeU; rw [if_pos (by omega)]
      rw [if_pos c1, ok 1 hs (by decide) (by simp [goodT])]
      simp [valU, headU, hs]
    rw [if_neg c1]
    by_cases c2 : 0xC2 ≤ b0 ∧ b0 ≤ 0xDF
    · have hs : sizeU (b0 : Int) = 2 := by unfold sizeU; rw [if_neg (by omega), if_pos (by omega)]
      have gi := goodT_1 b0 r b1 h1'
      rw [if_pos c2]
      by_cases g : 0 < r.length ∧ secN b0 b1
      · have := hsec g.2
        rw [if_pos g] at gi
        rw [if_pos (⟨by omega, g.2⟩ : 1 < r.length + 1 ∧ secN b0 b1), ok 2 hs (by decide) gi]
        unfold valU
        simp only [headU, List.headD_cons, hs, h0, h1]
        apply Prod.ext <;> simp only <;> omega
      · rw [if_neg g] at gi
        rw [if_neg (fun h : 1 < r.length + 1 ∧ secN b0 b1 => g ⟨by omega, h.2⟩), bad 2 hs (by right; rw [gi]; omega)]
        rfl
    rw [if_neg c2]
    by_cases c3 : 0xE0 ≤ b0 ∧ b0 ≤ 0xEF
    · have hs : sizeU (b0 : Int) = 3 := by unfold sizeU; rw [if_neg (by omega), if_neg (by omega), if_pos (by omega)]
      rw [if_pos c3]
      have gi := goodT_2 b0 r b1 b2 h1' h2'
      have gl := goodT_le (b0 : Int) 1 2 r
      by_cases g : 0 < r.length ∧ secN b0 b1 ∧ 1 < r.length ∧ conN b2
      · have e1 := hsec g.2.1
        have e2 := g.2.2.2
        unfold conN at e2
        rw [if_pos (⟨by omega, g.2.1, by omega, g.2.2.2⟩ : 1 < r.length + 1 ∧ secN b0 b1 ∧ 2 < r.length + 1 ∧ conN b2), ok 3 hs (by decide) (gi.2 g)]
        unfold valU
        simp only [headU, List.headD_cons, hs, h0, h1, h2]
        apply Prod.ext <;> simp only <;> omega
      · have : goodT (b0 : Int) 1 2 r ≠ 2 := fun h => g (gi.1 h)
        rw [if_neg (fun h : 1 < r.length + 1 ∧ secN b0 b1 ∧ 2 < r.length + 1 ∧ conN b2 => g ⟨by omega, h.2.1, by omega, h.2.2.2⟩), bad 3 hs (by right; show goodT (b0 : Int) 1 2 r < 2; omega)]
        rfl
    rw [if_neg c3]
    by_cases c4 : 0xF0 ≤ b0 ∧ b0 ≤ 0xF4
    · have hs : sizeU (b0 : Int) = 4 := by unfold sizeU; rw [if_neg (by omega), if_neg (by omega), if_neg (by omega), if_pos (by omega)]
      rw [if_pos c4]
      have gi := goodT_3 b0 r b1 b2 b3 h1' h2' h3'
      have gl := goodT_le (b0 : Int) 1 3 r
      by_cases g : 0 < r.length ∧ secN b0 b1 ∧ 1 < r.length ∧ conN b2 ∧ 2 < r.length ∧ conN b3
      · have e1 := hsec g.2.1
        have e2 := g.2.2.2.1
        have e3 := g.2.2.2.2.2
        unfold conN at e2 e3
        rw [if_pos (⟨by omega, g.2.1, by omega, g.2.2.2.1, by omega, g.2.2.2.2.2⟩ : 1 < r.length + 1 ∧ secN b0 b1 ∧ 2 < r.length + 1 ∧ conN b2 ∧ 3 < r.length + 1 ∧ conN b3), ok 4 hs (by decide) (gi.2 g)]
        unfold valU
        simp only [headU, List.headD_cons, hs, h0, h1, h2, h3]
        apply Prod.ext <;> simp only <;> omega
      · have : goodT (b0 : Int) 1 3 r ≠ 3 := fun h => g (gi.1 h)
        rw [if_neg (fun h : 1 < r.length + 1 ∧ secN b0 b1 ∧ 2 < r.length + 1 ∧ conN b2 ∧ 3 < r.length + 1 ∧ conN b3 => g ⟨by omega, h.2.1, by omega, h.2.2.2.1, by omega, h.2.2.2.2.2⟩), bad 4 hs (by right; show goodT (b0 : Int) 1 3 r < 3; omega)]
        rfl
    rw [if_neg c4]
    have hs : sizeU (b0 : Int) = 0 := by unfold sizeU; rw [if_neg (by omega), if_neg (by omega), if_neg (by omega), if_neg (by omega)]
    rw [bad 0 hs (Or.inl rfl)]
    rfl

theorem str_get (zs : List Int) (h8 : isBytes zs) (i : Nat) : (((strOfNums zs).get! i).toNat : Int) = zs.getD i 0 := by
  have hd : (strOfNums zs).data = (zs.map fun n => UInt8.ofNat n.toNat).toArray := by
    apply Array.toList_inj.1
    rw [strOfNums_data]
  have hg : (strOfNums zs).get! i = ((zs.map fun n => UInt8.ofNat n.toNat).toArray)[i]! := by
    rw [← hd]; rfl
  rw [hg]
  by_cases hi : i < zs.length
  · have := h8 zs[i] (List.getElem_mem hi)
    simp [List.getD, hi]
    omega
  · simp [List.getD, hi]
    rfl

theorem str_size (zs : List Int) : (strOfNums zs).size = zs.length := by
  show (zs.map fun n => UInt8.ofNat n.toNat).toArray.size = zs.length
  rw [List.size_toArray, List.length_map]

/-- The model's decoding at a place is the document's. -/
theorem decode_str (zs : List Int) (h8 : isBytes zs) (i : Nat) (hi : i < zs.length) : ∃ r : Nat, Utf8.decode (strOfNums zs) i = (r, (oneU (zs.drop i)).2) ∧ (oneU (zs.drop i)).1 = (r : Int) := by
  have hd : zs.drop i ≠ [] := by intro h; have := congrArg List.length h; simp at this; omega
  have g : ∀ k, (zs.drop i).getD k 0 = (((strOfNums zs).get! (i + k)).toNat : Int) := fun k => by rw [str_get zs h8]; simp [List.getD]
  have ho := one_oneN hd _ _ _ _ (g 0) (g 1) (g 2) (g 3)
  rw [decode_at, str_size, decodeN_one _ _ _ _ _ (UInt8.toNat_lt _) (UInt8.toNat_lt _) (UInt8.toNat_lt _) (UInt8.toNat_lt _)]
  rw [List.length_drop] at ho
  exact ⟨_, by rw [ho]; rfl, by rw [ho]; rfl⟩
end Go.Proofs.YtdhbbknjnbdplaaDoor
