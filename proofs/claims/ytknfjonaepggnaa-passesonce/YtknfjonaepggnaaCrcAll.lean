/- Plain mathematics of the checksum, over natural numbers: a linear step, its inverse, the order of its powers at one number. Plain mathematics: bytes of which one is another one, or two stand in each other's places. The contract of crc.halved. The contract of crc.byteSums. The contracts of crc.More and crc.Of. The contracts of the document's answer for layer 2: manteletref02.More and Of. -/
import Derived.Test.YtknfjonaepggnaaFound
import Derived.Laws.BitsAllLaws
namespace Go.Proofs.Ytknfjonaepggnaa

theorem xor_self' (a b : Nat) : a ^^^ (a ^^^ b) = b := by rw [← Nat.xor_assoc, Nat.xor_self, Nat.zero_xor]
theorem xor_left (a b c : Nat) : a ^^^ (b ^^^ c) = b ^^^ (a ^^^ c) := by rw [← Nat.xor_assoc, Nat.xor_comm a b, Nat.xor_assoc]
theorem xor_zero_eq {a b : Nat} (h : a ^^^ b = 0) : a = b := by
  have := xor_self' a b
  rw [h, Nat.xor_zero] at this
  exact this
theorem xor_inj {a b c : Nat} (h : a ^^^ b = a ^^^ c) : b = c := by rw [← xor_self' a b, h, xor_self']

def half (c : Nat) : Nat := c / 2 ^^^ c % 2 * 3988292384
def half8 (c : Nat) : Nat := half (half (half (half (half (half (half (half c)))))))

theorem half_xor (a b : Nat) : half (a ^^^ b) = half a ^^^ half b := by
  have h : (a ^^^ b) % 2 * 3988292384 = (a % 2 * 3988292384) ^^^ (b % 2 * 3988292384) := by
    have hx := Nat.xor_mod_two_eq_one (a := a) (b := b)
    rcases Nat.mod_two_eq_zero_or_one a with ha | ha <;> rcases Nat.mod_two_eq_zero_or_one b with hb | hb <;>
      rcases Nat.mod_two_eq_zero_or_one (a ^^^ b) with hc | hc <;> simp [ha, hb, hc] at hx ⊢
  unfold half
  rw [Nat.xor_div_two, h, Nat.xor_assoc, Nat.xor_assoc]
  congr 1
  rw [xor_left]

theorem half_lt {c : Nat} (h : c < 4294967296) : half c < 4294967296 := by
  unfold half
  exact Nat.xor_lt_two_pow (n := 32) (by omega) (by have : c % 2 < 2 := Nat.mod_lt _ (by decide); omega)

theorem half_zero {c : Nat} (h : c < 4294967296) (hz : half c = 0) : c = 0 := by
  unfold half at hz
  have := xor_zero_eq hz
  omega

theorem half_inj {a b : Nat} (ha : a < 4294967296) (hb : b < 4294967296) (h : half a = half b) : a = b := by
  apply xor_zero_eq
  apply half_zero (Nat.xor_lt_two_pow (n := 32) ha hb)
  rw [half_xor, h, Nat.xor_self]

theorem half8_xor (a b : Nat) : half8 (a ^^^ b) = half8 a ^^^ half8 b := by
  unfold half8; simp only [half_xor]

theorem half8_lt {c : Nat} (h : c < 4294967296) : half8 c < 4294967296 := by
  unfold half8
  exact half_lt (half_lt (half_lt (half_lt (half_lt (half_lt (half_lt (half_lt h)))))))

theorem half8_inj {a b : Nat} (ha : a < 4294967296) (hb : b < 4294967296) (h : half8 a = half8 b) : a = b := by
  unfold half8 at h
  have h1 := @half_lt
  exact half_inj ha hb (half_inj (h1 ha) (h1 hb) (half_inj (h1 (h1 ha)) (h1 (h1 hb)) (half_inj (h1 (h1 (h1 ha))) (h1 (h1 (h1 hb))) (half_inj (h1 (h1 (h1 (h1 ha)))) (h1 (h1 (h1 (h1 hb)))) (half_inj (h1 (h1 (h1 (h1 (h1 ha))))) (h1 (h1 (h1 (h1 (h1 hb))))) (half_inj (h1 (h1 (h1 (h1 (h1 (h1 ha)))))) (h1 (h1 (h1 (h1 (h1 (h1 hb)))))) (half_inj (h1 (h1 (h1 (h1 (h1 (h1 (h1 ha))))))) (h1 (h1 (h1 (h1 (h1 (h1 (h1 hb))))))) h)))))))

theorem half_even (m : Nat) : half (2 * m) = m := by
  unfold half
  have h1 : 2 * m / 2 = m := by omega
  have h2 : 2 * m % 2 = 0 := by omega
  rw [h1, h2, Nat.zero_mul, Nat.xor_zero]

theorem half8_up (m : Nat) : half8 (m * 256) = m := by
  unfold half8
  have e : m * 256 = 2 * (2 * (2 * (2 * (2 * (2 * (2 * (2 * m))))))) := by omega
  rw [e]
  simp only [half_even]

theorem split_256 (c : Nat) : c = (c / 256 * 256) ^^^ (c % 256) := by
  apply Nat.eq_of_testBit_eq
  intro i
  rw [Nat.testBit_xor, show (256 : Nat) = 2 ^ 8 from rfl, Nat.testBit_mul_two_pow, Nat.testBit_mod_two_pow, Nat.testBit_div_two_pow]
  by_cases h : 8 ≤ i
  · rw [show i - 8 + 8 = i from by omega]
    simp [h, show ¬ i < 8 from by omega]
  · simp [h, show i < 8 from by omega]

/-- One byte more. -/
def stepB (c x : Nat) : Nat := half8 (c ^^^ x)

theorem step_table (c x : Nat) : stepB c x = c / 256 ^^^ half8 (c % 256 ^^^ x) := by
  unfold stepB
  conv => lhs; rw [split_256 c]
  rw [Nat.xor_assoc, half8_xor, half8_up]

theorem step_lt {c x : Nat} (hc : c < 4294967296) (hx : x < 256) : stepB c x < 4294967296 :=
  half8_lt (Nat.xor_lt_two_pow (n := 32) hc (by omega))

theorem step_inj {c d x : Nat} (hc : c < 4294967296) (hd : d < 4294967296) (hx : x < 256) (h : stepB c x = stepB d x) : c = d := by
  have := half8_inj (Nat.xor_lt_two_pow (n := 32) hc (by omega)) (Nat.xor_lt_two_pow (n := 32) hd (by omega)) h
  rw [Nat.xor_comm c, Nat.xor_comm d] at this
  exact xor_inj this

theorem step_byte {c x y : Nat} (hc : c < 4294967296) (hx : x < 256) (hy : y < 256) (h : stepB c x = stepB c y) : x = y :=
  xor_inj (half8_inj (Nat.xor_lt_two_pow (n := 32) hc (by omega)) (Nat.xor_lt_two_pow (n := 32) hc (by omega)) h)

theorem half8_fix : ∀ d : Fin 256, half8 d.val = d.val → d.val = 0 := by decide +kernel

theorem step_swap {c x y : Nat} (hc : c < 4294967296) (hx : x < 256) (hy : y < 256) (h : stepB (stepB c x) y = stepB (stepB c y) x) : x = y := by
  have l1 := step_lt hc hx
  have l2 := step_lt hc hy
  have e : stepB c x ^^^ y = stepB c y ^^^ x := half8_inj (Nat.xor_lt_two_pow (n := 32) l1 (by omega)) (Nat.xor_lt_two_pow (n := 32) l2 (by omega)) h
  unfold stepB at e
  rw [half8_xor, half8_xor, Nat.xor_assoc, Nat.xor_assoc] at e
  have e2 := xor_inj e
  have e3 : half8 (x ^^^ y) = x ^^^ y := by
    rw [half8_xor]
    have : half8 x = (half8 y ^^^ x) ^^^ y := by rw [← e2, Nat.xor_assoc, Nat.xor_self, Nat.xor_zero]
    have e4 : (half8 y ^^^ x ^^^ y) ^^^ half8 y = half8 y ^^^ (half8 y ^^^ (x ^^^ y)) := by ac_rfl
    rw [this, e4, xor_self']
  have h8 : x ^^^ y < 256 := Nat.xor_lt_two_pow (n := 8) hx hy
  exact xor_zero_eq (half8_fix ⟨x ^^^ y, h8⟩ e3)

/-! Sums of bytes. -/
def crcL (c : Nat) (zs : List Int) : Nat := zs.foldl (fun c z => stepB c z.toNat) c
def flip32 (c : Nat) : Nat := 4294967295 - c
def moreL (c : Nat) (zs : List Int) : Nat := flip32 (crcL (flip32 c) zs)
def ofL (zs : List Int) : Nat := moreL 0 zs

theorem flip_lt (c : Nat) : flip32 c < 4294967296 := by unfold flip32; omega
theorem flip_flip {c : Nat} (h : c < 4294967296) : flip32 (flip32 c) = c := by unfold flip32; omega
theorem flip_inj {a b : Nat} (ha : a < 4294967296) (hb : b < 4294967296) (h : flip32 a = flip32 b) : a = b := by unfold flip32 at h; omega
theorem flip_xor {c : Nat} (h : c < 4294967296) : flip32 c = 4294967295 ^^^ c := by
  apply Nat.eq_of_testBit_eq
  intro i
  have h1 : flip32 c = 2 ^ 32 - (c + 1) := by unfold flip32; omega
  rw [h1, Nat.testBit_two_pow_sub_succ h, Nat.testBit_xor, show (4294967295 : Nat) = 2 ^ 32 - 1 from rfl, Nat.testBit_two_pow_sub_one]
  by_cases hi : i < 32
  · simp [hi]
  · have : c.testBit i = false := Nat.testBit_lt_two_pow (Nat.lt_of_lt_of_le h (Nat.pow_le_pow_right (n := 2) (by decide) (by omega : 32 ≤ i)))
    simp [hi, this]

theorem crc_nil (c : Nat) : crcL c [] = c := rfl
theorem crc_cons (c : Nat) (z : Int) (zs : List Int) : crcL c (z :: zs) = crcL (stepB c z.toNat) zs := rfl
theorem crc_append (c : Nat) (xs ys : List Int) : crcL c (xs ++ ys) = crcL (crcL c xs) ys := by simp [crcL, List.foldl_append]

theorem byte_lt {z : Int} (h : 0 ≤ z ∧ z ≤ 255) : z.toNat < 256 := by omega

theorem crc_lt {zs : List Int} (h8 : isBytes zs) : ∀ {c : Nat}, c < 4294967296 → crcL c zs < 4294967296 := by
  induction zs with
  | nil => intro c h; exact h
  | cons z zs ih => intro c h; rw [crc_cons]; exact ih (fun y hy => h8 y (List.mem_cons_of_mem _ hy)) (step_lt h (byte_lt (h8 z List.mem_cons_self)))

theorem more_lt (c : Nat) (zs : List Int) : moreL c zs < 4294967296 := flip_lt _

theorem crc_inj {zs : List Int} (h8 : isBytes zs) : ∀ {c d : Nat}, c < 4294967296 → d < 4294967296 → crcL c zs = crcL d zs → c = d := by
  induction zs with
  | nil => intro c d _ _ h; exact h
  | cons z zs ih =>
    intro c d hc hd h
    rw [crc_cons, crc_cons] at h
    have hz := byte_lt (h8 z List.mem_cons_self)
    exact step_inj hc hd hz (ih (fun y hy => h8 y (List.mem_cons_of_mem _ hy)) (step_lt hc hz) (step_lt hd hz) h)

theorem isBytes.left {xs ys : List Int} (h : isBytes (xs ++ ys)) : isBytes xs := fun z hz => h z (List.mem_append_left _ hz)
theorem isBytes.right {xs ys : List Int} (h : isBytes (xs ++ ys)) : isBytes ys := fun z hz => h z (List.mem_append_right _ hz)
theorem isBytes.tail {z : Int} {zs : List Int} (h : isBytes (z :: zs)) : isBytes zs := fun y hy => h y (List.mem_cons_of_mem _ hy)
theorem isBytes.take {xs : List Int} (h : isBytes xs) (n : Nat) : isBytes (xs.take n) := fun z hz => h z (List.mem_of_mem_take hz)
theorem isBytes.drop {xs : List Int} (h : isBytes xs) (n : Nat) : isBytes (xs.drop n) := fun z hz => h z (List.mem_of_mem_drop hz)

/-- Two parts. -/
theorem of_parts {xs ys : List Int} (h8 : isBytes xs) : moreL (ofL xs) ys = ofL (xs ++ ys) := by
  unfold ofL moreL
  rw [crc_append, flip_flip (crc_lt h8 (flip_lt 0))]
theorem more_nil {c : Nat} (h : c < 4294967296) : moreL c [] = c := by unfold moreL; rw [crc_nil, flip_flip h]

/-- One byte that is another one. -/
theorem of_turned {xs ys : List Int} {x y : Int} (h8 : isBytes (xs ++ x :: ys)) (hy : 0 ≤ y ∧ y ≤ 255) (h : ofL (xs ++ y :: ys) = ofL (xs ++ x :: ys)) : y = x := by
  have hx : 0 ≤ x ∧ x ≤ 255 := h8 x (by simp)
  have hs := crc_lt h8.left (flip_lt 0)
  have l1 := step_lt hs (byte_lt hx)
  have l2 := step_lt hs (byte_lt hy)
  have h := flip_inj (by rw [crc_append, crc_cons]; exact crc_lt h8.right.tail l2) (by rw [crc_append, crc_cons]; exact crc_lt h8.right.tail l1) h
  rw [crc_append, crc_append, crc_cons, crc_cons] at h
  have := step_byte hs (byte_lt hy) (byte_lt hx) (crc_inj h8.right.tail l2 l1 h)
  omega

/-- Two bytes that change places. -/
theorem of_swapped {xs ys : List Int} {x y : Int} (h8 : isBytes (xs ++ x :: y :: ys)) (h : ofL (xs ++ y :: x :: ys) = ofL (xs ++ x :: y :: ys)) : x = y := by
  have hx : 0 ≤ x ∧ x ≤ 255 := h8 x (by simp)
  have hy : 0 ≤ y ∧ y ≤ 255 := h8 y (by simp)
  have hs := crc_lt h8.left (flip_lt 0)
  have l1 := step_lt (step_lt hs (byte_lt hx)) (byte_lt hy)
  have l2 := step_lt (step_lt hs (byte_lt hy)) (byte_lt hx)
  have h := flip_inj (by rw [crc_append, crc_cons, crc_cons]; exact crc_lt h8.right.tail.tail l2) (by rw [crc_append, crc_cons, crc_cons]; exact crc_lt h8.right.tail.tail l1) h
  simp only [crc_append, crc_cons] at h
  have := step_swap hs (byte_lt hy) (byte_lt hx) (crc_inj h8.right.tail.tail l2 l1 h)
  omega

/-- Three texts of one length. -/
def xor3 : List Int → List Int → List Int → List Int
  | a :: l, b :: bs, c :: cs => ((a.toNat ^^^ b.toNat ^^^ c.toNat : Nat) : Int) :: xor3 l bs cs
  | _, _, _ => []

theorem crc_xor3 : ∀ (l bs cs : List Int) (s t u : Nat), l.length = bs.length → bs.length = cs.length → crcL (s ^^^ t ^^^ u) (xor3 l bs cs) = crcL s l ^^^ crcL t bs ^^^ crcL u cs := by
  intro l
  induction l with
  | nil =>
    intro bs cs s t u h1 h2
    obtain rfl : bs = [] := List.eq_nil_of_length_eq_zero h1.symm
    obtain rfl : cs = [] := List.eq_nil_of_length_eq_zero h2.symm
    rfl
  | cons a l ih =>
    intro bs cs s t u h1 h2
    cases bs with
    | nil => simp at h1
    | cons b bs =>
      cases cs with
      | nil => simp at h2
      | cons c cs =>
        simp only [xor3, crc_cons, Int.toNat_natCast]
        rw [← ih bs cs _ _ _ (by simpa using h1) (by simpa using h2)]
        congr 1
        unfold stepB
        rw [← half8_xor, ← half8_xor]
        congr 1
        ac_rfl

theorem of_linear {l bs cs : List Int} (h1 : l.length = bs.length) (h2 : bs.length = cs.length) (ha : isBytes l) (hb : isBytes bs) (hc : isBytes cs) (hx : isBytes (xor3 l bs cs)) :
    ofL (xor3 l bs cs) = ofL l ^^^ ofL bs ^^^ ofL cs := by
  unfold ofL moreL
  have f := flip_lt 0
  rw [flip_xor (crc_lt hx f), flip_xor (crc_lt ha f), flip_xor (crc_lt hb f), flip_xor (crc_lt hc f)]
  have e : flip32 0 = flip32 0 ^^^ flip32 0 ^^^ flip32 0 := by rw [Nat.xor_self, Nat.zero_xor]
  conv => lhs; rw [e]
  rw [crc_xor3 l bs cs _ _ _ h1 h2]
  have : ∀ A B C F : Nat, F ^^^ (A ^^^ B ^^^ C) = (F ^^^ A) ^^^ (F ^^^ B) ^^^ (F ^^^ C) := by
    intro A B C F
    have : (F ^^^ A) ^^^ (F ^^^ B) ^^^ (F ^^^ C) = F ^^^ (F ^^^ (F ^^^ (A ^^^ (B ^^^ C)))) := by ac_rfl
    rw [this, xor_self']; ac_rfl
  exact this _ _ _ _

/-! Bytes 0. -/
def check : Nat → Nat → Bool
  | 0, _ => true
  | n + 1, s => (!(Nat.beq (half8 s) 4294967295)) && check n (half8 s)
set_option maxRecDepth 1000000 in
theorem check_all : check 5000 4294967295 = true := by decide +kernel

def iter8 : Nat → Nat → Nat
  | 0, s => s
  | n + 1, s => iter8 n (half8 s)

theorem iter8_ne : ∀ (N : Nat) (s : Nat), check N s = true → ∀ n, n < N → iter8 (n + 1) s ≠ 4294967295 := by
  intro N
  induction N with
  | zero => intro s _ n h; omega
  | succ N ih =>
    intro s h n hn
    simp only [check, Bool.and_eq_true, Bool.not_eq_true'] at h
    cases n with
    | zero =>
      intro he
      have : half8 s = 4294967295 := he
      rw [this] at h
      exact absurd h.1 (by decide)
    | succ n =>
      exact ih (half8 s) h.2 n (by omega)

theorem iter8_lt : ∀ (n s : Nat), s < 4294967296 → iter8 n s < 4294967296 := by
  intro n
  induction n with
  | zero => intro s h; exact h
  | succ n ih => intro s h; exact ih _ (half8_lt h)

theorem iter8_add : ∀ (n m s : Nat), iter8 (n + m) s = iter8 n (iter8 m s) := by
  intro n m
  induction m with
  | zero => intro s; rfl
  | succ m ih => intro s; exact ih _

theorem iter8_inj : ∀ (n s t : Nat), s < 4294967296 → t < 4294967296 → iter8 n s = iter8 n t → s = t := by
  intro n
  induction n with
  | zero => intro s t _ _ h; exact h
  | succ n ih => intro s t hs ht h; exact half8_inj hs ht (ih _ _ (half8_lt hs) (half8_lt ht) h)

theorem crc_zeros : ∀ (n s : Nat), crcL s (List.replicate n 0) = iter8 n s := by
  intro n
  induction n with
  | zero => intro s; rfl
  | succ n ih =>
    intro s
    rw [List.replicate_succ, crc_cons, ih]
    simp [stepB, iter8]

theorem zeros_lt {a b : Nat} (hab : a < b) (hb : b < 5000) : ofL (List.replicate a 0) ≠ ofL (List.replicate b 0) := by
  intro h
  unfold ofL moreL at h
  rw [crc_zeros, crc_zeros] at h
  have f := flip_lt 0
  have h := flip_inj (iter8_lt _ _ f) (iter8_lt _ _ f) h
  rw [show b = a + (b - a - 1 + 1) from by omega, iter8_add] at h
  have h := iter8_inj a _ _ f (iter8_lt _ _ f) h
  exact iter8_ne 5000 4294967295 check_all (b - a - 1) (by omega) h.symm

theorem zeros_iff {a b : Nat} (ha : a < 5000) (hb : b < 5000) : ofL (List.replicate a 0) = ofL (List.replicate b 0) ↔ a = b := by
  constructor
  · intro h
    rcases Nat.lt_trichotomy a b with hl | hl | hl
    · exact absurd h (zeros_lt hl hb)
    · exact hl
    · exact absurd h.symm (zeros_lt hl ha)
  · intro h; rw [h]
end Go.Proofs.Ytknfjonaepggnaa

namespace Go.Proofs.Ytknfjonaepggnaa

theorem cut_at (zs : List Int) (k : Nat) (h : k < zs.length) : zs = zs.take k ++ zs.getD k 0 :: zs.drop (k + 1) := by
  rw [← drop_at zs k h, List.take_append_drop]

theorem set_at (zs : List Int) (k : Nat) (y : Int) (h : k < zs.length) : zs.set k y = zs.take k ++ y :: zs.drop (k + 1) := by
  rw [List.set_eq_take_append_cons_drop, if_pos h]

theorem turned_set {zs : List Int} {k : Nat} {y : Int} (h8 : isBytes zs) (h : k < zs.length) (hy : 0 ≤ y ∧ y ≤ 255) (hne : y ≠ zs.getD k 0) : ofL (zs.set k y) ≠ ofL zs := by
  intro he
  rw [set_at zs k y h] at he
  conv at he => rhs; rw [cut_at zs k h]
  exact hne (of_turned (by rw [← cut_at zs k h]; exact h8) hy he)

theorem swap_list (zs : List Int) (k : Nat) (h : k + 1 < zs.length) :
    (zs.set k (zs.getD (k + 1) 0)).set (k + 1) (zs.getD k 0) = zs.take k ++ zs.getD (k + 1) 0 :: zs.getD k 0 :: zs.drop (k + 2) ∧ zs = zs.take k ++ zs.getD k 0 :: zs.getD (k + 1) 0 :: zs.drop (k + 2) := by
  have e2 : zs = zs.take k ++ zs.getD k 0 :: zs.getD (k + 1) 0 :: zs.drop (k + 2) := by
    rw [← drop_at zs (k + 1) h, ← drop_at zs k (by omega), List.take_append_drop]
  refine ⟨?_, e2⟩
  generalize zs.getD k 0 = x at *
  generalize zs.getD (k + 1) 0 = y at *
  have hl : (zs.take k).length = k := by simp; omega
  conv => lhs; rw [e2]
  generalize zs.take k = p at *
  generalize zs.drop (k + 2) = q at *
  subst hl
  simp

theorem swap_ne {zs : List Int} {k : Nat} (h8 : isBytes zs) (h : k + 1 < zs.length) (hne : zs.getD k 0 ≠ zs.getD (k + 1) 0) : ofL ((zs.set k (zs.getD (k + 1) 0)).set (k + 1) (zs.getD k 0)) ≠ ofL zs := by
  obtain ⟨e1, e2⟩ := swap_list zs k h
  intro he
  rw [e1] at he
  conv at he => rhs; rw [e2]
  exact hne (of_swapped (by rw [← e2]; exact h8) he)

theorem swap_eq {zs : List Int} {k : Nat} (h : k + 1 < zs.length) (he : zs.getD k 0 = zs.getD (k + 1) 0) : (zs.set k (zs.getD (k + 1) 0)).set (k + 1) (zs.getD k 0) = zs := by
  obtain ⟨e1, e2⟩ := swap_list zs k h
  rw [e1]
  conv => rhs; rw [e2]
  rw [he]

theorem isBytes.set {zs : List Int} {k : Nat} {y : Int} (h8 : isBytes zs) (hy : 0 ≤ y ∧ y ≤ 255) : isBytes (zs.set k y) := fun z hz => by
  rcases List.mem_or_eq_of_mem_set hz with h | h
  · exact h8 z h
  · rw [h]; exact hy

theorem xor3_take : ∀ (j : Nat) (l bs cs : List Int), j < l.length → j < bs.length → j < cs.length →
    xor3 (l.take (j + 1)) (bs.take (j + 1)) (cs.take (j + 1)) = xor3 (l.take j) (bs.take j) (cs.take j) ++ [(((l.getD j 0).toNat ^^^ (bs.getD j 0).toNat ^^^ (cs.getD j 0).toNat : Nat) : Int)]
  | j, [], _, _, h, _, _ => by simp at h
  | j, _ :: _, [], _, _, h, _ => by simp at h
  | j, _ :: _, _ :: _, [], _, _, h => by simp at h
  | 0, a :: l, b :: bs, c :: cs, _, _, _ => by simp [xor3]
  | j + 1, a :: l, b :: bs, c :: cs, h1, h2, h3 => by
    have := xor3_take j l bs cs (by simpa using h1) (by simpa using h2) (by simpa using h3)
    simp only [List.take_succ_cons, xor3, List.getD_cons_succ, List.cons_append, this]

theorem xor3_bytes : ∀ (l bs cs : List Int), isBytes l → isBytes bs → isBytes cs → isBytes (xor3 l bs cs)
  | [], _, _, _, _, _ => fun z hz => by simp [xor3] at hz
  | _ :: _, [], _, _, _, _ => fun z hz => by simp [xor3] at hz
  | _ :: _, _ :: _, [], _, _, _ => fun z hz => by simp [xor3] at hz
  | a :: l, b :: bs, c :: cs, h1, h2, h3 => fun z hz => by
    simp only [xor3, List.mem_cons] at hz
    rcases hz with rfl | hz
    · have e1 := byte_lt (h1 a List.mem_cons_self)
      have e2 := byte_lt (h2 b List.mem_cons_self)
      have e3 := byte_lt (h3 c List.mem_cons_self)
      have := Nat.xor_lt_two_pow (n := 8) (Nat.xor_lt_two_pow (n := 8) e1 e2) e3
      omega
    · exact xor3_bytes l bs cs h1.tail h2.tail h3.tail z hz

theorem turn_ne (x y : Nat) : x ^^^ (y ||| 1) ≠ x := by
  intro h
  have h1 : x ^^^ (y ||| 1) = x ^^^ 0 := by rw [h, Nat.xor_zero]
  have h2 := xor_inj h1
  have h3 : 1 ≤ y ||| 1 := Nat.right_le_or
  omega
end Go.Proofs.Ytknfjonaepggnaa

namespace Go.Proofs.Ytknfjonaepggnaa
open Go.RowKit

theorem half_odd {c : Nat} (h : c % 2 = 1) : half c = c / 2 ^^^ 3988292384 := by unfold half; rw [h, Nat.one_mul]
theorem half_ev {c : Nat} (h : c % 2 = 0) : half c = c / 2 := by unfold half; rw [h, Nat.zero_mul, Nat.xor_zero]

theorem xor_poly (c : Nat) (h : c < 4294967296) : bits BinOp.xor IntKind.u32 ((c : Int) / 2) 3988292384 = ((c / 2 ^^^ 3988292384 : Nat) : Int) := by
  have := u32_xor_nat (c / 2) 3988292384 (by omega) (by omega)
  simpa using this

set_option maxRecDepth 100000 in
set_option maxHeartbeats 400000 in
theorem halved_any (c : Nat) (w : World) (h : c < 4294967296) :
    Calls Try.prog 73 #[.int .u32 c] w fun e w' => e = .returned (.int .u32 (half c : Nat)) ∧ w' = w := by
  have hx := xor_poly c h
  have hc : (c : Int) ≤ 4294967295 := by omega
  rcases Nat.mod_two_eq_zero_or_one c with h2 | h2
  · have e : Hid _ := half_ev h2
    have h2' : (c : Int) % 2 = 0 := by omega
    clear h2
    go_enter Try.func73, Try.ntmps73
    go_wp2
    go_ret
    exact ⟨by rw [e.out]; simp, rfl⟩
  · have e : Hid _ := half_odd h2
    have h2' : (c : Int) % 2 = 1 := by omega
    clear h2
    go_enter Try.func73, Try.ntmps73
    go_wp2
    go_ret
    exact ⟨by rw [e.out]; rfl, rfl⟩
#print axioms halved_any
end Go.Proofs.Ytknfjonaepggnaa

namespace Go.Proofs.Ytknfjonaepggnaa
open Go.RowKit
set_option linter.unusedVariables false

def inner (bit c : Nat) : Nat → List Nat → List Nat
  | 0, s => s
  | j + 1, s => (inner bit c j s).set (2 * bit * j + bit) ((inner bit c j s).getD (2 * bit * j) 0 ^^^ c)
def halfN : Nat → Nat
  | 0 => 1
  | k + 1 => half (halfN k)
def stK : Nat → List Nat
  | 0 => List.replicate 256 0
  | k + 1 => inner (2 ^ (7 - k)) (halfN (k + 1)) (2 ^ k) (stK k)
def table : List Nat := (List.range 256).map half8

theorem stK_all : stK 8 = table := by decide +kernel

def all32 (s : List Nat) : Prop := ∀ x ∈ s, x < 4294967296
theorem all32.get {s : List Nat} (h : all32 s) (i : Nat) : s.getD i 0 < 4294967296 := by
  by_cases hi : i < s.length
  · simp only [List.getD, List.getElem?_eq_getElem hi, Option.getD_some]; exact h _ (List.getElem_mem hi)
  · simp [List.getD, List.getElem?_eq_none (Nat.le_of_not_lt hi)]
theorem inner_ok (bit c : Nat) (s : List Nat) (hc : c < 4294967296) (h : s.length = 256 ∧ all32 s) : ∀ j, (inner bit c j s).length = 256 ∧ all32 (inner bit c j s) := by
  intro j
  induction j with
  | zero => exact h
  | succ j ih =>
    refine ⟨by simp [inner, ih.1], fun x hx => ?_⟩
    rcases List.mem_or_eq_of_mem_set hx with hx | hx
    · exact ih.2 x hx
    · rw [hx]; exact Nat.xor_lt_two_pow (n := 32) (ih.2.get _) hc
theorem halfN_lt (k : Nat) : halfN k < 4294967296 := by
  induction k with
  | zero => decide
  | succ k ih => exact half_lt ih
theorem stK_ok (k : Nat) : (stK k).length = 256 ∧ all32 (stK k) := by
  induction k with
  | zero => exact ⟨List.length_replicate, fun x hx => by rw [List.eq_of_mem_replicate hx]; decide⟩
  | succ k ih => exact inner_ok _ _ _ (halfN_lt _) ih _

def cellsL (s : List Nat) : List Value := s.map (fun (x : Nat) => Value.int .u32 (x : Int))
def cellsOf (s : List Nat) : Array Value := (cellsL s).toArray

theorem cellsOf_get (s : List Nat) (i : Nat) (h : i < s.length) : (cellsOf s)[i]? = some (.int .u32 (s.getD i 0 : Nat)) := by
  simp [cellsOf, cellsL, List.getD, List.getElem?_eq_getElem h]
theorem cellsOf_set (s : List Nat) (i x : Nat) : (cellsOf s).setIfInBounds i (.int .u32 (x : Int)) = cellsOf (s.set i x) := by
  simp [cellsOf, cellsL, List.map_set]
theorem cellsOf_size (s : List Nat) : (cellsOf s).size = s.length := by simp [cellsOf, cellsL]
theorem cellsOf_one (s : List Nat) : (cellsOf s).all (·.oneCell') = true := by
  rw [Array.all_eq_true_iff_forall_mem]
  intro v hv
  simp [cellsOf, cellsL] at hv
  obtain ⟨x, _, rfl⟩ := hv
  rfl

theorem Try.info121 : (Try.prog.info? 121).map (fun i => (i.zero, i.size)) = some (some (.agg (cellsOf (stK 0))), 256) := by kernel_rfl

theorem inner_next {B n j : Nat} (h : 2 * B * n = 256) (hB : 1 ≤ B) : (j < n → 2 * B * j + 2 * B ≤ 256) ∧ (2 * B * j < 256 → j < n) ∧ (j ≤ n → 2 * B * j ≤ 256) := by
  refine ⟨fun hj => ?_, fun hj => ?_, fun hj => ?_⟩
  · have := Nat.mul_le_mul_left (2 * B) (show j + 1 ≤ n from hj)
    rw [Nat.mul_succ] at this; omega
  · apply Nat.lt_of_not_le
    intro hn
    have := Nat.mul_le_mul_left (2 * B) hn
    omega
  · have := Nat.mul_le_mul_left (2 * B) hj
    omega

theorem bit_of (k : Nat) (h : k < 8) : 2 * 2 ^ (7 - k) * 2 ^ k = 256 ∧ 1 ≤ 2 ^ (7 - k) ∧ 2 ^ (7 - k) ≤ 128 ∧ 128 / 2 ^ k = 2 ^ (7 - k) ∧ 2 ^ (7 - k) / 2 = 128 / 2 ^ (k + 1) := by
  match k, h with
  | 0, _ => decide
  | 1, _ => decide
  | 2, _ => decide
  | 3, _ => decide
  | 4, _ => decide
  | 5, _ => decide
  | 6, _ => decide
  | 7, _ => decide

set_option maxRecDepth 100000 in
set_option maxHeartbeats 4000000 in
theorem sums_any (w : World) :
    Calls Try.prog 72 #[] w fun e w' => e = .returned (.agg (cellsOf table)) ∧ Below w.heap.size w w' := by
  obtain ⟨hz, hi⟩ := zero_of_info Try.info121
  go_enter Try.func72, Try.ntmps72
  go_wp2_with fail
  go_loopw [2, 3] (fun c b wr => ∃ k B : Nat, k ≤ 8 ∧ Hid (B = 128 / 2 ^ k) ∧ c = .int .u32 (halfN k : Nat) ∧ b = .int .i64 (B : Nat) ∧ wr = (w.alloc (.cells (cellsOf (stK 0)) 121)).alloc (.cells (cellsOf (stK k)) 121)) (fun _ b _ => (intOf b).toNat)
  case atStart => exact ⟨0, 128, by omega, rfl, rfl, rfl, rfl⟩
  case round =>
    obtain ⟨k, B, hk, hB, rfl, rfl, rfl⟩ := hrel
    by_cases h8 : k = 8
    · subst h8
      obtain rfl : B = 0 := hB.out
      rw [stK_all]
      have hls : (cellsOf table).size = 256 := by rw [← stK_all, cellsOf_size, (stK_ok 8).1]
      have hl0 : (cellsOf (stK 0)).size = 256 := by rw [cellsOf_size, (stK_ok 0).1]
      have Hls : Hid _ := hls
      have Hl0 : Hid _ := hl0
      have Hi : Hid _ := hi
      clear hls hl0 hi
      have HR : Hid (((w.alloc (.cells (cellsOf (stK 0)) 121)).alloc (.cells (cellsOf table) 121)).rangeAt (w.heap.size + 1) 0 (cellsL table)) := by
        unfold Hid
        have := range_new (w.alloc (.cells (cellsOf (stK 0)) 121)) (cellsOf table) 121
        simpa [cellsOf] using this
      have HT : Hid (((w.alloc (.cells (cellsOf (stK 0)) 121)).alloc (.cells (cellsOf table) 121)).there w.heap.size 0 (cellsOf table).size) := by
        unfold Hid
        have := World.there_alloc (there_new w (cellsOf (stK 0)) 121) (.cells (cellsOf table) 121)
        rw [Hls.out, ← Hl0.out]
        exact this
      have HI : Hid ((Try.prog.info? 121).map (·.size) = some (cellsL table).length) := by
        unfold Hid
        rw [Hi.out, ← Hls.out]; simp [cellsOf]
      have HI2 : Hid ((Try.prog.info? 121).map (·.size) = some (cellsOf table).size) := by
        unfold Hid
        rw [Hi.out, ← Hls.out]
      have hb : Below w.heap.size w (((w.alloc (.cells (cellsOf (stK 0)) 121)).alloc (.cells (cellsOf table) 121)).setCells w.heap.size 0 (cellsL table)) :=
        Below.setCells' _ (Nat.le_refl _) _ _ _ (((Below.refl _ _).alloc (Nat.le_refl _) _).alloc (by simp) _)
      have hld := run_loadVar_mid (P := Try.prog) (((w.alloc (.cells (cellsOf (stK 0)) 121)).alloc (.cells (cellsOf table) 121)).setCells w.heap.size 0 (cellsL table)) w.heap.size 0 121 (cellsL table) _
        (World.rangeAt_setCells_same _ _ _ _ (by simpa [cellsOf] using HT.out)) Try.underlying121 rfl HI.out
      have Hld : Hid _ := hld
      clear hld
      go_wp2_with (first | (refine wpList_load_mid rfl 121 (.tmp 1) rfl _ 0 rfl (cellsL table) _ HR.out Try.underlying121 rfl HI.out ?_) | (refine wpList_store_mid rfl 121 (.tmp 0) (.tmp 26) rfl _ 0 (cellsOf table) rfl rfl HT.out HI2.out (cellsOf_one _) ?_))
      (try simp only [Exit.inBlock, Exit.then])
      refine bodyPost_ret (v := .agg (cellsOf table)) ?_ rfl ⟨rfl, hb⟩
      rw [results_cell_one rfl]
      simp [asAddr, Result.andThen]
      exact Hld.out
    · obtain ⟨b1, b2, b3, b4, b5⟩ := bit_of k (by omega)
      have hB1 : B = 2 ^ (7 - k) := by rw [hB.out, b4]
      rw [← hB1] at b1 b2 b3 b4 b5
      have H1 : Hid _ := b1
      have H5 : Hid _ := b5
      have HB : Hid _ := hB1
      clear b1 b4 b5 hB1
      have hlt := halfN_lt k
      have b2' : (1 : Int) ≤ (B : Int) := by omega
      have b3' : (B : Int) ≤ 128 := by omega
      go_wp2_with fail
      refine (halved_any (halfN k) _ hlt).mono ?_
      rintro e wx ⟨rfl, rfl⟩
      go_wp2_with fail
      have hlt2 : half (halfN k) < 4294967296 := half_lt hlt
      have hS := fun j => inner_ok B (half (halfN k)) (stK k) hlt2 (stK_ok k) j
      have HS : Hid _ := hS
      clear hS
      go_loopw [4] (fun i wr => ∃ j I : Nat, j ≤ 2 ^ k ∧ Hid (I = 2 * B * j) ∧ i = .int .i64 (I : Nat) ∧ wr = (w.alloc (.cells (cellsOf (stK 0)) 121)).alloc (.cells (cellsOf (inner B (half (halfN k)) j (stK k))) 121)) (fun i _ => 256 - (intOf i).toNat)
      case atStart => exact ⟨0, 0, Nat.zero_le _, rfl, rfl, rfl⟩
      case round =>
        obtain ⟨j, I, hj, hI, rfl, rfl⟩ := hrel
        obtain ⟨n1, n2, n3⟩ := inner_next (j := j) H1.out b2
        rw [← hI.out] at n1 n2 n3
        by_cases hjn : j < 2 ^ k
        · have n4 := n1 hjn
          have n5 : (I : Int) + 2 * (B : Int) ≤ 256 := by omega
          have n6 : (I : Int) < 256 := by omega
          have n7 : (I : Int) + (B : Int) ≤ 255 := by omega
          obtain ⟨S, hSe⟩ : ∃ S, S = inner B (half (halfN k)) j (stK k) := ⟨_, rfl⟩
          have hSn : inner B (half (halfN k)) (j + 1) (stK k) = S.set (I + B) (S.getD I 0 ^^^ half (halfN k)) := by rw [inner, ← hSe, ← hI.out]
          have HSn : Hid _ := hSn
          have hok := HS.out j
          rw [← hSe] at hok ⊢
          have hc1 := cellsOf_get S I (by omega)
          have hc2 := cellsOf_get S (I + B) (by omega)
          have hsz := cellsOf_size S
          rw [hok.1] at hsz
          have hx := u32_xor_nat (S.getD I 0) (half (halfN k)) (hok.2.get I) hlt2
          generalize S.getD I 0 = x at hc1 hx HSn
          clear n1 n2 n3 hSe hSn hok
          go_wp2_with fail
          go_roundw
          case rel =>
            refine ⟨j + 1, I + 2 * B, by omega, ?_, by go_num, ?_⟩
            · rw [hI.out]; exact (Nat.mul_succ _ _).symm
            · rw [HSn.out, ← cellsOf_set]
          case measure => simp [intOf]; omega
        · have n8 : (256 : Int) ≤ (I : Int) := by
            have := hI.out
            obtain rfl : j = 2 ^ k := by omega
            have := H1.out
            omega
          have HSe : Hid (inner B (half (halfN k)) j (stK k) = stK (k + 1)) := by
            obtain rfl : j = 2 ^ k := by omega
            unfold Hid
            rw [stK, halfN, ← HB.out]
          have H6 : Hid (half (halfN k) = halfN (k + 1)) := rfl
          have hk8 : k + 1 ≤ 8 := by omega
          clear n1 n2 n3 hjn
          go_wp2_with fail
          go_roundw
          case rel => exact ⟨k + 1, B / 2, hk8, H5.out, by rw [H6.out], by go_num, by rw [HSe.out]⟩
          case measure => simp [intOf]; omega
#print axioms sums_any
end Go.Proofs.Ytknfjonaepggnaa

namespace Go.Proofs.Ytknfjonaepggnaa
open Go.RowKit
set_option linter.unusedVariables false

theorem zero33 : ∃ Z : Array Value, (∀ w, (zeroValue 121).run Try.prog w = .ok (.agg Z) w) ∧ Hid (Z.size = 256) ∧ Hid ((Try.prog.info? 121).map (·.size) = some 256) := by
  obtain ⟨hz, hi⟩ := zero_of_info Try.info121
  exact ⟨_, hz, (by rw [cellsOf_size, (stK_ok 0).1] : (cellsOf (stK 0)).size = 256), hi⟩

theorem sums_any2 (w : World) :
    Calls Try.prog 72 #[] w fun e w' => ∃ C : Array Value, e = .returned (.agg C) ∧ Hid (C.size = 256) ∧ Hid (C.all (·.oneCell') = true) ∧ Hid (∀ v : Nat, v < 256 → C.toList[v]? = some (.int .u32 (half8 v : Nat))) ∧ Below w.heap.size w w' := by
  refine (sums_any w).mono ?_
  rintro e w' ⟨rfl, hb⟩
  refine ⟨cellsOf table, rfl, ?_, cellsOf_one _, ?_, hb⟩
  · unfold Hid; rw [cellsOf_size]; simp [table]
  · intro v hv; simp [cellsOf, cellsL, table, hv]

theorem not_u32 (c : Nat) (h : c < 4294967296) : bits BinOp.xor IntKind.u32 IntKind.u32.max (c : Int) = ((flip32 c : Nat) : Int) := by
  have := u32_xor_nat 4294967295 c (by decide) h
  rw [← flip_xor h] at this
  exact this

set_option maxRecDepth 100000 in
set_option maxHeartbeats 4000000 in
theorem more_any (c : Nat) (ao : Option Addr) (len cap : Nat) (zs : List Int) (w : World) (hc0 : c < 4294967296) (hr : Reads w ao len cap (zs.map (.int .u8))) (h8 : isBytes zs) :
    Calls Try.prog 71 #[.int .u32 c, .slice ao len cap] w fun e w' => e = .returned (.int .u32 (moreL c zs : Nat)) ∧ Below w.heap.size w w' := by
  have Hr : Hid _ := hr
  have hz : zs.length = len := by simpa using hr.length
  have hlen : len ≤ 9223372036854775807 := by have := hr.le; have := hr.most; unfold maxLen at this; omega
  clear hr
  obtain ⟨Z, hz0, HZ, Hi⟩ := zero33
  go_enter Try.func71, Try.ntmps71
  go_wp2_with fail
  refine (sums_any2 w).mono ?_
  rintro e w1 ⟨C, rfl, HC, HO, HV, hb1⟩
  have HT : Hid ((w1.alloc (.cells Z 121)).there w1.heap.size 0 C.size) := by
    unfold Hid
    have := there_new w1 Z 121
    rw [HZ.out] at this
    rw [HC.out]
    exact this
  have HI2 : Hid ((Try.prog.info? 121).map (·.size) = some C.size) := by
    unfold Hid
    rw [Hi.out, HC.out]
  go_wp2_with (refine wpList_store_mid rfl 121 (.tmp 5) (.tmp 8) rfl _ 0 C rfl rfl HT.out HI2.out HO.out ?_)
  have hbW : Below w.heap.size w ((w1.alloc (Obj.cells Z 121)).setCells w1.heap.size 0 C.toList) :=
    Below.setCells' _ hb1.size _ _ _ (hb1.alloc hb1.size _)
  have HR : Hid (((w1.alloc (Obj.cells Z 121)).setCells w1.heap.size 0 C.toList).rangeAt w1.heap.size 0 C.toList) :=
    World.rangeAt_setCells_same _ _ _ _ (by simpa using HT.out)
  generalize ((w1.alloc (Obj.cells Z 121)).setCells w1.heap.size 0 C.toList) = W at hbW HR
  have HG : Hid (∀ v : Nat, v < 256 → W.cell? ⟨w1.heap.size, v, none⟩ = some (.int .u32 (half8 v : Nat))) := fun v hv => by
    have := HR.out v _ (HV.out v hv)
    simpa using this
  have HB : Hid (Reads W ao len cap (zs.map (.int .u8))) := Hr.out.later hbW (Nat.le_refl _)
  rw [not_u32 c hc0]
  have hfl := flip_lt c
  have HM : Hid (moreL c zs = flip32 (crcL (flip32 c) zs)) := rfl
  generalize flip32 c = c1 at hfl HM
  clear HR HT HI2 HO HV Hr hb1 hz0 HZ Hi
  generalize w1.heap.size = g at HG
  go_loop [0, 13] (fun x i => ∃ j s : Nat, j ≤ len ∧ i = .int .i64 j ∧ x = .int .u32 s ∧ s < 4294967296 ∧ Hid (crcL s (zs.drop j) = crcL c1 zs)) (fun _ i => len - (intOf i).toNat)
  case atStart => exact ⟨0, c1, by omega, rfl, rfl, hfl, rfl⟩
  case round =>
    obtain ⟨j, s, hj, rfl, rfl, hs, HS⟩ := hrel
    by_cases hlt : (j : Int) < (len : Int)
    · obtain ⟨x, hx0, hx8⟩ := h8.get j
      obtain ⟨b, off, rfl, hbl, hcell⟩ := HB.out.at (by omega)
      have hcj := hcell j (by omega)
      rw [hx0] at hcj
      clear hcell hbl
      have hx1 := u8_xor_nat (s % 256) x (by omega) (by omega)
      have hv : s % 256 ^^^ x < 256 := Nat.xor_lt_two_pow (n := 8) (by omega) (by omega)
      have hcv := HG.out _ hv
      have hl8 := half8_lt (c := s % 256 ^^^ x) (by omega)
      have hx2 := u32_xor_nat (s / 256) (half8 (s % 256 ^^^ x)) (by omega) hl8
      have HN : Hid (crcL (s / 256 ^^^ half8 (s % 256 ^^^ x)) (zs.drop (j + 1)) = crcL c1 zs) := by
        unfold Hid
        rw [← HS.out, drop_at zs j (by omega), crc_cons, hx0, Int.toNat_natCast, step_table]
      have hn : s / 256 ^^^ half8 (s % 256 ^^^ x) < 4294967296 := Nat.xor_lt_two_pow (n := 32) (by omega) hl8
      generalize s / 256 ^^^ half8 (s % 256 ^^^ x) = s' at hx2 HN hn
      generalize half8 (s % 256 ^^^ x) = y at hcv hx2 hl8
      generalize s % 256 ^^^ x = v at hx1 hcv hv
      have Hx0 : Hid _ := hx0
      clear hx0
      simp only [Int.natCast_ediv, Int.natCast_emod, Int.cast_ofNat_Int] at hx1 hx2
      have hv2 : (v : Int) ≤ 255 := by omega
      have hs2 : (s : Int) ≤ 4294967295 := by omega
      have hx82 : (x : Int) ≤ 255 := by omega
      go_wp2_with fail
      go_round
      case rel => exact ⟨j + 1, s', by omega, by go_num, rfl, hn, HN⟩
      case measure => simp [intOf]; omega
    · have HE : Hid (s = crcL c1 zs) := by
        unfold Hid
        rw [← HS.out, List.drop_eq_nil_of_le (by omega)]; rfl
      have hnot := not_u32 s hs
      go_wp2
      go_ret
      exact ⟨by rw [HM.out, ← HE.out]; rfl, hbW⟩
#print axioms more_any

set_option maxRecDepth 100000 in
theorem of_any (ao : Option Addr) (len cap : Nat) (zs : List Int) (w : World) (hr : Reads w ao len cap (zs.map (.int .u8))) (h8 : isBytes zs) :
    Calls Try.prog 67 #[.slice ao len cap] w fun e w' => e = .returned (.int .u32 (ofL zs : Nat)) ∧ Below w.heap.size w w' := by
  go_enter Try.func67, Try.ntmps67
  go_wp2_with fail
  refine (more_any 0 ao len cap zs w (by decide) hr h8).mono ?_
  rintro e w1 ⟨rfl, hb⟩
  go_wp2
  go_ret
  exact ⟨rfl, hb⟩
#print axioms of_any
end Go.Proofs.Ytknfjonaepggnaa

namespace Go.Proofs.Ytknfjonaepggnaa
open Go.RowKit
set_option linter.unusedVariables false

def iterH : Nat → Nat → Nat
  | 0, s => s
  | n + 1, s => iterH n (half s)

set_option maxRecDepth 100000 in
set_option maxHeartbeats 4000000 in
theorem rmore_any (c : Nat) (ao : Option Addr) (len cap : Nat) (zs : List Int) (w : World) (hc0 : c < 4294967296) (hr : Reads w ao len cap (zs.map (.int .u8))) (h8 : isBytes zs) :
    Calls Try.prog 68 #[.int .u32 c, .slice ao len cap] w fun e w' => e = .returned (.int .u32 (moreL c zs : Nat)) ∧ w' = w := by
  have HB : Hid _ := hr
  have hz : zs.length = len := by simpa using hr.length
  have hlen : len ≤ 9223372036854775807 := by have := hr.le; have := hr.most; unfold maxLen at this; omega
  have hf : (4294967295 : Int) - (c : Int) = ((flip32 c : Nat) : Int) := by unfold flip32; omega
  have hc1 : (c : Int) ≤ 4294967295 := by omega
  clear hr
  have hfl := flip_lt c
  have HM : Hid (moreL c zs = flip32 (crcL (flip32 c) zs)) := rfl
  generalize flip32 c = c1 at hfl HM hf
  go_enter Try.func68, Try.ntmps68
  go_wp2_with fail
  go_loop [0, 5] (fun x i => ∃ j s : Nat, j ≤ len ∧ i = .int .i64 j ∧ x = .int .u32 s ∧ s < 4294967296 ∧ Hid (crcL s (zs.drop j) = crcL c1 zs)) (fun _ i => len - (intOf i).toNat)
  case atStart => exact ⟨0, c1, by omega, rfl, by first | rfl | simp [hf], hfl, rfl⟩
  case round =>
    obtain ⟨j, s, hj, rfl, rfl, hs, HS⟩ := hrel
    by_cases hlt : (j : Int) < (len : Int)
    · obtain ⟨x, hx0, hx8⟩ := h8.get j
      obtain ⟨b, off, rfl, hbl, hcell⟩ := HB.out.at (by omega)
      have hcj := hcell j (by omega)
      rw [hx0] at hcj
      clear hcell hbl
      have hx1 := u32_xor_nat s x (by omega) (by omega)
      have hx2 : s ^^^ x < 4294967296 := Nat.xor_lt_two_pow (n := 32) hs (by omega)
      have HN : Hid (crcL (iterH 8 (s ^^^ x)) (zs.drop (j + 1)) = crcL c1 zs) := by
        unfold Hid
        rw [← HS.out, drop_at zs j (by omega), crc_cons, hx0, Int.toNat_natCast]; rfl
      generalize s ^^^ x = s1 at hx1 HN hx2
      have Hx0 : Hid _ := hx0
      clear hx0
      have hx82 : (x : Int) ≤ 255 := by omega
      go_wp2_with fail
      go_loop [0, 6] (fun y i => ∃ k t : Nat, k ≤ 8 ∧ i = .int .i64 k ∧ y = .int .u32 t ∧ t < 4294967296 ∧ Hid (iterH (8 - k) t = iterH 8 s1)) (fun _ i => 8 - (intOf i).toNat)
      case atStart => exact ⟨0, s1, by omega, rfl, rfl, hx2, rfl⟩
      case round =>
        obtain ⟨k, t, hk, rfl, rfl, ht, HK⟩ := hrel
        have ht1 : (t : Int) ≤ 4294967295 := by omega
        by_cases hk8 : (k : Int) < 8
        · have hp := xor_poly t ht
          have hhl := half_lt ht
          have HK2 : Hid (iterH (8 - (k + 1)) (half t) = iterH 8 s1) := by
            unfold Hid
            rw [← HK.out, show 8 - k = 8 - (k + 1) + 1 from by omega]; rfl
          rcases Nat.mod_two_eq_zero_or_one t with h2 | h2
          · have e : Hid (half t = t / 2) := half_ev h2
            have h2' : (t : Int) % 2 = 0 := by omega
            clear h2
            go_wp2_with fail
            go_round
            case rel => exact ⟨k + 1, half t, by omega, by go_num, by rw [e.out]; simp, hhl, HK2⟩
            case measure => simp [intOf]; omega
          · have e : Hid (half t = t / 2 ^^^ 3988292384) := half_odd h2
            have h2' : (t : Int) % 2 = 1 := by omega
            clear h2
            go_wp2_with fail
            go_round
            case rel => exact ⟨k + 1, half t, by omega, by go_num, by rw [e.out], hhl, HK2⟩
            case measure => simp [intOf]; omega
        · obtain rfl : k = 8 := by omega
          have HT : Hid (t = iterH 8 s1) := HK.out
          go_wp2_with fail
          go_round
          case rel => exact ⟨j + 1, t, by omega, by go_num, rfl, ht, by rw [HT.out]; exact HN.out⟩
          case measure => simp [intOf]; omega
    · have HE : Hid (s = crcL c1 zs) := by
        unfold Hid
        rw [← HS.out, List.drop_eq_nil_of_le (by omega)]; rfl
      have hnot : (4294967295 : Int) - (s : Int) = ((flip32 s : Nat) : Int) := by unfold flip32; omega
      have hs1 : (s : Int) ≤ 4294967295 := by omega
      go_wp2
      go_ret
      exact ⟨by rw [HM.out, ← HE.out]; first | rfl | (simp [← hnot]), rfl⟩
#print axioms rmore_any

set_option maxRecDepth 100000 in
theorem rof_any (ao : Option Addr) (len cap : Nat) (zs : List Int) (w : World) (hr : Reads w ao len cap (zs.map (.int .u8))) (h8 : isBytes zs) :
    Calls Try.prog 60 #[.slice ao len cap] w fun e w' => e = .returned (.int .u32 (ofL zs : Nat)) ∧ w' = w := by
  go_enter Try.func60, Try.ntmps60
  go_wp2_with fail
  refine (rmore_any 0 ao len cap zs w (by decide) hr h8).mono ?_
  rintro e w1 ⟨rfl, rfl⟩
  go_wp2
  go_ret
  exact ⟨rfl, rfl⟩
#print axioms rof_any
end Go.Proofs.Ytknfjonaepggnaa
