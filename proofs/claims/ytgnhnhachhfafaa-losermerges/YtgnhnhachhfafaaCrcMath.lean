/- Plain mathematics of the checksum, over natural numbers: a linear step, its inverse, the order of its powers at one number. -/
import Derived.Test.YtgnhnhachhfafaaBase
namespace Go.Proofs.Ytgnhnhachhfafaa

theorem xor_self' (a b : Nat) : a ^^^ (a ^^^ b) = b := by rw [← Nat.xor_assoc, Nat.xor_self, Nat.zero_xor]
theorem xor_left (a b c : Nat) : a ^^^ (b ^^^ c) = b ^^^ (a ^^^ c) := by rw [← Nat.xor_assoc, Nat.xor_comm a b, Nat.xor_assoc]
theorem xor_zero_eq {a b : Nat} (h : a ^^^ b = 0) : a = b := by
  have := xor_self' a b
  rw [h, Nat.xor_zero] at this
  exact this
theorem xor_inj {a b c : Nat} (h : a ^^^ b = a ^^^ c) : b = c := by rw [← xor_self' a b, h, xor_self']

def half (c : Nat) : Nat := c / 2 ^^^ c % 2 * 3988292384
def half8 (c : Nat) : Nat := half (half (half (half (half (half (half (half c)))))))

theorem half_xor (a b : Nat) : half (a ^^^ b) = half a ^^^ half b := by
  have h : (a ^^^ b) % 2 * 3988292384 = (a % 2 * 3988292384) ^^^ (b % 2 * 3988292384) := by
    have hx := Nat.xor_mod_two_eq_one (a := a) (b := b)
    rcases Nat.mod_two_eq_zero_or_one a with ha | ha <;> rcases Nat.mod_two_eq_zero_or_one b with hb | hb <;>
      rcases Nat.mod_two_eq_zero_or_one (a ^^^ b) with hc | hc <;> simp [ha, hb, hc] at hx ⊢
  unfold half
  rw [Nat.xor_div_two, h, Nat.xor_assoc, Nat.xor_assoc]
  congr 1
  rw [xor_left]

theorem half_lt {c : Nat} (h : c < 4294967296) : half c < 4294967296 := by
  unfold half
  exact Nat.xor_lt_two_pow (n := 32) (by omega) (by have : c % 2 < 2 := Nat.mod_lt _ (by decide); omega)

theorem half_zero {c : Nat} (h : c < 4294967296) (hz : half c = 0) : c = 0 := by
  unfold half at hz
  have := xor_zero_eq hz
  omega

theorem half_inj {a b : Nat} (ha : a < 4294967296) (hb : b < 4294967296) (h : half a = half b) : a = b := by
  apply xor_zero_eq
  apply half_zero (Nat.xor_lt_two_pow (n := 32) ha hb)
  rw [half_xor, h, Nat.xor_self]

theorem half8_xor (a b : Nat) : half8 (a ^^^ b) = half8 a ^^^ half8 b := by
  unfold half8; simp only [half_xor]

theorem half8_lt {c : Nat} (h : c < 4294967296) : half8 c < 4294967296 := by
  unfold half8
  exact half_lt (half_lt (half_lt (half_lt (half_lt (half_lt (half_lt (half_lt h)))))))

theorem half8_inj {a b : Nat} (ha : a < 4294967296) (hb : b < 4294967296) (h : half8 a = half8 b) : a = b := by
  unfold half8 at h
  have h1 := @half_lt
  exact half_inj ha hb (half_inj (h1 ha) (h1 hb) (half_inj (h1 (h1 ha)) (h1 (h1 hb)) (half_inj (h1 (h1 (h1 ha))) (h1 (h1 (h1 hb))) (half_inj (h1 (h1 (h1 (h1 ha)))) (h1 (h1 (h1 (h1 hb)))) (half_inj (h1 (h1 (h1 (h1 (h1 ha))))) (h1 (h1 (h1 (h1 (h1 hb))))) (half_inj (h1 (h1 (h1 (h1 (h1 (h1 ha)))))) (h1 (h1 (h1 (h1 (h1 (h1 hb)))))) (half_inj (h1 (h1 (h1 (h1 (h1 (h1 (h1 ha))))))) (h1 (h1 (h1 (h1 (h1 (h1 (h1 hb))))))) h)))))))

theorem half_even (m : Nat) : half (2 * m) = m := by
  unfold half
  have h1 : 2 * m / 2 = m := by omega
  have h2 : 2 * m % 2 = 0 := by omega
  rw [h1, h2, Nat.zero_mul, Nat.xor_zero]

theorem half8_up (m : Nat) : half8 (m * 256) = m := by
  unfold half8
  have e : m * 256 = 2 * (2 * (2 * (2 * (2 * (2 * (2 * (2 * m))))))) := by omega
  rw [e]
  simp only [half_even]

theorem split_256 (c : Nat) : c = (c / 256 * 256) ^^^ (c % 256) := by
  apply Nat.eq_of_testBit_eq
  intro i
  rw [Nat.testBit_xor, show (256 : Nat) = 2 ^ 8 from rfl, Nat.testBit_mul_two_pow, Nat.testBit_mod_two_pow, Nat.testBit_div_two_pow]
  by_cases h : 8 ≤ i
  · rw [show i - 8 + 8 = i from by omega]
    simp [h, show ¬ i < 8 from by omega]
  · simp [h, show i < 8 from by omega]

/-- One byte more. -/
def stepB (c x : Nat) : Nat := half8 (c ^^^ x)

theorem step_table (c x : Nat) : stepB c x = c / 256 ^^^ half8 (c % 256 ^^^ x) := by
  unfold stepB
  conv => lhs; rw [split_256 c]
  rw [Nat.xor_assoc, half8_xor, half8_up]

theorem step_lt {c x : Nat} (hc : c < 4294967296) (hx : x < 256) : stepB c x < 4294967296 :=
  half8_lt (Nat.xor_lt_two_pow (n := 32) hc (by omega))

theorem step_inj {c d x : Nat} (hc : c < 4294967296) (hd : d < 4294967296) (hx : x < 256) (h : stepB c x = stepB d x) : c = d := by
  have := half8_inj (Nat.xor_lt_two_pow (n := 32) hc (by omega)) (Nat.xor_lt_two_pow (n := 32) hd (by omega)) h
  rw [Nat.xor_comm c, Nat.xor_comm d] at this
  exact xor_inj this

theorem step_byte {c x y : Nat} (hc : c < 4294967296) (hx : x < 256) (hy : y < 256) (h : stepB c x = stepB c y) : x = y :=
  xor_inj (half8_inj (Nat.xor_lt_two_pow (n := 32) hc (by omega)) (Nat.xor_lt_two_pow (n := 32) hc (by omega)) h)

theorem half8_fix : ∀ d : Fin 256, half8 d.val = d.val → d.val = 0 := by decide +kernel

theorem step_swap {c x y : Nat} (hc : c < 4294967296) (hx : x < 256) (hy : y < 256) (h : stepB (stepB c x) y = stepB (stepB c y) x) : x = y := by
  have l1 := step_lt hc hx
  have l2 := step_lt hc hy
  have e : stepB c x ^^^ y = stepB c y ^^^ x := half8_inj (Nat.xor_lt_two_pow (n := 32) l1 (by omega)) (Nat.xor_lt_two_pow (n := 32) l2 (by omega)) h
  unfold stepB at e
  rw [half8_xor, half8_xor, Nat.xor_assoc, Nat.xor_assoc] at e
  have e2 := xor_inj e
  have e3 : half8 (x ^^^ y) = x ^^^ y := by
    rw [half8_xor]
    have : half8 x = (half8 y ^^^ x) ^^^ y := by rw [← e2, Nat.xor_assoc, Nat.xor_self, Nat.xor_zero]
    have e4 : (half8 y ^^^ x ^^^ y) ^^^ half8 y = half8 y ^^^ (half8 y ^^^ (x ^^^ y)) := by ac_rfl
    rw [this, e4, xor_self']
  have h8 : x ^^^ y < 256 := Nat.xor_lt_two_pow (n := 8) hx hy
  exact xor_zero_eq (half8_fix ⟨x ^^^ y, h8⟩ e3)

/-! Sums of bytes. -/
def crcL (c : Nat) (zs : List Int) : Nat := zs.foldl (fun c z => stepB c z.toNat) c
def flip32 (c : Nat) : Nat := 4294967295 - c
def moreL (c : Nat) (zs : List Int) : Nat := flip32 (crcL (flip32 c) zs)
def ofL (zs : List Int) : Nat := moreL 0 zs

theorem flip_lt (c : Nat) : flip32 c < 4294967296 := by unfold flip32; omega
theorem flip_flip {c : Nat} (h : c < 4294967296) : flip32 (flip32 c) = c := by unfold flip32; omega
theorem flip_inj {a b : Nat} (ha : a < 4294967296) (hb : b < 4294967296) (h : flip32 a = flip32 b) : a = b := by unfold flip32 at h; omega
theorem flip_xor {c : Nat} (h : c < 4294967296) : flip32 c = 4294967295 ^^^ c := by
  apply Nat.eq_of_testBit_eq
  intro i
  have h1 : flip32 c = 2 ^ 32 - (c + 1) := by unfold flip32; omega
  rw [h1, Nat.testBit_two_pow_sub_succ h, Nat.testBit_xor, show (4294967295 : Nat) = 2 ^ 32 - 1 from rfl, Nat.testBit_two_pow_sub_one]
  by_cases hi : i < 32
  · simp [hi]
  · have : c.testBit i = false := Nat.testBit_lt_two_pow (Nat.lt_of_lt_of_le h (Nat.pow_le_pow_right (n := 2) (by decide) (by omega : 32 ≤ i)))
    simp [hi, this]

theorem crc_nil (c : Nat) : crcL c [] = c := rfl
theorem crc_cons (c : Nat) (z : Int) (zs : List Int) : crcL c (z :: zs) = crcL (stepB c z.toNat) zs := rfl
theorem crc_append (c : Nat) (xs ys : List Int) : crcL c (xs ++ ys) = crcL (crcL c xs) ys := by simp [crcL, List.foldl_append]

theorem byte_lt {z : Int} (h : 0 ≤ z ∧ z ≤ 255) : z.toNat < 256 := by omega

theorem crc_lt {zs : List Int} (h8 : isBytes zs) : ∀ {c : Nat}, c < 4294967296 → crcL c zs < 4294967296 := by
  induction zs with
  | nil => intro c h; exact h
  | cons z zs ih => intro c h; rw [crc_cons]; exact ih (fun y hy => h8 y (List.mem_cons_of_mem _ hy)) (step_lt h (byte_lt (h8 z List.mem_cons_self)))

theorem more_lt (c : Nat) (zs : List Int) : moreL c zs < 4294967296 := flip_lt _

theorem crc_inj {zs : List Int} (h8 : isBytes zs) : ∀ {c d : Nat}, c < 4294967296 → d < 4294967296 → crcL c zs = crcL d zs → c = d := by
  induction zs with
  | nil => intro c d _ _ h; exact h
  | cons z zs ih =>
    intro c d hc hd h
    rw [crc_cons, crc_cons] at h
    have hz := byte_lt (h8 z List.mem_cons_self)
    exact step_inj hc hd hz (ih (fun y hy => h8 y (List.mem_cons_of_mem _ hy)) (step_lt hc hz) (step_lt hd hz) h)

theorem isBytes.left {xs ys : List Int} (h : isBytes (xs ++ ys)) : isBytes xs := fun z hz => h z (List.mem_append_left _ hz)
theorem isBytes.right {xs ys : List Int} (h : isBytes (xs ++ ys)) : isBytes ys := fun z hz => h z (List.mem_append_right _ hz)
theorem isBytes.tail {z : Int} {zs : List Int} (h : isBytes (z :: zs)) : isBytes zs := fun y hy => h y (List.mem_cons_of_mem _ hy)
theorem isBytes.take {xs : List Int} (h : isBytes xs) (n : Nat) : isBytes (xs.take n) := fun z hz => h z (List.mem_of_mem_take hz)
theorem isBytes.drop {xs : List Int} (h : isBytes xs) (n : Nat) : isBytes (xs.drop n) := fun z hz => h z (List.mem_of_mem_drop hz)

/-- Two parts. -/
theorem of_parts {xs ys : List Int} (h8 : isBytes xs) : moreL (ofL xs) ys = ofL (xs ++ ys) := by
  unfold ofL moreL
  rw [crc_append, flip_flip (crc_lt h8 (flip_lt 0))]
theorem more_nil {c : Nat} (h : c < 4294967296) : moreL c [] = c := by unfold moreL; rw [crc_nil, flip_flip h]

/-- One byte that is another one. -/
theorem of_turned {xs ys : List Int} {x y : Int} (h8 : isBytes (xs ++ x :: ys)) (hy : 0 ≤ y ∧ y ≤ 255) (h : ofL (xs ++ y :: ys) = ofL (xs ++ x :: ys)) : y = x := by
  have hx : 0 ≤ x ∧ x ≤ 255 := h8 x (by simp)
  have hs := crc_lt h8.left (flip_lt 0)
  have l1 := step_lt hs (byte_lt hx)
  have l2 := step_lt hs (byte_lt hy)
  have h := flip_inj (by rw [crc_append, crc_cons]; exact crc_lt h8.right.tail l2) (by rw [crc_append, crc_cons]; exact crc_lt h8.right.tail l1) h
  rw [crc_append, crc_append, crc_cons, crc_cons] at h
  have := step_byte hs (byte_lt hy) (byte_lt hx) (crc_inj h8.right.tail l2 l1 h)
  omega

/-- Two bytes that change places. -/
theorem of_swapped {xs ys : List Int} {x y : Int} (h8 : isBytes (xs ++ x :: y :: ys)) (h : ofL (xs ++ y :: x :: ys) = ofL (xs ++ x :: y :: ys)) : x = y := by
  have hx : 0 ≤ x ∧ x ≤ 255 := h8 x (by simp)
  have hy : 0 ≤ y ∧ y ≤ 255 := h8 y (by simp)
  have hs := crc_lt h8.left (flip_lt 0)
  have l1 := step_lt (step_lt hs (byte_lt hx)) (byte_lt hy)
  have l2 := step_lt (step_lt hs (byte_lt hy)) (byte_lt hx)
  have h := flip_inj (by rw [crc_append, crc_cons, crc_cons]; exact crc_lt h8.right.tail.tail l2) (by rw [crc_append, crc_cons, crc_cons]; exact crc_lt h8.right.tail.tail l1) h
  simp only [crc_append, crc_cons] at h
  have := step_swap hs (byte_lt hy) (byte_lt hx) (crc_inj h8.right.tail.tail l2 l1 h)
  omega

/-- Three texts of one length. -/
def xor3 : List Int → List Int → List Int → List Int
  | a :: l, b :: bs, c :: cs => ((a.toNat ^^^ b.toNat ^^^ c.toNat : Nat) : Int) :: xor3 l bs cs
  | _, _, _ => []

theorem crc_xor3 : ∀ (l bs cs : List Int) (s t u : Nat), l.length = bs.length → bs.length = cs.length → crcL (s ^^^ t ^^^ u) (xor3 l bs cs) = crcL s l ^^^ crcL t bs ^^^ crcL u cs := by
  intro l
  induction l with
  | nil =>
    intro bs cs s t u h1 h2
    obtain rfl : bs = [] := List.eq_nil_of_length_eq_zero h1.symm
    obtain rfl : cs = [] := List.eq_nil_of_length_eq_zero h2.symm
    rfl
  | cons a l ih =>
    intro bs cs s t u h1 h2
    cases bs with
    | nil => simp at h1
    | cons b bs =>
      cases cs with
      | nil => simp at h2
      | cons c cs =>
        simp only [xor3, crc_cons, Int.toNat_natCast]
        rw [← ih bs cs _ _ _ (by simpa using h1) (by simpa using h2)]
        congr 1
        unfold stepB
        rw [← half8_xor, ← half8_xor]
        congr 1
        ac_rfl

theorem of_linear {l bs cs : List Int} (h1 : l.length = bs.length) (h2 : bs.length = cs.length) (ha : isBytes l) (hb : isBytes bs) (hc : isBytes cs) (hx : isBytes (xor3 l bs cs)) :
    ofL (xor3 l bs cs) = ofL l ^^^ ofL bs ^^^ ofL cs := by
  unfold ofL moreL
  have f := flip_lt 0
  rw [flip_xor (crc_lt hx f), flip_xor (crc_lt ha f), flip_xor (crc_lt hb f), flip_xor (crc_lt hc f)]
  have e : flip32 0 = flip32 0 ^^^ flip32 0 ^^^ flip32 0 := by rw [Nat.xor_self, Nat.zero_xor]
  conv => lhs; rw [e]
  rw [crc_xor3 l bs cs _ _ _ h1 h2]
  have : ∀ A B C F : Nat, F ^^^ (A ^^^ B ^^^ C) = (F ^^^ A) ^^^ (F ^^^ B) ^^^ (F ^^^ C) := by
    intro A B C F
    have : (F ^^^ A) ^^^ (F ^^^ B) ^^^ (F ^^^ C) = F ^^^ (F ^^^ (F ^^^ (A ^^^ (B ^^^ C)))) := by ac_rfl
    rw [this, xor_self']; ac_rfl
  exact this _ _ _ _

/-! Bytes 0. -/
def check : Nat → Nat → Bool
  | 0, _ => true
  | n + 1, s => (!(Nat.beq (half8 s) 4294967295)) && check n (half8 s)
set_option maxRecDepth 1000000 in
theorem check_all : check 5000 4294967295 = true := by decide +kernel

def iter8 : Nat → Nat → Nat
  | 0, s => s
  | n + 1, s => iter8 n (half8 s)

theorem iter8_ne : ∀ (N : Nat) (s : Nat), check N s = true → ∀ n, n < N → iter8 (n + 1) s ≠ 4294967295 := by
  intro N
  induction N with
  | zero => intro s _ n h; omega
  | succ N ih =>
    intro s h n hn
    simp only [check, Bool.and_eq_true, Bool.not_eq_true'] at h
    cases n with
    | zero =>
      intro he
      have : half8 s = 4294967295 := he
      rw [this] at h
      exact absurd h.1 (by decide)
    | succ n =>
      exact ih (half8 s) h.2 n (by omega)

theorem iter8_lt : ∀ (n s : Nat), s < 4294967296 → iter8 n s < 4294967296 := by
  intro n
  induction n with
  | zero => intro s h; exact h
  | succ n ih => intro s h; exact ih _ (half8_lt h)

theorem iter8_add : ∀ (n m s : Nat), iter8 (n + m) s = iter8 n (iter8 m s) := by
  intro n m
  induction m with
  | zero => intro s; rfl
  | succ m ih => intro s; exact ih _

theorem iter8_inj : ∀ (n s t : Nat), s < 4294967296 → t < 4294967296 → iter8 n s = iter8 n t → s = t := by
  intro n
  induction n with
  | zero => intro s t _ _ h; exact h
  | succ n ih => intro s t hs ht h; exact half8_inj hs ht (ih _ _ (half8_lt hs) (half8_lt ht) h)

theorem crc_zeros : ∀ (n s : Nat), crcL s (List.replicate n 0) = iter8 n s := by
  intro n
  induction n with
  | zero => intro s; rfl
  | succ n ih =>
    intro s
    rw [List.replicate_succ, crc_cons, ih]
    simp [stepB, iter8]

theorem zeros_lt {a b : Nat} (hab : a < b) (hb : b < 5000) : ofL (List.replicate a 0) ≠ ofL (List.replicate b 0) := by
  intro h
  unfold ofL moreL at h
  rw [crc_zeros, crc_zeros] at h
  have f := flip_lt 0
  have h := flip_inj (iter8_lt _ _ f) (iter8_lt _ _ f) h
  rw [show b = a + (b - a - 1 + 1) from by omega, iter8_add] at h
  have h := iter8_inj a _ _ f (iter8_lt _ _ f) h
  exact iter8_ne 5000 4294967295 check_all (b - a - 1) (by omega) h.symm

theorem zeros_iff {a b : Nat} (ha : a < 5000) (hb : b < 5000) : ofL (List.replicate a 0) = ofL (List.replicate b 0) ↔ a = b := by
  constructor
  · intro h
    rcases Nat.lt_trichotomy a b with hl | hl | hl
    · exact absurd h (zeros_lt hl hb)
    · exact hl
    · exact absurd h.symm (zeros_lt hl ha)
  · intro h; rw [h]
end Go.Proofs.Ytgnhnhachhfafaa
