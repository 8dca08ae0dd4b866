/-
  The field of 256, in plain numbers: the product as the program makes it, the product as the document's answer makes it, and that they are one; the laws of a field. No text of the program is named here.
-/
namespace Go.Proofs.Ytkgnmcekeeannaa
namespace Fld

def tx (a : Nat) : Nat := if a &&& 128 = 0 then a * 2 % 256 else (a * 2 % 256) ^^^ 29
def mulL : Nat → Nat → Nat → Nat → Nat
  | 0, _, _, p => p
  | n + 1, a, b, p => mulL n (tx a) (b / 2) (if b % 2 = 1 then p ^^^ a else p)
def mul (a b : Nat) : Nat := mulL 8 a b 0
def outL : Nat → Nat → Nat → Nat
  | 0, _, _ => 0
  | i + 1, a, b => if a / 2 ^ i % 2 = 1 then outL i a b ^^^ (b * 2 ^ i) else outL i a b
def redC (m : Nat) : Nat := 2 ^ m ^^^ 2 ^ (m - 4) ^^^ 2 ^ (m - 5) ^^^ 2 ^ (m - 6) ^^^ 2 ^ (m - 8)
def redS (m r : Nat) : Nat := if r / 2 ^ m % 2 = 1 then r ^^^ redC m else r
def redL : Nat → Nat → Nat
  | 0, r => r
  | j + 1, r => redS (15 - j) (redL j r)
def prod (a b : Nat) : Nat := redL 8 (outL 8 a b)
def invL : Nat → Nat → Nat → Nat
  | 0, _, v => v
  | n + 1, p, v => invL n (mul p p) (mul v (mul p p))
def inv (a : Nat) : Nat := invL 7 a 1

def allB : Nat → (Nat → Bool) → Bool
  | 0, _ => true
  | n + 1, f => f n && allB n f
theorem all_of {n : Nat} {f : Nat → Bool} (h : allB n f = true) : ∀ k, k < n → f k = true := by
  induction n with
  | zero => intro k hk; omega
  | succ n ih =>
    simp only [allB, Bool.and_eq_true] at h
    intro k hk
    by_cases e : k = n
    · subst e; exact h.1
    · exact ih h.2 k (by omega)

/-! ### bits -/
theorem bit_xor (x y i : Nat) : (x ^^^ y) / 2 ^ i % 2 = (x / 2 ^ i % 2 + y / 2 ^ i % 2) % 2 := by
  have t : ∀ z : Nat, z / 2 ^ i % 2 = (z.testBit i).toNat := fun z => by
    rw [Nat.testBit_eq_decide_div_mod_eq]
    by_cases h : z / 2 ^ i % 2 = 1
    · simp [h]
    · have : z / 2 ^ i % 2 = 0 := by omega
      simp [this]
  rw [t, t, t, Nat.testBit_xor]
  cases x.testBit i <;> cases y.testBit i <;> rfl
theorem half_xor (x y : Nat) : (x ^^^ y) / 2 = x / 2 ^^^ y / 2 := by
  apply Nat.eq_of_testBit_eq; intro i
  simp [Nat.testBit_div_two]
theorem mul2_xor (x y : Nat) : (x ^^^ y) * 2 % 256 = (x * 2 % 256) ^^^ (y * 2 % 256) := by
  apply Nat.eq_of_testBit_eq; intro i
  have e : ∀ z : Nat, z * 2 % 256 = (z * 2 ^ 1) % 2 ^ 8 := fun _ => rfl
  rw [e (x ^^^ y), e x, e y, Nat.testBit_xor]
  simp only [Nat.testBit_mod_two_pow, Nat.testBit_xor, ← Nat.shiftLeft_eq, Nat.testBit_shiftLeft]
  cases decide (i < 8) <;> cases decide (i ≥ 1) <;> simp
theorem xor_turn (a b c : Nat) : a ^^^ (b ^^^ c) = a ^^^ c ^^^ b := by rw [Nat.xor_comm b c, Nat.xor_assoc]
theorem xor_xor_swap (a b c d : Nat) : (a ^^^ b) ^^^ (c ^^^ d) = (a ^^^ c) ^^^ (b ^^^ d) := by
  rw [Nat.xor_assoc, Nat.xor_assoc, ← Nat.xor_assoc b c d, Nat.xor_comm b c, Nat.xor_assoc c b d]
theorem and128 (a : Nat) : a &&& 128 = 0 ↔ a / 2 ^ 7 % 2 = 0 := by
  have h : a &&& 128 = a / 2 ^ 7 % 2 * 2 ^ 7 := by
    apply Nat.eq_of_testBit_eq; intro i
    rw [show (128 : Nat) = 2 ^ 7 from rfl, Nat.testBit_and, Nat.testBit_two_pow]
    rcases Nat.mod_two_eq_zero_or_one (a / 2 ^ 7) with h | h
    · rw [h]
      by_cases e : 7 = i
      · subst e; simp [Nat.testBit_eq_decide_div_mod_eq, h]
      · simp [e]
    · rw [h, Nat.one_mul, Nat.testBit_two_pow]
      by_cases e : 7 = i
      · subst e; simp [Nat.testBit_eq_decide_div_mod_eq, h]
      · simp [e]
  rw [h]; omega
theorem tx_xor (x y : Nat) : tx (x ^^^ y) = tx x ^^^ tx y := by
  unfold tx
  simp only [and128, mul2_xor, bit_xor]
  rcases Nat.mod_two_eq_zero_or_one (x / 2 ^ 7) with h | h <;> rcases Nat.mod_two_eq_zero_or_one (y / 2 ^ 7) with k | k <;> simp only [h, k] <;> simp
  · rw [Nat.xor_assoc]
  · rw [Nat.xor_assoc]; exact xor_turn _ _ _
  · rw [xor_xor_swap, Nat.xor_self, Nat.xor_zero]
theorem mulL_xor_left : ∀ (n a a' b p p' : Nat), mulL n (a ^^^ a') b (p ^^^ p') = mulL n a b p ^^^ mulL n a' b p'
  | 0, _, _, _, _, _ => rfl
  | n + 1, a, a', b, p, p' => by
    simp only [mulL, tx_xor]
    rw [← mulL_xor_left n]
    by_cases h : b % 2 = 1
    · simp only [h, if_true, xor_xor_swap]
    · simp only [h, if_false]
theorem mulL_xor_right : ∀ (n a b b' p p' : Nat), mulL n a (b ^^^ b') (p ^^^ p') = mulL n a b p ^^^ mulL n a b' p'
  | 0, _, _, _, _, _ => rfl
  | n + 1, a, b, b', p, p' => by
    simp only [mulL, half_xor]
    rw [← mulL_xor_right n]
    have e := bit_xor b b' 0
    simp only [Nat.pow_zero, Nat.div_one] at e
    congr 1
    rcases Nat.mod_two_eq_zero_or_one b with h | h <;> rcases Nat.mod_two_eq_zero_or_one b' with k | k <;> simp only [e, h, k] <;> simp
    · rw [Nat.xor_assoc]
    · rw [Nat.xor_assoc, Nat.xor_comm p' a, Nat.xor_assoc]
    · rw [xor_xor_swap, Nat.xor_self, Nat.xor_zero]
theorem mul_xor_left (a a' b : Nat) : mul (a ^^^ a') b = mul a b ^^^ mul a' b := mulL_xor_left 8 a a' b 0 0
theorem mul_xor_right (a b b' : Nat) : mul a (b ^^^ b') = mul a b ^^^ mul a b' := mulL_xor_right 8 a b b' 0 0
theorem xor_mul_pow (x y i : Nat) : (x ^^^ y) * 2 ^ i = x * 2 ^ i ^^^ y * 2 ^ i := by
  simp only [← Nat.shiftLeft_eq]; exact Nat.shiftLeft_xor_distrib
theorem outL_xor_left : ∀ (i a a' b : Nat), outL i (a ^^^ a') b = outL i a b ^^^ outL i a' b
  | 0, _, _, _ => by simp [outL]
  | i + 1, a, a', b => by
    simp only [outL, bit_xor, outL_xor_left i]
    rcases Nat.mod_two_eq_zero_or_one (a / 2 ^ i) with h | h <;> rcases Nat.mod_two_eq_zero_or_one (a' / 2 ^ i) with k | k <;> simp only [h, k] <;> simp
    · rw [Nat.xor_assoc]
    · rw [Nat.xor_assoc, Nat.xor_comm (outL i a' b), Nat.xor_assoc]
    · rw [xor_xor_swap, Nat.xor_self, Nat.xor_zero]
theorem outL_xor_right : ∀ (i a b b' : Nat), outL i a (b ^^^ b') = outL i a b ^^^ outL i a b'
  | 0, _, _, _ => by simp [outL]
  | i + 1, a, b, b' => by
    simp only [outL, outL_xor_right i, xor_mul_pow]
    by_cases h : a / 2 ^ i % 2 = 1
    · simp only [h, if_true, xor_xor_swap]
    · simp only [h, if_false]
theorem redS_xor (m x y : Nat) : redS m (x ^^^ y) = redS m x ^^^ redS m y := by
  simp only [redS, bit_xor]
  rcases Nat.mod_two_eq_zero_or_one (x / 2 ^ m) with h | h <;> rcases Nat.mod_two_eq_zero_or_one (y / 2 ^ m) with k | k <;> simp only [h, k] <;> simp
  · rw [Nat.xor_assoc]
  · rw [Nat.xor_assoc]; exact xor_turn _ _ _
  · rw [xor_xor_swap, Nat.xor_self, Nat.xor_zero]
theorem redL_xor : ∀ (j x y : Nat), redL j (x ^^^ y) = redL j x ^^^ redL j y
  | 0, _, _ => rfl
  | j + 1, x, y => by simp only [redL, redL_xor j, redS_xor]
theorem prod_xor_left (a a' b : Nat) : prod (a ^^^ a') b = prod a b ^^^ prod a' b := by unfold prod; rw [outL_xor_left, redL_xor]
theorem prod_xor_right (a b b' : Nat) : prod a (b ^^^ b') = prod a b ^^^ prod a b' := by unfold prod; rw [outL_xor_right, redL_xor]

/-! ### what is additive is known by its values at the eight powers -/
def parts (x : Nat) : Nat → Nat
  | 0 => 0
  | i + 1 => parts x i ^^^ (if x / 2 ^ i % 2 = 1 then 2 ^ i else 0)
theorem parts_all : allB 256 (fun x => Nat.beq (parts x 8) x) = true := by decide +kernel
theorem parts_eq (x : Nat) (h : x < 256) : parts x 8 = x := Nat.eq_of_beq_eq_true (all_of parts_all x h)
theorem lin_ext (f g : Nat → Nat) (hf : ∀ x y, f (x ^^^ y) = f x ^^^ f y) (hg : ∀ x y, g (x ^^^ y) = g x ^^^ g y) (hb : ∀ i, i < 8 → f (2 ^ i) = g (2 ^ i)) (x : Nat) (hx : x < 256) : f x = g x := by
  have z : ∀ h : Nat → Nat, (∀ x y, h (x ^^^ y) = h x ^^^ h y) → h 0 = 0 := fun h e => by have := e 0 0; simpa using this
  have main : ∀ n, n ≤ 8 → f (parts x n) = g (parts x n) := by
    intro n
    induction n with
    | zero => intro _; rw [show parts x 0 = 0 from rfl, z f hf, z g hg]
    | succ n ih =>
      intro hn
      simp only [parts, hf, hg, ih (by omega)]
      by_cases h : x / 2 ^ n % 2 = 1
      · simp only [h, if_true]; rw [hb n (by omega)]
      · simp only [h, if_false]; rw [z f hf, z g hg]
  have := main 8 (by omega)
  rwa [parts_eq x hx] at this

theorem basis2 : allB 8 (fun i => allB 8 fun j => Nat.beq (prod (2 ^ i) (2 ^ j)) (mul (2 ^ i) (2 ^ j)) && Nat.beq (mul (2 ^ i) (2 ^ j)) (mul (2 ^ j) (2 ^ i))) = true := by decide +kernel
theorem basis3 : allB 8 (fun i => allB 8 fun j => allB 8 fun k => Nat.beq (mul (mul (2 ^ i) (2 ^ j)) (2 ^ k)) (mul (2 ^ i) (mul (2 ^ j) (2 ^ k)))) = true := by decide +kernel
theorem basis1 : allB 8 (fun i => Nat.beq (mul (2 ^ i) 1) (2 ^ i)) = true := by decide +kernel
theorem inv_all : allB 256 (fun a => Nat.beq a 0 || Nat.beq (mul a (inv a)) 1) = true := by decide +kernel

theorem prod_eq (a b : Nat) (ha : a < 256) (hb : b < 256) : prod a b = mul a b := by
  refine lin_ext (fun a => prod a b) (fun a => mul a b) (fun x y => prod_xor_left x y b) (fun x y => mul_xor_left x y b) (fun i hi => ?_) a ha
  refine lin_ext (fun b => prod (2 ^ i) b) (fun b => mul (2 ^ i) b) (fun x y => prod_xor_right _ x y) (fun x y => mul_xor_right _ x y) (fun j hj => ?_) b hb
  have := all_of (all_of basis2 i hi) j hj
  simp only [Bool.and_eq_true] at this
  exact Nat.eq_of_beq_eq_true this.1
theorem mul_comm (a b : Nat) (ha : a < 256) (hb : b < 256) : mul a b = mul b a := by
  refine lin_ext (fun a => mul a b) (fun a => mul b a) (fun x y => mul_xor_left x y b) (fun x y => mul_xor_right b x y) (fun i hi => ?_) a ha
  refine lin_ext (fun b => mul (2 ^ i) b) (fun b => mul b (2 ^ i)) (fun x y => mul_xor_right _ x y) (fun x y => mul_xor_left x y _) (fun j hj => ?_) b hb
  have := all_of (all_of basis2 i hi) j hj
  simp only [Bool.and_eq_true] at this
  exact Nat.eq_of_beq_eq_true this.2
theorem mul_assoc (a b c : Nat) (ha : a < 256) (hb : b < 256) (hc : c < 256) : mul (mul a b) c = mul a (mul b c) := by
  refine lin_ext (fun a => mul (mul a b) c) (fun a => mul a (mul b c)) (fun x y => by simp only [mul_xor_left]) (fun x y => mul_xor_left x y _) (fun i hi => ?_) a ha
  refine lin_ext (fun b => mul (mul (2 ^ i) b) c) (fun b => mul (2 ^ i) (mul b c)) (fun x y => by simp only [mul_xor_left, mul_xor_right]) (fun x y => by simp only [mul_xor_left, mul_xor_right]) (fun j hj => ?_) b hb
  refine lin_ext (fun c => mul (mul (2 ^ i) (2 ^ j)) c) (fun c => mul (2 ^ i) (mul (2 ^ j) c)) (fun x y => mul_xor_right _ x y) (fun x y => by simp only [mul_xor_right]) (fun k hk => ?_) c hc
  exact Nat.eq_of_beq_eq_true (all_of (all_of (all_of basis3 i hi) j hj) k hk)
theorem mul_one (a : Nat) (ha : a < 256) : mul a 1 = a := by
  refine lin_ext (fun a => mul a 1) (fun a => a) (fun x y => mul_xor_left x y 1) (fun _ _ => rfl) (fun i hi => ?_) a ha
  exact Nat.eq_of_beq_eq_true (all_of basis1 i hi)
theorem mul_inv (a : Nat) (ha : a < 256) (h0 : a ≠ 0) : mul a (inv a) = 1 := by
  have := all_of inv_all a ha
  simp only [Bool.or_eq_true] at this
  rcases this with h | h
  · exact absurd (Nat.eq_of_beq_eq_true h) h0
  · exact Nat.eq_of_beq_eq_true h
theorem mul_zero (a : Nat) : mul a 0 = 0 := by have := mul_xor_right a 0 0; simpa using this
theorem zero_mul (a : Nat) : mul 0 a = 0 := by have := mul_xor_left 0 0 a; simpa using this

/-! ### bounds -/
theorem tx_lt (a : Nat) : tx a < 256 := by
  unfold tx
  split
  · exact Nat.mod_lt _ (by decide)
  · exact Nat.xor_lt_two_pow (n := 8) (Nat.mod_lt _ (by decide)) (by decide)
theorem mulL_lt : ∀ (n a b p : Nat), a < 256 → p < 256 → mulL n a b p < 256
  | 0, _, _, _, _, hp => hp
  | n + 1, a, b, p, ha, hp => by
    refine mulL_lt n _ _ _ (tx_lt a) ?_
    split
    · exact Nat.xor_lt_two_pow (n := 8) hp ha
    · exact hp
theorem mul_lt (a b : Nat) (ha : a < 256) : mul a b < 256 := mulL_lt 8 a b 0 ha (by decide)
theorem invL_lt : ∀ (n p v : Nat), p < 256 → v < 256 → invL n p v < 256
  | 0, _, _, _, hv => hv
  | n + 1, _, _, hp, hv => invL_lt n _ _ (mul_lt _ _ hp) (mul_lt _ _ hv)
theorem inv_lt (a : Nat) (ha : a < 256) : inv a < 256 := invL_lt 7 a 1 ha (by decide)
theorem outL_lt : ∀ (i a b : Nat), i ≤ 8 → b < 256 → outL i a b < 65536
  | 0, _, _, _, _ => by simp [outL]
  | i + 1, a, b, hi, hb => by
    have h := outL_lt i a b (by omega) hb
    simp only [outL]
    split
    · refine Nat.xor_lt_two_pow (n := 16) h ?_
      have h1 : b * 2 ^ i ≤ 255 * 2 ^ i := Nat.mul_le_mul_right _ (by omega)
      have h2 : 2 ^ i ≤ 2 ^ 7 := Nat.pow_le_pow_right (by decide) (by omega)
      omega
    · exact h
theorem redC_lt (m : Nat) (h : m < 16) : redC m < 65536 := by
  have p : ∀ k, k ≤ m → 2 ^ k < 2 ^ 16 := fun k hk => Nat.pow_lt_pow_right (by decide) (by omega)
  unfold redC
  exact Nat.xor_lt_two_pow (n := 16) (Nat.xor_lt_two_pow (Nat.xor_lt_two_pow (Nat.xor_lt_two_pow (p _ (by omega)) (p _ (by omega))) (p _ (by omega))) (p _ (by omega))) (p _ (by omega))
theorem redS_lt (m r : Nat) (h : m < 16) (hr : r < 65536) : redS m r < 65536 := by
  unfold redS
  split
  · exact Nat.xor_lt_two_pow (n := 16) hr (redC_lt m h)
  · exact hr
theorem redL_lt : ∀ (j r : Nat), j ≤ 8 → r < 65536 → redL j r < 65536
  | 0, _, _, hr => hr
  | j + 1, r, hj, hr => redS_lt _ _ (by omega) (redL_lt j r (by omega) hr)

/-! ### the inverse is one -/
theorem inv_unique (a b : Nat) (ha : a < 256) (hb : b < 256) (h : mul a b = 1) : b = inv a := by
  have h0 : a ≠ 0 := by intro e; rw [e, zero_mul] at h; cases h
  have hi := inv_lt a ha
  have e1 : mul (inv a) (mul a b) = mul (mul (inv a) a) b := (mul_assoc _ _ _ hi ha hb).symm
  rw [h, mul_one _ hi, mul_comm (inv a) a hi ha, mul_inv a ha h0, mul_comm 1 b (by decide) hb, mul_one b hb] at e1
  exact e1.symm
theorem mul_ne_zero (a b : Nat) (ha : a < 256) (hb : b < 256) (h0 : a ≠ 0) (h : mul a b = 0) : b = 0 := by
  have hi := inv_lt a ha
  have e1 : mul (inv a) (mul a b) = mul (mul (inv a) a) b := (mul_assoc _ _ _ hi ha hb).symm
  rw [h, mul_zero, mul_comm (inv a) a hi ha, mul_inv a ha h0, mul_comm 1 b (by decide) hb, mul_one b hb] at e1
  exact e1.symm
end Fld
end Go.Proofs.Ytkgnmcekeeannaa
