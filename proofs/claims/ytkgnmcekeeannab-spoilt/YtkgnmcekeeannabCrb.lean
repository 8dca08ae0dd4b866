import Derived.Test.YtkgnmcekeeannabFld
import Derived.Test.YtkgnmcekeeannabCrc
/-
  Two texts of one length that differ in a byte, or in two that stand side by side, have different checks: what is read to its end comes to 0 just if its last two bytes are the check of what stands ahead of them.
-/
namespace Go.Proofs.Ytkgnmcekeeannab
namespace Crc
open Fld (bit_xor lin_ext xor_turn xor_xor_swap allB all_of)

/-- the check goes on over a text -/
def goes (h : Nat) (l : List UInt8) : Nat := l.foldl (fun h c => byteK c.toNat 8 h) h
theorem sum_goes (l : List UInt8) : sum l = goes 65535 l := rfl
theorem goes_append (h : Nat) (a b : List UInt8) : goes h (a ++ b) = goes (goes h a) b := by simp [goes]
theorem goes_lt (l : List UInt8) (h : Nat) (hh : h < 65536) : goes h l < 65536 := fold_lt l h hh

theorem double_xor (x y : Nat) : (x ^^^ y) * 2 % 65536 = (x * 2 % 65536) ^^^ (y * 2 % 65536) := by
  apply Nat.eq_of_testBit_eq; intro i
  have e : ∀ z : Nat, z * 2 % 65536 = (z * 2 ^ 1) % 2 ^ 16 := fun _ => rfl
  rw [e (x ^^^ y), e x, e y, Nat.testBit_xor]
  simp only [Nat.testBit_mod_two_pow, Nat.testBit_xor, ← Nat.shiftLeft_eq, Nat.testBit_shiftLeft]
  cases decide (i < 16) <;> cases decide (i ≥ 1) <;> simp
theorem top_xor (x y : Nat) : (x ^^^ y) / 32768 % 2 = (x / 32768 % 2 + y / 32768 % 2) % 2 := bit_xor x y 15
theorem bitS_xor (h h' b b' : Nat) (hh : h < 65536) (hh' : h' < 65536) : bitS (h ^^^ h') ((b + b') % 2) = bitS h b ^^^ bitS h' b' := by
  have hx : h ^^^ h' < 65536 := Nat.xor_lt_two_pow (n := 16) hh hh'
  have t := top_xor h h'
  unfold bitS
  rw [double_xor]
  have e1 : (h ^^^ h') / 32768 = (h / 32768 + h' / 32768) % 2 := by omega
  rw [e1]
  by_cases p : (b + h / 32768) % 2 = 1 <;> by_cases q : (b' + h' / 32768) % 2 = 1
  · rw [if_pos p, if_pos q, if_neg (by omega), xor_xor_swap, Nat.xor_self, Nat.xor_zero]
  · rw [if_pos p, if_neg q, if_pos (by omega), Nat.xor_assoc, xor_turn]
  · rw [if_neg p, if_pos q, if_pos (by omega), Nat.xor_assoc]
  · rw [if_neg p, if_neg q, if_neg (by omega)]
theorem byteK_xor (c c' : Nat) (h h' : Nat) (hh : h < 65536) (hh' : h' < 65536) : ∀ k, byteK (c ^^^ c') k (h ^^^ h') = byteK c k h ^^^ byteK c' k h'
  | 0 => rfl
  | k + 1 => by
    simp only [byteK, byteK_xor c c' h h' hh hh' k, bit_xor]
    exact bitS_xor _ _ _ _ (byteK_lt c k h hh) (byteK_lt c' k h' hh')

/-- a step with the bit 0 -/
def T (h : Nat) : Nat := bitS h 0
def Tn : Nat → Nat → Nat
  | 0, h => h
  | n + 1, h => T (Tn n h)
theorem T_lt (h : Nat) : T h < 65536 := bitS_lt h 0
theorem Tn_lt (n h : Nat) (hh : h < 65536) : Tn n h < 65536 := by
  cases n with
  | zero => exact hh
  | succ n => exact T_lt _
theorem T_zero (h : Nat) (hh : h < 65536) (e : T h = 0) : h = 0 := by
  unfold T bitS at e
  by_cases p : (0 + h / 32768) % 2 = 1
  · rw [if_pos p] at e
    have e2 : h * 2 % 65536 = 4129 := by
      have := congrArg (fun z => z ^^^ 4129) e
      simpa [Nat.xor_assoc] using this
    omega
  · rw [if_neg p] at e
    omega
theorem Tn_zero : ∀ (n h : Nat), h < 65536 → Tn n h = 0 → h = 0
  | 0, _, _, e => e
  | n + 1, h, hh, e => Tn_zero n h hh (T_zero _ (Tn_lt n h hh) e)
theorem byteK_zero (h : Nat) : ∀ k, byteK 0 k h = Tn k h
  | 0 => rfl
  | k + 1 => by simp only [byteK, Tn, byteK_zero h k, T]; simp
theorem Tn_xor (x y : Nat) (hx : x < 65536) (hy : y < 65536) (n : Nat) : Tn n (x ^^^ y) = Tn n x ^^^ Tn n y := by
  have := byteK_xor 0 0 x y hx hy n
  simpa [byteK_zero] using this
theorem Tn_of_zero (n : Nat) : Tn n 0 = 0 := by
  have := Tn_xor 0 0 (by decide) (by decide) n
  simpa using this
theorem Tn_add (m n h : Nat) : Tn m (Tn n h) = Tn (m + n) h := by
  induction m with
  | zero => simp [Tn]
  | succ m ih => rw [Nat.succ_add]; simp only [Tn, ih]

theorem up_all : allB 8 (fun i => Nat.beq (Tn 8 (2 ^ i)) (2 ^ i * 256) && Nat.beq (byteK (2 ^ i) 8 0) (Tn 8 (2 ^ i * 256))) = true := by decide +kernel
theorem mul256_xor (x y : Nat) : (x ^^^ y) * 256 = x * 256 ^^^ y * 256 := Fld.xor_mul_pow x y 8
/-- eight steps lift a low byte -/
theorem Tn8_low (y : Nat) (hy : y < 256) : Tn 8 y = y * 256 := by
  have h : ∀ z, Tn 8 (z % 256) = z % 256 * 256 := fun z => by
    refine lin_ext (fun z => Tn 8 (z % 256)) (fun z => z % 256 * 256) (fun a b => ?_) (fun a b => ?_) (fun i hi => ?_) (z % 256) (Nat.mod_lt _ (by decide)) |> fun e => by simpa using e
    · show Tn 8 ((a ^^^ b) % 256) = Tn 8 (a % 256) ^^^ Tn 8 (b % 256)
      rw [show (a ^^^ b) % 256 = (a % 256) ^^^ (b % 256) from Nat.xor_mod_two_pow (n := 8)]
      exact Tn_xor _ _ (by omega) (by omega) 8
    · show (a ^^^ b) % 256 * 256 = a % 256 * 256 ^^^ b % 256 * 256
      rw [show (a ^^^ b) % 256 = (a % 256) ^^^ (b % 256) from Nat.xor_mod_two_pow (n := 8)]
      exact mul256_xor _ _
    · have := all_of up_all i hi
      simp only [Bool.and_eq_true] at this
      have hl : 2 ^ i < 256 := Nat.pow_lt_pow_right (m := i) (n := 8) (by decide) hi
      show Tn 8 (2 ^ i % 256) = 2 ^ i % 256 * 256
      rw [Nat.mod_eq_of_lt hl]
      exact Nat.eq_of_beq_eq_true this.1
  have := h y
  rwa [Nat.mod_eq_of_lt hy] at this
theorem byteK_low (y : Nat) (hy : y < 256) : byteK y 8 0 = Tn 8 (y * 256) := by
  have h : ∀ z, byteK (z % 256) 8 0 = Tn 8 (z % 256 * 256) := fun z => by
    refine lin_ext (fun z => byteK (z % 256) 8 0) (fun z => Tn 8 (z % 256 * 256)) (fun a b => ?_) (fun a b => ?_) (fun i hi => ?_) (z % 256) (Nat.mod_lt _ (by decide)) |> fun e => by simpa using e
    · show byteK ((a ^^^ b) % 256) 8 0 = byteK (a % 256) 8 0 ^^^ byteK (b % 256) 8 0
      rw [show (a ^^^ b) % 256 = (a % 256) ^^^ (b % 256) from Nat.xor_mod_two_pow (n := 8)]
      exact byteK_xor _ _ 0 0 (by decide) (by decide) 8
    · show Tn 8 ((a ^^^ b) % 256 * 256) = Tn 8 (a % 256 * 256) ^^^ Tn 8 (b % 256 * 256)
      rw [show (a ^^^ b) % 256 = (a % 256) ^^^ (b % 256) from Nat.xor_mod_two_pow (n := 8), mul256_xor]
      exact Tn_xor _ _ (by omega) (by omega) 8
    · have := all_of up_all i hi
      simp only [Bool.and_eq_true] at this
      have hl : 2 ^ i < 256 := Nat.pow_lt_pow_right (m := i) (n := 8) (by decide) hi
      show byteK (2 ^ i % 256) 8 0 = Tn 8 (2 ^ i % 256 * 256)
      rw [Nat.mod_eq_of_lt hl]
      exact Nat.eq_of_beq_eq_true this.2
  have := h y
  rwa [Nat.mod_eq_of_lt hy] at this
/-- a byte is eight steps of the check with the byte laid over its high half -/
theorem byteK_eq (y h : Nat) (hy : y < 256) (hh : h < 65536) : byteK y 8 h = Tn 8 (h ^^^ y * 256) := by
  have e := byteK_xor 0 y h 0 hh (by decide) 8
  rw [Nat.zero_xor, Nat.xor_zero, byteK_zero, byteK_low y hy] at e
  rw [e, Tn_xor h (y * 256) hh (by omega)]

/-- two bytes over 0 -/
theorem two_bytes (x y : Nat) (hx : x < 256) (hy : y < 256) : byteK y 8 (byteK x 8 0) = Tn 16 (x * 256 ^^^ y) := by
  rw [byteK_eq x 0 hx (by decide), Nat.zero_xor, byteK_eq y _ hy (Tn_lt _ _ (by omega)), ← Tn8_low y hy, ← Tn_xor _ _ (by omega) (by omega), Tn_add]
theorem two_bytes_ne (x y : Nat) (hx : x < 256) (hy : y < 256) (h : x ≠ 0) : byteK y 8 (byteK x 8 0) ≠ 0 := by
  rw [two_bytes x y hx hy]
  intro e
  have h0 := Tn_zero 16 _ (Nat.xor_lt_two_pow (n := 16) (by omega) (by omega)) e
  have e2 : x * 256 = y := by
    have := congrArg (fun z => z ^^^ y) h0
    simpa [Nat.xor_assoc] using this
  omega
theorem one_byte_ne (x : Nat) (hx : x < 256) (h : x ≠ 0) : byteK x 8 0 ≠ 0 := by
  rw [byteK_low x hx]
  intro e
  have := Tn_zero 8 _ (by omega) e
  omega
/-- behind its own check a text comes to 0 -/
theorem own_check (h : Nat) (hh : h < 65536) : byteK (h % 256) 8 (byteK (h / 256) 8 h) = 0 := by
  have e1 : h ^^^ h / 256 * 256 = h % 256 := by
    have hs : h = h / 256 * 256 ^^^ h % 256 := by
      apply Nat.eq_of_testBit_eq; intro i
      rw [Nat.testBit_xor, show h % 256 = h % 2 ^ 8 from rfl, Nat.testBit_mod_two_pow, show h / 256 * 256 = (h / 2 ^ 8) * 2 ^ 8 from rfl, ← Nat.shiftLeft_eq, Nat.testBit_shiftLeft, Nat.testBit_div_two_pow]
      by_cases hi : i < 8
      · simp [hi, show ¬ 8 ≤ i by omega]
      · simp [hi, show 8 ≤ i by omega, show i - 8 + 8 = i by omega]
    have : h ^^^ h / 256 * 256 = (h / 256 * 256 ^^^ h % 256) ^^^ h / 256 * 256 := by rw [← hs]
    rw [this, Nat.xor_comm (h / 256 * 256) (h % 256), Nat.xor_assoc, Nat.xor_self, Nat.xor_zero]
  rw [byteK_eq (h / 256) h (by omega) hh, e1, Tn8_low _ (Nat.mod_lt _ (by decide)), byteK_eq (h % 256) _ (Nat.mod_lt _ (by decide)) (by omega), Nat.xor_self, Tn_of_zero]

/-! ### texts -/
def zipx : List UInt8 → List UInt8 → List UInt8
  | a :: l, b :: m => (a ^^^ b) :: zipx l m
  | _, _ => []
theorem goes_zip : ∀ (l m : List UInt8) (h h' : Nat), l.length = m.length → h < 65536 → h' < 65536 → goes (h ^^^ h') (zipx l m) = goes h l ^^^ goes h' m
  | [], [], _, _, _, _, _ => rfl
  | a :: l, b :: m, h, h', hl, hh, hh' => by
    have ih := goes_zip l m (byteK a.toNat 8 h) (byteK b.toNat 8 h') (by simpa using hl) (byteK_lt _ _ _ hh) (byteK_lt _ _ _ hh')
    simp only [zipx, goes, List.foldl_cons] at *
    rw [UInt8.toNat_xor, byteK_xor _ _ _ _ hh hh', ih]
theorem goes_zeros (n : Nat) : ∀ h : Nat, goes h (List.replicate n 0) = Tn (8 * n) h := by
  induction n with
  | zero => intro h; rfl
  | succ n ih =>
    intro h
    simp only [List.replicate_succ, goes, List.foldl_cons]
    have e : byteK (0 : UInt8).toNat 8 h = Tn 8 h := byteK_zero h 8
    rw [e]
    have := ih (Tn 8 h)
    rw [goes] at this
    rw [this, Tn_add]
    congr 1
/-- a row of bytes that are 0 but for one, or two side by side, comes to something other than 0 -/
theorem burst (a b : Nat) (x y : UInt8) (hx : x ≠ 0) : goes 0 (List.replicate a 0 ++ (x :: y :: List.replicate b 0)) ≠ 0 := by
  rw [goes_append, goes_zeros, Tn_of_zero, show (x :: y :: List.replicate b 0) = [x, y] ++ List.replicate b 0 from rfl, goes_append, goes_zeros]
  intro e
  have h1 : goes 0 [x, y] = byteK y.toNat 8 (byteK x.toNat 8 0) := rfl
  have h2 := Tn_zero _ _ (goes_lt _ _ (by decide)) e
  rw [h1] at h2
  exact two_bytes_ne _ _ (UInt8.toNat_lt x) (UInt8.toNat_lt y) (fun e => hx (UInt8.toNat_inj.1 e)) h2
theorem burst_one (a : Nat) (x : UInt8) (hx : x ≠ 0) : goes 0 (List.replicate a 0 ++ [x]) ≠ 0 := by
  rw [goes_append, goes_zeros, Tn_of_zero]
  exact one_byte_ne _ (UInt8.toNat_lt x) (fun e => hx (UInt8.toNat_inj.1 e))
/-- what is whole comes to 0 -/
theorem goes_whole (l : List UInt8) (hi lo : UInt8) (h : hi.toNat * 256 + lo.toNat = sum l) : goes 65535 (l ++ [hi, lo]) = 0 := by
  rw [goes_append, ← sum_goes]
  have h1 : goes (sum l) [hi, lo] = byteK lo.toNat 8 (byteK hi.toNat 8 (sum l)) := rfl
  have hl := UInt8.toNat_lt lo
  have := own_check (sum l) (sum_lt l)
  rw [h1, show hi.toNat = sum l / 256 from by omega, show lo.toNat = sum l % 256 from by omega]
  exact this
end Crc
end Go.Proofs.Ytkgnmcekeeannab
